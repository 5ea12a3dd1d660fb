/- Walks over package wide: whether a list is valid. -/
import Derived.Test.YtikdpoekjfbpaaaDoorWideAmb
namespace Go.Proofs.YtikdpoekjfbpaaaDoor
open Go.RowKit
open WideM
set_option linter.unusedVariables false
attribute [local irreducible] Row At

theorem mayType_any (t : Int) (w : World) : Calls Tryd.prog 32 #[.int .i64 t] w fun e w' => e = .returned (.bool (okType t)) ∧ w = w' := by
  unfold okType
  by_cases h1 : t = 1
  · subst h1
    go_enter Tryd.func32, Tryd.ntmps32
    go_wp2_with fail
    go_ret
    exact ⟨rfl, rfl⟩
  · have e1 : (t == 1) = false := beq_eq_false_iff_ne.2 h1
    have e1' : decide (t = 1) = false := decide_eq_false h1
    have e4 : (t == 2) = decide (t = 2) := by by_cases h : t = 2 <;> simp [h]
    generalize hd : decide (t = 2) = d at e4 ⊢
    clear hd h1
    go_enter Tryd.func32, Tryd.ntmps32
    go_wp2_with fail
    go_ret
    exact ⟨by simp [e1'], rfl⟩
theorem mayFl_any (n : Int) (w : World) : Calls Tryd.prog 33 #[.int .i64 n, .string ⟨#[102, 100, 110, 112, 83, 70, 103]⟩] w fun e w' => e = .returned (.bool (okBits n 128)) ∧ w = w' := by
  unfold okBits
  by_cases h1 : 0 ≤ n
  · have f1 : decide (0 ≤ n) = true := decide_eq_true h1
    generalize hd : decide (n < 128) = d
    go_enter Tryd.func33, Tryd.ntmps33
    go_wp2_with fail
    go_ret
    exact ⟨by simp [f1], rfl⟩
  · have f1 : decide (0 ≤ n) = false := decide_eq_false h1
    clear h1
    go_enter Tryd.func33, Tryd.ntmps33
    go_wp2_with fail
    go_ret
    exact ⟨by simp [f1], rfl⟩
theorem mayMs_any (n : Int) (w : World) : Calls Tryd.prog 33 #[.int .i64 n, .string ⟨#[114, 119, 97, 120, 100, 68, 116, 84, 110, 78, 99, 67, 111, 121]⟩] w fun e w' => e = .returned (.bool (okBits n 16384)) ∧ w = w' := by
  unfold okBits
  by_cases h1 : 0 ≤ n
  · have f1 : decide (0 ≤ n) = true := decide_eq_true h1
    generalize hd : decide (n < 16384) = d
    go_enter Tryd.func33, Tryd.ntmps33
    go_wp2_with fail
    go_ret
    exact ⟨by simp [f1], rfl⟩
  · have f1 : decide (0 ≤ n) = false := decide_eq_false h1
    clear h1
    go_enter Tryd.func33, Tryd.ntmps33
    go_wp2_with fail
    go_ret
    exact ⟨by simp [f1], rfl⟩
theorem mayWho_any (W : ByteArray) (w : World) : Calls Tryd.prog 34 #[.string W] w fun e w' => e = .returned (.bool (okWho W.data.toList)) ∧ Below w.heap.size w w' := by
  unfold okWho
  rw [len_list]
  have hWe : W.toList = W.data.toList := Lib.toList_data W
  by_cases h1 : W.data.toList = []
  · have g1 : W.toList = [] := by rw [hWe, h1]
    have g2 : W.toList.isEmpty = true := by rw [g1]; rfl
    have e : (decide (W.data.toList ≠ []) && decide (W.size ≤ 255) && !anyOf W.data.toList noL) = false := by rw [h1]; simp
    rw [e]
    clear e hWe h1
    go_enter Tryd.func34, Tryd.ntmps34
    go_wp2_with fail
    go_ret
    exact ⟨rfl, Below.refl _ _⟩
  · have g1 : ¬ W.toList = [] := by rw [hWe]; exact h1
    have g2 : W.toList.isEmpty = false := by rw [Bool.eq_false_iff]; intro e; exact g1 (List.isEmpty_iff.1 e)
    rw [decide_eq_true h1, Bool.true_and]
    obtain ⟨z, hz⟩ : ∃ z, W.size = z := ⟨_, rfl⟩
    by_cases h2 : z ≤ 255
    · have f2 : decide ((z : Int) ≤ 255) = true := decide_eq_true (by omega)
      have hc := Lib.hid (containsAny_any W (by omega) )
      rw [hz, decide_eq_true h2, Bool.true_and]
      generalize anyOf W.data.toList noL = b at *
      clear hWe h1
      go_enter Tryd.func34, Tryd.ntmps34
      go_wp2_with fail
      refine (hc.out _).mono ?_
      rintro e w1 ⟨rfl, hb1⟩
      go_wp2_with fail
      go_ret
      exact ⟨rfl, hb1⟩
    · have f2 : decide ((z : Int) ≤ 255) = false := decide_eq_false (by omega)
      rw [hz, decide_eq_false h2, Bool.false_and]
      clear hWe h1 h2
      go_enter Tryd.func34, Tryd.ntmps34
      go_wp2_with fail
      go_ret
      exact ⟨rfl, Below.refl _ _⟩

set_option maxHeartbeats 1600000 in
theorem mayPart_any (a : Wid) (w : World) : Calls Tryd.prog 21 #[wideV a] w fun e w' => e = .returned (.bool (okPart a)) ∧ Below w.heap.size w w' := by
  have h1 := Lib.hid (mayType_any a.ty)
  have h2 := Lib.hid (mayFl_any a.fl)
  have h3 := Lib.hid (mayMs_any a.ms)
  have h4 := Lib.hid (mayWho_any a.who)
  obtain ⟨t, f, m, W⟩ := a
  unfold okPart wideV
  simp only at h1 h2 h3 h4 ⊢
  generalize okType t = b1 at *
  generalize okBits f 128 = b2 at *
  generalize okBits m 16384 = b3 at *
  generalize okWho W.data.toList = b4 at *
  rcases b1 with _ | _
  · go_enter Tryd.func21, Tryd.ntmps21
    go_wp2_with fail
    refine (h1.out _).mono ?_
    rintro e w1 ⟨rfl, rfl⟩
    go_wp2_with fail
    go_ret
    exact ⟨by simp, by (repeat' (first | exact Below.refl _ _ | assumption | refine gr_drew ?_ | refine gr_drewN ?_ _ | refine gr_alloc ?_ _ | refine gr_set ?_ ?_ _ | refine gr_call ?_ (by assumption)) <;> (try (simp; done)) <;> (try (simp; omega)) <;> (try omega))⟩
  rcases b2 with _ | _
  · go_enter Tryd.func21, Tryd.ntmps21
    go_wp2_with fail
    refine (h1.out _).mono ?_
    rintro e w1 ⟨rfl, rfl⟩
    go_wp2_with fail
    refine (h2.out _).mono ?_
    rintro e w1 ⟨rfl, rfl⟩
    go_wp2_with fail
    go_ret
    exact ⟨by simp, by (repeat' (first | exact Below.refl _ _ | assumption | refine gr_drew ?_ | refine gr_drewN ?_ _ | refine gr_alloc ?_ _ | refine gr_set ?_ ?_ _ | refine gr_call ?_ (by assumption)) <;> (try (simp; done)) <;> (try (simp; omega)) <;> (try omega))⟩
  rcases b3 with _ | _
  · go_enter Tryd.func21, Tryd.ntmps21
    go_wp2_with fail
    refine (h1.out _).mono ?_
    rintro e w1 ⟨rfl, rfl⟩
    go_wp2_with fail
    refine (h2.out _).mono ?_
    rintro e w1 ⟨rfl, rfl⟩
    go_wp2_with fail
    refine (h3.out _).mono ?_
    rintro e w1 ⟨rfl, rfl⟩
    go_wp2_with fail
    go_ret
    exact ⟨by simp, by (repeat' (first | exact Below.refl _ _ | assumption | refine gr_drew ?_ | refine gr_drewN ?_ _ | refine gr_alloc ?_ _ | refine gr_set ?_ ?_ _ | refine gr_call ?_ (by assumption)) <;> (try (simp; done)) <;> (try (simp; omega)) <;> (try omega))⟩
  go_enter Tryd.func21, Tryd.ntmps21
  go_wp2_with fail
  refine (h1.out _).mono ?_
  rintro e w1 ⟨rfl, rfl⟩
  go_wp2_with fail
  refine (h2.out _).mono ?_
  rintro e w1 ⟨rfl, rfl⟩
  go_wp2_with fail
  refine (h3.out _).mono ?_
  rintro e w1 ⟨rfl, rfl⟩
  go_wp2_with fail
  refine (h4.out _).mono ?_
  rintro e w1 ⟨rfl, hb1⟩
  have hb2 := gr_call (gr_alloc (Below.refl w.heap.size w) (.cells #[.int .i64 t, .int .i64 f, .int .i64 m, .string W] 41)) hb1
  go_wp2_with fail
  go_ret
  exact ⟨by simp, hb2⟩

set_option maxHeartbeats 1600000 in
theorem may_any (v : Value) (l : List Wid) (w : World) (hat : At wideE v l w) (hl : l.length ≤ 1000000) :
    Calls Tryd.prog 9 #[v] w fun e w' => e = .returned (.bool (may l)) ∧ Below w.heap.size w w' := by
  have hpart := Lib.hid mayPart_any
  obtain ⟨z, hz⟩ : ∃ z, l.length = z := ⟨_, rfl⟩
  obtain ⟨p, cap, rfl, hcap, hcell⟩ := wide_look hat
  rw [hz] at hl hcap ⊢
  have Hcell := Lib.hid hcell
  have Hz := Lib.hid hz
  clear hcell hat hz
  by_cases h32 : z ≤ 32
  · have f1 : decide ((32 : Int) < (z : Int)) = false := decide_eq_false (by omega)
    have f2 : decide (32 < z) = false := decide_eq_false (by omega)
    have HM := Lib.hid (show may l = l.all okPart by unfold may; rw [Hz.out, decide_eq_true h32, Bool.true_and])
    go_enter Tryd.func9, Tryd.ntmps9
    go_wp2_with fail
    go_loopw [10] (fun iv wr => ∃ i : Nat, iv = .int .i64 (i : Int) ∧ i ≤ z ∧ Below w.heap.size w wr ∧ Hid (l.all okPart = (l.drop i).all okPart)) (fun iv _ => z - (intOf iv).toNat)
    case atStart => exact ⟨0, rfl, by omega, Below.refl _ _, Lib.hid (by simp)⟩
    case round =>
      obtain ⟨i, rfl, hi, hbl, HR⟩ := hrel
      rename_i wr
      by_cases hlt : i < z
      · have hlt' : decide ((i : Int) < (z : Int)) = true := decide_eq_true (by omega)
        have hlt2 : decide (i < z) = true := decide_eq_true hlt
        have hi' : i < l.length := by rw [Hz.out]; exact hlt
        obtain ⟨g, off, rfl, hg, hc⟩ := Hcell.out i hi'
        obtain ⟨c0, c1, c2, c3⟩ := hc.kept hbl
        have hp := Lib.hid (hpart.out l[i])
        have HS := Lib.hid (all_step hi')
        generalize l[i] = a at *
        clear hc
        obtain ⟨t, f, m, W⟩ := a
        unfold wideV at hp
        simp only at c0 c1 c2 c3 hp
        have hbl2 := gr_alloc hbl (.cells #[.int .i64 t, .int .i64 f, .int .i64 m, .string W] 41)
        rcases hb : okPart ⟨t, f, m, W⟩ with _ | _
        · rw [hb] at hp HS
          have HE := Lib.hid (show may l = false by rw [HM.out, HR.out, HS.out]; rfl)
          clear HS HR hb HM
          go_wp2_with fail
          refine (hp.out _).mono ?_
          rintro e w1 ⟨rfl, hb1⟩
          go_wp2_with fail
          go_ret
          exact ⟨by rw [HE.out]; rfl, by first | exact gr_call hbl hb1 | exact gr_call hbl2 hb1⟩
        · rw [hb] at hp HS
          have HE := Lib.hid (show l.all okPart = (l.drop (i + 1)).all okPart by rw [HR.out, HS.out]; simp)
          clear HS HR hb
          go_wp2_with fail
          refine (hp.out _).mono ?_
          rintro e w1 ⟨rfl, hb1⟩
          go_wp2_with fail
          go_roundw
          case rel => exact ⟨i + 1, rfl, by omega, by first | exact gr_call hbl hb1 | exact gr_call hbl2 hb1, HE⟩
          case measure => simp only [intOf]; omega
      · have hlt' : decide ((i : Int) < (z : Int)) = false := decide_eq_false (by omega)
        have hlt2 : decide (i < z) = false := decide_eq_false hlt
        have HE := Lib.hid (show may l = true by rw [HM.out, HR.out, List.drop_eq_nil_of_le (by rw [Hz.out]; omega)]; rfl)
        clear HR HM
        go_wp2_with fail
        go_ret
        exact ⟨by rw [HE.out]; rfl, hbl⟩
  · have f1 : decide ((32 : Int) < (z : Int)) = true := decide_eq_true (by omega)
    have f2 : decide (32 < z) = true := decide_eq_true (by omega)
    have HE := Lib.hid (show may l = false by unfold may; rw [Hz.out, decide_eq_false h32, Bool.false_and])
    go_enter Tryd.func9, Tryd.ntmps9
    go_wp2_with fail
    go_ret
    exact ⟨by rw [HE.out]; rfl, Below.refl _ _⟩
end Go.Proofs.YtikdpoekjfbpaaaDoor
