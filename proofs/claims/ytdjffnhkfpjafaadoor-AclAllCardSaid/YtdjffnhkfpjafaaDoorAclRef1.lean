/- The document's answer: an Id or none, letters, digits, perms, the mode. -/
import Derived.Test.YtdjffnhkfpjafaaDoorAclSort
import Derived.Test.YtdjffnhkfpjafaaDoorAclText
import Derived.Deep.QuietTactic
namespace Go.Proofs.YtdjffnhkfpjafaaDoor
open Go.RowKit
open AclM DecM
open Go.Lib (decDigits itoa)
set_option linter.unusedVariables false

theorem named_any (a : Ace) (w : World) : Calls Tryd.prog 25 #[aceV a] w fun e w' => e = .returned (.bool (hasId a.1)) ∧ Below w.heap.size w w' := by
  obtain ⟨t, d, p⟩ := a
  unfold hasId aceV
  simp only
  by_cases h2 : t = 2
  · subst h2
    go_enter Tryd.func25, Tryd.ntmps25
    go_wp2_with fail
    go_ret
    exact ⟨rfl, by (repeat' (first | exact Below.refl _ _ | assumption | refine gr_drew ?_ | refine gr_drewN ?_ _ | refine gr_alloc ?_ _ | refine gr_set ?_ ?_ _ | refine gr_call ?_ (by assumption)) <;> (try (simp; done)) <;> (try (simp; omega)) <;> (try omega))⟩
  · have e2 : (t == 2) = false := beq_eq_false_iff_ne.2 h2
    have e2' : decide (t = 2) = false := decide_eq_false h2
    have e4 : (t == 4) = decide (t = 4) := by by_cases h : t = 4 <;> simp [h]
    generalize hd : decide (t = 4) = x at e4 ⊢
    clear hd h2
    go_enter Tryd.func25, Tryd.ntmps25
    go_wp2_with fail
    go_ret
    exact ⟨by simp [e2'], by (repeat' (first | exact Below.refl _ _ | assumption | refine gr_drew ?_ | refine gr_drewN ?_ _ | refine gr_alloc ?_ _ | refine gr_set ?_ ?_ _ | refine gr_call ?_ (by assumption)) <;> (try (simp; done)) <;> (try (simp; omega)) <;> (try omega))⟩

theorem rdec_step (m : Nat) (h : 10 ≤ m) : decDigits m = decDigits (m / 10) ++ [UInt8.ofNat (48 + m % 10)] := by
  rw [decDigits, dif_neg (by omega)]
theorem refDigits_any (n : Nat) (w : World) (hn : n < 9223372036854775808) :
    Calls Tryd.prog 35 #[.int .i64 n] w fun e w' => e = .returned (.string (strOf (decDigits n))) ∧ Below w.heap.size w w' := by
  have hl : (decDigits n).length ≤ 19 := dec_len 18 n (by omega)
  have Hl := Lib.hid hl
  clear hl
  go_enter Tryd.func35, Tryd.ntmps35
  go_wp2_with fail
  go_loopw [0, 3] (fun nv sv wr => ∃ (m : Nat) (S : List UInt8), m ≤ n ∧ nv = .int .i64 m ∧ sv = .string ⟨S.toArray⟩ ∧ Hid (decDigits m ++ S = decDigits n) ∧ Below w.heap.size w wr) (fun nv _ _ => (intOf nv).toNat)
  case atStart => exact ⟨n, [], Nat.le_refl _, rfl, rfl, by simp [Hid], Below.refl _ _⟩
  case round =>
    obtain ⟨m, S, hm, rfl, rfl, HS, hbl⟩ := hrel
    have hS : S.length ≤ 19 := by
      have := congrArg List.length HS.out
      have h2 := Hl.out
      simp at this; omega
    by_cases hgo : 10 ≤ m
    · have hu : (48 + (m : Int) % 10) = ((UInt8.ofNat (48 + m % 10)).toNat : Int) := by simp; omega
      have HS' := Lib.hid (show decDigits (m / 10) ++ (UInt8.ofNat (48 + m % 10) :: S) = decDigits n by rw [← HS.out, rdec_step m hgo]; simp)
      generalize UInt8.ofNat (48 + m % 10) = u at *
      have hcv := fun W => conv_one (P := Tryd.prog) (src := 35) (dst := 9) Tryd.underlying35 Tryd.underlying5 Tryd.underlying9 u (48 + (m : Int) % 10) hu W
      clear hu HS
      have hbl2 := gr_alloc hbl (.cells #[.int .u8 (48 + (m : Int) % 10)] 5)
      go_wp2
      all_goals
        go_roundw
        case rel => exact ⟨m / 10, u :: S, by omega, by go_num, by rw [one_more], HS', hbl2⟩
        case measure => simp [intOf]; omega
    · have hu : (48 + (m : Int)) = ((UInt8.ofNat (48 + m)).toNat : Int) := by simp; omega
      have Hd := Lib.hid (show decDigits n = UInt8.ofNat (48 + m) :: S by rw [← HS.out, decDigits, dif_pos (by omega)]; rfl)
      generalize UInt8.ofNat (48 + m) = u at *
      have hcv := fun W => conv_one (P := Tryd.prog) (src := 35) (dst := 9) Tryd.underlying35 Tryd.underlying5 Tryd.underlying9 u (48 + (m : Int)) hu W
      have hlt : decide ((10 : Int) ≤ (m : Int)) = false := by simp; omega
      clear hu HS
      go_wp2
      go_ret
      exact ⟨ret_bytes (by rw [Hd.out]; simp), by (repeat' (first | exact Below.refl _ _ | assumption | refine gr_drew ?_ | refine gr_drewN ?_ _ | refine gr_alloc ?_ _ | refine gr_set ?_ ?_ _ | refine gr_call ?_ (by assumption)) <;> (try (simp; done)) <;> (try (simp; omega)) <;> (try omega))⟩


/-! ### Perms -/
def permR (l : List Ace) (t : Int) : Int := if has l t = true then permN l t else -1
theorem permR_neg {l : List Ace} (h : ∀ a ∈ l, okPart a = true) (t : Int) : decide (permR l t < 0) = !has l t := by
  unfold permR
  have := permN_in h t
  cases has l t
  · rfl
  · simp; omega
theorem permN_drop {t : Int} {l : List Ace} {i : Nat} (hi : i < l.length) (hno : findN t l 0 = findN t (l.drop i) i) (ht : l[i].1 = t) : has l t = true ∧ permN l t = l[i].2.2 := by
  have h := find_drop (t := t) hi
  rw [if_pos ht] at h
  rw [h] at hno
  unfold has permN
  rw [hno]
  refine ⟨decide_eq_true (by omega), ?_⟩
  rw [if_neg (by omega), Int.toNat_natCast]
  simp [List.getD, hi]
set_option maxHeartbeats 1600000 in
theorem refPerm_any (v : Value) (l : List Ace) (t : Int) (w : World) (hat : At aceE v l w) (hl : l.length ≤ 1000000) :
    Calls Tryd.prog 39 #[v, .int .i64 t] w fun e w' => e = .returned (.int .i64 (permR l t)) ∧ Below w.heap.size w w' := by
  obtain ⟨z, hz⟩ : ∃ z, l.length = z := ⟨_, rfl⟩
  obtain ⟨p, cap, rfl, hcap, hcell⟩ := ace_look hat
  rw [hz] at hl hcap ⊢
  have Hcell := Lib.hid hcell
  have Hz := Lib.hid hz
  clear hcell hat hz
  go_enter Tryd.func39, Tryd.ntmps39
  go_wp2_with fail
  go_loopw [5] (fun iv wr => ∃ i : Nat, iv = .int .i64 (i : Int) ∧ i ≤ z ∧ Below w.heap.size w wr ∧ Hid (findN t l 0 = findN t (l.drop i) i)) (fun iv _ => z - (intOf iv).toNat)
  case atStart => exact ⟨0, rfl, by omega, Below.refl _ _, Lib.hid (by simp)⟩
  case round =>
    obtain ⟨i, rfl, hi, hbl, HR⟩ := hrel
    rename_i wr
    by_cases hlt : i < z
    · have hlt' : decide ((i : Int) < (z : Int)) = true := decide_eq_true (by omega)
      have hlt2 : decide (i < z) = true := decide_eq_true hlt
      have hi' : i < l.length := by rw [Hz.out]; exact hlt
      obtain ⟨g, off, rfl, hg, c0, c1, c2⟩ := Hcell.out i hi'
      replace c0 := cell_kept hbl c0
      replace c2 := cell_kept hbl c2
      have HP := Lib.hid (permN_drop hi' HR.out)
      have HS := Lib.hid (find_drop (t := t) hi')
      clear c1
      generalize l[i] = a at *
      obtain ⟨u, d, q⟩ := a
      simp only at c0 c2
      by_cases hu : u = t
      · have HE := Lib.hid (show permR l t = q by unfold permR; rw [(HP.out hu).1, if_pos rfl, (HP.out hu).2])
        subst hu
        have hs : (u == u) = true := beq_self_eq_true u
        clear HP HR HS
        go_wp2_with fail
        go_ret
        exact ⟨by rw [HE.out]; rfl, by (repeat' (first | exact Below.refl _ _ | assumption | refine gr_drew ?_ | refine gr_drewN ?_ _ | refine gr_alloc ?_ _ | refine gr_set ?_ ?_ _ | refine gr_call ?_ (by assumption)) <;> (try (simp; done)) <;> (try (simp; omega)) <;> (try omega))⟩
      · have HE := Lib.hid (show findN t l 0 = findN t (l.drop (i + 1)) (i + 1) by rw [HR.out, HS.out, if_neg hu])
        have hs : (u == t) = false := beq_eq_false_iff_ne.2 hu
        clear HP HR HS hu
        go_wp2_with fail
        go_roundw
        case rel => exact ⟨i + 1, rfl, by omega, by (repeat' (first | exact Below.refl _ _ | assumption | refine gr_drew ?_ | refine gr_drewN ?_ _ | refine gr_alloc ?_ _ | refine gr_set ?_ ?_ _ | refine gr_call ?_ (by assumption)) <;> (try (simp; done)) <;> (try (simp; omega)) <;> (try omega)), HE⟩
        case measure => simp only [intOf]; omega
    · have hlt' : decide ((i : Int) < (z : Int)) = false := decide_eq_false (by omega)
      have hlt2 : decide (i < z) = false := decide_eq_false hlt
      have HE := Lib.hid (show permR l t = -1 by
        have h : findN t l 0 = -1 := by rw [HR.out, find_end (by rw [Hz.out]; omega)]
        unfold permR has
        rw [h]
        rfl)
      clear HR
      go_wp2_with fail
      go_ret
      exact ⟨by rw [HE.out]; rfl, by (repeat' (first | exact Below.refl _ _ | assumption | refine gr_drew ?_ | refine gr_drewN ?_ _ | refine gr_alloc ?_ _ | refine gr_set ?_ ?_ _ | refine gr_call ?_ (by assumption)) <;> (try (simp; done)) <;> (try (simp; omega)) <;> (try omega))⟩
theorem refMode_any (v : Value) (l : List Ace) (w : World) (hat : At aceE v l w) (hmay : may l = true) :
    Calls Tryd.prog 20 #[v] w fun e w' => e = .returned (.int .i64 (modeL l)) ∧ Below w.heap.size w w' := by
  obtain ⟨hl, hok, _, h1, h3, h6, _⟩ := may_iff.1 hmay
  have q := Lib.hid (fun t w' (hb : Below w.heap.size w w') => refPerm_any v l t w' (hat.call hb) (by omega))
  have q5 := Lib.hid (q.out 5)
  have q3 := Lib.hid (q.out 3)
  have q1 := Lib.hid (q.out 1)
  have q6 := Lib.hid (q.out 6)
  have n5 := permR_neg hok 5
  have r1 := permN_in hok 1
  have r3 := permN_in hok 3
  have r5 := permN_in hok 5
  have r6 := permN_in hok 6
  rw [show permR l 3 = permN l 3 from if_pos h3] at q3
  rw [show permR l 1 = permN l 1 from if_pos h1] at q1
  rw [show permR l 6 = permN l 6 from if_pos h6] at q6
  unfold modeL
  have h5v : has l 5 = true → permR l 5 = permN l 5 := fun h => if_pos h
  generalize has l 5 = b5 at *
  generalize permN l 1 = p1 at *
  generalize permN l 6 = p6 at *
  generalize hp3 : permN l 3 = p3 at *
  generalize hp5 : permN l 5 = p5 at *
  generalize permR l 5 = pr at *
  have hbl := Below.refl w.heap.size w
  clear q hok hmay hat
  rcases b5 with _ | _
  · rw [if_neg (by decide), hp3]
    have hn : decide (pr < 0) = true := n5
    clear n5 h5v
    go_enter Tryd.func20, Tryd.ntmps20
    go_wp2_with fail
    refine (q5.out _ hbl).mono ?_
    rintro e w1 ⟨rfl, hb1⟩
    replace hbl := gr_call hbl hb1
    clear hb1
    go_wp2_with fail
    refine (q3.out _ hbl).mono ?_
    rintro e w2 ⟨rfl, hb1⟩
    replace hbl := gr_call hbl hb1
    clear hb1
    go_wp2_with fail
    refine (q1.out _ hbl).mono ?_
    rintro e w3 ⟨rfl, hb1⟩
    replace hbl := gr_call hbl hb1
    clear hb1
    go_wp2_with fail
    refine (q6.out _ hbl).mono ?_
    rintro e w4 ⟨rfl, hb1⟩
    replace hbl := gr_call hbl hb1
    clear hb1
    go_wp2_with fail
    go_ret
    exact ⟨by show Ending.returned (Value.int .i64 (p1 * 64 + p3 * 8 + p6)) = _; congr 2; omega, hbl⟩
  · rw [if_pos rfl, hp5]
    have hpr := h5v rfl
    subst hpr
    have hn : decide (pr < 0) = false := n5
    clear n5 h5v
    go_enter Tryd.func20, Tryd.ntmps20
    go_wp2_with fail
    refine (q5.out _ hbl).mono ?_
    rintro e w1 ⟨rfl, hb1⟩
    replace hbl := gr_call hbl hb1
    clear hb1
    go_wp2_with fail
    refine (q1.out _ hbl).mono ?_
    rintro e w3 ⟨rfl, hb1⟩
    replace hbl := gr_call hbl hb1
    clear hb1
    go_wp2_with fail
    refine (q6.out _ hbl).mono ?_
    rintro e w4 ⟨rfl, hb1⟩
    replace hbl := gr_call hbl hb1
    clear hb1
    go_wp2_with fail
    go_ret
    exact ⟨by show Ending.returned (Value.int .i64 (p1 * 64 + pr * 8 + p6)) = _; congr 2; omega, hbl⟩
end Go.Proofs.YtdjffnhkfpjafaaDoor
