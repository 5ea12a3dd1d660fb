/- Walks over package acl: whether a list is valid. -/
import Derived.Test.YtdjffnhkfpjafaaDoorAclAmb
import Derived.Shelf.RegionOpenPlain
namespace Go.Proofs.YtdjffnhkfpjafaaDoor
open Go.RowKit
open AclM
set_option linter.unusedVariables false

/-- A part by value. -/
def aceV (a : Ace) : Value := .agg #[.int .i64 a.1, .int .i64 a.2.1, .int .i64 a.2.2]

theorem hasId_any (t : Int) (w : World) : Calls Tryd.prog 45 #[.int .i64 t] w fun e w' => e = .returned (.bool (hasId t)) ∧ w = w' := by
  unfold hasId
  by_cases h2 : t = 2
  · subst h2
    go_enter Tryd.func45, Tryd.ntmps45
    go_wp2_with fail
    go_ret
    exact ⟨rfl, rfl⟩
  · have e2 : (t == 2) = false := beq_eq_false_iff_ne.2 h2
    have e2' : decide (t = 2) = false := decide_eq_false h2
    have e4 : (t == 4) = decide (t = 4) := by by_cases h : t = 4 <;> simp [h]
    generalize hd : decide (t = 4) = d at e4 ⊢
    clear hd h2
    go_enter Tryd.func45, Tryd.ntmps45
    go_wp2_with fail
    go_ret
    exact ⟨by simp [e2'], rfl⟩
theorem mayPart_any (a : Ace) (w : World) : Calls Tryd.prog 43 #[aceV a] w fun e w' => e = .returned (.bool (okPart a)) ∧ Below w.heap.size w w' := by
  have hh := hasId_any a.1
  obtain ⟨t, i, p⟩ := a
  unfold okPart aceV
  simp only at hh ⊢
  by_cases h1 : 1 ≤ t
  · by_cases h2 : t ≤ 6
    · by_cases h3 : 0 ≤ p
      · by_cases h4 : p ≤ 7
        · have f1 : decide (t < 1) = false := decide_eq_false (by omega)
          have f2 : decide (6 < t) = false := decide_eq_false (by omega)
          have f3 : decide (p < 0) = false := decide_eq_false (by omega)
          have f4 : decide (7 < p) = false := decide_eq_false (by omega)
          rw [decide_eq_true h1, decide_eq_true h2, decide_eq_true h3, decide_eq_true h4]
          rcases hb : hasId t with _ | _
          · rw [hb] at hh
            have e0 : (i == 0) = decide (i = 0) := by by_cases h : i = 0 <;> simp [h]
            generalize hd : decide (i = 0) = d at e0 ⊢
            clear hd h1 h2 h3 h4
            go_enter Tryd.func43, Tryd.ntmps43
            go_wp2_with fail
            refine (hh _).mono ?_
            rintro e w1 ⟨rfl, rfl⟩
            go_wp2_with fail
            go_ret
            exact ⟨by simp, by (repeat' (first | exact Below.refl _ _ | assumption | refine gr_drew ?_ | refine gr_drewN ?_ _ | refine gr_alloc ?_ _ | refine gr_set ?_ ?_ _ | refine gr_call ?_ (by assumption)) <;> (try (simp; done)) <;> (try (simp; omega)) <;> (try omega))⟩
          · rw [hb] at hh
            by_cases h5 : 0 ≤ i
            · have f5 : decide (0 ≤ i) = true := decide_eq_true h5
              generalize hd : decide (i ≤ 2147483647) = d at ⊢
              clear h1 h2 h3 h4 h5
              go_enter Tryd.func43, Tryd.ntmps43
              go_wp2_with fail
              refine (hh _).mono ?_
              rintro e w1 ⟨rfl, rfl⟩
              go_wp2_with fail
              go_ret
              exact ⟨by simp [f5], by (repeat' (first | exact Below.refl _ _ | assumption | refine gr_drew ?_ | refine gr_drewN ?_ _ | refine gr_alloc ?_ _ | refine gr_set ?_ ?_ _ | refine gr_call ?_ (by assumption)) <;> (try (simp; done)) <;> (try (simp; omega)) <;> (try omega))⟩
            · have f5 : decide (0 ≤ i) = false := decide_eq_false h5
              clear h1 h2 h3 h4 h5
              go_enter Tryd.func43, Tryd.ntmps43
              go_wp2_with fail
              refine (hh _).mono ?_
              rintro e w1 ⟨rfl, rfl⟩
              go_wp2_with fail
              go_ret
              exact ⟨by simp [f5], by (repeat' (first | exact Below.refl _ _ | assumption | refine gr_drew ?_ | refine gr_drewN ?_ _ | refine gr_alloc ?_ _ | refine gr_set ?_ ?_ _ | refine gr_call ?_ (by assumption)) <;> (try (simp; done)) <;> (try (simp; omega)) <;> (try omega))⟩
        · have f1 : decide (t < 1) = false := decide_eq_false (by omega)
          have f2 : decide (6 < t) = false := decide_eq_false (by omega)
          have f3 : decide (p < 0) = false := decide_eq_false (by omega)
          have f4 : decide (7 < p) = true := decide_eq_true (by omega)
          rw [decide_eq_false h4]
          simp only [Bool.and_false, Bool.false_and]
          clear h1 h2 h3 h4 hh
          go_enter Tryd.func43, Tryd.ntmps43
          go_wp2_with fail
          go_ret
          exact ⟨by simp, by (repeat' (first | exact Below.refl _ _ | assumption | refine gr_drew ?_ | refine gr_drewN ?_ _ | refine gr_alloc ?_ _ | refine gr_set ?_ ?_ _ | refine gr_call ?_ (by assumption)) <;> (try (simp; done)) <;> (try (simp; omega)) <;> (try omega))⟩
      · have f1 : decide (t < 1) = false := decide_eq_false (by omega)
        have f2 : decide (6 < t) = false := decide_eq_false (by omega)
        have f3 : decide (p < 0) = true := decide_eq_true (by omega)
        rw [decide_eq_false h3]
        simp only [Bool.and_false, Bool.false_and]
        clear h1 h2 h3 hh
        go_enter Tryd.func43, Tryd.ntmps43
        go_wp2_with fail
        go_ret
        exact ⟨by simp, by (repeat' (first | exact Below.refl _ _ | assumption | refine gr_drew ?_ | refine gr_drewN ?_ _ | refine gr_alloc ?_ _ | refine gr_set ?_ ?_ _ | refine gr_call ?_ (by assumption)) <;> (try (simp; done)) <;> (try (simp; omega)) <;> (try omega))⟩
    · have f1 : decide (t < 1) = false := decide_eq_false (by omega)
      have f2 : decide (6 < t) = true := decide_eq_true (by omega)
      rw [decide_eq_false h2]
      simp only [Bool.and_false, Bool.false_and]
      clear h1 h2 hh
      go_enter Tryd.func43, Tryd.ntmps43
      go_wp2_with fail
      go_ret
      exact ⟨by simp, by (repeat' (first | exact Below.refl _ _ | assumption | refine gr_drew ?_ | refine gr_drewN ?_ _ | refine gr_alloc ?_ _ | refine gr_set ?_ ?_ _ | refine gr_call ?_ (by assumption)) <;> (try (simp; done)) <;> (try (simp; omega)) <;> (try omega))⟩
  · have f1 : decide (t < 1) = true := decide_eq_true (by omega)
    rw [decide_eq_false h1]
    simp only [Bool.and_false, Bool.false_and]
    clear h1 hh
    go_enter Tryd.func43, Tryd.ntmps43
    go_wp2_with fail
    go_ret
    exact ⟨by simp, by (repeat' (first | exact Below.refl _ _ | assumption | refine gr_drew ?_ | refine gr_drewN ?_ _ | refine gr_alloc ?_ _ | refine gr_set ?_ ?_ _ | refine gr_call ?_ (by assumption)) <;> (try (simp; done)) <;> (try (simp; omega)) <;> (try omega))⟩

theorem drop_cons {β : Type} {l : List β} {i : Nat} (h : i < l.length) : l.drop i = l[i] :: l.drop (i + 1) := List.drop_eq_getElem_cons h
theorem mayParts_any (v : Value) (l : List Ace) (w : World) (hat : At aceE v l w) (hl : l.length ≤ 1000000) :
    Calls Tryd.prog 27 #[v] w fun e w' => e = .returned (.bool (l.all okPart)) ∧ Below w.heap.size w w' := by
  have hpart := Lib.hid mayPart_any
  obtain ⟨z, hz⟩ : ∃ z, l.length = z := ⟨_, rfl⟩
  rw [hz] at hl
  rcases List.eq_nil_or_concat l with rfl | ⟨_, _, hne⟩
  · obtain ⟨p, cap, rfl, hcap⟩ := hat.shape
    simp only [List.length_nil]
    go_enter Tryd.func27, Tryd.ntmps27
    go_wp2_with fail
    go_loopw [7] (fun iv wr => iv = .int .i64 0 ∧ wr = w) (fun _ _ => 0)
    case atStart => exact ⟨rfl, rfl⟩
    case round =>
      obtain ⟨rfl, rfl⟩ := hrel
      go_wp2_with fail
      go_ret
      exact ⟨rfl, Below.refl _ _⟩
  · have hne' : l ≠ [] := by rw [hne]; simp
    clear hne
    obtain ⟨g, off, cap, rfl, hcap, hg, hcell⟩ := ace_open hat hne'
    rw [hz] at hcap ⊢
    have Hcell := Lib.hid hcell
    have Hz := Lib.hid hz
    clear hcell hat hne' hz
    go_enter Tryd.func27, Tryd.ntmps27
    go_wp2_with fail
    go_loopw [7] (fun iv wr => ∃ i : Nat, iv = .int .i64 (i : Int) ∧ i ≤ z ∧ Below w.heap.size w wr ∧ Hid (l.all okPart = (l.drop i).all okPart)) (fun iv _ => z - (intOf iv).toNat)
    case atStart => exact ⟨0, rfl, by omega, Below.refl _ _, Lib.hid (by simp)⟩
    case round =>
      obtain ⟨i, rfl, hi, hbl, HR⟩ := hrel
      rename_i wr
      by_cases hlt : i < z
      · have hlt' : decide ((i : Int) < (z : Int)) = true := decide_eq_true (by omega)
        have hlt2 : decide (i < z) = true := decide_eq_true hlt
        have hi' : i < l.length := by rw [Hz.out]; exact hlt
        obtain ⟨c0, c1, c2⟩ := Hcell.out i hi'
        replace c0 := cell_kept hbl c0
        replace c1 := cell_kept hbl c1
        replace c2 := cell_kept hbl c2
        have hp := Lib.hid (hpart.out l[i])
        have HS : Hid ((l.drop i).all okPart = (okPart l[i] && (l.drop (i + 1)).all okPart)) := Lib.hid (by rw [drop_cons hi']; rfl)
        generalize l[i] = a at *
        obtain ⟨t, d, p⟩ := a
        simp only at c0 c1 c2
        rcases hb : okPart (t, d, p) with _ | _
        · rw [hb] at hp HS
          go_wp2_with fail
          refine (hp.out _).mono ?_
          rintro e w1 ⟨rfl, hb1⟩
          have HE := Lib.hid (show l.all okPart = false by rw [HR.out, HS.out]; rfl)
          clear HS HR hb hp
          go_wp2_with fail
          go_ret
          exact ⟨by rw [HE.out]; rfl, by (repeat' (first | exact Below.refl _ _ | assumption | refine gr_drew ?_ | refine gr_drewN ?_ _ | refine gr_alloc ?_ _ | refine gr_set ?_ ?_ _ | refine gr_call ?_ (by assumption)) <;> (try (simp; done)) <;> (try (simp; omega)) <;> (try omega))⟩
        · rw [hb] at hp HS
          go_wp2_with fail
          refine (hp.out _).mono ?_
          rintro e w1 ⟨rfl, hb1⟩
          have HE := Lib.hid (show l.all okPart = (l.drop (i + 1)).all okPart by rw [HR.out, HS.out]; simp)
          clear HS HR hb hp
          go_wp2_with fail
          go_roundw
          case rel => exact ⟨i + 1, rfl, by omega, by (repeat' (first | exact Below.refl _ _ | assumption | refine gr_drew ?_ | refine gr_drewN ?_ _ | refine gr_alloc ?_ _ | refine gr_set ?_ ?_ _ | refine gr_call ?_ (by assumption)) <;> (try (simp; done)) <;> (try (simp; omega)) <;> (try omega)), HE⟩
          case measure => simp only [intOf]; omega
      · have hlt' : decide ((i : Int) < (z : Int)) = false := decide_eq_false (by omega)
        have hlt2 : decide (i < z) = false := decide_eq_false hlt
        have HE := Lib.hid (show l.all okPart = true by rw [HR.out, List.drop_eq_nil_of_le (by rw [Hz.out]; omega)]; rfl)
        clear HR
        go_wp2_with fail
        go_ret
        exact ⟨by rw [HE.out]; rfl, by (repeat' (first | exact Below.refl _ _ | assumption | refine gr_drew ?_ | refine gr_drewN ?_ _ | refine gr_alloc ?_ _ | refine gr_set ?_ ?_ _ | refine gr_call ?_ (by assumption)) <;> (try (simp; done)) <;> (try (simp; omega)) <;> (try omega))⟩
end Go.Proofs.YtdjffnhkfpjafaaDoor
