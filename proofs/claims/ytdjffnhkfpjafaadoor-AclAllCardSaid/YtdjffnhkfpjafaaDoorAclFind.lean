/- Walks over package acl: the first part of a tag; whether a list is valid. -/
import Derived.Test.YtdjffnhkfpjafaaDoorAclOrd
namespace Go.Proofs.YtdjffnhkfpjafaaDoor
open Go.RowKit
open AclM
set_option linter.unusedVariables false

theorem find_drop {t : Int} {l : List Ace} {i : Nat} (h : i < l.length) : findN t (l.drop i) i = if l[i].1 = t then (i : Int) else findN t (l.drop (i + 1)) (i + 1) := by
  rw [drop_cons h]
  rfl
theorem find_end {t : Int} {l : List Ace} {i : Nat} (h : l.length ≤ i) : findN t (l.drop i) i = -1 := by
  rw [List.drop_eq_nil_of_le h]
  rfl
set_option maxHeartbeats 1600000 in
theorem indexFunc_any (v : Value) (l : List Ace) (t : Int) (b : Nat) (w : World) (hat : At aceE v l w) (hl : l.length ≤ 1000000) (hc : w.cell? ⟨b, 0, none⟩ = some (.int .i64 t)) :
    Calls Tryd.prog 55 #[v, .func (.func 56) #[] #[.pointer (some ⟨b, 0, none⟩)]] w fun e w' => e = .returned (.int .i64 (findN t l 0)) ∧ Below w.heap.size w w' := by
  obtain ⟨z, hz⟩ : ∃ z, l.length = z := ⟨_, rfl⟩
  obtain ⟨p, cap, rfl, hcap, hcell⟩ := ace_look hat
  rw [hz] at hl hcap ⊢
  have Hcell := Lib.hid hcell
  have Hz := Lib.hid hz
  have Htag := Lib.hid isTag_any
  clear hcell hat hz
  go_enter Tryd.func55, Tryd.ntmps55
  go_wp2_with fail
  go_loopw [8] (fun iv wr => ∃ i : Nat, iv = .int .i64 (i : Int) ∧ i ≤ z ∧ Below w.heap.size w wr ∧ Hid (findN t l 0 = findN t (l.drop i) i)) (fun iv _ => z - (intOf iv).toNat)
  case atStart => exact ⟨0, rfl, by omega, Below.refl _ _, Lib.hid (by simp)⟩
  case round =>
    obtain ⟨i, rfl, hi, hbl, HR⟩ := hrel
    rename_i wr
    by_cases hlt : i < z
    · have hlt' : decide ((i : Int) < (z : Int)) = true := decide_eq_true (by omega)
      have hlt2 : decide (i < z) = true := decide_eq_true hlt
      have hi' : i < l.length := by rw [Hz.out]; exact hlt
      obtain ⟨g, off, rfl, hg, c0, c1, c2⟩ := Hcell.out i hi'
      replace c0 := cell_kept hbl c0
      replace c1 := cell_kept hbl c1
      replace c2 := cell_kept hbl c2
      have ht := Lib.hid (Htag.out l[i] t b _ (cell_kept hbl hc))
      have HS := Lib.hid (find_drop (t := t) hi')
      generalize l[i] = a at *
      obtain ⟨u, d, q⟩ := a
      simp only at c0 c1 c2
      have hgs := hbl.size
      by_cases hu : u = t
      · have HE := Lib.hid (show findN t l 0 = (i : Int) by rw [HR.out, HS.out, if_pos hu])
        have ht2 := Lib.hid (by simpa only [decide_eq_true hu] using ht.out)
        clear HR HS hu ht
        go_wp2_with fail
        refine (ht2.out).mono ?_
        rintro e w1 ⟨rfl, hb1⟩
        go_wp2_with fail
        go_ret
        exact ⟨by rw [HE.out]; rfl, by (repeat' (first | exact Below.refl _ _ | assumption | refine gr_drew ?_ | refine gr_drewN ?_ _ | refine gr_alloc ?_ _ | refine gr_set ?_ ?_ _ | refine gr_call ?_ (by assumption)) <;> (try (simp; done)) <;> (try (simp; omega)) <;> (try omega))⟩
      · have HE := Lib.hid (show findN t l 0 = findN t (l.drop (i + 1)) (i + 1) by rw [HR.out, HS.out, if_neg hu])
        have ht2 := Lib.hid (by simpa only [decide_eq_false hu] using ht.out)
        clear HR HS hu ht
        go_wp2_with fail
        refine (ht2.out).mono ?_
        rintro e w1 ⟨rfl, hb1⟩
        go_wp2_with fail
        go_roundw
        case rel => exact ⟨i + 1, rfl, by omega, by (repeat' (first | exact Below.refl _ _ | assumption | refine gr_drew ?_ | refine gr_drewN ?_ _ | refine gr_alloc ?_ _ | refine gr_set ?_ ?_ _ | refine gr_call ?_ (by assumption)) <;> (try (simp; done)) <;> (try (simp; omega)) <;> (try omega)), HE⟩
        case measure => simp only [intOf]; omega
    · have hlt' : decide ((i : Int) < (z : Int)) = false := decide_eq_false (by omega)
      have hlt2 : decide (i < z) = false := decide_eq_false hlt
      have HE := Lib.hid (show findN t l 0 = -1 by rw [HR.out, find_end (by rw [Hz.out]; omega)])
      clear HR
      go_wp2_with fail
      go_ret
      exact ⟨by rw [HE.out]; rfl, by (repeat' (first | exact Below.refl _ _ | assumption | refine gr_drew ?_ | refine gr_drewN ?_ _ | refine gr_alloc ?_ _ | refine gr_set ?_ ?_ _ | refine gr_call ?_ (by assumption)) <;> (try (simp; done)) <;> (try (simp; omega)) <;> (try omega))⟩

theorem find_any (v : Value) (l : List Ace) (t : Int) (w : World) (hat : At aceE v l w) (hl : l.length ≤ 1000000) :
    Calls Tryd.prog 47 #[v, .int .i64 t] w fun e w' => e = .returned (.int .i64 (findN t l 0)) ∧ Below w.heap.size w w' := by
  have hmf : ∀ (fn : Fn) (first cap : Array Value) (w : World), (Instr.makeFunc fn first cap).run Tryd.prog w = .ok (.func fn first cap) w := fun _ _ _ _ => rfl
  have hix := Lib.hid (indexFunc_any v l t w.heap.size (w.alloc (.cells #[.int .i64 t] 3)) (hat.alloc _) hl (by simp [go_sem]))
  generalize findN t l 0 = r at hix ⊢
  clear hat hl
  go_enter Tryd.func47, Tryd.ntmps47
  go_wp2_with fail
  refine (hix.out).mono ?_
  rintro e w1 ⟨rfl, hb1⟩
  go_wp2_with fail
  go_ret
  exact ⟨rfl, by (repeat' (first | exact Below.refl _ _ | assumption | refine gr_drew ?_ | refine gr_drewN ?_ _ | refine gr_alloc ?_ _ | refine gr_set ?_ ?_ _ | refine gr_call ?_ (by assumption)) <;> (try (simp; done)) <;> (try (simp; omega)) <;> (try omega))⟩
theorem has_any (v : Value) (l : List Ace) (t : Int) (w : World) (hat : At aceE v l w) (hl : l.length ≤ 1000000) :
    Calls Tryd.prog 37 #[v, .int .i64 t] w fun e w' => e = .returned (.bool (has l t)) ∧ Below w.heap.size w w' := by
  have hix := Lib.hid (find_any v l t w hat hl)
  unfold has
  generalize findN t l 0 = r at hix ⊢
  clear hat hl
  go_enter Tryd.func37, Tryd.ntmps37
  go_wp2_with fail
  refine (hix.out).mono ?_
  rintro e w1 ⟨rfl, hb1⟩
  go_wp2_with fail
  go_ret
  exact ⟨rfl, hb1⟩

set_option maxHeartbeats 1600000 in
theorem mayTags_any (v : Value) (l : List Ace) (w : World) (hat : At aceE v l w) (hl : l.length ≤ 1000000) :
    Calls Tryd.prog 29 #[v] w fun e w' => e = .returned (.bool (tags l)) ∧ Below w.heap.size w w' := by
  have hh : ∀ t w', Below w.heap.size w w' → Calls Tryd.prog 37 #[v, .int .i64 t] w' fun e w'' => e = .returned (.bool (has l t)) ∧ Below w'.heap.size w' w'' := fun t w' hb => has_any v l t w' (hat.call hb) hl
  have Hh := Lib.hid hh
  unfold tags
  generalize ha : has l = f at *
  clear hh hat hl ha l
  obtain ⟨b1, h1⟩ : ∃ b, f 1 = b := ⟨_, rfl⟩
  obtain ⟨b2, h2⟩ : ∃ b, f 2 = b := ⟨_, rfl⟩
  obtain ⟨b3, h3⟩ : ∃ b, f 3 = b := ⟨_, rfl⟩
  obtain ⟨b4, h4⟩ : ∃ b, f 4 = b := ⟨_, rfl⟩
  obtain ⟨b5, h5⟩ : ∃ b, f 5 = b := ⟨_, rfl⟩
  obtain ⟨b6, h6⟩ : ∃ b, f 6 = b := ⟨_, rfl⟩
  rw [h1, h2, h3, h4, h5, h6]
  have q1 := fun w' hb => by simpa only [h1] using Hh.out 1 w' hb
  have q2 := fun w' hb => by simpa only [h2] using Hh.out 2 w' hb
  have q3 := fun w' hb => by simpa only [h3] using Hh.out 3 w' hb
  have q4 := fun w' hb => by simpa only [h4] using Hh.out 4 w' hb
  have q5 := fun w' hb => by simpa only [h5] using Hh.out 5 w' hb
  have q6 := fun w' hb => by simpa only [h6] using Hh.out 6 w' hb
  replace q1 := Lib.hid q1
  replace q2 := Lib.hid q2
  replace q3 := Lib.hid q3
  replace q4 := Lib.hid q4
  replace q5 := Lib.hid q5
  replace q6 := Lib.hid q6
  clear Hh h1 h2 h3 h4 h5 h6
  have hbl := Below.refl w.heap.size w
  rcases b2 with _ | _
  · go_enter Tryd.func29, Tryd.ntmps29
    go_wp2_with fail
    refine (q2.out _ hbl).mono ?_
    rintro e w1 ⟨rfl, hb1⟩
    replace hbl := gr_call hbl hb1
    clear hb1
    go_wp2_with fail
    refine (q4.out _ hbl).mono ?_
    rintro e w1 ⟨rfl, hb1⟩
    replace hbl := gr_call hbl hb1
    clear hb1
    go_wp2_with fail
    rcases b1 with _ | _
    · refine (q1.out _ hbl).mono ?_
      rintro e w1 ⟨rfl, hb1⟩
      replace hbl := gr_call hbl hb1
      clear hb1
      go_wp2_with fail
      go_ret
      exact ⟨rfl, hbl⟩
    · refine (q1.out _ hbl).mono ?_
      rintro e w1 ⟨rfl, hb1⟩
      replace hbl := gr_call hbl hb1
      clear hb1
      go_wp2_with fail
      rcases b3 with _ | _
      · refine (q3.out _ hbl).mono ?_
        rintro e w1 ⟨rfl, hb1⟩
        replace hbl := gr_call hbl hb1
        clear hb1
        go_wp2_with fail
        go_ret
        exact ⟨rfl, hbl⟩
      · refine (q3.out _ hbl).mono ?_
        rintro e w1 ⟨rfl, hb1⟩
        replace hbl := gr_call hbl hb1
        clear hb1
        go_wp2_with fail
        rcases b6 with _ | _
        · refine (q6.out _ hbl).mono ?_
          rintro e w1 ⟨rfl, hb1⟩
          replace hbl := gr_call hbl hb1
          clear hb1
          go_wp2_with fail
          go_ret
          exact ⟨rfl, hbl⟩
        · refine (q6.out _ hbl).mono ?_
          rintro e w1 ⟨rfl, hb1⟩
          replace hbl := gr_call hbl hb1
          clear hb1
          go_wp2_with fail
          refine (q5.out _ hbl).mono ?_
          rintro e w1 ⟨rfl, hb1⟩
          replace hbl := gr_call hbl hb1
          clear hb1
          go_wp2_with fail
          go_ret
          exact ⟨rfl, hbl⟩
  · go_enter Tryd.func29, Tryd.ntmps29
    go_wp2_with fail
    refine (q2.out _ hbl).mono ?_
    rintro e w1 ⟨rfl, hb1⟩
    replace hbl := gr_call hbl hb1
    clear hb1
    go_wp2_with fail
    rcases b1 with _ | _
    · refine (q1.out _ hbl).mono ?_
      rintro e w1 ⟨rfl, hb1⟩
      replace hbl := gr_call hbl hb1
      clear hb1
      go_wp2_with fail
      go_ret
      exact ⟨rfl, hbl⟩
    · refine (q1.out _ hbl).mono ?_
      rintro e w1 ⟨rfl, hb1⟩
      replace hbl := gr_call hbl hb1
      clear hb1
      go_wp2_with fail
      rcases b3 with _ | _
      · refine (q3.out _ hbl).mono ?_
        rintro e w1 ⟨rfl, hb1⟩
        replace hbl := gr_call hbl hb1
        clear hb1
        go_wp2_with fail
        go_ret
        exact ⟨rfl, hbl⟩
      · refine (q3.out _ hbl).mono ?_
        rintro e w1 ⟨rfl, hb1⟩
        replace hbl := gr_call hbl hb1
        clear hb1
        go_wp2_with fail
        rcases b6 with _ | _
        · refine (q6.out _ hbl).mono ?_
          rintro e w1 ⟨rfl, hb1⟩
          replace hbl := gr_call hbl hb1
          clear hb1
          go_wp2_with fail
          go_ret
          exact ⟨rfl, hbl⟩
        · refine (q6.out _ hbl).mono ?_
          rintro e w1 ⟨rfl, hb1⟩
          replace hbl := gr_call hbl hb1
          clear hb1
          go_wp2_with fail
          refine (q5.out _ hbl).mono ?_
          rintro e w1 ⟨rfl, hb1⟩
          replace hbl := gr_call hbl hb1
          clear hb1
          go_wp2_with fail
          go_ret
          exact ⟨by cases b5 <;> rfl, hbl⟩
end Go.Proofs.YtdjffnhkfpjafaaDoor
