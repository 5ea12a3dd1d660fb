/- Bundle of 5 texts. -/
import Derived.Test.YtbhnhoenjoagbaaGreatDoorPk13
import Derived.Test.YtbhnhoenjoagbaaGreatDoorKit
import Derived.Lib.ConvBytes
import Derived.Test.YtbhnhoenjoagbaaGreatDoorPk08
import Derived.Test.YtbhnhoenjoagbaaGreatDoorShelf
import Derived.Lib.LaidTab
import Derived.Lib.AppendIntMem
import Derived.Lib.ItoaMem
import Derived.Lib.SplitLaws
/- Walks over package acl: the first part of a tag; whether a list is valid. -/
namespace Go.Proofs.YtbhnhoenjoagbaaGreatDoor.AclW
open Go.RowKit
open AclM
set_option linter.unusedVariables false

theorem find_drop {t : Int} {l : List Ace} {i : Nat} (h : i < l.length) : findN t (l.drop i) i = if l[i].1 = t then (i : Int) else findN t (l.drop (i + 1)) (i + 1) := by
  rw [drop_cons h]
  rfl
theorem find_end {t : Int} {l : List Ace} {i : Nat} (h : l.length ≤ i) : findN t (l.drop i) i = -1 := by
  rw [List.drop_eq_nil_of_le h]
  rfl
set_option maxHeartbeats 1600000 in
theorem indexFunc_any (v : Value) (l : List Ace) (t : Int) (b : Nat) (w : World) (hat : At aceE v l w) (hl : l.length ≤ 1000000) (hc : w.cell? ⟨b, 0, none⟩ = some (.int .i64 t)) :
    Calls Tryz.prog 321 #[v, .func (.func 322) #[] #[.pointer (some ⟨b, 0, none⟩)]] w fun e w' => e = .returned (.int .i64 (findN t l 0)) ∧ Below w.heap.size w w' := by
  obtain ⟨z, hz⟩ : ∃ z, l.length = z := ⟨_, rfl⟩
  obtain ⟨p, cap, rfl, hcap, hcell⟩ := ace_look hat
  rw [hz] at hl hcap ⊢
  have Hcell := Lib.hid hcell
  have Hz := Lib.hid hz
  have Htag := Lib.hid isTag_any
  clear hcell hat hz
  go_enter Tryz.func321, Tryz.ntmps321
  go_wp2_with fail
  go_loopw [8] (fun iv wr => ∃ i : Nat, iv = .int .i64 (i : Int) ∧ i ≤ z ∧ Below w.heap.size w wr ∧ Hid (findN t l 0 = findN t (l.drop i) i)) (fun iv _ => z - (intOf iv).toNat)
  case atStart => exact ⟨0, rfl, by omega, Below.refl _ _, Lib.hid (by simp)⟩
  case round =>
    obtain ⟨i, rfl, hi, hbl, HR⟩ := hrel
    rename_i wr
    by_cases hlt : i < z
    · have hlt' : decide ((i : Int) < (z : Int)) = true := decide_eq_true (by omega)
      have hlt2 : decide (i < z) = true := decide_eq_true hlt
      have hi' : i < l.length := by rw [Hz.out]; exact hlt
      obtain ⟨g, off, rfl, hg, c0, c1, c2⟩ := Hcell.out i hi'
      replace c0 := cell_kept hbl c0
      replace c1 := cell_kept hbl c1
      replace c2 := cell_kept hbl c2
      have ht := Lib.hid (Htag.out l[i] t b _ (cell_kept hbl hc))
      have HS := Lib.hid (find_drop (t := t) hi')
      generalize l[i] = a at *
      obtain ⟨u, d, q⟩ := a
      simp only at c0 c1 c2
      have hgs := hbl.size
      by_cases hu : u = t
      · have HE := Lib.hid (show findN t l 0 = (i : Int) by rw [HR.out, HS.out, if_pos hu])
        have ht2 := Lib.hid (by simpa only [decide_eq_true hu] using ht.out)
        clear HR HS hu ht
        go_wp2_with fail
        refine (ht2.out).mono ?_
        rintro e w1 ⟨rfl, hb1⟩
        go_wp2_with fail
        go_ret
        exact ⟨by rw [HE.out]; rfl, by (repeat' (first | exact Below.refl _ _ | assumption | refine gr_drew ?_ | refine gr_drewN ?_ _ | refine gr_alloc ?_ _ | refine gr_set ?_ ?_ _ | refine gr_call ?_ (by assumption)) <;> (try (simp; done)) <;> (try (simp; omega)) <;> (try omega))⟩
      · have HE := Lib.hid (show findN t l 0 = findN t (l.drop (i + 1)) (i + 1) by rw [HR.out, HS.out, if_neg hu])
        have ht2 := Lib.hid (by simpa only [decide_eq_false hu] using ht.out)
        clear HR HS hu ht
        go_wp2_with fail
        refine (ht2.out).mono ?_
        rintro e w1 ⟨rfl, hb1⟩
        go_wp2_with fail
        go_roundw
        case rel => exact ⟨i + 1, rfl, by omega, by (repeat' (first | exact Below.refl _ _ | assumption | refine gr_drew ?_ | refine gr_drewN ?_ _ | refine gr_alloc ?_ _ | refine gr_set ?_ ?_ _ | refine gr_call ?_ (by assumption)) <;> (try (simp; done)) <;> (try (simp; omega)) <;> (try omega)), HE⟩
        case measure => simp only [intOf]; omega
    · have hlt' : decide ((i : Int) < (z : Int)) = false := decide_eq_false (by omega)
      have hlt2 : decide (i < z) = false := decide_eq_false hlt
      have HE := Lib.hid (show findN t l 0 = -1 by rw [HR.out, find_end (by rw [Hz.out]; omega)])
      clear HR
      go_wp2_with fail
      go_ret
      exact ⟨by rw [HE.out]; rfl, by (repeat' (first | exact Below.refl _ _ | assumption | refine gr_drew ?_ | refine gr_drewN ?_ _ | refine gr_alloc ?_ _ | refine gr_set ?_ ?_ _ | refine gr_call ?_ (by assumption)) <;> (try (simp; done)) <;> (try (simp; omega)) <;> (try omega))⟩

theorem find_any (v : Value) (l : List Ace) (t : Int) (w : World) (hat : At aceE v l w) (hl : l.length ≤ 1000000) :
    Calls Tryz.prog 292 #[v, .int .i64 t] w fun e w' => e = .returned (.int .i64 (findN t l 0)) ∧ Below w.heap.size w w' := by
  have hmf : ∀ (fn : Fn) (first cap : Array Value) (w : World), (Instr.makeFunc fn first cap).run Tryz.prog w = .ok (.func fn first cap) w := fun _ _ _ _ => rfl
  have hix := Lib.hid (indexFunc_any v l t w.heap.size (w.alloc (.cells #[.int .i64 t] 3)) (hat.alloc _) hl (by simp [go_sem]))
  generalize findN t l 0 = r at hix ⊢
  clear hat hl
  go_enter Tryz.func292, Tryz.ntmps292
  go_wp2_with fail
  refine (hix.out).mono ?_
  rintro e w1 ⟨rfl, hb1⟩
  go_wp2_with fail
  go_ret
  exact ⟨rfl, by (repeat' (first | exact Below.refl _ _ | assumption | refine gr_drew ?_ | refine gr_drewN ?_ _ | refine gr_alloc ?_ _ | refine gr_set ?_ ?_ _ | refine gr_call ?_ (by assumption)) <;> (try (simp; done)) <;> (try (simp; omega)) <;> (try omega))⟩
theorem has_any (v : Value) (l : List Ace) (t : Int) (w : World) (hat : At aceE v l w) (hl : l.length ≤ 1000000) :
    Calls Tryz.prog 247 #[v, .int .i64 t] w fun e w' => e = .returned (.bool (has l t)) ∧ Below w.heap.size w w' := by
  have hix := Lib.hid (find_any v l t w hat hl)
  unfold has
  generalize findN t l 0 = r at hix ⊢
  clear hat hl
  go_enter Tryz.func247, Tryz.ntmps247
  go_wp2_with fail
  refine (hix.out).mono ?_
  rintro e w1 ⟨rfl, hb1⟩
  go_wp2_with fail
  go_ret
  exact ⟨rfl, hb1⟩

set_option maxHeartbeats 1600000 in
theorem mayTags_any (v : Value) (l : List Ace) (w : World) (hat : At aceE v l w) (hl : l.length ≤ 1000000) :
    Calls Tryz.prog 194 #[v] w fun e w' => e = .returned (.bool (tags l)) ∧ Below w.heap.size w w' := by
  have hh : ∀ t w', Below w.heap.size w w' → Calls Tryz.prog 247 #[v, .int .i64 t] w' fun e w'' => e = .returned (.bool (has l t)) ∧ Below w'.heap.size w' w'' := fun t w' hb => has_any v l t w' (hat.call hb) hl
  have Hh := Lib.hid hh
  unfold tags
  generalize ha : has l = f at *
  clear hh hat hl ha l
  obtain ⟨b1, h1⟩ : ∃ b, f 1 = b := ⟨_, rfl⟩
  obtain ⟨b2, h2⟩ : ∃ b, f 2 = b := ⟨_, rfl⟩
  obtain ⟨b3, h3⟩ : ∃ b, f 3 = b := ⟨_, rfl⟩
  obtain ⟨b4, h4⟩ : ∃ b, f 4 = b := ⟨_, rfl⟩
  obtain ⟨b5, h5⟩ : ∃ b, f 5 = b := ⟨_, rfl⟩
  obtain ⟨b6, h6⟩ : ∃ b, f 6 = b := ⟨_, rfl⟩
  rw [h1, h2, h3, h4, h5, h6]
  have q1 := fun w' hb => by simpa only [h1] using Hh.out 1 w' hb
  have q2 := fun w' hb => by simpa only [h2] using Hh.out 2 w' hb
  have q3 := fun w' hb => by simpa only [h3] using Hh.out 3 w' hb
  have q4 := fun w' hb => by simpa only [h4] using Hh.out 4 w' hb
  have q5 := fun w' hb => by simpa only [h5] using Hh.out 5 w' hb
  have q6 := fun w' hb => by simpa only [h6] using Hh.out 6 w' hb
  replace q1 := Lib.hid q1
  replace q2 := Lib.hid q2
  replace q3 := Lib.hid q3
  replace q4 := Lib.hid q4
  replace q5 := Lib.hid q5
  replace q6 := Lib.hid q6
  clear Hh h1 h2 h3 h4 h5 h6
  have hbl := Below.refl w.heap.size w
  rcases b2 with _ | _
  · go_enter Tryz.func194, Tryz.ntmps194
    go_wp2_with fail
    refine (q2.out _ hbl).mono ?_
    rintro e w1 ⟨rfl, hb1⟩
    replace hbl := gr_call hbl hb1
    clear hb1
    go_wp2_with fail
    refine (q4.out _ hbl).mono ?_
    rintro e w1 ⟨rfl, hb1⟩
    replace hbl := gr_call hbl hb1
    clear hb1
    go_wp2_with fail
    rcases b1 with _ | _
    · refine (q1.out _ hbl).mono ?_
      rintro e w1 ⟨rfl, hb1⟩
      replace hbl := gr_call hbl hb1
      clear hb1
      go_wp2_with fail
      go_ret
      exact ⟨rfl, hbl⟩
    · refine (q1.out _ hbl).mono ?_
      rintro e w1 ⟨rfl, hb1⟩
      replace hbl := gr_call hbl hb1
      clear hb1
      go_wp2_with fail
      rcases b3 with _ | _
      · refine (q3.out _ hbl).mono ?_
        rintro e w1 ⟨rfl, hb1⟩
        replace hbl := gr_call hbl hb1
        clear hb1
        go_wp2_with fail
        go_ret
        exact ⟨rfl, hbl⟩
      · refine (q3.out _ hbl).mono ?_
        rintro e w1 ⟨rfl, hb1⟩
        replace hbl := gr_call hbl hb1
        clear hb1
        go_wp2_with fail
        rcases b6 with _ | _
        · refine (q6.out _ hbl).mono ?_
          rintro e w1 ⟨rfl, hb1⟩
          replace hbl := gr_call hbl hb1
          clear hb1
          go_wp2_with fail
          go_ret
          exact ⟨rfl, hbl⟩
        · refine (q6.out _ hbl).mono ?_
          rintro e w1 ⟨rfl, hb1⟩
          replace hbl := gr_call hbl hb1
          clear hb1
          go_wp2_with fail
          refine (q5.out _ hbl).mono ?_
          rintro e w1 ⟨rfl, hb1⟩
          replace hbl := gr_call hbl hb1
          clear hb1
          go_wp2_with fail
          go_ret
          exact ⟨rfl, hbl⟩
  · go_enter Tryz.func194, Tryz.ntmps194
    go_wp2_with fail
    refine (q2.out _ hbl).mono ?_
    rintro e w1 ⟨rfl, hb1⟩
    replace hbl := gr_call hbl hb1
    clear hb1
    go_wp2_with fail
    rcases b1 with _ | _
    · refine (q1.out _ hbl).mono ?_
      rintro e w1 ⟨rfl, hb1⟩
      replace hbl := gr_call hbl hb1
      clear hb1
      go_wp2_with fail
      go_ret
      exact ⟨rfl, hbl⟩
    · refine (q1.out _ hbl).mono ?_
      rintro e w1 ⟨rfl, hb1⟩
      replace hbl := gr_call hbl hb1
      clear hb1
      go_wp2_with fail
      rcases b3 with _ | _
      · refine (q3.out _ hbl).mono ?_
        rintro e w1 ⟨rfl, hb1⟩
        replace hbl := gr_call hbl hb1
        clear hb1
        go_wp2_with fail
        go_ret
        exact ⟨rfl, hbl⟩
      · refine (q3.out _ hbl).mono ?_
        rintro e w1 ⟨rfl, hb1⟩
        replace hbl := gr_call hbl hb1
        clear hb1
        go_wp2_with fail
        rcases b6 with _ | _
        · refine (q6.out _ hbl).mono ?_
          rintro e w1 ⟨rfl, hb1⟩
          replace hbl := gr_call hbl hb1
          clear hb1
          go_wp2_with fail
          go_ret
          exact ⟨rfl, hbl⟩
        · refine (q6.out _ hbl).mono ?_
          rintro e w1 ⟨rfl, hb1⟩
          replace hbl := gr_call hbl hb1
          clear hb1
          go_wp2_with fail
          refine (q5.out _ hbl).mono ?_
          rintro e w1 ⟨rfl, hb1⟩
          replace hbl := gr_call hbl hb1
          clear hb1
          go_wp2_with fail
          go_ret
          exact ⟨by cases b5 <;> rfl, hbl⟩
end Go.Proofs.YtbhnhoenjoagbaaGreatDoor.AclW

/- Walks over package acl: May, Mode, From, Same. -/
namespace Go.Proofs.YtbhnhoenjoagbaaGreatDoor.AclW
open Go.RowKit
open AclM
set_option linter.unusedVariables false

theorem may_any (v : Value) (l : List Ace) (w : World) (hat : At aceE v l w) (hl : l.length ≤ 1000000) :
    Calls Tryz.prog 133 #[v] w fun e w' => e = .returned (.bool (may l)) ∧ Below w.heap.size w w' := by
  have q1 := Lib.hid (mayParts_any v l w hat hl)
  have q2 := Lib.hid (fun w' (hb : Below w.heap.size w w') => mayOrder_any v l w' (hat.call hb) hl)
  have q3 := Lib.hid (fun w' (hb : Below w.heap.size w w') => mayTags_any v l w' (hat.call hb) hl)
  unfold may
  obtain ⟨p, cap, rfl, hcap⟩ := hat.shape
  obtain ⟨z, hz⟩ : ∃ z, l.length = z := ⟨_, rfl⟩
  rw [hz] at q1 q2 q3 hl ⊢
  generalize l.all okPart = b1 at *
  generalize order l = b2 at *
  generalize tags l = b3 at *
  clear hat hcap hz
  have hbl := Below.refl w.heap.size w
  by_cases h32 : z ≤ 32
  · have f1 : decide ((z : Int) ≤ 32) = true := decide_eq_true (by omega)
    have f2 : decide (z ≤ 32) = true := decide_eq_true h32
    rw [f2]
    rcases b1 with _ | _
    · go_enter Tryz.func133, Tryz.ntmps133
      go_wp2_with fail
      refine (q1.out).mono ?_
      rintro e w1 ⟨rfl, hb1⟩
      go_wp2_with fail
      go_ret
      exact ⟨rfl, hb1⟩
    · rcases b2 with _ | _
      · go_enter Tryz.func133, Tryz.ntmps133
        go_wp2_with fail
        refine (q1.out).mono ?_
        rintro e w1 ⟨rfl, hb1⟩
        go_wp2_with fail
        refine (q2.out _ hb1).mono ?_
        rintro e w2 ⟨rfl, hb2⟩
        go_wp2_with fail
        go_ret
        exact ⟨rfl, gr_call hb1 hb2⟩
      · go_enter Tryz.func133, Tryz.ntmps133
        go_wp2_with fail
        refine (q1.out).mono ?_
        rintro e w1 ⟨rfl, hb1⟩
        go_wp2_with fail
        refine (q2.out _ hb1).mono ?_
        rintro e w2 ⟨rfl, hb2⟩
        replace hb2 := gr_call hb1 hb2
        clear hb1
        go_wp2_with fail
        refine (q3.out _ hb2).mono ?_
        rintro e w3 ⟨rfl, hb3⟩
        replace hb3 := gr_call hb2 hb3
        clear hb2
        go_wp2_with fail
        go_ret
        exact ⟨rfl, hb3⟩
  · have f1 : decide ((z : Int) ≤ 32) = false := decide_eq_false (by omega)
    have f2 : decide (z ≤ 32) = false := decide_eq_false h32
    rw [f2]
    go_enter Tryz.func133, Tryz.ntmps133
    go_wp2_with fail
    go_ret
    exact ⟨rfl, Below.refl _ _⟩

/-! ### Mode -/
def permN (l : List Ace) (t : Int) : Int := if findN t l 0 < 0 then 0 else (l.getD (findN t l 0).toNat (0, 0, 0)).2.2
theorem findN_in (t : Int) : ∀ (l : List Ace) (i : Nat), findN t l i = -1 ∨ ∃ k, k < l.length ∧ findN t l i = ((i + k : Nat) : Int)
  | [], i => .inl rfl
  | a :: l, i => by
    unfold findN
    by_cases h : a.1 = t
    · rw [if_pos h]; exact .inr ⟨0, by simp, by simp⟩
    · rw [if_neg h]
      rcases findN_in t l (i + 1) with h1 | ⟨k, h1, h2⟩
      · exact .inl h1
      · exact .inr ⟨k + 1, by simpa using h1, by rw [h2]; congr 1; omega⟩
def modeL (l : List Ace) : Int := 64 * permN l 1 + 8 * permN l (if has l 5 = true then 5 else 3) + permN l 6
theorem permN_in {l : List Ace} (h : ∀ a ∈ l, okPart a = true) (t : Int) : 0 ≤ permN l t ∧ permN l t ≤ 7 := by
  unfold permN
  rcases findN_in t l 0 with h1 | ⟨k, h1, h2⟩
  · rw [h1, if_pos (by decide)]; decide
  · rw [h2, if_neg (by omega)]
    have := okPart_iff (h l[k] (List.getElem_mem h1))
    simp only [Nat.zero_add, Int.toNat_natCast, List.getD, List.getElem?_eq_getElem h1, Option.getD_some]
    omega
set_option maxHeartbeats 800000 in
theorem permOf_any (v : Value) (l : List Ace) (t : Int) (w : World) (hat : At aceE v l w) (hl : l.length ≤ 1000000) :
    Calls Tryz.prog 316 #[v, .int .i64 t] w fun e w' => e = .returned (.int .i64 (permN l t)) ∧ Below w.heap.size w w' := by
  have hf := Lib.hid (find_any v l t w hat hl)
  unfold permN
  rcases findN_in t l 0 with h1 | ⟨k, h1, h2⟩
  · rw [h1] at hf ⊢
    clear h1
    rw [if_pos (by decide)]
    go_enter Tryz.func316, Tryz.ntmps316
    go_wp2_with fail
    refine (hf.out).mono ?_
    rintro e w1 ⟨rfl, hb1⟩
    go_wp2_with fail
    go_ret
    exact ⟨rfl, hb1⟩
  · rw [h2] at hf ⊢
    rw [Nat.zero_add] at hf ⊢
    rw [if_neg (by omega), Int.toNat_natCast]
    obtain ⟨p, cap, rfl, hcap, hcell⟩ := ace_look hat
    obtain ⟨g, off, rfl, hg, c0, c1, c2⟩ := hcell k h1
    have e1 : (l.getD k (0, 0, 0)).2.2 = l[k].2.2 := by simp [List.getD, h1]
    rw [e1]
    generalize l[k].2.2 = q at *
    have hk : decide ((k : Int) < 0) = false := decide_eq_false (by omega)
    have hlt : decide (k < l.length) = true := decide_eq_true h1
    clear hcell c0 c1 hat h2 e1
    generalize l.length = z at *
    have hlt' : decide ((k : Int) < (z : Int)) = true := decide_eq_true (by omega)
    go_enter Tryz.func316, Tryz.ntmps316
    go_wp2_with fail
    refine (hf.out).mono ?_
    rintro e w1 ⟨rfl, hb1⟩
    have c3 := cell_kept hb1 c2
    go_wp2_with fail
    go_ret
    exact ⟨rfl, hb1⟩
theorem mode_any (v : Value) (l : List Ace) (w : World) (hat : At aceE v l w) (hl : l.length ≤ 1000000) (hok : ∀ a ∈ l, okPart a = true) :
    Calls Tryz.prog 279 #[v] w fun e w' => e = .returned (.int .i64 (modeL l)) ∧ Below w.heap.size w w' := by
  have q0 := Lib.hid (has_any v l 5 w hat hl)
  have q := Lib.hid (fun t w' (hb : Below w.heap.size w w') => permOf_any v l t w' (hat.call hb) hl)
  unfold modeL
  have r1 := permN_in hok 1
  have r6 := permN_in hok 6
  have q1 := Lib.hid (q.out 1)
  have q6 := Lib.hid (q.out 6)
  obtain ⟨t, ht⟩ : ∃ t : Int, (if has l 5 = true then (5 : Int) else 3) = t := ⟨_, rfl⟩
  rw [ht]
  have r2 := permN_in hok t
  have q2 := Lib.hid (q.out t)
  generalize permN l 1 = p1 at *
  generalize permN l 6 = p6 at *
  generalize permN l t = p2 at *
  clear q
  rcases hb : has l 5 with _ | _ <;> rw [hb] at q0 ht
  all_goals
    simp at ht
    subst ht
    clear hb hok
    go_enter Tryz.func279, Tryz.ntmps279
    go_wp2_with fail
    refine (q0.out).mono ?_
    rintro e w1 ⟨rfl, hb1⟩
    go_wp2_with fail
    refine (q1.out _ hb1).mono ?_
    rintro e w2 ⟨rfl, hb2⟩
    replace hb2 := gr_call hb1 hb2
    clear hb1
    go_wp2_with fail
    refine (q2.out _ hb2).mono ?_
    rintro e w3 ⟨rfl, hb3⟩
    replace hb3 := gr_call hb2 hb3
    clear hb2
    go_wp2_with fail
    refine (q6.out _ hb3).mono ?_
    rintro e w4 ⟨rfl, hb4⟩
    replace hb4 := gr_call hb3 hb4
    clear hb3
    go_wp2_with fail
    go_ret
    exact ⟨rfl, hb4⟩
end Go.Proofs.YtbhnhoenjoagbaaGreatDoor.AclW

/- []byte(s): a block whose first cells are the bytes; its mark lies behind them. -/
namespace Go.Proofs.YtbhnhoenjoagbaaGreatDoor
open Go.RowKit

def RowIs (w : World) (g : Nat) (t : TypeId) (l : List UInt8) : Prop :=
  ∃ (cs : Array Value) (fr : Nat × Nat), w.heap[g]? = some (.cells cs t fr) ∧ (fr = (0, 0) ∨ l.length ≤ fr.1) ∧ ∀ i (h : i < l.length), cs[i]? = some (.int .u8 (l[i].toNat : Int))

theorem RowIs.cell {w : World} {g : Nat} {t : TypeId} {l : List UInt8} (h : RowIs w g t l) (i : Nat) (hi : i < l.length) : w.cell? ⟨g, i, none⟩ = some (.int .u8 (l[i].toNat : Int)) := by
  obtain ⟨cs, fr, h1, _, h3⟩ := h
  rw [cell_of_row w g i cs t fr h1, h3 i hi]
theorem RowIs.free {w : World} {g : Nat} {t : TypeId} {l : List UInt8} (h : RowIs w g t l) (i : Nat) (hi : i < l.length) : w.frozen? ⟨g, i, none⟩ = false := by
  obtain ⟨cs, fr, h1, h2, h3⟩ := h
  simp [World.frozen?, h1]
  rcases h2 with rfl | h2
  · simp
  · omega
theorem RowIs.put {w : World} {g : Nat} {t : TypeId} {l : List UInt8} (h : RowIs w g t l) (i : Nat) (b : UInt8) : RowIs (w.setCell ⟨g, i, none⟩ (.int .u8 (b.toNat : Int))) g t (l.set i b) := by
  obtain ⟨cs, fr, h1, h2, h3⟩ := h
  refine ⟨cs.setIfInBounds i (.int .u8 (b.toNat : Int)), fr, by simp [World.setCell, Array.getElem?_modify, h1], by simpa using h2, ?_⟩
  intro j hj
  have hj' : j < l.length := by simpa using hj
  have h4 := h3 j hj'
  have hjc : j < cs.size := (Array.getElem?_eq_some_iff.1 h4).1
  rw [List.getElem_set]
  by_cases e : i = j
  · subst e
    simp [hjc]
  · rw [if_neg e, Array.getElem?_setIfInBounds_ne e]
    exact h4
theorem RowIs.size {w : World} {g : Nat} {t : TypeId} {l : List UInt8} (h : RowIs w g t l) : g < w.heap.size := by
  obtain ⟨cs, fr, h1, _⟩ := h
  exact (Array.getElem?_eq_some_iff.1 h1).1
theorem RowIs.kept {w w' : World} {g : Nat} {t : TypeId} {l : List UInt8} {B : Nat} (h : RowIs w g t l) (hb : Below B w w') (hg : g < B) : RowIs w' g t l := by
  obtain ⟨cs, fr, h1, h2, h3⟩ := h
  exact ⟨cs, fr, (hb.block g hg).trans h1, h2, h3⟩
theorem RowIs.alloc {w : World} {g : Nat} {t : TypeId} {l : List UInt8} (h : RowIs w g t l) (o : Obj) : RowIs (w.alloc o) g t l := by
  have hs := h.size
  obtain ⟨cs, fr, h1, h2, h3⟩ := h
  exact ⟨cs, fr, (Below.heap_alloc w o g hs).trans h1, h2, h3⟩
theorem RowIs.of (w : World) (t : TypeId) (s : ByteArray) : RowIs (Lib.bytesWorld w t s) w.heap.size t s.data.toList := by
  refine ⟨_, _, Lib.bytesWorld_at_new w t s, .inr ?_, ?_⟩
  · simp [Lib.bytesCells]
  · intro i hi
    have hi' : i < s.size := by simpa using hi
    have h := Lib.bytesWorld_cell w t s i hi'
    rw [World.cell?] at h
    simp [Lib.bytesWorld_at_new] at h
    rw [h]
    simp [hi']
theorem RowIs.back {P : Program} {w : World} {g : Nat} {t src dst : TypeId} {l : List UInt8} (cap : Nat) (h : RowIs w g t l) (hs : P.underlying src = some (.slice t)) (he : P.underlying t = some (.int .u8)) (hd : P.underlying dst = some .string) :
    (convert src dst (.slice (some ⟨g, 0, none⟩) l.length cap)).run P w = .ok (.string ⟨l.toArray⟩) w :=
  run_convert_bytes_back w src dst t ⟨g, 0, none⟩ cap l hs he hd (fun j hj => by rw [addr_zero_add]; exact h.cell j hj)
end Go.Proofs.YtbhnhoenjoagbaaGreatDoor

/- A list of strings in memory. -/
namespace Go.Proofs.YtbhnhoenjoagbaaGreatDoor.AclW
open Go.RowKit
open AclM
set_option linter.unusedVariables false

def strE : Elt (List UInt8) where
  t := 9
  st := 58
  k := 1
  z := .string ⟨#[]⟩
  bytes := 16
  enc l := [.string (strOf l)]
  len _ := rfl
  one _ u h := by simp at h; subst h; rfl
  pos := by decide
  und := Tryz.underlying58
  inf := by kernel_rfl
  zk := rfl
  small := by decide
theorem str_open {v : Value} {l : List (List UInt8)} {w : World} (h : At strE v l w) (hl : l ≠ []) :
    ∃ g off cap, v = .slice (some ⟨g, off, none⟩) l.length cap ∧ l.length ≤ cap ∧ g < w.heap.size ∧ ∀ j (h : j < l.length), w.cell? ⟨g, off + j, none⟩ = some (.string (strOf l[j])) := by
  obtain ⟨g, off, cap, h1, h2, h3, h4⟩ := h.open hl
  refine ⟨g, off, cap, h1, h2, h3, fun j hj => ?_⟩
  have e : off + (j * strE.k + 0) = off + j := by show off + (j * 1 + 0) = _; omega
  have a0 := h4 j hj 0 _ rfl
  rw [e] at a0
  exact a0
end Go.Proofs.YtbhnhoenjoagbaaGreatDoor.AclW

/- What the walks over access lists lean on in memory: four of the library's variables; they stay as they are whatever a call makes. -/
namespace Go.Proofs.YtbhnhoenjoagbaaGreatDoor.AclW
open Go.RowKit
open AclM
set_option linter.unusedVariables false

theorem below_grown {B : Nat} {a w : World} (h : Below B a w) (hB : B ≤ w.heap.size) (k : Nat) (os : Array Obj) : Below B a (Go.Sort.grow (w.drewN k) os) := h.trans (Lib.below_grow B w hB k os)
theorem itoa_any (n : Int) (w : World) (hA : AmbB w) (h0 : -9223372036854775808 ≤ n) (h1 : n ≤ 9223372036854775807) :
    Calls Tryz.prog 65 #[.int .i64 n] w fun e w' => e = .returned (.string (strOf (Lib.itoa n))) ∧ Below w.heap.size w w' :=
  (Tryz.strconv_Itoa n h0 h1 w hA.tab).mono fun _ _ ⟨he, k, os, hw⟩ => ⟨by rw [he]; rfl, by rw [hw]; exact below_grown (Below.refl _ _) (Nat.le_refl _) k os⟩
def atoiEnd (l : List UInt8) (e : Ending) : Prop := match Lib.atoiAll l with
  | .ok n => e = .returned (.tuple #[.int .i64 n, .nilIface])
  | _ => ∃ m N, e = .returned (.tuple #[.int .i64 m, .iface 257 (.pointer (some ⟨N, 0, none⟩))])
theorem split_any (s : ByteArray) (w : World) (hA : AmbB w) (hs : s.size < 4294967281) :
    Calls Tryz.prog 93 #[.string s, .string ⟨#[44]⟩] w fun e w' => (∃ v, e = .returned v ∧ At strE v (cutAt 44 s.data.toList) w') ∧ Below w.heap.size w w' := by
  obtain ⟨m, hm⟩ := hA.len
  refine (Tryz.strings_Split s ⟨#[44]⟩ m w hs hm (by decide)).mono fun _ _ ⟨he, hw⟩ => ?_
  have hd := Lib.splitB_data ⟨#[44]⟩ 0 (Lib.countB s ⟨#[44]⟩) s
  have hc : Lib.countB s ⟨#[44]⟩ = Lib.count s.data.toList [44] := rfl
  have hsp := lib_split 44 _ s.data.toList (Nat.le_refl _)
  rw [hc] at hd
  have hd2 : (Lib.splitB ⟨#[44]⟩ 0 (Lib.countB s ⟨#[44]⟩) s).map (·.data.toList) = cutAt 44 s.data.toList := by rw [hc, hd]; exact hsp
  have hlen := Lib.splitB_all ⟨#[44]⟩ (by decide) 0 _ s rfl
  generalize Lib.splitB ⟨#[44]⟩ 0 (Lib.countB s ⟨#[44]⟩) s = ps at hd2 hw hlen
  rw [← hlen] at he
  subst he hw
  refine ⟨⟨_, rfl, .inr ⟨w.heap.size, 0, ps.length, ?_, ?_, ?_, ?_⟩⟩, gr_alloc (Below.refl _ _) _⟩
  · rw [← hd2, List.length_map]
  · rw [← hd2, List.length_map]; exact Nat.le_refl _
  · simp
  · intro j hj i u hu
    have hi : i < 1 := (List.getElem?_eq_some_iff.1 hu).1
    obtain rfl : i = 0 := by omega
    cases hu
    have hj' : j < ps.length := by rw [← hd2, List.length_map] at hj; exact hj
    rw [show 0 + (j * strE.k + 0) = j by show 0 + (j * 1 + 0) = j; omega, World.cell?_alloc_new]
    have e : (cutAt 44 s.data.toList)[j] = ps[j].data.toList := by
      have := congrArg (fun q : List (List UInt8) => q[j]?) hd2
      simp only [List.getElem?_map, List.getElem?_eq_getElem hj', List.getElem?_eq_getElem hj, Option.map_some, Option.some.injEq] at this
      exact this.symm
    rw [e, strOf_self]
    simp [hj']
end Go.Proofs.YtbhnhoenjoagbaaGreatDoor.AclW
