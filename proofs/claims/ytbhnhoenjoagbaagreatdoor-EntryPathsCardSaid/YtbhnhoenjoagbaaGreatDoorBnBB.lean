/- Bundle of 2 texts. -/
import Derived.Test.YtbhnhoenjoagbaaGreatDoorBnAO
import Derived.Test.YtbhnhoenjoagbaaGreatDoorBnBA
import Derived.Test.YtbhnhoenjoagbaaGreatDoorBnAU
import Derived.Test.YtbhnhoenjoagbaaGreatDoorChecked
import Derived.Deep.QuietTactic
import Derived.BigQuiet
import Derived.Outline
import Derived.Laws.Tables
/- Walks over package acl: Same; and the document's answer of it. -/
namespace Go.Proofs.YtbhnhoenjoagbaaGreatDoor.AclW
open Go.RowKit
open AclM
set_option linter.unusedVariables false

def sameL (l m : List Ace) : Bool := decide (l = m)
theorem same_end {l m : List Ace} {i : Nat} (hl : l.length = m.length) (hi : l.length ≤ i) (h : l.take i = m.take i) : sameL l m = true := by
  rw [List.take_of_length_le hi, List.take_of_length_le (by omega)] at h
  exact decide_eq_true h
theorem same_not {l m : List Ace} {i : Nat} (h1 : i < l.length) (h2 : i < m.length) (h : l[i] ≠ m[i]) : sameL l m = false := by
  refine decide_eq_false ?_
  rintro rfl
  exact h rfl
theorem same_step {l m : List Ace} {i : Nat} (h1 : i < l.length) (h2 : i < m.length) (h : l.take i = m.take i) (he : l[i] = m[i]) : l.take (i + 1) = m.take (i + 1) := by
  rw [List.take_succ_eq_append_getElem h1, List.take_succ_eq_append_getElem h2, h, he]

set_option maxHeartbeats 1600000 in
theorem equal_any (v x : Value) (l m : List Ace) (w : World) (hat : At aceE v l w) (hax : At aceE x m w) (hl : l.length ≤ 1000000) (hm : m.length ≤ 1000000) :
    Calls Tryz.prog 208 #[v, x] w fun e w' => e = .returned (.bool (sameL l m)) ∧ Below w.heap.size w w' := by
  obtain ⟨p, cap, rfl, hcap, hcell⟩ := ace_look hat
  obtain ⟨p2, cap2, rfl, hcap2, hcell2⟩ := ace_look hax
  clear hat hax
  by_cases hlm : l.length = m.length
  · obtain ⟨z, hz⟩ : ∃ z, l.length = z := ⟨_, rfl⟩
    have hz2 : m.length = z := by omega
    rw [hz] at hl hcap ⊢
    rw [hz2] at hm hcap2 ⊢
    have Hcell := Lib.hid hcell
    have Hcell2 := Lib.hid hcell2
    have Hz := Lib.hid hz
    have Hz2 := Lib.hid hz2
    have hself : ((z : Int) == (z : Int)) = true := beq_self_eq_true _
    clear hcell hcell2 hz hz2 hlm
    go_enter Tryz.func208, Tryz.ntmps208
    go_wp2_with fail
    go_loopw [13] (fun iv wr => ∃ i : Nat, iv = .int .i64 (i : Int) ∧ i ≤ z ∧ Below w.heap.size w wr ∧ Hid (l.take i = m.take i)) (fun iv _ => z - (intOf iv).toNat)
    case atStart => exact ⟨0, rfl, by omega, Below.refl _ _, Lib.hid (by simp)⟩
    case round =>
      obtain ⟨i, rfl, hi, hbl, HR⟩ := hrel
      rename_i wr
      by_cases hlt : i < z
      · have hlt' : decide ((i : Int) < (z : Int)) = true := decide_eq_true (by omega)
        have hlt2 : decide (i < z) = true := decide_eq_true hlt
        have hi' : i < l.length := by rw [Hz.out]; exact hlt
        have hi2 : i < m.length := by rw [Hz2.out]; exact hlt
        obtain ⟨g, off, rfl, hg, c0, c1, c2⟩ := Hcell.out i hi'
        obtain ⟨g2, off2, rfl, hg2, d0, d1, d2⟩ := Hcell2.out i hi2
        replace c0 := cell_kept hbl c0
        replace c1 := cell_kept hbl c1
        replace c2 := cell_kept hbl c2
        replace d0 := cell_kept hbl d0
        replace d1 := cell_kept hbl d1
        replace d2 := cell_kept hbl d2
        have HN : Hid (l[i] ≠ m[i] → sameL l m = false) := Lib.hid (same_not hi' hi2)
        have HS : Hid (l[i] = m[i] → l.take (i + 1) = m.take (i + 1)) := Lib.hid (same_step hi' hi2 HR.out)
        generalize l[i] = a at *
        generalize m[i] = b at *
        clear HR
        obtain ⟨t, d, q⟩ := a
        obtain ⟨t', d', q'⟩ := b
        simp only at c0 c1 c2 d0 d1 d2
        by_cases hab : t = t' ∧ d = d' ∧ q = q'
        · obtain ⟨rfl, rfl, rfl⟩ := hab
          have HE := Lib.hid (HS.out rfl)
          have f1 : (t == t) = true := beq_self_eq_true t
          have f2 : (d == d) = true := beq_self_eq_true d
          have f3 : (q == q) = true := beq_self_eq_true q
          clear HS HN
          go_wp2_with fail
          go_region_held3 (fun w' => Below w.heap.size w w' ∧ w'.cell? ⟨g, off + i * 3, none⟩ = some (.int .i64 t) ∧ w'.cell? ⟨g, off + i * 3 + 1, none⟩ = some (.int .i64 d) ∧ w'.cell? ⟨g, off + i * 3 + 2, none⟩ = some (.int .i64 q) ∧ w'.cell? ⟨g2, off2 + i * 3, none⟩ = some (.int .i64 t) ∧ w'.cell? ⟨g2, off2 + i * 3 + 1, none⟩ = some (.int .i64 d) ∧ w'.cell? ⟨g2, off2 + i * 3 + 2, none⟩ = some (.int .i64 q))
            (first | (go_keep; done) | (go_split_ands; (repeat' apply And.intro) <;> (first | assumption | exact Amb.on (by assumption) hb1 | exact AmbB.on (by assumption) hb1 | exact gr_call (by assumption) hb1 | exact cell_kept hb1 (by assumption) | exact free_kept hb1 (by assumption) (by assumption) | (show Below _ _ _; (repeat' (first | exact Below.refl _ _ | assumption | refine gr_drew ?_ | refine gr_drewN ?_ _ | refine gr_alloc ?_ _ | refine gr_set ?_ ?_ _ | refine gr_call ?_ (by assumption)) <;> (try (simp; done)) <;> (try (simp; omega)) <;> (try omega)); done) | (go_keep; done) | (simp [go_sem, *]; done)))) (fail)
          go_split_ands
          go_wp2_with fail
          go_roundw
          case rel => exact ⟨i + 1, rfl, by omega, by (repeat' (first | exact Below.refl _ _ | assumption | refine gr_drew ?_ | refine gr_drewN ?_ _ | refine gr_alloc ?_ _ | refine gr_set ?_ ?_ _ | refine gr_call ?_ (by assumption)) <;> (try (simp; done)) <;> (try (simp; omega)) <;> (try omega)), HE⟩
          case measure => simp only [intOf]; omega
        · have HE := Lib.hid (HN.out (by intro e; injection e with e1 e2; injection e2 with e2 e3; exact hab ⟨e1, e2, e3⟩))
          have f : (t == t' && (d == d' && q == q')) = false := by
            rw [Bool.eq_false_iff]
            intro e
            simp only [Bool.and_eq_true, beq_iff_eq] at e
            exact hab ⟨e.1, e.2.1, e.2.2⟩
          clear HS HN
          by_cases e1 : t = t'
          · subst e1
            have f1 : (t == t) = true := beq_self_eq_true t
            by_cases e2 : d = d'
            · subst e2
              have f2 : (d == d) = true := beq_self_eq_true d
              have f3 : ¬ q = q' := fun e => hab ⟨rfl, rfl, e⟩
              clear f hab
              go_wp2_with fail
              go_region_held3 (fun w' => Below w.heap.size w w' ∧ w'.cell? ⟨g, off + i * 3, none⟩ = some (.int .i64 t) ∧ w'.cell? ⟨g, off + i * 3 + 1, none⟩ = some (.int .i64 d) ∧ w'.cell? ⟨g, off + i * 3 + 2, none⟩ = some (.int .i64 q) ∧ w'.cell? ⟨g2, off2 + i * 3, none⟩ = some (.int .i64 t) ∧ w'.cell? ⟨g2, off2 + i * 3 + 1, none⟩ = some (.int .i64 d) ∧ w'.cell? ⟨g2, off2 + i * 3 + 2, none⟩ = some (.int .i64 q'))
                (first | (go_keep; done) | (go_split_ands; (repeat' apply And.intro) <;> (first | assumption | exact Amb.on (by assumption) hb1 | exact AmbB.on (by assumption) hb1 | exact gr_call (by assumption) hb1 | exact cell_kept hb1 (by assumption) | exact free_kept hb1 (by assumption) (by assumption) | (show Below _ _ _; (repeat' (first | exact Below.refl _ _ | assumption | refine gr_drew ?_ | refine gr_drewN ?_ _ | refine gr_alloc ?_ _ | refine gr_set ?_ ?_ _ | refine gr_call ?_ (by assumption)) <;> (try (simp; done)) <;> (try (simp; omega)) <;> (try omega)); done) | (go_keep; done) | (simp [go_sem, *]; done)))) (fail)
              go_split_ands
              go_wp2_with fail
              go_ret
              exact ⟨by rw [HE.out]; rfl, by (repeat' (first | exact Below.refl _ _ | assumption | refine gr_drew ?_ | refine gr_drewN ?_ _ | refine gr_alloc ?_ _ | refine gr_set ?_ ?_ _ | refine gr_call ?_ (by assumption)) <;> (try (simp; done)) <;> (try (simp; omega)) <;> (try omega))⟩
            · clear f hab
              go_wp2_with fail
              go_region_held3 (fun w' => Below w.heap.size w w' ∧ w'.cell? ⟨g, off + i * 3, none⟩ = some (.int .i64 t) ∧ w'.cell? ⟨g, off + i * 3 + 1, none⟩ = some (.int .i64 d) ∧ w'.cell? ⟨g, off + i * 3 + 2, none⟩ = some (.int .i64 q) ∧ w'.cell? ⟨g2, off2 + i * 3, none⟩ = some (.int .i64 t) ∧ w'.cell? ⟨g2, off2 + i * 3 + 1, none⟩ = some (.int .i64 d') ∧ w'.cell? ⟨g2, off2 + i * 3 + 2, none⟩ = some (.int .i64 q'))
                (first | (go_keep; done) | (go_split_ands; (repeat' apply And.intro) <;> (first | assumption | exact Amb.on (by assumption) hb1 | exact AmbB.on (by assumption) hb1 | exact gr_call (by assumption) hb1 | exact cell_kept hb1 (by assumption) | exact free_kept hb1 (by assumption) (by assumption) | (show Below _ _ _; (repeat' (first | exact Below.refl _ _ | assumption | refine gr_drew ?_ | refine gr_drewN ?_ _ | refine gr_alloc ?_ _ | refine gr_set ?_ ?_ _ | refine gr_call ?_ (by assumption)) <;> (try (simp; done)) <;> (try (simp; omega)) <;> (try omega)); done) | (go_keep; done) | (simp [go_sem, *]; done)))) (fail)
              go_split_ands
              go_wp2_with fail
              go_ret
              exact ⟨by rw [HE.out]; rfl, by (repeat' (first | exact Below.refl _ _ | assumption | refine gr_drew ?_ | refine gr_drewN ?_ _ | refine gr_alloc ?_ _ | refine gr_set ?_ ?_ _ | refine gr_call ?_ (by assumption)) <;> (try (simp; done)) <;> (try (simp; omega)) <;> (try omega))⟩
          · clear f hab
            go_wp2_with fail
            go_region_held3 (fun w' => Below w.heap.size w w' ∧ w'.cell? ⟨g, off + i * 3, none⟩ = some (.int .i64 t) ∧ w'.cell? ⟨g, off + i * 3 + 1, none⟩ = some (.int .i64 d) ∧ w'.cell? ⟨g, off + i * 3 + 2, none⟩ = some (.int .i64 q) ∧ w'.cell? ⟨g2, off2 + i * 3, none⟩ = some (.int .i64 t') ∧ w'.cell? ⟨g2, off2 + i * 3 + 1, none⟩ = some (.int .i64 d') ∧ w'.cell? ⟨g2, off2 + i * 3 + 2, none⟩ = some (.int .i64 q'))
              (first | (go_keep; done) | (go_split_ands; (repeat' apply And.intro) <;> (first | assumption | exact Amb.on (by assumption) hb1 | exact AmbB.on (by assumption) hb1 | exact gr_call (by assumption) hb1 | exact cell_kept hb1 (by assumption) | exact free_kept hb1 (by assumption) (by assumption) | (show Below _ _ _; (repeat' (first | exact Below.refl _ _ | assumption | refine gr_drew ?_ | refine gr_drewN ?_ _ | refine gr_alloc ?_ _ | refine gr_set ?_ ?_ _ | refine gr_call ?_ (by assumption)) <;> (try (simp; done)) <;> (try (simp; omega)) <;> (try omega)); done) | (go_keep; done) | (simp [go_sem, *]; done)))) (fail)
            go_split_ands
            go_wp2_with fail
            go_ret
            exact ⟨by rw [HE.out]; rfl, by (repeat' (first | exact Below.refl _ _ | assumption | refine gr_drew ?_ | refine gr_drewN ?_ _ | refine gr_alloc ?_ _ | refine gr_set ?_ ?_ _ | refine gr_call ?_ (by assumption)) <;> (try (simp; done)) <;> (try (simp; omega)) <;> (try omega))⟩
      · have hlt' : decide ((i : Int) < (z : Int)) = false := decide_eq_false (by omega)
        have hlt2 : decide (i < z) = false := decide_eq_false hlt
        have HE := Lib.hid (same_end (by rw [Hz.out, Hz2.out]) (by rw [Hz.out]; omega) HR.out)
        clear HR
        go_wp2_with fail
        go_ret
        exact ⟨by rw [HE.out]; rfl, by (repeat' (first | exact Below.refl _ _ | assumption | refine gr_drew ?_ | refine gr_drewN ?_ _ | refine gr_alloc ?_ _ | refine gr_set ?_ ?_ _ | refine gr_call ?_ (by assumption)) <;> (try (simp; done)) <;> (try (simp; omega)) <;> (try omega))⟩
  · have hE : sameL l m = false := decide_eq_false (by rintro rfl; exact hlm rfl)
    rw [hE]
    have hne : ((l.length : Int) == (m.length : Int)) = false := beq_eq_false_iff_ne.2 (by omega)
    clear hcell hcell2 hE hlm
    generalize l.length = z at *
    generalize m.length = y at *
    go_enter Tryz.func208, Tryz.ntmps208
    go_wp2_with fail
    go_ret
    exact ⟨rfl, Below.refl _ _⟩

set_option maxHeartbeats 1600000 in
theorem refSame_any (v x : Value) (l m : List Ace) (w : World) (hat : At aceE v l w) (hax : At aceE x m w) (hl : l.length ≤ 1000000) (hm : m.length ≤ 1000000) :
    Calls Tryz.prog 29 #[v, x] w fun e w' => e = .returned (.bool (sameL l m)) ∧ Below w.heap.size w w' := by
  obtain ⟨p, cap, rfl, hcap, hcell⟩ := ace_look hat
  obtain ⟨p2, cap2, rfl, hcap2, hcell2⟩ := ace_look hax
  clear hat hax
  by_cases hlm : l.length = m.length
  · obtain ⟨z, hz⟩ : ∃ z, l.length = z := ⟨_, rfl⟩
    have hz2 : m.length = z := by omega
    rw [hz] at hl hcap ⊢
    rw [hz2] at hm hcap2 ⊢
    have Hcell := Lib.hid hcell
    have Hcell2 := Lib.hid hcell2
    have Hz := Lib.hid hz
    have Hz2 := Lib.hid hz2
    have hself : ((z : Int) == (z : Int)) = true := beq_self_eq_true _
    clear hcell hcell2 hz hz2 hlm
    go_enter Tryz.func29, Tryz.ntmps29
    go_wp2_with fail
    go_loopw [5] (fun iv wr => ∃ i : Nat, iv = .int .i64 (i : Int) ∧ i ≤ z ∧ Below w.heap.size w wr ∧ Hid (l.take i = m.take i)) (fun iv _ => z - (intOf iv).toNat)
    case atStart => exact ⟨0, rfl, by omega, Below.refl _ _, Lib.hid (by simp)⟩
    case round =>
      obtain ⟨i, rfl, hi, hbl, HR⟩ := hrel
      rename_i wr
      by_cases hlt : i < z
      · have hlt' : decide ((i : Int) < (z : Int)) = true := decide_eq_true (by omega)
        have hlt2 : decide (i < z) = true := decide_eq_true hlt
        have hi' : i < l.length := by rw [Hz.out]; exact hlt
        have hi2 : i < m.length := by rw [Hz2.out]; exact hlt
        obtain ⟨g, off, rfl, hg, c0, c1, c2⟩ := Hcell.out i hi'
        obtain ⟨g2, off2, rfl, hg2, d0, d1, d2⟩ := Hcell2.out i hi2
        replace c0 := cell_kept hbl c0
        replace c1 := cell_kept hbl c1
        replace c2 := cell_kept hbl c2
        replace d0 := cell_kept hbl d0
        replace d1 := cell_kept hbl d1
        replace d2 := cell_kept hbl d2
        have HN : Hid (l[i] ≠ m[i] → sameL l m = false) := Lib.hid (same_not hi' hi2)
        have HS : Hid (l[i] = m[i] → l.take (i + 1) = m.take (i + 1)) := Lib.hid (same_step hi' hi2 HR.out)
        generalize l[i] = a at *
        generalize m[i] = b at *
        clear HR
        obtain ⟨t, d, q⟩ := a
        obtain ⟨t', d', q'⟩ := b
        simp only at c0 c1 c2 d0 d1 d2
        by_cases hab : t = t' ∧ d = d' ∧ q = q'
        · obtain ⟨rfl, rfl, rfl⟩ := hab
          have HE := Lib.hid (HS.out rfl)
          have f1 : (t == t) = true := beq_self_eq_true t
          have f2 : (d == d) = true := beq_self_eq_true d
          have f3 : (q == q) = true := beq_self_eq_true q
          clear HS HN
          go_wp2_with fail
          go_region_held3 (fun w' => Below w.heap.size w w' ∧ w'.cell? ⟨g, off + i * 3, none⟩ = some (.int .i64 t) ∧ w'.cell? ⟨g, off + i * 3 + 1, none⟩ = some (.int .i64 d) ∧ w'.cell? ⟨g, off + i * 3 + 2, none⟩ = some (.int .i64 q) ∧ w'.cell? ⟨g2, off2 + i * 3, none⟩ = some (.int .i64 t) ∧ w'.cell? ⟨g2, off2 + i * 3 + 1, none⟩ = some (.int .i64 d) ∧ w'.cell? ⟨g2, off2 + i * 3 + 2, none⟩ = some (.int .i64 q))
            (first | (go_keep; done) | (go_split_ands; (repeat' apply And.intro) <;> (first | assumption | exact Amb.on (by assumption) hb1 | exact AmbB.on (by assumption) hb1 | exact gr_call (by assumption) hb1 | exact cell_kept hb1 (by assumption) | exact free_kept hb1 (by assumption) (by assumption) | (show Below _ _ _; (repeat' (first | exact Below.refl _ _ | assumption | refine gr_drew ?_ | refine gr_drewN ?_ _ | refine gr_alloc ?_ _ | refine gr_set ?_ ?_ _ | refine gr_call ?_ (by assumption)) <;> (try (simp; done)) <;> (try (simp; omega)) <;> (try omega)); done) | (go_keep; done) | (simp [go_sem, *]; done)))) (fail)
          go_split_ands
          go_wp2_with fail
          go_roundw
          case rel => exact ⟨i + 1, rfl, by omega, by (repeat' (first | exact Below.refl _ _ | assumption | refine gr_drew ?_ | refine gr_drewN ?_ _ | refine gr_alloc ?_ _ | refine gr_set ?_ ?_ _ | refine gr_call ?_ (by assumption)) <;> (try (simp; done)) <;> (try (simp; omega)) <;> (try omega)), HE⟩
          case measure => simp only [intOf]; omega
        · have HE := Lib.hid (HN.out (by intro e; injection e with e1 e2; injection e2 with e2 e3; exact hab ⟨e1, e2, e3⟩))
          have f : (t == t' && (d == d' && q == q')) = false := by
            rw [Bool.eq_false_iff]
            intro e
            simp only [Bool.and_eq_true, beq_iff_eq] at e
            exact hab ⟨e.1, e.2.1, e.2.2⟩
          clear HS HN
          by_cases e1 : t = t'
          · subst e1
            have f1 : (t == t) = true := beq_self_eq_true t
            by_cases e2 : d = d'
            · subst e2
              have f2 : (d == d) = true := beq_self_eq_true d
              have f3 : ¬ q = q' := fun e => hab ⟨rfl, rfl, e⟩
              clear f hab
              go_wp2_with fail
              go_region_held3 (fun w' => Below w.heap.size w w' ∧ w'.cell? ⟨g, off + i * 3, none⟩ = some (.int .i64 t) ∧ w'.cell? ⟨g, off + i * 3 + 1, none⟩ = some (.int .i64 d) ∧ w'.cell? ⟨g, off + i * 3 + 2, none⟩ = some (.int .i64 q) ∧ w'.cell? ⟨g2, off2 + i * 3, none⟩ = some (.int .i64 t) ∧ w'.cell? ⟨g2, off2 + i * 3 + 1, none⟩ = some (.int .i64 d) ∧ w'.cell? ⟨g2, off2 + i * 3 + 2, none⟩ = some (.int .i64 q'))
                (first | (go_keep; done) | (go_split_ands; (repeat' apply And.intro) <;> (first | assumption | exact Amb.on (by assumption) hb1 | exact AmbB.on (by assumption) hb1 | exact gr_call (by assumption) hb1 | exact cell_kept hb1 (by assumption) | exact free_kept hb1 (by assumption) (by assumption) | (show Below _ _ _; (repeat' (first | exact Below.refl _ _ | assumption | refine gr_drew ?_ | refine gr_drewN ?_ _ | refine gr_alloc ?_ _ | refine gr_set ?_ ?_ _ | refine gr_call ?_ (by assumption)) <;> (try (simp; done)) <;> (try (simp; omega)) <;> (try omega)); done) | (go_keep; done) | (simp [go_sem, *]; done)))) (fail)
              go_split_ands
              go_wp2_with fail
              go_ret
              exact ⟨by rw [HE.out]; rfl, by (repeat' (first | exact Below.refl _ _ | assumption | refine gr_drew ?_ | refine gr_drewN ?_ _ | refine gr_alloc ?_ _ | refine gr_set ?_ ?_ _ | refine gr_call ?_ (by assumption)) <;> (try (simp; done)) <;> (try (simp; omega)) <;> (try omega))⟩
            · clear f hab
              go_wp2_with fail
              go_region_held3 (fun w' => Below w.heap.size w w' ∧ w'.cell? ⟨g, off + i * 3, none⟩ = some (.int .i64 t) ∧ w'.cell? ⟨g, off + i * 3 + 1, none⟩ = some (.int .i64 d) ∧ w'.cell? ⟨g, off + i * 3 + 2, none⟩ = some (.int .i64 q) ∧ w'.cell? ⟨g2, off2 + i * 3, none⟩ = some (.int .i64 t) ∧ w'.cell? ⟨g2, off2 + i * 3 + 1, none⟩ = some (.int .i64 d') ∧ w'.cell? ⟨g2, off2 + i * 3 + 2, none⟩ = some (.int .i64 q'))
                (first | (go_keep; done) | (go_split_ands; (repeat' apply And.intro) <;> (first | assumption | exact Amb.on (by assumption) hb1 | exact AmbB.on (by assumption) hb1 | exact gr_call (by assumption) hb1 | exact cell_kept hb1 (by assumption) | exact free_kept hb1 (by assumption) (by assumption) | (show Below _ _ _; (repeat' (first | exact Below.refl _ _ | assumption | refine gr_drew ?_ | refine gr_drewN ?_ _ | refine gr_alloc ?_ _ | refine gr_set ?_ ?_ _ | refine gr_call ?_ (by assumption)) <;> (try (simp; done)) <;> (try (simp; omega)) <;> (try omega)); done) | (go_keep; done) | (simp [go_sem, *]; done)))) (fail)
              go_split_ands
              go_wp2_with fail
              go_ret
              exact ⟨by rw [HE.out]; rfl, by (repeat' (first | exact Below.refl _ _ | assumption | refine gr_drew ?_ | refine gr_drewN ?_ _ | refine gr_alloc ?_ _ | refine gr_set ?_ ?_ _ | refine gr_call ?_ (by assumption)) <;> (try (simp; done)) <;> (try (simp; omega)) <;> (try omega))⟩
          · clear f hab
            go_wp2_with fail
            go_region_held3 (fun w' => Below w.heap.size w w' ∧ w'.cell? ⟨g, off + i * 3, none⟩ = some (.int .i64 t) ∧ w'.cell? ⟨g, off + i * 3 + 1, none⟩ = some (.int .i64 d) ∧ w'.cell? ⟨g, off + i * 3 + 2, none⟩ = some (.int .i64 q) ∧ w'.cell? ⟨g2, off2 + i * 3, none⟩ = some (.int .i64 t') ∧ w'.cell? ⟨g2, off2 + i * 3 + 1, none⟩ = some (.int .i64 d') ∧ w'.cell? ⟨g2, off2 + i * 3 + 2, none⟩ = some (.int .i64 q'))
              (first | (go_keep; done) | (go_split_ands; (repeat' apply And.intro) <;> (first | assumption | exact Amb.on (by assumption) hb1 | exact AmbB.on (by assumption) hb1 | exact gr_call (by assumption) hb1 | exact cell_kept hb1 (by assumption) | exact free_kept hb1 (by assumption) (by assumption) | (show Below _ _ _; (repeat' (first | exact Below.refl _ _ | assumption | refine gr_drew ?_ | refine gr_drewN ?_ _ | refine gr_alloc ?_ _ | refine gr_set ?_ ?_ _ | refine gr_call ?_ (by assumption)) <;> (try (simp; done)) <;> (try (simp; omega)) <;> (try omega)); done) | (go_keep; done) | (simp [go_sem, *]; done)))) (fail)
            go_split_ands
            go_wp2_with fail
            go_ret
            exact ⟨by rw [HE.out]; rfl, by (repeat' (first | exact Below.refl _ _ | assumption | refine gr_drew ?_ | refine gr_drewN ?_ _ | refine gr_alloc ?_ _ | refine gr_set ?_ ?_ _ | refine gr_call ?_ (by assumption)) <;> (try (simp; done)) <;> (try (simp; omega)) <;> (try omega))⟩
      · have hlt' : decide ((i : Int) < (z : Int)) = false := decide_eq_false (by omega)
        have hlt2 : decide (i < z) = false := decide_eq_false hlt
        have HE := Lib.hid (same_end (by rw [Hz.out, Hz2.out]) (by rw [Hz.out]; omega) HR.out)
        clear HR
        go_wp2_with fail
        go_ret
        exact ⟨by rw [HE.out]; rfl, by (repeat' (first | exact Below.refl _ _ | assumption | refine gr_drew ?_ | refine gr_drewN ?_ _ | refine gr_alloc ?_ _ | refine gr_set ?_ ?_ _ | refine gr_call ?_ (by assumption)) <;> (try (simp; done)) <;> (try (simp; omega)) <;> (try omega))⟩
  · have hE : sameL l m = false := decide_eq_false (by rintro rfl; exact hlm rfl)
    rw [hE]
    have hne : ((l.length : Int) == (m.length : Int)) = false := beq_eq_false_iff_ne.2 (by omega)
    clear hcell hcell2 hE hlm
    generalize l.length = z at *
    generalize m.length = y at *
    go_enter Tryz.func29, Tryz.ntmps29
    go_wp2_with fail
    go_ret
    exact ⟨rfl, Below.refl _ _⟩

theorem same_any (v x : Value) (l m : List Ace) (w : World) (hat : At aceE v l w) (hax : At aceE x m w) (hl : l.length ≤ 1000000) (hm : m.length ≤ 1000000) :
    Calls Tryz.prog 159 #[v, x] w fun e w' => e = .returned (.bool (sameL l m)) ∧ Below w.heap.size w w' := by
  have h := Lib.hid (equal_any v x l m w hat hax hl hm)
  clear hat hax
  generalize sameL l m = b at *
  go_enter Tryz.func159, Tryz.ntmps159
  go_wp2_with fail
  refine (h.out).mono ?_
  rintro e w1 ⟨rfl, hb1⟩
  go_wp2_with fail
  go_ret
  exact ⟨rfl, hb1⟩
end Go.Proofs.YtbhnhoenjoagbaaGreatDoor.AclW

/- Metadata in memory; when two are one; nothing but three numbers. -/
namespace Go.Proofs.YtbhnhoenjoagbaaGreatDoor
open Go.RowKit
open MetaM
set_option linter.unusedVariables false

theorem and511 (n : Int) : bits .and .i64 n 511 = n % 512 := by
  have key : (BitVec.ofInt 64 n &&& BitVec.ofInt 64 511).toNat = (n % ((2 ^ 64 : Nat) : Int)).toNat % 2 ^ 9 := by
    rw [BitVec.toNat_and, BitVec.toNat_ofInt, show (BitVec.ofInt 64 511).toNat = 2 ^ 9 - 1 by decide, Nat.and_two_pow_sub_one_eq_mod]
  show IntKind.i64.wrap ((BitVec.ofInt 64 n &&& BitVec.ofInt 64 511).toNat : Int) = _
  rw [key, IntKind.wrap_i64]
  omega
/-- The cells of metadata; what their lists hold. -/
def metaC (m : Mt) (va vd vx : Value) : Array Value := #[.int .i64 m.mode, .int .i64 m.uid, .int .i64 m.gid, .int .i64 m.sec, .int .i64 m.nano, va, vd, vx, .int .i64 m.cap.v, .int .u64 (m.cap.p : Int), .int .u64 (m.cap.i : Int), .bool m.cap.e, .int .i64 m.cap.r, .int .i64 m.flags]
structure MetaAt (m : Mt) (va vd vx : Value) (w : World) : Prop where
  acl : At AclW.aceE va m.acl w
  dfl : At AclW.aceE vd m.dfl w
  xat : At XatW.xatE vx m.xat w
  la : m.acl.length ≤ 1000000
  ld : m.dfl.length ≤ 1000000
  lx : m.xat.length ≤ 1000000
theorem MetaAt.call {m : Mt} {va vd vx : Value} {w w1 : World} (h : MetaAt m va vd vx w) (hb : Below w.heap.size w w1) : MetaAt m va vd vx w1 := ⟨h.acl.call hb, h.dfl.call hb, h.xat.call hb, h.la, h.ld, h.lx⟩
def MetaM.sameM (a b : Mt) : Bool :=
  decide (a.mode = b.mode) && decide (a.uid = b.uid) && decide (a.gid = b.gid) && decide (a.sec = b.sec ∧ a.nano = b.nano) && AclW.sameL a.acl b.acl && AclW.sameL a.dfl b.dfl && decide (a.xat = b.xat) &&
    decide (a.cap.v = b.cap.v ∧ a.cap.p = b.cap.p ∧ a.cap.i = b.cap.i ∧ a.cap.e = b.cap.e ∧ a.cap.r = b.cap.r) && decide (a.flags = b.flags)
theorem blk_next (w : World) (o : Obj) (t : TypeId) (cs : Array Value) : BlkIs ((w.alloc o).alloc (.cells cs t)) (w.heap.size + 1) t cs := by
  have h := BlkIs.made (w.alloc o) t cs
  rw [show (w.alloc o).heap.size = w.heap.size + 1 by simp] at h
  exact h
theorem plain_build (a b c : Int) (w : World) : (Instr.build 37 #[(0, .int .i64 a), (1, .int .i64 b), (2, .int .i64 c)]).run Tryz.prog w = .ok (.agg #[.int .i64 a, .int .i64 b, .int .i64 c, .int .i64 0, .int .i64 0, .slice none 0 0, .slice none 0 0, .slice none 0 0, .int .i64 0, .int .u64 0, .int .u64 0, .bool false, .int .i64 0, .int .i64 0]) w :=
  run_build w _ _ _ (by kernel_rfl)
/-- Nothing but three numbers. -/
def MetaM.plainM (a b c : Int) : Mt := ⟨a, b, c, 0, 0, [], [], [], ⟨0, 0, 0, false, 0⟩, 0⟩
def nilV : Value := .slice none 0 0
end Go.Proofs.YtbhnhoenjoagbaaGreatDoor
