/- Walks over package acl: Same; and the document's answer of it. -/
import Derived.Test.YtajjhndpdjfcpaaAwPackMay
namespace Go.Proofs.Ytajjhndpdjfcpaa.AclW
open Go.RowKit
open AclM
set_option linter.unusedVariables false

def sameL (l m : List Ace) : Bool := decide (l = m)
theorem same_end {l m : List Ace} {i : Nat} (hl : l.length = m.length) (hi : l.length ≤ i) (h : l.take i = m.take i) : sameL l m = true := by
  rw [List.take_of_length_le hi, List.take_of_length_le (by omega)] at h
  exact decide_eq_true h
theorem same_not {l m : List Ace} {i : Nat} (h1 : i < l.length) (h2 : i < m.length) (h : l[i] ≠ m[i]) : sameL l m = false := by
  refine decide_eq_false ?_
  rintro rfl
  exact h rfl
theorem same_step {l m : List Ace} {i : Nat} (h1 : i < l.length) (h2 : i < m.length) (h : l.take i = m.take i) (he : l[i] = m[i]) : l.take (i + 1) = m.take (i + 1) := by
  rw [List.take_succ_eq_append_getElem h1, List.take_succ_eq_append_getElem h2, h, he]

set_option maxHeartbeats 1600000 in
theorem equal_any (v x : Value) (l m : List Ace) (w : World) (hat : At aceE v l w) (hax : At aceE x m w) (hl : l.length ≤ 1000000) (hm : m.length ≤ 1000000) :
    Calls Try.prog 48 #[v, x] w fun e w' => e = .returned (.bool (sameL l m)) ∧ Below w.heap.size w w' := by
  obtain ⟨p, cap, rfl, hcap, hcell⟩ := ace_look hat
  obtain ⟨p2, cap2, rfl, hcap2, hcell2⟩ := ace_look hax
  clear hat hax
  by_cases hlm : l.length = m.length
  · obtain ⟨z, hz⟩ : ∃ z, l.length = z := ⟨_, rfl⟩
    have hz2 : m.length = z := by omega
    rw [hz] at hl hcap ⊢
    rw [hz2] at hm hcap2 ⊢
    have Hcell := Lib.hid hcell
    have Hcell2 := Lib.hid hcell2
    have Hz := Lib.hid hz
    have Hz2 := Lib.hid hz2
    have hself : ((z : Int) == (z : Int)) = true := beq_self_eq_true _
    clear hcell hcell2 hz hz2 hlm
    go_enter Try.func48, Try.ntmps48
    go_wp2_with fail
    go_loopw [13] (fun iv wr => ∃ i : Nat, iv = .int .i64 (i : Int) ∧ i ≤ z ∧ Below w.heap.size w wr ∧ Hid (l.take i = m.take i)) (fun iv _ => z - (intOf iv).toNat)
    case atStart => exact ⟨0, rfl, by omega, Below.refl _ _, Lib.hid (by simp)⟩
    case round =>
      obtain ⟨i, rfl, hi, hbl, HR⟩ := hrel
      rename_i wr
      by_cases hlt : i < z
      · have hlt' : decide ((i : Int) < (z : Int)) = true := decide_eq_true (by omega)
        have hlt2 : decide (i < z) = true := decide_eq_true hlt
        have hi' : i < l.length := by rw [Hz.out]; exact hlt
        have hi2 : i < m.length := by rw [Hz2.out]; exact hlt
        obtain ⟨g, off, rfl, hg, c0, c1, c2⟩ := Hcell.out i hi'
        obtain ⟨g2, off2, rfl, hg2, d0, d1, d2⟩ := Hcell2.out i hi2
        replace c0 := cell_kept hbl c0
        replace c1 := cell_kept hbl c1
        replace c2 := cell_kept hbl c2
        replace d0 := cell_kept hbl d0
        replace d1 := cell_kept hbl d1
        replace d2 := cell_kept hbl d2
        have HN : Hid (l[i] ≠ m[i] → sameL l m = false) := Lib.hid (same_not hi' hi2)
        have HS : Hid (l[i] = m[i] → l.take (i + 1) = m.take (i + 1)) := Lib.hid (same_step hi' hi2 HR.out)
        generalize l[i] = a at *
        generalize m[i] = b at *
        clear HR
        obtain ⟨t, d, q⟩ := a
        obtain ⟨t', d', q'⟩ := b
        simp only at c0 c1 c2 d0 d1 d2
        by_cases hab : t = t' ∧ d = d' ∧ q = q'
        · obtain ⟨rfl, rfl, rfl⟩ := hab
          have HE := Lib.hid (HS.out rfl)
          have f1 : (t == t) = true := beq_self_eq_true t
          have f2 : (d == d) = true := beq_self_eq_true d
          have f3 : (q == q) = true := beq_self_eq_true q
          clear HS HN
          go_wp2_with fail
          go_region_held3 (fun w' => Below w.heap.size w w' ∧ w'.cell? ⟨g, off + i * 3, none⟩ = some (.int .i64 t) ∧ w'.cell? ⟨g, off + i * 3 + 1, none⟩ = some (.int .i64 d) ∧ w'.cell? ⟨g, off + i * 3 + 2, none⟩ = some (.int .i64 q) ∧ w'.cell? ⟨g2, off2 + i * 3, none⟩ = some (.int .i64 t) ∧ w'.cell? ⟨g2, off2 + i * 3 + 1, none⟩ = some (.int .i64 d) ∧ w'.cell? ⟨g2, off2 + i * 3 + 2, none⟩ = some (.int .i64 q))
            (first | (go_keep; done) | (go_split_ands; (repeat' apply And.intro) <;> (first | assumption | exact Amb.on (by assumption) hb1 | exact gr_call (by assumption) hb1 | exact cell_kept hb1 (by assumption) | exact free_kept hb1 (by assumption) (by assumption) | (show Below _ _ _; (repeat' (first | exact Below.refl _ _ | assumption | refine gr_drew ?_ | refine gr_drewN ?_ _ | refine gr_alloc ?_ _ | refine gr_set ?_ ?_ _ | refine gr_call ?_ (by assumption)) <;> (try (simp; done)) <;> (try (simp; omega)) <;> (try omega)); done) | (go_keep; done) | (simp [go_sem, *]; done)))) (fail)
          go_split_ands
          go_wp2_with fail
          go_roundw
          case rel => exact ⟨i + 1, rfl, by omega, by (repeat' (first | exact Below.refl _ _ | assumption | refine gr_drew ?_ | refine gr_drewN ?_ _ | refine gr_alloc ?_ _ | refine gr_set ?_ ?_ _ | refine gr_call ?_ (by assumption)) <;> (try (simp; done)) <;> (try (simp; omega)) <;> (try omega)), HE⟩
          case measure => simp only [intOf]; omega
        · have HE := Lib.hid (HN.out (by intro e; injection e with e1 e2; injection e2 with e2 e3; exact hab ⟨e1, e2, e3⟩))
          have f : (t == t' && (d == d' && q == q')) = false := by
            rw [Bool.eq_false_iff]
            intro e
            simp only [Bool.and_eq_true, beq_iff_eq] at e
            exact hab ⟨e.1, e.2.1, e.2.2⟩
          clear HS HN
          by_cases e1 : t = t'
          · subst e1
            have f1 : (t == t) = true := beq_self_eq_true t
            by_cases e2 : d = d'
            · subst e2
              have f2 : (d == d) = true := beq_self_eq_true d
              have f3 : ¬ q = q' := fun e => hab ⟨rfl, rfl, e⟩
              clear f hab
              go_wp2_with fail
              go_region_held3 (fun w' => Below w.heap.size w w' ∧ w'.cell? ⟨g, off + i * 3, none⟩ = some (.int .i64 t) ∧ w'.cell? ⟨g, off + i * 3 + 1, none⟩ = some (.int .i64 d) ∧ w'.cell? ⟨g, off + i * 3 + 2, none⟩ = some (.int .i64 q) ∧ w'.cell? ⟨g2, off2 + i * 3, none⟩ = some (.int .i64 t) ∧ w'.cell? ⟨g2, off2 + i * 3 + 1, none⟩ = some (.int .i64 d) ∧ w'.cell? ⟨g2, off2 + i * 3 + 2, none⟩ = some (.int .i64 q'))
                (first | (go_keep; done) | (go_split_ands; (repeat' apply And.intro) <;> (first | assumption | exact Amb.on (by assumption) hb1 | exact gr_call (by assumption) hb1 | exact cell_kept hb1 (by assumption) | exact free_kept hb1 (by assumption) (by assumption) | (show Below _ _ _; (repeat' (first | exact Below.refl _ _ | assumption | refine gr_drew ?_ | refine gr_drewN ?_ _ | refine gr_alloc ?_ _ | refine gr_set ?_ ?_ _ | refine gr_call ?_ (by assumption)) <;> (try (simp; done)) <;> (try (simp; omega)) <;> (try omega)); done) | (go_keep; done) | (simp [go_sem, *]; done)))) (fail)
              go_split_ands
              go_wp2_with fail
              go_ret
              exact ⟨by rw [HE.out]; rfl, by (repeat' (first | exact Below.refl _ _ | assumption | refine gr_drew ?_ | refine gr_drewN ?_ _ | refine gr_alloc ?_ _ | refine gr_set ?_ ?_ _ | refine gr_call ?_ (by assumption)) <;> (try (simp; done)) <;> (try (simp; omega)) <;> (try omega))⟩
            · clear f hab
              go_wp2_with fail
              go_region_held3 (fun w' => Below w.heap.size w w' ∧ w'.cell? ⟨g, off + i * 3, none⟩ = some (.int .i64 t) ∧ w'.cell? ⟨g, off + i * 3 + 1, none⟩ = some (.int .i64 d) ∧ w'.cell? ⟨g, off + i * 3 + 2, none⟩ = some (.int .i64 q) ∧ w'.cell? ⟨g2, off2 + i * 3, none⟩ = some (.int .i64 t) ∧ w'.cell? ⟨g2, off2 + i * 3 + 1, none⟩ = some (.int .i64 d') ∧ w'.cell? ⟨g2, off2 + i * 3 + 2, none⟩ = some (.int .i64 q'))
                (first | (go_keep; done) | (go_split_ands; (repeat' apply And.intro) <;> (first | assumption | exact Amb.on (by assumption) hb1 | exact gr_call (by assumption) hb1 | exact cell_kept hb1 (by assumption) | exact free_kept hb1 (by assumption) (by assumption) | (show Below _ _ _; (repeat' (first | exact Below.refl _ _ | assumption | refine gr_drew ?_ | refine gr_drewN ?_ _ | refine gr_alloc ?_ _ | refine gr_set ?_ ?_ _ | refine gr_call ?_ (by assumption)) <;> (try (simp; done)) <;> (try (simp; omega)) <;> (try omega)); done) | (go_keep; done) | (simp [go_sem, *]; done)))) (fail)
              go_split_ands
              go_wp2_with fail
              go_ret
              exact ⟨by rw [HE.out]; rfl, by (repeat' (first | exact Below.refl _ _ | assumption | refine gr_drew ?_ | refine gr_drewN ?_ _ | refine gr_alloc ?_ _ | refine gr_set ?_ ?_ _ | refine gr_call ?_ (by assumption)) <;> (try (simp; done)) <;> (try (simp; omega)) <;> (try omega))⟩
          · clear f hab
            go_wp2_with fail
            go_region_held3 (fun w' => Below w.heap.size w w' ∧ w'.cell? ⟨g, off + i * 3, none⟩ = some (.int .i64 t) ∧ w'.cell? ⟨g, off + i * 3 + 1, none⟩ = some (.int .i64 d) ∧ w'.cell? ⟨g, off + i * 3 + 2, none⟩ = some (.int .i64 q) ∧ w'.cell? ⟨g2, off2 + i * 3, none⟩ = some (.int .i64 t') ∧ w'.cell? ⟨g2, off2 + i * 3 + 1, none⟩ = some (.int .i64 d') ∧ w'.cell? ⟨g2, off2 + i * 3 + 2, none⟩ = some (.int .i64 q'))
              (first | (go_keep; done) | (go_split_ands; (repeat' apply And.intro) <;> (first | assumption | exact Amb.on (by assumption) hb1 | exact gr_call (by assumption) hb1 | exact cell_kept hb1 (by assumption) | exact free_kept hb1 (by assumption) (by assumption) | (show Below _ _ _; (repeat' (first | exact Below.refl _ _ | assumption | refine gr_drew ?_ | refine gr_drewN ?_ _ | refine gr_alloc ?_ _ | refine gr_set ?_ ?_ _ | refine gr_call ?_ (by assumption)) <;> (try (simp; done)) <;> (try (simp; omega)) <;> (try omega)); done) | (go_keep; done) | (simp [go_sem, *]; done)))) (fail)
            go_split_ands
            go_wp2_with fail
            go_ret
            exact ⟨by rw [HE.out]; rfl, by (repeat' (first | exact Below.refl _ _ | assumption | refine gr_drew ?_ | refine gr_drewN ?_ _ | refine gr_alloc ?_ _ | refine gr_set ?_ ?_ _ | refine gr_call ?_ (by assumption)) <;> (try (simp; done)) <;> (try (simp; omega)) <;> (try omega))⟩
      · have hlt' : decide ((i : Int) < (z : Int)) = false := decide_eq_false (by omega)
        have hlt2 : decide (i < z) = false := decide_eq_false hlt
        have HE := Lib.hid (same_end (by rw [Hz.out, Hz2.out]) (by rw [Hz.out]; omega) HR.out)
        clear HR
        go_wp2_with fail
        go_ret
        exact ⟨by rw [HE.out]; rfl, by (repeat' (first | exact Below.refl _ _ | assumption | refine gr_drew ?_ | refine gr_drewN ?_ _ | refine gr_alloc ?_ _ | refine gr_set ?_ ?_ _ | refine gr_call ?_ (by assumption)) <;> (try (simp; done)) <;> (try (simp; omega)) <;> (try omega))⟩
  · have hE : sameL l m = false := decide_eq_false (by rintro rfl; exact hlm rfl)
    rw [hE]
    have hne : ((l.length : Int) == (m.length : Int)) = false := beq_eq_false_iff_ne.2 (by omega)
    clear hcell hcell2 hE hlm
    generalize l.length = z at *
    generalize m.length = y at *
    go_enter Try.func48, Try.ntmps48
    go_wp2_with fail
    go_ret
    exact ⟨rfl, Below.refl _ _⟩

set_option maxHeartbeats 1600000 in
theorem refSame_any (v x : Value) (l m : List Ace) (w : World) (hat : At aceE v l w) (hax : At aceE x m w) (hl : l.length ≤ 1000000) (hm : m.length ≤ 1000000) :
    Calls Try.prog 29 #[v, x] w fun e w' => e = .returned (.bool (sameL l m)) ∧ Below w.heap.size w w' := by
  obtain ⟨p, cap, rfl, hcap, hcell⟩ := ace_look hat
  obtain ⟨p2, cap2, rfl, hcap2, hcell2⟩ := ace_look hax
  clear hat hax
  by_cases hlm : l.length = m.length
  · obtain ⟨z, hz⟩ : ∃ z, l.length = z := ⟨_, rfl⟩
    have hz2 : m.length = z := by omega
    rw [hz] at hl hcap ⊢
    rw [hz2] at hm hcap2 ⊢
    have Hcell := Lib.hid hcell
    have Hcell2 := Lib.hid hcell2
    have Hz := Lib.hid hz
    have Hz2 := Lib.hid hz2
    have hself : ((z : Int) == (z : Int)) = true := beq_self_eq_true _
    clear hcell hcell2 hz hz2 hlm
    go_enter Try.func29, Try.ntmps29
    go_wp2_with fail
    go_loopw [5] (fun iv wr => ∃ i : Nat, iv = .int .i64 (i : Int) ∧ i ≤ z ∧ Below w.heap.size w wr ∧ Hid (l.take i = m.take i)) (fun iv _ => z - (intOf iv).toNat)
    case atStart => exact ⟨0, rfl, by omega, Below.refl _ _, Lib.hid (by simp)⟩
    case round =>
      obtain ⟨i, rfl, hi, hbl, HR⟩ := hrel
      rename_i wr
      by_cases hlt : i < z
      · have hlt' : decide ((i : Int) < (z : Int)) = true := decide_eq_true (by omega)
        have hlt2 : decide (i < z) = true := decide_eq_true hlt
        have hi' : i < l.length := by rw [Hz.out]; exact hlt
        have hi2 : i < m.length := by rw [Hz2.out]; exact hlt
        obtain ⟨g, off, rfl, hg, c0, c1, c2⟩ := Hcell.out i hi'
        obtain ⟨g2, off2, rfl, hg2, d0, d1, d2⟩ := Hcell2.out i hi2
        replace c0 := cell_kept hbl c0
        replace c1 := cell_kept hbl c1
        replace c2 := cell_kept hbl c2
        replace d0 := cell_kept hbl d0
        replace d1 := cell_kept hbl d1
        replace d2 := cell_kept hbl d2
        have HN : Hid (l[i] ≠ m[i] → sameL l m = false) := Lib.hid (same_not hi' hi2)
        have HS : Hid (l[i] = m[i] → l.take (i + 1) = m.take (i + 1)) := Lib.hid (same_step hi' hi2 HR.out)
        generalize l[i] = a at *
        generalize m[i] = b at *
        clear HR
        obtain ⟨t, d, q⟩ := a
        obtain ⟨t', d', q'⟩ := b
        simp only at c0 c1 c2 d0 d1 d2
        by_cases hab : t = t' ∧ d = d' ∧ q = q'
        · obtain ⟨rfl, rfl, rfl⟩ := hab
          have HE := Lib.hid (HS.out rfl)
          have f1 : (t == t) = true := beq_self_eq_true t
          have f2 : (d == d) = true := beq_self_eq_true d
          have f3 : (q == q) = true := beq_self_eq_true q
          clear HS HN
          go_wp2_with fail
          go_region_held3 (fun w' => Below w.heap.size w w' ∧ w'.cell? ⟨g, off + i * 3, none⟩ = some (.int .i64 t) ∧ w'.cell? ⟨g, off + i * 3 + 1, none⟩ = some (.int .i64 d) ∧ w'.cell? ⟨g, off + i * 3 + 2, none⟩ = some (.int .i64 q) ∧ w'.cell? ⟨g2, off2 + i * 3, none⟩ = some (.int .i64 t) ∧ w'.cell? ⟨g2, off2 + i * 3 + 1, none⟩ = some (.int .i64 d) ∧ w'.cell? ⟨g2, off2 + i * 3 + 2, none⟩ = some (.int .i64 q))
            (first | (go_keep; done) | (go_split_ands; (repeat' apply And.intro) <;> (first | assumption | exact Amb.on (by assumption) hb1 | exact gr_call (by assumption) hb1 | exact cell_kept hb1 (by assumption) | exact free_kept hb1 (by assumption) (by assumption) | (show Below _ _ _; (repeat' (first | exact Below.refl _ _ | assumption | refine gr_drew ?_ | refine gr_drewN ?_ _ | refine gr_alloc ?_ _ | refine gr_set ?_ ?_ _ | refine gr_call ?_ (by assumption)) <;> (try (simp; done)) <;> (try (simp; omega)) <;> (try omega)); done) | (go_keep; done) | (simp [go_sem, *]; done)))) (fail)
          go_split_ands
          go_wp2_with fail
          go_roundw
          case rel => exact ⟨i + 1, rfl, by omega, by (repeat' (first | exact Below.refl _ _ | assumption | refine gr_drew ?_ | refine gr_drewN ?_ _ | refine gr_alloc ?_ _ | refine gr_set ?_ ?_ _ | refine gr_call ?_ (by assumption)) <;> (try (simp; done)) <;> (try (simp; omega)) <;> (try omega)), HE⟩
          case measure => simp only [intOf]; omega
        · have HE := Lib.hid (HN.out (by intro e; injection e with e1 e2; injection e2 with e2 e3; exact hab ⟨e1, e2, e3⟩))
          have f : (t == t' && (d == d' && q == q')) = false := by
            rw [Bool.eq_false_iff]
            intro e
            simp only [Bool.and_eq_true, beq_iff_eq] at e
            exact hab ⟨e.1, e.2.1, e.2.2⟩
          clear HS HN
          by_cases e1 : t = t'
          · subst e1
            have f1 : (t == t) = true := beq_self_eq_true t
            by_cases e2 : d = d'
            · subst e2
              have f2 : (d == d) = true := beq_self_eq_true d
              have f3 : ¬ q = q' := fun e => hab ⟨rfl, rfl, e⟩
              clear f hab
              go_wp2_with fail
              go_region_held3 (fun w' => Below w.heap.size w w' ∧ w'.cell? ⟨g, off + i * 3, none⟩ = some (.int .i64 t) ∧ w'.cell? ⟨g, off + i * 3 + 1, none⟩ = some (.int .i64 d) ∧ w'.cell? ⟨g, off + i * 3 + 2, none⟩ = some (.int .i64 q) ∧ w'.cell? ⟨g2, off2 + i * 3, none⟩ = some (.int .i64 t) ∧ w'.cell? ⟨g2, off2 + i * 3 + 1, none⟩ = some (.int .i64 d) ∧ w'.cell? ⟨g2, off2 + i * 3 + 2, none⟩ = some (.int .i64 q'))
                (first | (go_keep; done) | (go_split_ands; (repeat' apply And.intro) <;> (first | assumption | exact Amb.on (by assumption) hb1 | exact gr_call (by assumption) hb1 | exact cell_kept hb1 (by assumption) | exact free_kept hb1 (by assumption) (by assumption) | (show Below _ _ _; (repeat' (first | exact Below.refl _ _ | assumption | refine gr_drew ?_ | refine gr_drewN ?_ _ | refine gr_alloc ?_ _ | refine gr_set ?_ ?_ _ | refine gr_call ?_ (by assumption)) <;> (try (simp; done)) <;> (try (simp; omega)) <;> (try omega)); done) | (go_keep; done) | (simp [go_sem, *]; done)))) (fail)
              go_split_ands
              go_wp2_with fail
              go_ret
              exact ⟨by rw [HE.out]; rfl, by (repeat' (first | exact Below.refl _ _ | assumption | refine gr_drew ?_ | refine gr_drewN ?_ _ | refine gr_alloc ?_ _ | refine gr_set ?_ ?_ _ | refine gr_call ?_ (by assumption)) <;> (try (simp; done)) <;> (try (simp; omega)) <;> (try omega))⟩
            · clear f hab
              go_wp2_with fail
              go_region_held3 (fun w' => Below w.heap.size w w' ∧ w'.cell? ⟨g, off + i * 3, none⟩ = some (.int .i64 t) ∧ w'.cell? ⟨g, off + i * 3 + 1, none⟩ = some (.int .i64 d) ∧ w'.cell? ⟨g, off + i * 3 + 2, none⟩ = some (.int .i64 q) ∧ w'.cell? ⟨g2, off2 + i * 3, none⟩ = some (.int .i64 t) ∧ w'.cell? ⟨g2, off2 + i * 3 + 1, none⟩ = some (.int .i64 d') ∧ w'.cell? ⟨g2, off2 + i * 3 + 2, none⟩ = some (.int .i64 q'))
                (first | (go_keep; done) | (go_split_ands; (repeat' apply And.intro) <;> (first | assumption | exact Amb.on (by assumption) hb1 | exact gr_call (by assumption) hb1 | exact cell_kept hb1 (by assumption) | exact free_kept hb1 (by assumption) (by assumption) | (show Below _ _ _; (repeat' (first | exact Below.refl _ _ | assumption | refine gr_drew ?_ | refine gr_drewN ?_ _ | refine gr_alloc ?_ _ | refine gr_set ?_ ?_ _ | refine gr_call ?_ (by assumption)) <;> (try (simp; done)) <;> (try (simp; omega)) <;> (try omega)); done) | (go_keep; done) | (simp [go_sem, *]; done)))) (fail)
              go_split_ands
              go_wp2_with fail
              go_ret
              exact ⟨by rw [HE.out]; rfl, by (repeat' (first | exact Below.refl _ _ | assumption | refine gr_drew ?_ | refine gr_drewN ?_ _ | refine gr_alloc ?_ _ | refine gr_set ?_ ?_ _ | refine gr_call ?_ (by assumption)) <;> (try (simp; done)) <;> (try (simp; omega)) <;> (try omega))⟩
          · clear f hab
            go_wp2_with fail
            go_region_held3 (fun w' => Below w.heap.size w w' ∧ w'.cell? ⟨g, off + i * 3, none⟩ = some (.int .i64 t) ∧ w'.cell? ⟨g, off + i * 3 + 1, none⟩ = some (.int .i64 d) ∧ w'.cell? ⟨g, off + i * 3 + 2, none⟩ = some (.int .i64 q) ∧ w'.cell? ⟨g2, off2 + i * 3, none⟩ = some (.int .i64 t') ∧ w'.cell? ⟨g2, off2 + i * 3 + 1, none⟩ = some (.int .i64 d') ∧ w'.cell? ⟨g2, off2 + i * 3 + 2, none⟩ = some (.int .i64 q'))
              (first | (go_keep; done) | (go_split_ands; (repeat' apply And.intro) <;> (first | assumption | exact Amb.on (by assumption) hb1 | exact gr_call (by assumption) hb1 | exact cell_kept hb1 (by assumption) | exact free_kept hb1 (by assumption) (by assumption) | (show Below _ _ _; (repeat' (first | exact Below.refl _ _ | assumption | refine gr_drew ?_ | refine gr_drewN ?_ _ | refine gr_alloc ?_ _ | refine gr_set ?_ ?_ _ | refine gr_call ?_ (by assumption)) <;> (try (simp; done)) <;> (try (simp; omega)) <;> (try omega)); done) | (go_keep; done) | (simp [go_sem, *]; done)))) (fail)
            go_split_ands
            go_wp2_with fail
            go_ret
            exact ⟨by rw [HE.out]; rfl, by (repeat' (first | exact Below.refl _ _ | assumption | refine gr_drew ?_ | refine gr_drewN ?_ _ | refine gr_alloc ?_ _ | refine gr_set ?_ ?_ _ | refine gr_call ?_ (by assumption)) <;> (try (simp; done)) <;> (try (simp; omega)) <;> (try omega))⟩
      · have hlt' : decide ((i : Int) < (z : Int)) = false := decide_eq_false (by omega)
        have hlt2 : decide (i < z) = false := decide_eq_false hlt
        have HE := Lib.hid (same_end (by rw [Hz.out, Hz2.out]) (by rw [Hz.out]; omega) HR.out)
        clear HR
        go_wp2_with fail
        go_ret
        exact ⟨by rw [HE.out]; rfl, by (repeat' (first | exact Below.refl _ _ | assumption | refine gr_drew ?_ | refine gr_drewN ?_ _ | refine gr_alloc ?_ _ | refine gr_set ?_ ?_ _ | refine gr_call ?_ (by assumption)) <;> (try (simp; done)) <;> (try (simp; omega)) <;> (try omega))⟩
  · have hE : sameL l m = false := decide_eq_false (by rintro rfl; exact hlm rfl)
    rw [hE]
    have hne : ((l.length : Int) == (m.length : Int)) = false := beq_eq_false_iff_ne.2 (by omega)
    clear hcell hcell2 hE hlm
    generalize l.length = z at *
    generalize m.length = y at *
    go_enter Try.func29, Try.ntmps29
    go_wp2_with fail
    go_ret
    exact ⟨rfl, Below.refl _ _⟩

theorem same_any (v x : Value) (l m : List Ace) (w : World) (hat : At aceE v l w) (hax : At aceE x m w) (hl : l.length ≤ 1000000) (hm : m.length ≤ 1000000) :
    Calls Try.prog 27 #[v, x] w fun e w' => e = .returned (.bool (sameL l m)) ∧ Below w.heap.size w w' := by
  have h := Lib.hid (equal_any v x l m w hat hax hl hm)
  clear hat hax
  generalize sameL l m = b at *
  go_enter Try.func27, Try.ntmps27
  go_wp2_with fail
  refine (h.out).mono ?_
  rintro e w1 ⟨rfl, hb1⟩
  go_wp2_with fail
  go_ret
  exact ⟨rfl, hb1⟩
end Go.Proofs.Ytajjhndpdjfcpaa.AclW
