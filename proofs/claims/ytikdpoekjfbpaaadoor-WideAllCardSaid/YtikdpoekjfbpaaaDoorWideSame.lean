/- The document's answer: whether two lists are one. -/
import Derived.Test.YtikdpoekjfbpaaaDoorWideRef1
import Derived.Deep.RegionHeld3
namespace Go.Proofs.YtikdpoekjfbpaaaDoor
open Go.RowKit
open WideM
set_option linter.unusedVariables false
attribute [local irreducible] Row At

open Classical in
noncomputable def sameB (l m : List Wid) : Bool := decide (l = m)
theorem same_yes {l m : List Wid} (h : l = m) : sameB l m = true := by unfold sameB; simp [h]
theorem same_no {l m : List Wid} (h : ¬ l = m) : sameB l m = false := by unfold sameB; simp [h]
theorem same_end {l m : List Wid} {i : Nat} (hl : l.length = m.length) (hi : l.length ≤ i) (h : l.take i = m.take i) : sameB l m = true := by
  rw [List.take_of_length_le hi, List.take_of_length_le (by omega)] at h
  exact same_yes h
theorem same_not {l m : List Wid} {i : Nat} (h1 : i < l.length) (h2 : i < m.length) (h : l[i] ≠ m[i]) : sameB l m = false := by
  refine same_no ?_
  rintro rfl
  exact h rfl
theorem same_step {l m : List Wid} {i : Nat} (h1 : i < l.length) (h2 : i < m.length) (h : l.take i = m.take i) (he : l[i] = m[i]) : l.take (i + 1) = m.take (i + 1) := by
  rw [List.take_succ_eq_append_getElem h1, List.take_succ_eq_append_getElem h2, h, he]

set_option maxHeartbeats 1600000 in
theorem refSame_any (v x : Value) (l m : List Wid) (w : World) (hat : At wideE v l w) (hax : At wideE x m w) (hl : l.length ≤ 1000000) (hm : m.length ≤ 1000000) :
    Calls Tryd.prog 11 #[v, x] w fun e w' => e = .returned (.bool (sameB l m)) ∧ Below w.heap.size w w' := by
  obtain ⟨p, cap, rfl, hcap, hcell⟩ := wide_look hat
  obtain ⟨p2, cap2, rfl, hcap2, hcell2⟩ := wide_look hax
  clear hat hax
  by_cases hlm : l.length = m.length
  · obtain ⟨z, hz⟩ : ∃ z, l.length = z := ⟨_, rfl⟩
    have hz2 : m.length = z := by omega
    rw [hz] at hl hcap ⊢
    rw [hz2] at hm hcap2 ⊢
    have Hcell := Lib.hid hcell
    have Hcell2 := Lib.hid hcell2
    have Hz := Lib.hid hz
    have Hz2 := Lib.hid hz2
    have hself : ((z : Int) == (z : Int)) = true := beq_self_eq_true _
    clear hcell hcell2 hz hz2 hlm
    go_enter Tryd.func11, Tryd.ntmps11
    go_wp2_with fail
    go_loopw [5] (fun iv wr => ∃ i : Nat, iv = .int .i64 (i : Int) ∧ i ≤ z ∧ Below w.heap.size w wr ∧ Hid (l.take i = m.take i)) (fun iv _ => z - (intOf iv).toNat)
    case atStart => exact ⟨0, rfl, by omega, Below.refl _ _, Lib.hid (by simp)⟩
    case round =>
      obtain ⟨i, rfl, hi, hbl, HR⟩ := hrel
      rename_i wr
      by_cases hlt : i < z
      · have hlt' : decide ((i : Int) < (z : Int)) = true := decide_eq_true (by omega)
        have hlt2 : decide (i < z) = true := decide_eq_true hlt
        have hi' : i < l.length := by rw [Hz.out]; exact hlt
        have hi2 : i < m.length := by rw [Hz2.out]; exact hlt
        obtain ⟨g, off, rfl, hg, hc⟩ := Hcell.out i hi'
        obtain ⟨g2, off2, rfl, hg2, hd⟩ := Hcell2.out i hi2
        obtain ⟨c0, c1, c2, c3⟩ := hc.kept hbl
        obtain ⟨d0, d1, d2, d3⟩ := hd.kept hbl
        have HN : Hid (l[i] ≠ m[i] → sameB l m = false) := Lib.hid (same_not hi' hi2)
        have HS : Hid (l[i] = m[i] → l.take (i + 1) = m.take (i + 1)) := Lib.hid (same_step hi' hi2 HR.out)
        generalize l[i] = a at *
        generalize m[i] = b at *
        clear HR hc hd
        obtain ⟨t, f, n, W⟩ := a
        obtain ⟨t', f', n', W'⟩ := b
        simp only at c0 c1 c2 c3 d0 d1 d2 d3
        by_cases h : t = t'
        · subst h
          have f1 : (t == t) = true := beq_self_eq_true t
          by_cases h : f = f'
          · subst h
            have f2 : (f == f) = true := beq_self_eq_true f
            by_cases h : n = n'
            · subst h
              have f3 : (n == n) = true := beq_self_eq_true n
              by_cases h : W = W'
              · subst h
                have HE := Lib.hid (HS.out rfl)
                have fs : (W.toList == W.toList) = true := beq_self_eq_true _
                clear HS HN
                go_wp2_with fail
                go_region_held3 (fun w2 => Below w.heap.size w w2 ∧ w2.cell? ⟨g, off + i * 4, none⟩ = some (.int .i64 t) ∧ w2.cell? ⟨g, off + i * 4 + 1, none⟩ = some (.int .i64 f) ∧ w2.cell? ⟨g, off + i * 4 + 2, none⟩ = some (.int .i64 n) ∧ w2.cell? ⟨g, off + i * 4 + 3, none⟩ = some (.string W) ∧ w2.cell? ⟨g2, off2 + i * 4, none⟩ = some (.int .i64 t) ∧ w2.cell? ⟨g2, off2 + i * 4 + 1, none⟩ = some (.int .i64 f) ∧ w2.cell? ⟨g2, off2 + i * 4 + 2, none⟩ = some (.int .i64 n) ∧ w2.cell? ⟨g2, off2 + i * 4 + 3, none⟩ = some (.string W))
                  (first | (go_keep; done) | (go_split_ands; (repeat' apply And.intro) <;> (first | assumption | exact Amb.on (by assumption) hb1 | exact gr_call (by assumption) hb1 | exact cell_kept hb1 (by assumption) | exact free_kept hb1 (by assumption) (by assumption) | (show Below _ _ _; (repeat' (first | exact Below.refl _ _ | assumption | refine gr_drew ?_ | refine gr_drewN ?_ _ | refine gr_alloc ?_ _ | refine gr_set ?_ ?_ _ | refine gr_call ?_ (by assumption)) <;> (try (simp; done)) <;> (try (simp; omega)) <;> (try omega)); done) | (go_keep; done) | (simp [go_sem, *]; done)))) (fail)
                go_split_ands
                go_wp2_with fail
                go_roundw
                case rel => exact ⟨i + 1, rfl, by omega, by (repeat' (first | exact Below.refl _ _ | assumption | refine gr_drew ?_ | refine gr_drewN ?_ _ | refine gr_alloc ?_ _ | refine gr_set ?_ ?_ _ | refine gr_call ?_ (by assumption)) <;> (try (simp; done)) <;> (try (simp; omega)) <;> (try omega)), HE⟩
                case measure => simp only [intOf]; omega
              · have HE := Lib.hid (HN.out (by intro e; injection e with e1 e2 e3 e4; exact h e4))
                clear HS HN
                have fs2 : ¬ W.toList = W'.toList := fun e => h (bytes_ext (by rw [← Lib.toList_data, ← Lib.toList_data, e]))
                have fs : (W.toList == W'.toList) = false := beq_eq_false_iff_ne.2 fs2
                clear h
                go_wp2_with fail
                go_region_held3 (fun w2 => Below w.heap.size w w2 ∧ w2.cell? ⟨g, off + i * 4, none⟩ = some (.int .i64 t) ∧ w2.cell? ⟨g, off + i * 4 + 1, none⟩ = some (.int .i64 f) ∧ w2.cell? ⟨g, off + i * 4 + 2, none⟩ = some (.int .i64 n) ∧ w2.cell? ⟨g, off + i * 4 + 3, none⟩ = some (.string W) ∧ w2.cell? ⟨g2, off2 + i * 4, none⟩ = some (.int .i64 t) ∧ w2.cell? ⟨g2, off2 + i * 4 + 1, none⟩ = some (.int .i64 f) ∧ w2.cell? ⟨g2, off2 + i * 4 + 2, none⟩ = some (.int .i64 n) ∧ w2.cell? ⟨g2, off2 + i * 4 + 3, none⟩ = some (.string W'))
                  (first | (go_keep; done) | (go_split_ands; (repeat' apply And.intro) <;> (first | assumption | exact Amb.on (by assumption) hb1 | exact gr_call (by assumption) hb1 | exact cell_kept hb1 (by assumption) | exact free_kept hb1 (by assumption) (by assumption) | (show Below _ _ _; (repeat' (first | exact Below.refl _ _ | assumption | refine gr_drew ?_ | refine gr_drewN ?_ _ | refine gr_alloc ?_ _ | refine gr_set ?_ ?_ _ | refine gr_call ?_ (by assumption)) <;> (try (simp; done)) <;> (try (simp; omega)) <;> (try omega)); done) | (go_keep; done) | (simp [go_sem, *]; done)))) (fail)
                go_split_ands
                go_wp2_with fail
                go_ret
                exact ⟨by rw [HE.out]; rfl, by (repeat' (first | exact Below.refl _ _ | assumption | refine gr_drew ?_ | refine gr_drewN ?_ _ | refine gr_alloc ?_ _ | refine gr_set ?_ ?_ _ | refine gr_call ?_ (by assumption)) <;> (try (simp; done)) <;> (try (simp; omega)) <;> (try omega))⟩
            · have HE := Lib.hid (HN.out (by intro e; injection e with e1 e2 e3 e4; exact h e3))
              clear HS HN
              have f3 : (n == n') = false := beq_eq_false_iff_ne.2 h
              go_wp2_with fail
              go_region_held3 (fun w2 => Below w.heap.size w w2 ∧ w2.cell? ⟨g, off + i * 4, none⟩ = some (.int .i64 t) ∧ w2.cell? ⟨g, off + i * 4 + 1, none⟩ = some (.int .i64 f) ∧ w2.cell? ⟨g, off + i * 4 + 2, none⟩ = some (.int .i64 n) ∧ w2.cell? ⟨g, off + i * 4 + 3, none⟩ = some (.string W) ∧ w2.cell? ⟨g2, off2 + i * 4, none⟩ = some (.int .i64 t) ∧ w2.cell? ⟨g2, off2 + i * 4 + 1, none⟩ = some (.int .i64 f) ∧ w2.cell? ⟨g2, off2 + i * 4 + 2, none⟩ = some (.int .i64 n') ∧ w2.cell? ⟨g2, off2 + i * 4 + 3, none⟩ = some (.string W'))
                (first | (go_keep; done) | (go_split_ands; (repeat' apply And.intro) <;> (first | assumption | exact Amb.on (by assumption) hb1 | exact gr_call (by assumption) hb1 | exact cell_kept hb1 (by assumption) | exact free_kept hb1 (by assumption) (by assumption) | (show Below _ _ _; (repeat' (first | exact Below.refl _ _ | assumption | refine gr_drew ?_ | refine gr_drewN ?_ _ | refine gr_alloc ?_ _ | refine gr_set ?_ ?_ _ | refine gr_call ?_ (by assumption)) <;> (try (simp; done)) <;> (try (simp; omega)) <;> (try omega)); done) | (go_keep; done) | (simp [go_sem, *]; done)))) (fail)
              go_split_ands
              go_wp2_with fail
              go_ret
              exact ⟨by rw [HE.out]; rfl, by (repeat' (first | exact Below.refl _ _ | assumption | refine gr_drew ?_ | refine gr_drewN ?_ _ | refine gr_alloc ?_ _ | refine gr_set ?_ ?_ _ | refine gr_call ?_ (by assumption)) <;> (try (simp; done)) <;> (try (simp; omega)) <;> (try omega))⟩
          · have HE := Lib.hid (HN.out (by intro e; injection e with e1 e2 e3 e4; exact h e2))
            clear HS HN
            have f2 : (f == f') = false := beq_eq_false_iff_ne.2 h
            go_wp2_with fail
            go_region_held3 (fun w2 => Below w.heap.size w w2 ∧ w2.cell? ⟨g, off + i * 4, none⟩ = some (.int .i64 t) ∧ w2.cell? ⟨g, off + i * 4 + 1, none⟩ = some (.int .i64 f) ∧ w2.cell? ⟨g, off + i * 4 + 2, none⟩ = some (.int .i64 n) ∧ w2.cell? ⟨g, off + i * 4 + 3, none⟩ = some (.string W) ∧ w2.cell? ⟨g2, off2 + i * 4, none⟩ = some (.int .i64 t) ∧ w2.cell? ⟨g2, off2 + i * 4 + 1, none⟩ = some (.int .i64 f') ∧ w2.cell? ⟨g2, off2 + i * 4 + 2, none⟩ = some (.int .i64 n') ∧ w2.cell? ⟨g2, off2 + i * 4 + 3, none⟩ = some (.string W'))
              (first | (go_keep; done) | (go_split_ands; (repeat' apply And.intro) <;> (first | assumption | exact Amb.on (by assumption) hb1 | exact gr_call (by assumption) hb1 | exact cell_kept hb1 (by assumption) | exact free_kept hb1 (by assumption) (by assumption) | (show Below _ _ _; (repeat' (first | exact Below.refl _ _ | assumption | refine gr_drew ?_ | refine gr_drewN ?_ _ | refine gr_alloc ?_ _ | refine gr_set ?_ ?_ _ | refine gr_call ?_ (by assumption)) <;> (try (simp; done)) <;> (try (simp; omega)) <;> (try omega)); done) | (go_keep; done) | (simp [go_sem, *]; done)))) (fail)
            go_split_ands
            go_wp2_with fail
            go_ret
            exact ⟨by rw [HE.out]; rfl, by (repeat' (first | exact Below.refl _ _ | assumption | refine gr_drew ?_ | refine gr_drewN ?_ _ | refine gr_alloc ?_ _ | refine gr_set ?_ ?_ _ | refine gr_call ?_ (by assumption)) <;> (try (simp; done)) <;> (try (simp; omega)) <;> (try omega))⟩
        · have HE := Lib.hid (HN.out (by intro e; injection e with e1 e2 e3 e4; exact h e1))
          clear HS HN
          have f1 : (t == t') = false := beq_eq_false_iff_ne.2 h
          go_wp2_with fail
          go_region_held3 (fun w2 => Below w.heap.size w w2 ∧ w2.cell? ⟨g, off + i * 4, none⟩ = some (.int .i64 t) ∧ w2.cell? ⟨g, off + i * 4 + 1, none⟩ = some (.int .i64 f) ∧ w2.cell? ⟨g, off + i * 4 + 2, none⟩ = some (.int .i64 n) ∧ w2.cell? ⟨g, off + i * 4 + 3, none⟩ = some (.string W) ∧ w2.cell? ⟨g2, off2 + i * 4, none⟩ = some (.int .i64 t') ∧ w2.cell? ⟨g2, off2 + i * 4 + 1, none⟩ = some (.int .i64 f') ∧ w2.cell? ⟨g2, off2 + i * 4 + 2, none⟩ = some (.int .i64 n') ∧ w2.cell? ⟨g2, off2 + i * 4 + 3, none⟩ = some (.string W'))
            (first | (go_keep; done) | (go_split_ands; (repeat' apply And.intro) <;> (first | assumption | exact Amb.on (by assumption) hb1 | exact gr_call (by assumption) hb1 | exact cell_kept hb1 (by assumption) | exact free_kept hb1 (by assumption) (by assumption) | (show Below _ _ _; (repeat' (first | exact Below.refl _ _ | assumption | refine gr_drew ?_ | refine gr_drewN ?_ _ | refine gr_alloc ?_ _ | refine gr_set ?_ ?_ _ | refine gr_call ?_ (by assumption)) <;> (try (simp; done)) <;> (try (simp; omega)) <;> (try omega)); done) | (go_keep; done) | (simp [go_sem, *]; done)))) (fail)
          go_split_ands
          go_wp2_with fail
          go_ret
          exact ⟨by rw [HE.out]; rfl, by (repeat' (first | exact Below.refl _ _ | assumption | refine gr_drew ?_ | refine gr_drewN ?_ _ | refine gr_alloc ?_ _ | refine gr_set ?_ ?_ _ | refine gr_call ?_ (by assumption)) <;> (try (simp; done)) <;> (try (simp; omega)) <;> (try omega))⟩
      · have hlt' : decide ((i : Int) < (z : Int)) = false := decide_eq_false (by omega)
        have hlt2 : decide (i < z) = false := decide_eq_false hlt
        have HE := Lib.hid (same_end (by rw [Hz.out, Hz2.out]) (by rw [Hz.out]; omega) HR.out)
        clear HR
        go_wp2_with fail
        go_ret
        exact ⟨by rw [HE.out]; rfl, by (repeat' (first | exact Below.refl _ _ | assumption | refine gr_drew ?_ | refine gr_drewN ?_ _ | refine gr_alloc ?_ _ | refine gr_set ?_ ?_ _ | refine gr_call ?_ (by assumption)) <;> (try (simp; done)) <;> (try (simp; omega)) <;> (try omega))⟩
  · have hE : sameB l m = false := same_no (by rintro rfl; exact hlm rfl)
    rw [hE]
    have hne : ((l.length : Int) == (m.length : Int)) = false := beq_eq_false_iff_ne.2 (by omega)
    clear hcell hcell2 hE hlm
    generalize l.length = z at *
    generalize m.length = y at *
    go_enter Tryd.func11, Tryd.ntmps11
    go_wp2_with fail
    go_ret
    exact ⟨rfl, Below.refl _ _⟩
end Go.Proofs.YtikdpoekjfbpaaaDoor
