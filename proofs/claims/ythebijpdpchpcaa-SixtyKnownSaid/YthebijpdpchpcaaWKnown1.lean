/- The walk of the law SixtyKnown. -/
import Derived.Test.YthebijpdpchpcaaWSixtyBack
import Derived.Deep.RegionHeld3
namespace Go.Proofs.Ythebijpdpchpcaa
open Go.RowKit
open SixM
set_option linter.unusedVariables false

set_option maxHeartbeats 1600000 in
theorem known0 (a0 : Int) (w : World) (hj : a0 % 10 = 0) (h0 : 0 ≤ a0) (h1 : a0 ≤ 255) :
    Calls Try.prog 6 #[.int .u8 a0] w fun e w' => e = .returned (.bool true) ∧ Below w.heap.size w w' := by
  have H1 := Lib.hid (fun W => Get_is ⟨#[]⟩ (by decide) ⟨#[]⟩ (by decide +kernel) W)
  have H2 := Lib.hid (fun W => Get_no ⟨#[90, 103, 61]⟩ (by decide) (get_none (by decide +kernel)) W)
  have H3 := Lib.hid (fun W => Put_is ⟨#[]⟩ (by decide) ⟨#[]⟩ (by decide +kernel) W)
  go_enter Try.func6, Try.ntmps6
  go_wp2_with fail
  refine (H1.out _).mono ?_
  rintro e w1 ⟨rfl, hb1⟩
  have hx1 := cell_kept hb1 (a := ⟨w.heap.size, 0, none⟩) (v := .string ⟨#[]⟩) (by simp [go_sem])
  have ht1 := cell_kept hb1 (a := ⟨w.heap.size, 1, none⟩) (v := .string ⟨#[]⟩) (by simp [go_sem])
  have hB1 : Below w.heap.size w w1 := gr_call (gr_alloc (Below.refl _ _) _) hb1
  have hl1 := block_lt hx1
  simp only at hl1
  clear hb1
  go_wp2_with fail
  refine (H2.out _).mono ?_
  rintro e w2 ⟨rfl, hb2⟩
  have hn1 : w.heap.size ≠ w1.heap.size := by omega
  have hx2 := cell_kept hb2 (a := ⟨w.heap.size, 0, none⟩) (v := .string ⟨#[]⟩) ((World.cell?_alloc_past (w := w1) _ w.heap.size _ hl1).trans hx1)
  have ht2 := cell_kept hb2 (a := ⟨w.heap.size, 1, none⟩) (v := .string ⟨#[]⟩) ((World.cell?_alloc_past (w := w1) _ w.heap.size _ hl1).trans ht1)
  have hB2 : Below w.heap.size w w2 := gr_call (gr_alloc hB1 _) hb2
  clear hb2 hx1 ht1 hB1 hl1 hn1
  have hB3 := gr_drew hB2
  go_wp2_with fail
  go_region_held3 (fun w' => Below w.heap.size w w' ∧ w'.cell? ⟨w.heap.size, 0, none⟩ = some (.string ⟨#[]⟩) ∧ w'.cell? ⟨w.heap.size, 1, none⟩ = some (.string ⟨#[]⟩))
    (first | (go_keep; done) | (go_split_ands; (repeat' apply And.intro) <;> (first | assumption | exact gr_call (by assumption) hb4 | exact cell_kept hb4 (by assumption) | (go_keep; done))))
    (first
      | (go_at_call 10; go_split_ands; refine (H3.out _).mono ?_; rintro e w4 ⟨rfl, hb4⟩)
      | (go_at_call 7; go_split_ands; refine (awake_true _).mono ?_; rintro e w4 ⟨rfl, hb4⟩))
  all_goals
    go_wp2_with fail
    go_ret
    go_split_ands
    exact ⟨rfl, by assumption⟩
set_option maxHeartbeats 1600000 in
theorem known1 (a0 : Int) (w : World) (hj : a0 % 10 = 1) (h0 : 0 ≤ a0) (h1 : a0 ≤ 255) :
    Calls Try.prog 6 #[.int .u8 a0] w fun e w' => e = .returned (.bool true) ∧ Below w.heap.size w w' := by
  have H1 := Lib.hid (fun W => Get_is ⟨#[90, 103, 61, 61]⟩ (by decide) ⟨#[102]⟩ (by decide +kernel) W)
  have H2 := Lib.hid (fun W => Get_no ⟨#[90, 103]⟩ (by decide) (get_none (by decide +kernel)) W)
  have H3 := Lib.hid (fun W => Put_is ⟨#[102]⟩ (by decide) ⟨#[90, 103, 61, 61]⟩ (by decide +kernel) W)
  go_enter Try.func6, Try.ntmps6
  go_wp2_with fail
  refine (H1.out _).mono ?_
  rintro e w1 ⟨rfl, hb1⟩
  have hx1 := cell_kept hb1 (a := ⟨w.heap.size, 2, none⟩) (v := .string ⟨#[102]⟩) (by simp [go_sem])
  have ht1 := cell_kept hb1 (a := ⟨w.heap.size, 3, none⟩) (v := .string ⟨#[90, 103, 61, 61]⟩) (by simp [go_sem])
  have hB1 : Below w.heap.size w w1 := gr_call (gr_alloc (Below.refl _ _) _) hb1
  have hl1 := block_lt hx1
  simp only at hl1
  clear hb1
  go_wp2_with fail
  refine (H2.out _).mono ?_
  rintro e w2 ⟨rfl, hb2⟩
  have hn1 : w.heap.size ≠ w1.heap.size := by omega
  have hx2 := cell_kept hb2 (a := ⟨w.heap.size, 2, none⟩) (v := .string ⟨#[102]⟩) ((World.cell?_alloc_past (w := w1) _ w.heap.size _ hl1).trans hx1)
  have ht2 := cell_kept hb2 (a := ⟨w.heap.size, 3, none⟩) (v := .string ⟨#[90, 103, 61, 61]⟩) ((World.cell?_alloc_past (w := w1) _ w.heap.size _ hl1).trans ht1)
  have hB2 : Below w.heap.size w w2 := gr_call (gr_alloc hB1 _) hb2
  clear hb2 hx1 ht1 hB1 hl1 hn1
  have hB3 := gr_drew hB2
  go_wp2_with fail
  go_region_held3 (fun w' => Below w.heap.size w w' ∧ w'.cell? ⟨w.heap.size, 2, none⟩ = some (.string ⟨#[102]⟩) ∧ w'.cell? ⟨w.heap.size, 3, none⟩ = some (.string ⟨#[90, 103, 61, 61]⟩))
    (first | (go_keep; done) | (go_split_ands; (repeat' apply And.intro) <;> (first | assumption | exact gr_call (by assumption) hb4 | exact cell_kept hb4 (by assumption) | (go_keep; done))))
    (first
      | (go_at_call 10; go_split_ands; refine (H3.out _).mono ?_; rintro e w4 ⟨rfl, hb4⟩)
      | (go_at_call 7; go_split_ands; refine (awake_true _).mono ?_; rintro e w4 ⟨rfl, hb4⟩))
  all_goals
    go_wp2_with fail
    go_ret
    go_split_ands
    exact ⟨rfl, by assumption⟩
set_option maxHeartbeats 1600000 in
theorem known2 (a0 : Int) (w : World) (hj : a0 % 10 = 2) (h0 : 0 ≤ a0) (h1 : a0 ≤ 255) :
    Calls Try.prog 6 #[.int .u8 a0] w fun e w' => e = .returned (.bool true) ∧ Below w.heap.size w w' := by
  have H1 := Lib.hid (fun W => Get_is ⟨#[90, 109, 56, 61]⟩ (by decide) ⟨#[102, 111]⟩ (by decide +kernel) W)
  have H2 := Lib.hid (fun W => Get_no ⟨#[90, 103, 61, 61, 61]⟩ (by decide) (get_none (by decide +kernel)) W)
  have H3 := Lib.hid (fun W => Put_is ⟨#[102, 111]⟩ (by decide) ⟨#[90, 109, 56, 61]⟩ (by decide +kernel) W)
  go_enter Try.func6, Try.ntmps6
  go_wp2_with fail
  refine (H1.out _).mono ?_
  rintro e w1 ⟨rfl, hb1⟩
  have hx1 := cell_kept hb1 (a := ⟨w.heap.size, 4, none⟩) (v := .string ⟨#[102, 111]⟩) (by simp [go_sem])
  have ht1 := cell_kept hb1 (a := ⟨w.heap.size, 5, none⟩) (v := .string ⟨#[90, 109, 56, 61]⟩) (by simp [go_sem])
  have hB1 : Below w.heap.size w w1 := gr_call (gr_alloc (Below.refl _ _) _) hb1
  have hl1 := block_lt hx1
  simp only at hl1
  clear hb1
  go_wp2_with fail
  refine (H2.out _).mono ?_
  rintro e w2 ⟨rfl, hb2⟩
  have hn1 : w.heap.size ≠ w1.heap.size := by omega
  have hx2 := cell_kept hb2 (a := ⟨w.heap.size, 4, none⟩) (v := .string ⟨#[102, 111]⟩) ((World.cell?_alloc_past (w := w1) _ w.heap.size _ hl1).trans hx1)
  have ht2 := cell_kept hb2 (a := ⟨w.heap.size, 5, none⟩) (v := .string ⟨#[90, 109, 56, 61]⟩) ((World.cell?_alloc_past (w := w1) _ w.heap.size _ hl1).trans ht1)
  have hB2 : Below w.heap.size w w2 := gr_call (gr_alloc hB1 _) hb2
  clear hb2 hx1 ht1 hB1 hl1 hn1
  have hB3 := gr_drew hB2
  go_wp2_with fail
  go_region_held3 (fun w' => Below w.heap.size w w' ∧ w'.cell? ⟨w.heap.size, 4, none⟩ = some (.string ⟨#[102, 111]⟩) ∧ w'.cell? ⟨w.heap.size, 5, none⟩ = some (.string ⟨#[90, 109, 56, 61]⟩))
    (first | (go_keep; done) | (go_split_ands; (repeat' apply And.intro) <;> (first | assumption | exact gr_call (by assumption) hb4 | exact cell_kept hb4 (by assumption) | (go_keep; done))))
    (first
      | (go_at_call 10; go_split_ands; refine (H3.out _).mono ?_; rintro e w4 ⟨rfl, hb4⟩)
      | (go_at_call 7; go_split_ands; refine (awake_true _).mono ?_; rintro e w4 ⟨rfl, hb4⟩))
  all_goals
    go_wp2_with fail
    go_ret
    go_split_ands
    exact ⟨rfl, by assumption⟩
set_option maxHeartbeats 1600000 in
theorem known3 (a0 : Int) (w : World) (hj : a0 % 10 = 3) (h0 : 0 ≤ a0) (h1 : a0 ≤ 255) :
    Calls Try.prog 6 #[.int .u8 a0] w fun e w' => e = .returned (.bool true) ∧ Below w.heap.size w w' := by
  have H1 := Lib.hid (fun W => Get_is ⟨#[90, 109, 57, 118]⟩ (by decide) ⟨#[102, 111, 111]⟩ (by decide +kernel) W)
  have H2 := Lib.hid (fun W => Get_no ⟨#[90]⟩ (by decide) (get_none (by decide +kernel)) W)
  have H3 := Lib.hid (fun W => Put_is ⟨#[102, 111, 111]⟩ (by decide) ⟨#[90, 109, 57, 118]⟩ (by decide +kernel) W)
  go_enter Try.func6, Try.ntmps6
  go_wp2_with fail
  refine (H1.out _).mono ?_
  rintro e w1 ⟨rfl, hb1⟩
  have hx1 := cell_kept hb1 (a := ⟨w.heap.size, 6, none⟩) (v := .string ⟨#[102, 111, 111]⟩) (by simp [go_sem])
  have ht1 := cell_kept hb1 (a := ⟨w.heap.size, 7, none⟩) (v := .string ⟨#[90, 109, 57, 118]⟩) (by simp [go_sem])
  have hB1 : Below w.heap.size w w1 := gr_call (gr_alloc (Below.refl _ _) _) hb1
  have hl1 := block_lt hx1
  simp only at hl1
  clear hb1
  go_wp2_with fail
  refine (H2.out _).mono ?_
  rintro e w2 ⟨rfl, hb2⟩
  have hn1 : w.heap.size ≠ w1.heap.size := by omega
  have hx2 := cell_kept hb2 (a := ⟨w.heap.size, 6, none⟩) (v := .string ⟨#[102, 111, 111]⟩) ((World.cell?_alloc_past (w := w1) _ w.heap.size _ hl1).trans hx1)
  have ht2 := cell_kept hb2 (a := ⟨w.heap.size, 7, none⟩) (v := .string ⟨#[90, 109, 57, 118]⟩) ((World.cell?_alloc_past (w := w1) _ w.heap.size _ hl1).trans ht1)
  have hB2 : Below w.heap.size w w2 := gr_call (gr_alloc hB1 _) hb2
  clear hb2 hx1 ht1 hB1 hl1 hn1
  have hB3 := gr_drew hB2
  go_wp2_with fail
  go_region_held3 (fun w' => Below w.heap.size w w' ∧ w'.cell? ⟨w.heap.size, 6, none⟩ = some (.string ⟨#[102, 111, 111]⟩) ∧ w'.cell? ⟨w.heap.size, 7, none⟩ = some (.string ⟨#[90, 109, 57, 118]⟩))
    (first | (go_keep; done) | (go_split_ands; (repeat' apply And.intro) <;> (first | assumption | exact gr_call (by assumption) hb4 | exact cell_kept hb4 (by assumption) | (go_keep; done))))
    (first
      | (go_at_call 10; go_split_ands; refine (H3.out _).mono ?_; rintro e w4 ⟨rfl, hb4⟩)
      | (go_at_call 7; go_split_ands; refine (awake_true _).mono ?_; rintro e w4 ⟨rfl, hb4⟩))
  all_goals
    go_wp2_with fail
    go_ret
    go_split_ands
    exact ⟨rfl, by assumption⟩
set_option maxHeartbeats 1600000 in
theorem known4 (a0 : Int) (w : World) (hj : a0 % 10 = 4) (h0 : 0 ≤ a0) (h1 : a0 ≤ 255) :
    Calls Try.prog 6 #[.int .u8 a0] w fun e w' => e = .returned (.bool true) ∧ Below w.heap.size w w' := by
  have H1 := Lib.hid (fun W => Get_is ⟨#[90, 109, 57, 118, 89, 103, 61, 61]⟩ (by decide) ⟨#[102, 111, 111, 98]⟩ (by decide +kernel) W)
  have H2 := Lib.hid (fun W => Get_no ⟨#[90, 104, 61, 61]⟩ (by decide) (get_none (by decide +kernel)) W)
  have H3 := Lib.hid (fun W => Put_is ⟨#[102, 111, 111, 98]⟩ (by decide) ⟨#[90, 109, 57, 118, 89, 103, 61, 61]⟩ (by decide +kernel) W)
  go_enter Try.func6, Try.ntmps6
  go_wp2_with fail
  refine (H1.out _).mono ?_
  rintro e w1 ⟨rfl, hb1⟩
  have hx1 := cell_kept hb1 (a := ⟨w.heap.size, 8, none⟩) (v := .string ⟨#[102, 111, 111, 98]⟩) (by simp [go_sem])
  have ht1 := cell_kept hb1 (a := ⟨w.heap.size, 9, none⟩) (v := .string ⟨#[90, 109, 57, 118, 89, 103, 61, 61]⟩) (by simp [go_sem])
  have hB1 : Below w.heap.size w w1 := gr_call (gr_alloc (Below.refl _ _) _) hb1
  have hl1 := block_lt hx1
  simp only at hl1
  clear hb1
  go_wp2_with fail
  refine (H2.out _).mono ?_
  rintro e w2 ⟨rfl, hb2⟩
  have hn1 : w.heap.size ≠ w1.heap.size := by omega
  have hx2 := cell_kept hb2 (a := ⟨w.heap.size, 8, none⟩) (v := .string ⟨#[102, 111, 111, 98]⟩) ((World.cell?_alloc_past (w := w1) _ w.heap.size _ hl1).trans hx1)
  have ht2 := cell_kept hb2 (a := ⟨w.heap.size, 9, none⟩) (v := .string ⟨#[90, 109, 57, 118, 89, 103, 61, 61]⟩) ((World.cell?_alloc_past (w := w1) _ w.heap.size _ hl1).trans ht1)
  have hB2 : Below w.heap.size w w2 := gr_call (gr_alloc hB1 _) hb2
  clear hb2 hx1 ht1 hB1 hl1 hn1
  have hB3 := gr_drew hB2
  go_wp2_with fail
  go_region_held3 (fun w' => Below w.heap.size w w' ∧ w'.cell? ⟨w.heap.size, 8, none⟩ = some (.string ⟨#[102, 111, 111, 98]⟩) ∧ w'.cell? ⟨w.heap.size, 9, none⟩ = some (.string ⟨#[90, 109, 57, 118, 89, 103, 61, 61]⟩))
    (first | (go_keep; done) | (go_split_ands; (repeat' apply And.intro) <;> (first | assumption | exact gr_call (by assumption) hb4 | exact cell_kept hb4 (by assumption) | (go_keep; done))))
    (first
      | (go_at_call 10; go_split_ands; refine (H3.out _).mono ?_; rintro e w4 ⟨rfl, hb4⟩)
      | (go_at_call 7; go_split_ands; refine (awake_true _).mono ?_; rintro e w4 ⟨rfl, hb4⟩))
  all_goals
    go_wp2_with fail
    go_ret
    go_split_ands
    exact ⟨rfl, by assumption⟩
end Go.Proofs.Ythebijpdpchpcaa
