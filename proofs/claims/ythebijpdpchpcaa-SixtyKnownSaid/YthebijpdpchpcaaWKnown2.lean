/- The walk of the law SixtyKnown. -/
import Derived.Test.YthebijpdpchpcaaWSixtyBack
import Derived.Deep.RegionHeld3
namespace Go.Proofs.Ythebijpdpchpcaa
open Go.RowKit
open SixM
set_option linter.unusedVariables false

set_option maxHeartbeats 1600000 in
theorem known5 (a0 : Int) (w : World) (hj : a0 % 10 = 5) (h0 : 0 ≤ a0) (h1 : a0 ≤ 255) :
    Calls Try.prog 6 #[.int .u8 a0] w fun e w' => e = .returned (.bool true) ∧ Below w.heap.size w w' := by
  have H1 := Lib.hid (fun W => Get_is ⟨#[90, 109, 57, 118, 89, 109, 69, 61]⟩ (by decide) ⟨#[102, 111, 111, 98, 97]⟩ (by decide +kernel) W)
  have H2 := Lib.hid (fun W => Get_no ⟨#[90, 109, 57]⟩ (by decide) (get_none (by decide +kernel)) W)
  have H3 := Lib.hid (fun W => Put_is ⟨#[102, 111, 111, 98, 97]⟩ (by decide) ⟨#[90, 109, 57, 118, 89, 109, 69, 61]⟩ (by decide +kernel) W)
  go_enter Try.func6, Try.ntmps6
  go_wp2_with fail
  refine (H1.out _).mono ?_
  rintro e w1 ⟨rfl, hb1⟩
  have hx1 := cell_kept hb1 (a := ⟨w.heap.size, 10, none⟩) (v := .string ⟨#[102, 111, 111, 98, 97]⟩) (by simp [go_sem])
  have ht1 := cell_kept hb1 (a := ⟨w.heap.size, 11, none⟩) (v := .string ⟨#[90, 109, 57, 118, 89, 109, 69, 61]⟩) (by simp [go_sem])
  have hB1 : Below w.heap.size w w1 := gr_call (gr_alloc (Below.refl _ _) _) hb1
  have hl1 := block_lt hx1
  simp only at hl1
  clear hb1
  go_wp2_with fail
  refine (H2.out _).mono ?_
  rintro e w2 ⟨rfl, hb2⟩
  have hn1 : w.heap.size ≠ w1.heap.size := by omega
  have hx2 := cell_kept hb2 (a := ⟨w.heap.size, 10, none⟩) (v := .string ⟨#[102, 111, 111, 98, 97]⟩) ((World.cell?_alloc_past (w := w1) _ w.heap.size _ hl1).trans hx1)
  have ht2 := cell_kept hb2 (a := ⟨w.heap.size, 11, none⟩) (v := .string ⟨#[90, 109, 57, 118, 89, 109, 69, 61]⟩) ((World.cell?_alloc_past (w := w1) _ w.heap.size _ hl1).trans ht1)
  have hB2 : Below w.heap.size w w2 := gr_call (gr_alloc hB1 _) hb2
  clear hb2 hx1 ht1 hB1 hl1 hn1
  have hB3 := gr_drew hB2
  go_wp2_with fail
  go_region_held3 (fun w' => Below w.heap.size w w' ∧ w'.cell? ⟨w.heap.size, 10, none⟩ = some (.string ⟨#[102, 111, 111, 98, 97]⟩) ∧ w'.cell? ⟨w.heap.size, 11, none⟩ = some (.string ⟨#[90, 109, 57, 118, 89, 109, 69, 61]⟩))
    (first | (go_keep; done) | (go_split_ands; (repeat' apply And.intro) <;> (first | assumption | exact gr_call (by assumption) hb4 | exact cell_kept hb4 (by assumption) | (go_keep; done))))
    (first
      | (go_at_call 10; go_split_ands; refine (H3.out _).mono ?_; rintro e w4 ⟨rfl, hb4⟩)
      | (go_at_call 7; go_split_ands; refine (awake_true _).mono ?_; rintro e w4 ⟨rfl, hb4⟩))
  all_goals
    go_wp2_with fail
    go_ret
    go_split_ands
    exact ⟨rfl, by assumption⟩
set_option maxHeartbeats 1600000 in
theorem known6 (a0 : Int) (w : World) (hj : a0 % 10 = 6) (h0 : 0 ≤ a0) (h1 : a0 ≤ 255) :
    Calls Try.prog 6 #[.int .u8 a0] w fun e w' => e = .returned (.bool true) ∧ Below w.heap.size w w' := by
  have H1 := Lib.hid (fun W => Get_is ⟨#[90, 109, 57, 118, 89, 109, 70, 121]⟩ (by decide) ⟨#[102, 111, 111, 98, 97, 114]⟩ (by decide +kernel) W)
  have H2 := Lib.hid (fun W => Get_no ⟨#[90, 109, 56]⟩ (by decide) (get_none (by decide +kernel)) W)
  have H3 := Lib.hid (fun W => Put_is ⟨#[102, 111, 111, 98, 97, 114]⟩ (by decide) ⟨#[90, 109, 57, 118, 89, 109, 70, 121]⟩ (by decide +kernel) W)
  go_enter Try.func6, Try.ntmps6
  go_wp2_with fail
  refine (H1.out _).mono ?_
  rintro e w1 ⟨rfl, hb1⟩
  have hx1 := cell_kept hb1 (a := ⟨w.heap.size, 12, none⟩) (v := .string ⟨#[102, 111, 111, 98, 97, 114]⟩) (by simp [go_sem])
  have ht1 := cell_kept hb1 (a := ⟨w.heap.size, 13, none⟩) (v := .string ⟨#[90, 109, 57, 118, 89, 109, 70, 121]⟩) (by simp [go_sem])
  have hB1 : Below w.heap.size w w1 := gr_call (gr_alloc (Below.refl _ _) _) hb1
  have hl1 := block_lt hx1
  simp only at hl1
  clear hb1
  go_wp2_with fail
  refine (H2.out _).mono ?_
  rintro e w2 ⟨rfl, hb2⟩
  have hn1 : w.heap.size ≠ w1.heap.size := by omega
  have hx2 := cell_kept hb2 (a := ⟨w.heap.size, 12, none⟩) (v := .string ⟨#[102, 111, 111, 98, 97, 114]⟩) ((World.cell?_alloc_past (w := w1) _ w.heap.size _ hl1).trans hx1)
  have ht2 := cell_kept hb2 (a := ⟨w.heap.size, 13, none⟩) (v := .string ⟨#[90, 109, 57, 118, 89, 109, 70, 121]⟩) ((World.cell?_alloc_past (w := w1) _ w.heap.size _ hl1).trans ht1)
  have hB2 : Below w.heap.size w w2 := gr_call (gr_alloc hB1 _) hb2
  clear hb2 hx1 ht1 hB1 hl1 hn1
  have hB3 := gr_drew hB2
  go_wp2_with fail
  go_region_held3 (fun w' => Below w.heap.size w w' ∧ w'.cell? ⟨w.heap.size, 12, none⟩ = some (.string ⟨#[102, 111, 111, 98, 97, 114]⟩) ∧ w'.cell? ⟨w.heap.size, 13, none⟩ = some (.string ⟨#[90, 109, 57, 118, 89, 109, 70, 121]⟩))
    (first | (go_keep; done) | (go_split_ands; (repeat' apply And.intro) <;> (first | assumption | exact gr_call (by assumption) hb4 | exact cell_kept hb4 (by assumption) | (go_keep; done))))
    (first
      | (go_at_call 10; go_split_ands; refine (H3.out _).mono ?_; rintro e w4 ⟨rfl, hb4⟩)
      | (go_at_call 7; go_split_ands; refine (awake_true _).mono ?_; rintro e w4 ⟨rfl, hb4⟩))
  all_goals
    go_wp2_with fail
    go_ret
    go_split_ands
    exact ⟨rfl, by assumption⟩
set_option maxHeartbeats 1600000 in
theorem known7 (a0 : Int) (w : World) (hj : a0 % 10 = 7) (h0 : 0 ≤ a0) (h1 : a0 ≤ 255) :
    Calls Try.prog 6 #[.int .u8 a0] w fun e w' => e = .returned (.bool true) ∧ Below w.heap.size w w' := by
  have H1 := Lib.hid (fun W => Get_is ⟨#[47, 47, 47, 47]⟩ (by decide) ⟨#[255, 255, 255]⟩ (by decide +kernel) W)
  have H2 := Lib.hid (fun W => Get_no ⟨#[61, 90, 103, 61]⟩ (by decide) (get_none (by decide +kernel)) W)
  have H3 := Lib.hid (fun W => Put_is ⟨#[255, 255, 255]⟩ (by decide) ⟨#[47, 47, 47, 47]⟩ (by decide +kernel) W)
  go_enter Try.func6, Try.ntmps6
  go_wp2_with fail
  refine (H1.out _).mono ?_
  rintro e w1 ⟨rfl, hb1⟩
  have hx1 := cell_kept hb1 (a := ⟨w.heap.size, 14, none⟩) (v := .string ⟨#[255, 255, 255]⟩) (by simp [go_sem])
  have ht1 := cell_kept hb1 (a := ⟨w.heap.size, 15, none⟩) (v := .string ⟨#[47, 47, 47, 47]⟩) (by simp [go_sem])
  have hB1 : Below w.heap.size w w1 := gr_call (gr_alloc (Below.refl _ _) _) hb1
  have hl1 := block_lt hx1
  simp only at hl1
  clear hb1
  go_wp2_with fail
  refine (H2.out _).mono ?_
  rintro e w2 ⟨rfl, hb2⟩
  have hn1 : w.heap.size ≠ w1.heap.size := by omega
  have hx2 := cell_kept hb2 (a := ⟨w.heap.size, 14, none⟩) (v := .string ⟨#[255, 255, 255]⟩) ((World.cell?_alloc_past (w := w1) _ w.heap.size _ hl1).trans hx1)
  have ht2 := cell_kept hb2 (a := ⟨w.heap.size, 15, none⟩) (v := .string ⟨#[47, 47, 47, 47]⟩) ((World.cell?_alloc_past (w := w1) _ w.heap.size _ hl1).trans ht1)
  have hB2 : Below w.heap.size w w2 := gr_call (gr_alloc hB1 _) hb2
  clear hb2 hx1 ht1 hB1 hl1 hn1
  have hB3 := gr_drew hB2
  go_wp2_with fail
  go_region_held3 (fun w' => Below w.heap.size w w' ∧ w'.cell? ⟨w.heap.size, 14, none⟩ = some (.string ⟨#[255, 255, 255]⟩) ∧ w'.cell? ⟨w.heap.size, 15, none⟩ = some (.string ⟨#[47, 47, 47, 47]⟩))
    (first | (go_keep; done) | (go_split_ands; (repeat' apply And.intro) <;> (first | assumption | exact gr_call (by assumption) hb4 | exact cell_kept hb4 (by assumption) | (go_keep; done))))
    (first
      | (go_at_call 10; go_split_ands; refine (H3.out _).mono ?_; rintro e w4 ⟨rfl, hb4⟩)
      | (go_at_call 7; go_split_ands; refine (awake_true _).mono ?_; rintro e w4 ⟨rfl, hb4⟩))
  all_goals
    go_wp2_with fail
    go_ret
    go_split_ands
    exact ⟨rfl, by assumption⟩
set_option maxHeartbeats 1600000 in
theorem known8 (a0 : Int) (w : World) (hj : a0 % 10 = 8) (h0 : 0 ≤ a0) (h1 : a0 ≤ 255) :
    Calls Try.prog 6 #[.int .u8 a0] w fun e w' => e = .returned (.bool true) ∧ Below w.heap.size w w' := by
  have H1 := Lib.hid (fun W => Get_is ⟨#[65, 65, 61, 61]⟩ (by decide) ⟨#[0]⟩ (by decide +kernel) W)
  have H2 := Lib.hid (fun W => Get_no ⟨#[90, 103, 61, 61, 90, 103, 61, 61]⟩ (by decide) (get_none (by decide +kernel)) W)
  have H3 := Lib.hid (fun W => Put_is ⟨#[0]⟩ (by decide) ⟨#[65, 65, 61, 61]⟩ (by decide +kernel) W)
  go_enter Try.func6, Try.ntmps6
  go_wp2_with fail
  refine (H1.out _).mono ?_
  rintro e w1 ⟨rfl, hb1⟩
  have hx1 := cell_kept hb1 (a := ⟨w.heap.size, 16, none⟩) (v := .string ⟨#[0]⟩) (by simp [go_sem])
  have ht1 := cell_kept hb1 (a := ⟨w.heap.size, 17, none⟩) (v := .string ⟨#[65, 65, 61, 61]⟩) (by simp [go_sem])
  have hB1 : Below w.heap.size w w1 := gr_call (gr_alloc (Below.refl _ _) _) hb1
  have hl1 := block_lt hx1
  simp only at hl1
  clear hb1
  go_wp2_with fail
  refine (H2.out _).mono ?_
  rintro e w2 ⟨rfl, hb2⟩
  have hn1 : w.heap.size ≠ w1.heap.size := by omega
  have hx2 := cell_kept hb2 (a := ⟨w.heap.size, 16, none⟩) (v := .string ⟨#[0]⟩) ((World.cell?_alloc_past (w := w1) _ w.heap.size _ hl1).trans hx1)
  have ht2 := cell_kept hb2 (a := ⟨w.heap.size, 17, none⟩) (v := .string ⟨#[65, 65, 61, 61]⟩) ((World.cell?_alloc_past (w := w1) _ w.heap.size _ hl1).trans ht1)
  have hB2 : Below w.heap.size w w2 := gr_call (gr_alloc hB1 _) hb2
  clear hb2 hx1 ht1 hB1 hl1 hn1
  have hB3 := gr_drew hB2
  go_wp2_with fail
  go_region_held3 (fun w' => Below w.heap.size w w' ∧ w'.cell? ⟨w.heap.size, 16, none⟩ = some (.string ⟨#[0]⟩) ∧ w'.cell? ⟨w.heap.size, 17, none⟩ = some (.string ⟨#[65, 65, 61, 61]⟩))
    (first | (go_keep; done) | (go_split_ands; (repeat' apply And.intro) <;> (first | assumption | exact gr_call (by assumption) hb4 | exact cell_kept hb4 (by assumption) | (go_keep; done))))
    (first
      | (go_at_call 10; go_split_ands; refine (H3.out _).mono ?_; rintro e w4 ⟨rfl, hb4⟩)
      | (go_at_call 7; go_split_ands; refine (awake_true _).mono ?_; rintro e w4 ⟨rfl, hb4⟩))
  all_goals
    go_wp2_with fail
    go_ret
    go_split_ands
    exact ⟨rfl, by assumption⟩
set_option maxHeartbeats 1600000 in
theorem known9 (a0 : Int) (w : World) (hj : a0 % 10 = 9) (h0 : 0 ≤ a0) (h1 : a0 ≤ 255) :
    Calls Try.prog 6 #[.int .u8 a0] w fun e w' => e = .returned (.bool true) ∧ Below w.heap.size w w' := by
  have H1 := Lib.hid (fun W => Get_is ⟨#[43, 43, 65, 61]⟩ (by decide) ⟨#[251, 224]⟩ (by decide +kernel) W)
  have H2 := Lib.hid (fun W => Get_no ⟨#[90, 109, 45, 118]⟩ (by decide) (get_none (by decide +kernel)) W)
  have H3 := Lib.hid (fun W => Put_is ⟨#[251, 224]⟩ (by decide) ⟨#[43, 43, 65, 61]⟩ (by decide +kernel) W)
  go_enter Try.func6, Try.ntmps6
  go_wp2_with fail
  refine (H1.out _).mono ?_
  rintro e w1 ⟨rfl, hb1⟩
  have hx1 := cell_kept hb1 (a := ⟨w.heap.size, 18, none⟩) (v := .string ⟨#[251, 224]⟩) (by simp [go_sem])
  have ht1 := cell_kept hb1 (a := ⟨w.heap.size, 19, none⟩) (v := .string ⟨#[43, 43, 65, 61]⟩) (by simp [go_sem])
  have hB1 : Below w.heap.size w w1 := gr_call (gr_alloc (Below.refl _ _) _) hb1
  have hl1 := block_lt hx1
  simp only at hl1
  clear hb1
  go_wp2_with fail
  refine (H2.out _).mono ?_
  rintro e w2 ⟨rfl, hb2⟩
  have hn1 : w.heap.size ≠ w1.heap.size := by omega
  have hx2 := cell_kept hb2 (a := ⟨w.heap.size, 18, none⟩) (v := .string ⟨#[251, 224]⟩) ((World.cell?_alloc_past (w := w1) _ w.heap.size _ hl1).trans hx1)
  have ht2 := cell_kept hb2 (a := ⟨w.heap.size, 19, none⟩) (v := .string ⟨#[43, 43, 65, 61]⟩) ((World.cell?_alloc_past (w := w1) _ w.heap.size _ hl1).trans ht1)
  have hB2 : Below w.heap.size w w2 := gr_call (gr_alloc hB1 _) hb2
  clear hb2 hx1 ht1 hB1 hl1 hn1
  have hB3 := gr_drew hB2
  go_wp2_with fail
  go_region_held3 (fun w' => Below w.heap.size w w' ∧ w'.cell? ⟨w.heap.size, 18, none⟩ = some (.string ⟨#[251, 224]⟩) ∧ w'.cell? ⟨w.heap.size, 19, none⟩ = some (.string ⟨#[43, 43, 65, 61]⟩))
    (first | (go_keep; done) | (go_split_ands; (repeat' apply And.intro) <;> (first | assumption | exact gr_call (by assumption) hb4 | exact cell_kept hb4 (by assumption) | (go_keep; done))))
    (first
      | (go_at_call 10; go_split_ands; refine (H3.out _).mono ?_; rintro e w4 ⟨rfl, hb4⟩)
      | (go_at_call 7; go_split_ands; refine (awake_true _).mono ?_; rintro e w4 ⟨rfl, hb4⟩))
  all_goals
    go_wp2_with fail
    go_ret
    go_split_ands
    exact ⟨rfl, by assumption⟩
end Go.Proofs.Ythebijpdpchpcaa
