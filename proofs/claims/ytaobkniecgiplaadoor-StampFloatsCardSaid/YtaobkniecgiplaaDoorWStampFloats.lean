/- The walk of the law StampFloats. -/
import Derived.Test.YtaobkniecgiplaaDoorStampAwake
import Derived.Test.YtaobkniecgiplaaDoorStampFloat3
namespace Go.Proofs.YtaobkniecgiplaaDoor
open Go.RowKit
open StampM
open FloatM

set_option maxRecDepth 100000 in
set_option maxHeartbeats 1000000 in
theorem fl_oy (b : Nat) (a1 b1 : Int) (w : World) (hA : Amb w) (hk : Out b) (hm : mayF a1 b1 = true) :
    Calls Tryd.prog 4 #[.float .f64 b, .agg #[.int .i64 a1, .int .i64 b1]] w fun e w' => e = .returned (.bool true) ∧ Below w.heap.size w w' := by
  have HP := Lib.hid (fun W => fromFloat_none b W hk)
  have HR := Lib.hid (fun W => refFrom_none b W hk)
  have HO := Lib.hid (fun W => refMay_yes a1 b1 W hm)
  have hb := (may_iff a1 b1).1 hm
  have HF := Lib.hid (fun W => float_any a1 b1 W hb.1 (by omega))
  have HG := Lib.hid (fun W => refFloat_any a1 b1 W hb.1 (by omega))
  have heq := (sum_is a1 b1 hb.1 (by omega)).2
  clear hb
  generalize fltW a1 b1 = R at *
  clear hk hm
  go_enter Tryd.func4, Tryd.ntmps4
  go_wp2_with fail
  refine (HP.out _).mono ?_
  rintro e w1 ⟨rfl, hbw1⟩
  have hzw1 := hbw1.size
  try simp at hzw1
  have : w.heap.size < w1.heap.size := by omega
  have : w.heap.size ≤ w1.heap.size := by omega
  have : w1.cell? ⟨w.heap.size, 0, none⟩ = some (.int .i64 a1) := cell_kept hbw1 (by simp [go_sem, *])
  have : w1.frozen? ⟨w.heap.size, 0, none⟩ = false := free_kept hbw1 (v := .int .i64 a1) (by simp [go_sem, *]) (by simp [go_sem, *])
  have : w.heap.size < w1.heap.size := by omega
  have : w.heap.size ≤ w1.heap.size := by omega
  have : w1.cell? ⟨w.heap.size, 1, none⟩ = some (.int .i64 b1) := cell_kept hbw1 (by simp [go_sem, *])
  have : w1.frozen? ⟨w.heap.size, 1, none⟩ = false := free_kept hbw1 (v := .int .i64 b1) (by simp [go_sem, *]) (by simp [go_sem, *])
  go_wp2_with fail
  refine (HR.out _).mono ?_
  rintro e w2 ⟨rfl, hbw2⟩
  have hzw2 := hbw2.size
  try simp at hzw2
  have : w.heap.size < w2.heap.size := by omega
  have : w.heap.size ≤ w2.heap.size := by omega
  have : w2.cell? ⟨w.heap.size, 0, none⟩ = some (.int .i64 a1) := cell_kept hbw2 (by simp [go_sem, *])
  have : w2.frozen? ⟨w.heap.size, 0, none⟩ = false := free_kept hbw2 (v := .int .i64 a1) (by simp [go_sem, *]) (by simp [go_sem, *])
  have : w.heap.size < w2.heap.size := by omega
  have : w.heap.size ≤ w2.heap.size := by omega
  have : w2.cell? ⟨w.heap.size, 1, none⟩ = some (.int .i64 b1) := cell_kept hbw2 (by simp [go_sem, *])
  have : w2.frozen? ⟨w.heap.size, 1, none⟩ = false := free_kept hbw2 (v := .int .i64 b1) (by simp [go_sem, *]) (by simp [go_sem, *])
  have : w1.heap.size < w2.heap.size := by omega
  have : w1.heap.size ≤ w2.heap.size := by omega
  have : w2.cell? ⟨w1.heap.size, 0, none⟩ = some (.int .i64 0) := cell_kept hbw2 (by simp [go_sem, *])
  have : w2.frozen? ⟨w1.heap.size, 0, none⟩ = false := free_kept hbw2 (v := .int .i64 0) (by simp [go_sem, *]) (by simp [go_sem, *])
  have : w1.heap.size < w2.heap.size := by omega
  have : w1.heap.size ≤ w2.heap.size := by omega
  have : w2.cell? ⟨w1.heap.size, 1, none⟩ = some (.int .i64 0) := cell_kept hbw2 (by simp [go_sem, *])
  have : w2.frozen? ⟨w1.heap.size, 1, none⟩ = false := free_kept hbw2 (v := .int .i64 0) (by simp [go_sem, *]) (by simp [go_sem, *])
  go_upto_region 5 with fail
  have hB1 : Below w.heap.size w (w2.alloc (.cells #[.int .i64 0, .int .i64 0, .bool false] 28)).drew := by (repeat' (first | exact Below.refl _ _ | assumption | refine gr_drew ?_ | refine gr_drewN ?_ _ | refine gr_alloc ?_ _ | refine gr_set ?_ ?_ _ | refine gr_call ?_ (by assumption)) <;> (try (simp; done)) <;> (try (simp; omega)) <;> (try omega))
  have hA1 := hA.on hB1
  go_region_held3 (fun w' => Amb w' ∧ Below w.heap.size w w' ∧ w'.cell? ⟨w.heap.size, 0, none⟩ = some (.int .i64 a1) ∧ w'.cell? ⟨w.heap.size, 1, none⟩ = some (.int .i64 b1))
    (first | (go_keep; done) | (go_split_ands; (repeat' apply And.intro) <;> (first | assumption | exact Amb.on (by assumption) hb1 | exact gr_call (by assumption) hb1 | exact cell_kept hb1 (by assumption) | (show Below _ _ _; (repeat' (first | exact Below.refl _ _ | assumption | refine gr_drew ?_ | refine gr_drewN ?_ _ | refine gr_alloc ?_ _ | refine gr_set ?_ ?_ _ | refine gr_call ?_ (by assumption)) <;> (try (simp; done)) <;> (try (simp; omega)) <;> (try omega)); done) | (go_keep; done) | (simp [go_sem, *]; done))))
    (first
      | (go_at_call 14; go_split_ands; refine (HO.out _).mono ?_; rintro e w1 ⟨rfl, hb1⟩)
      | (go_at_call 21; go_split_ands; refine (HF.out _).mono ?_; rintro e w1 ⟨rfl, hb1⟩)
      | (go_at_call 22; go_split_ands; refine (HG.out _).mono ?_; rintro e w1 ⟨rfl, hb1⟩)
      | (go_at_call 10; go_split_ands; refine (awake_any _ (by assumption)).mono ?_; rintro e w1 ⟨rfl, hb1⟩))
  all_goals
    go_split_ands
    go_wp2_with fail
    go_ret
    exact ⟨rfl, by assumption⟩

set_option maxRecDepth 100000 in
set_option maxHeartbeats 1000000 in
theorem fl_on (b : Nat) (a1 b1 : Int) (w : World) (hA : Amb w) (hk : Out b) (hm : mayF a1 b1 = false) :
    Calls Tryd.prog 4 #[.float .f64 b, .agg #[.int .i64 a1, .int .i64 b1]] w fun e w' => e = .returned (.bool true) ∧ Below w.heap.size w w' := by
  have HP := Lib.hid (fun W => fromFloat_none b W hk)
  have HR := Lib.hid (fun W => refFrom_none b W hk)
  have HO := Lib.hid (fun W => refMay_no a1 b1 W hm)
  clear hk hm
  go_enter Tryd.func4, Tryd.ntmps4
  go_wp2_with fail
  refine (HP.out _).mono ?_
  rintro e w1 ⟨rfl, hbw1⟩
  have hzw1 := hbw1.size
  try simp at hzw1
  have : w.heap.size < w1.heap.size := by omega
  have : w.heap.size ≤ w1.heap.size := by omega
  have : w1.cell? ⟨w.heap.size, 0, none⟩ = some (.int .i64 a1) := cell_kept hbw1 (by simp [go_sem, *])
  have : w1.frozen? ⟨w.heap.size, 0, none⟩ = false := free_kept hbw1 (v := .int .i64 a1) (by simp [go_sem, *]) (by simp [go_sem, *])
  have : w.heap.size < w1.heap.size := by omega
  have : w.heap.size ≤ w1.heap.size := by omega
  have : w1.cell? ⟨w.heap.size, 1, none⟩ = some (.int .i64 b1) := cell_kept hbw1 (by simp [go_sem, *])
  have : w1.frozen? ⟨w.heap.size, 1, none⟩ = false := free_kept hbw1 (v := .int .i64 b1) (by simp [go_sem, *]) (by simp [go_sem, *])
  go_wp2_with fail
  refine (HR.out _).mono ?_
  rintro e w2 ⟨rfl, hbw2⟩
  have hzw2 := hbw2.size
  try simp at hzw2
  have : w.heap.size < w2.heap.size := by omega
  have : w.heap.size ≤ w2.heap.size := by omega
  have : w2.cell? ⟨w.heap.size, 0, none⟩ = some (.int .i64 a1) := cell_kept hbw2 (by simp [go_sem, *])
  have : w2.frozen? ⟨w.heap.size, 0, none⟩ = false := free_kept hbw2 (v := .int .i64 a1) (by simp [go_sem, *]) (by simp [go_sem, *])
  have : w.heap.size < w2.heap.size := by omega
  have : w.heap.size ≤ w2.heap.size := by omega
  have : w2.cell? ⟨w.heap.size, 1, none⟩ = some (.int .i64 b1) := cell_kept hbw2 (by simp [go_sem, *])
  have : w2.frozen? ⟨w.heap.size, 1, none⟩ = false := free_kept hbw2 (v := .int .i64 b1) (by simp [go_sem, *]) (by simp [go_sem, *])
  have : w1.heap.size < w2.heap.size := by omega
  have : w1.heap.size ≤ w2.heap.size := by omega
  have : w2.cell? ⟨w1.heap.size, 0, none⟩ = some (.int .i64 0) := cell_kept hbw2 (by simp [go_sem, *])
  have : w2.frozen? ⟨w1.heap.size, 0, none⟩ = false := free_kept hbw2 (v := .int .i64 0) (by simp [go_sem, *]) (by simp [go_sem, *])
  have : w1.heap.size < w2.heap.size := by omega
  have : w1.heap.size ≤ w2.heap.size := by omega
  have : w2.cell? ⟨w1.heap.size, 1, none⟩ = some (.int .i64 0) := cell_kept hbw2 (by simp [go_sem, *])
  have : w2.frozen? ⟨w1.heap.size, 1, none⟩ = false := free_kept hbw2 (v := .int .i64 0) (by simp [go_sem, *]) (by simp [go_sem, *])
  go_upto_region 5 with fail
  go_region_with (first
      | (go_at_call 14; refine (HO.out _).mono ?_; rintro e w3 ⟨rfl, hbw3⟩)
      | (go_at_call 10; refine (awake_any _ (hA.on (by (repeat' (first | exact Below.refl _ _ | assumption | refine gr_drew ?_ | refine gr_drewN ?_ _ | refine gr_alloc ?_ _ | refine gr_set ?_ ?_ _ | refine gr_call ?_ (by assumption)) <;> (try (simp; done)) <;> (try (simp; omega)) <;> (try omega))))).mono ?_; rintro e w4 ⟨rfl, hbw4⟩))
  all_goals
    go_wp2_with fail
    go_ret
    exact ⟨rfl, by (repeat' (first | exact Below.refl _ _ | assumption | refine gr_drew ?_ | refine gr_drewN ?_ _ | refine gr_alloc ?_ _ | refine gr_set ?_ ?_ _ | refine gr_call ?_ (by assumption)) <;> (try (simp; done)) <;> (try (simp; omega)) <;> (try omega))⟩

set_option maxRecDepth 100000 in
set_option maxHeartbeats 1000000 in
theorem fl_zy (b : Nat) (a1 b1 : Int) (w : World) (hA : Amb w) (hk : b = 0 ∨ b = 9223372036854775808) (hm : mayF a1 b1 = true) :
    Calls Tryd.prog 4 #[.float .f64 b, .agg #[.int .i64 a1, .int .i64 b1]] w fun e w' => e = .returned (.bool true) ∧ Below w.heap.size w w' := by
  have HP := Lib.hid (fun W => fromFloat_zero b W hk)
  have HR := Lib.hid (fun W => refFrom_zero b W hk)
  have HO := Lib.hid (fun W => refMay_yes a1 b1 W hm)
  have hb := (may_iff a1 b1).1 hm
  have HF := Lib.hid (fun W => float_any a1 b1 W hb.1 (by omega))
  have HG := Lib.hid (fun W => refFloat_any a1 b1 W hb.1 (by omega))
  have heq := (sum_is a1 b1 hb.1 (by omega)).2
  clear hb
  generalize fltW a1 b1 = R at *
  clear hk hm
  go_enter Tryd.func4, Tryd.ntmps4
  go_wp2_with fail
  refine (HP.out _).mono ?_
  rintro e w1 ⟨rfl, hbw1⟩
  have hzw1 := hbw1.size
  try simp at hzw1
  have : w.heap.size < w1.heap.size := by omega
  have : w.heap.size ≤ w1.heap.size := by omega
  have : w1.cell? ⟨w.heap.size, 0, none⟩ = some (.int .i64 a1) := cell_kept hbw1 (by simp [go_sem, *])
  have : w1.frozen? ⟨w.heap.size, 0, none⟩ = false := free_kept hbw1 (v := .int .i64 a1) (by simp [go_sem, *]) (by simp [go_sem, *])
  have : w.heap.size < w1.heap.size := by omega
  have : w.heap.size ≤ w1.heap.size := by omega
  have : w1.cell? ⟨w.heap.size, 1, none⟩ = some (.int .i64 b1) := cell_kept hbw1 (by simp [go_sem, *])
  have : w1.frozen? ⟨w.heap.size, 1, none⟩ = false := free_kept hbw1 (v := .int .i64 b1) (by simp [go_sem, *]) (by simp [go_sem, *])
  go_wp2_with fail
  refine (HR.out _).mono ?_
  rintro e w2 ⟨rfl, hbw2⟩
  have hzw2 := hbw2.size
  try simp at hzw2
  have : w.heap.size < w2.heap.size := by omega
  have : w.heap.size ≤ w2.heap.size := by omega
  have : w2.cell? ⟨w.heap.size, 0, none⟩ = some (.int .i64 a1) := cell_kept hbw2 (by simp [go_sem, *])
  have : w2.frozen? ⟨w.heap.size, 0, none⟩ = false := free_kept hbw2 (v := .int .i64 a1) (by simp [go_sem, *]) (by simp [go_sem, *])
  have : w.heap.size < w2.heap.size := by omega
  have : w.heap.size ≤ w2.heap.size := by omega
  have : w2.cell? ⟨w.heap.size, 1, none⟩ = some (.int .i64 b1) := cell_kept hbw2 (by simp [go_sem, *])
  have : w2.frozen? ⟨w.heap.size, 1, none⟩ = false := free_kept hbw2 (v := .int .i64 b1) (by simp [go_sem, *]) (by simp [go_sem, *])
  have : w1.heap.size < w2.heap.size := by omega
  have : w1.heap.size ≤ w2.heap.size := by omega
  have : w2.cell? ⟨w1.heap.size, 0, none⟩ = some (.int .i64 0) := cell_kept hbw2 (by simp [go_sem, *])
  have : w2.frozen? ⟨w1.heap.size, 0, none⟩ = false := free_kept hbw2 (v := .int .i64 0) (by simp [go_sem, *]) (by simp [go_sem, *])
  have : w1.heap.size < w2.heap.size := by omega
  have : w1.heap.size ≤ w2.heap.size := by omega
  have : w2.cell? ⟨w1.heap.size, 1, none⟩ = some (.int .i64 0) := cell_kept hbw2 (by simp [go_sem, *])
  have : w2.frozen? ⟨w1.heap.size, 1, none⟩ = false := free_kept hbw2 (v := .int .i64 0) (by simp [go_sem, *]) (by simp [go_sem, *])
  go_upto_region 5 with fail
  have hB1 : Below w.heap.size w (w2.alloc (.cells #[.int .i64 0, .int .i64 0, .bool true] 28)).drew := by (repeat' (first | exact Below.refl _ _ | assumption | refine gr_drew ?_ | refine gr_drewN ?_ _ | refine gr_alloc ?_ _ | refine gr_set ?_ ?_ _ | refine gr_call ?_ (by assumption)) <;> (try (simp; done)) <;> (try (simp; omega)) <;> (try omega))
  have hA1 := hA.on hB1
  go_region_held3 (fun w' => Amb w' ∧ Below w.heap.size w w' ∧ w'.cell? ⟨w.heap.size, 0, none⟩ = some (.int .i64 a1) ∧ w'.cell? ⟨w.heap.size, 1, none⟩ = some (.int .i64 b1))
    (first | (go_keep; done) | (go_split_ands; (repeat' apply And.intro) <;> (first | assumption | exact Amb.on (by assumption) hb1 | exact gr_call (by assumption) hb1 | exact cell_kept hb1 (by assumption) | (show Below _ _ _; (repeat' (first | exact Below.refl _ _ | assumption | refine gr_drew ?_ | refine gr_drewN ?_ _ | refine gr_alloc ?_ _ | refine gr_set ?_ ?_ _ | refine gr_call ?_ (by assumption)) <;> (try (simp; done)) <;> (try (simp; omega)) <;> (try omega)); done) | (go_keep; done) | (simp [go_sem, *]; done))))
    (first
      | (go_at_call 14; go_split_ands; refine (HO.out _).mono ?_; rintro e w1 ⟨rfl, hb1⟩)
      | (go_at_call 21; go_split_ands; refine (HF.out _).mono ?_; rintro e w1 ⟨rfl, hb1⟩)
      | (go_at_call 22; go_split_ands; refine (HG.out _).mono ?_; rintro e w1 ⟨rfl, hb1⟩)
      | (go_at_call 10; go_split_ands; refine (awake_any _ (by assumption)).mono ?_; rintro e w1 ⟨rfl, hb1⟩))
  all_goals
    go_split_ands
    go_wp2_with fail
    go_ret
    exact ⟨rfl, by assumption⟩

set_option maxRecDepth 100000 in
set_option maxHeartbeats 1000000 in
theorem fl_zn (b : Nat) (a1 b1 : Int) (w : World) (hA : Amb w) (hk : b = 0 ∨ b = 9223372036854775808) (hm : mayF a1 b1 = false) :
    Calls Tryd.prog 4 #[.float .f64 b, .agg #[.int .i64 a1, .int .i64 b1]] w fun e w' => e = .returned (.bool true) ∧ Below w.heap.size w w' := by
  have HP := Lib.hid (fun W => fromFloat_zero b W hk)
  have HR := Lib.hid (fun W => refFrom_zero b W hk)
  have HO := Lib.hid (fun W => refMay_no a1 b1 W hm)
  clear hk hm
  go_enter Tryd.func4, Tryd.ntmps4
  go_wp2_with fail
  refine (HP.out _).mono ?_
  rintro e w1 ⟨rfl, hbw1⟩
  have hzw1 := hbw1.size
  try simp at hzw1
  have : w.heap.size < w1.heap.size := by omega
  have : w.heap.size ≤ w1.heap.size := by omega
  have : w1.cell? ⟨w.heap.size, 0, none⟩ = some (.int .i64 a1) := cell_kept hbw1 (by simp [go_sem, *])
  have : w1.frozen? ⟨w.heap.size, 0, none⟩ = false := free_kept hbw1 (v := .int .i64 a1) (by simp [go_sem, *]) (by simp [go_sem, *])
  have : w.heap.size < w1.heap.size := by omega
  have : w.heap.size ≤ w1.heap.size := by omega
  have : w1.cell? ⟨w.heap.size, 1, none⟩ = some (.int .i64 b1) := cell_kept hbw1 (by simp [go_sem, *])
  have : w1.frozen? ⟨w.heap.size, 1, none⟩ = false := free_kept hbw1 (v := .int .i64 b1) (by simp [go_sem, *]) (by simp [go_sem, *])
  go_wp2_with fail
  refine (HR.out _).mono ?_
  rintro e w2 ⟨rfl, hbw2⟩
  have hzw2 := hbw2.size
  try simp at hzw2
  have : w.heap.size < w2.heap.size := by omega
  have : w.heap.size ≤ w2.heap.size := by omega
  have : w2.cell? ⟨w.heap.size, 0, none⟩ = some (.int .i64 a1) := cell_kept hbw2 (by simp [go_sem, *])
  have : w2.frozen? ⟨w.heap.size, 0, none⟩ = false := free_kept hbw2 (v := .int .i64 a1) (by simp [go_sem, *]) (by simp [go_sem, *])
  have : w.heap.size < w2.heap.size := by omega
  have : w.heap.size ≤ w2.heap.size := by omega
  have : w2.cell? ⟨w.heap.size, 1, none⟩ = some (.int .i64 b1) := cell_kept hbw2 (by simp [go_sem, *])
  have : w2.frozen? ⟨w.heap.size, 1, none⟩ = false := free_kept hbw2 (v := .int .i64 b1) (by simp [go_sem, *]) (by simp [go_sem, *])
  have : w1.heap.size < w2.heap.size := by omega
  have : w1.heap.size ≤ w2.heap.size := by omega
  have : w2.cell? ⟨w1.heap.size, 0, none⟩ = some (.int .i64 0) := cell_kept hbw2 (by simp [go_sem, *])
  have : w2.frozen? ⟨w1.heap.size, 0, none⟩ = false := free_kept hbw2 (v := .int .i64 0) (by simp [go_sem, *]) (by simp [go_sem, *])
  have : w1.heap.size < w2.heap.size := by omega
  have : w1.heap.size ≤ w2.heap.size := by omega
  have : w2.cell? ⟨w1.heap.size, 1, none⟩ = some (.int .i64 0) := cell_kept hbw2 (by simp [go_sem, *])
  have : w2.frozen? ⟨w1.heap.size, 1, none⟩ = false := free_kept hbw2 (v := .int .i64 0) (by simp [go_sem, *]) (by simp [go_sem, *])
  go_upto_region 5 with fail
  go_region_with (first
      | (go_at_call 14; refine (HO.out _).mono ?_; rintro e w3 ⟨rfl, hbw3⟩)
      | (go_at_call 10; refine (awake_any _ (hA.on (by (repeat' (first | exact Below.refl _ _ | assumption | refine gr_drew ?_ | refine gr_drewN ?_ _ | refine gr_alloc ?_ _ | refine gr_set ?_ ?_ _ | refine gr_call ?_ (by assumption)) <;> (try (simp; done)) <;> (try (simp; omega)) <;> (try omega))))).mono ?_; rintro e w4 ⟨rfl, hbw4⟩))
  all_goals
    go_wp2_with fail
    go_ret
    exact ⟨rfl, by (repeat' (first | exact Below.refl _ _ | assumption | refine gr_drew ?_ | refine gr_drewN ?_ _ | refine gr_alloc ?_ _ | refine gr_set ?_ ?_ _ | refine gr_call ?_ (by assumption)) <;> (try (simp; done)) <;> (try (simp; omega)) <;> (try omega))⟩

set_option maxRecDepth 100000 in
set_option maxHeartbeats 1000000 in
theorem fl_sy (b : Nat) (a1 b1 : Int) (w : World) (hA : Amb w) (S N : Int) (HP0 : ∀ W, Calls Tryd.prog 19 #[.float .f64 b] W fun e w' => e = .returned (.tuple #[.agg #[.int .i64 S, .int .i64 N], .bool true]) ∧ Below W.heap.size W w') (HR0 : ∀ W, Calls Tryd.prog 20 #[.float .f64 b] W fun e w' => e = .returned (.agg #[.int .i64 S, .int .i64 N, .bool true]) ∧ Below W.heap.size W w') (hm : mayF a1 b1 = true) :
    Calls Tryd.prog 4 #[.float .f64 b, .agg #[.int .i64 a1, .int .i64 b1]] w fun e w' => e = .returned (.bool true) ∧ Below w.heap.size w w' := by
  have HP := Lib.hid HP0
  have HR := Lib.hid HR0
  have HO := Lib.hid (fun W => refMay_yes a1 b1 W hm)
  have hb := (may_iff a1 b1).1 hm
  have HF := Lib.hid (fun W => float_any a1 b1 W hb.1 (by omega))
  have HG := Lib.hid (fun W => refFloat_any a1 b1 W hb.1 (by omega))
  have heq := (sum_is a1 b1 hb.1 (by omega)).2
  clear hb
  generalize fltW a1 b1 = R at *
  clear HP0 HR0 hm
  go_enter Tryd.func4, Tryd.ntmps4
  go_wp2_with fail
  refine (HP.out _).mono ?_
  rintro e w1 ⟨rfl, hbw1⟩
  have hzw1 := hbw1.size
  try simp at hzw1
  have : w.heap.size < w1.heap.size := by omega
  have : w.heap.size ≤ w1.heap.size := by omega
  have : w1.cell? ⟨w.heap.size, 0, none⟩ = some (.int .i64 a1) := cell_kept hbw1 (by simp [go_sem, *])
  have : w1.frozen? ⟨w.heap.size, 0, none⟩ = false := free_kept hbw1 (v := .int .i64 a1) (by simp [go_sem, *]) (by simp [go_sem, *])
  have : w.heap.size < w1.heap.size := by omega
  have : w.heap.size ≤ w1.heap.size := by omega
  have : w1.cell? ⟨w.heap.size, 1, none⟩ = some (.int .i64 b1) := cell_kept hbw1 (by simp [go_sem, *])
  have : w1.frozen? ⟨w.heap.size, 1, none⟩ = false := free_kept hbw1 (v := .int .i64 b1) (by simp [go_sem, *]) (by simp [go_sem, *])
  go_wp2_with fail
  refine (HR.out _).mono ?_
  rintro e w2 ⟨rfl, hbw2⟩
  have hzw2 := hbw2.size
  try simp at hzw2
  have : w.heap.size < w2.heap.size := by omega
  have : w.heap.size ≤ w2.heap.size := by omega
  have : w2.cell? ⟨w.heap.size, 0, none⟩ = some (.int .i64 a1) := cell_kept hbw2 (by simp [go_sem, *])
  have : w2.frozen? ⟨w.heap.size, 0, none⟩ = false := free_kept hbw2 (v := .int .i64 a1) (by simp [go_sem, *]) (by simp [go_sem, *])
  have : w.heap.size < w2.heap.size := by omega
  have : w.heap.size ≤ w2.heap.size := by omega
  have : w2.cell? ⟨w.heap.size, 1, none⟩ = some (.int .i64 b1) := cell_kept hbw2 (by simp [go_sem, *])
  have : w2.frozen? ⟨w.heap.size, 1, none⟩ = false := free_kept hbw2 (v := .int .i64 b1) (by simp [go_sem, *]) (by simp [go_sem, *])
  have : w1.heap.size < w2.heap.size := by omega
  have : w1.heap.size ≤ w2.heap.size := by omega
  have : w2.cell? ⟨w1.heap.size, 0, none⟩ = some (.int .i64 S) := cell_kept hbw2 (by simp [go_sem, *])
  have : w2.frozen? ⟨w1.heap.size, 0, none⟩ = false := free_kept hbw2 (v := .int .i64 S) (by simp [go_sem, *]) (by simp [go_sem, *])
  have : w1.heap.size < w2.heap.size := by omega
  have : w1.heap.size ≤ w2.heap.size := by omega
  have : w2.cell? ⟨w1.heap.size, 1, none⟩ = some (.int .i64 N) := cell_kept hbw2 (by simp [go_sem, *])
  have : w2.frozen? ⟨w1.heap.size, 1, none⟩ = false := free_kept hbw2 (v := .int .i64 N) (by simp [go_sem, *]) (by simp [go_sem, *])
  go_upto_region 5 with fail
  have hB1 : Below w.heap.size w (w2.alloc (.cells #[.int .i64 S, .int .i64 N, .bool true] 28)).drew := by (repeat' (first | exact Below.refl _ _ | assumption | refine gr_drew ?_ | refine gr_drewN ?_ _ | refine gr_alloc ?_ _ | refine gr_set ?_ ?_ _ | refine gr_call ?_ (by assumption)) <;> (try (simp; done)) <;> (try (simp; omega)) <;> (try omega))
  have hA1 := hA.on hB1
  go_region_held3 (fun w' => Amb w' ∧ Below w.heap.size w w' ∧ w'.cell? ⟨w.heap.size, 0, none⟩ = some (.int .i64 a1) ∧ w'.cell? ⟨w.heap.size, 1, none⟩ = some (.int .i64 b1))
    (first | (go_keep; done) | (go_split_ands; (repeat' apply And.intro) <;> (first | assumption | exact Amb.on (by assumption) hb1 | exact gr_call (by assumption) hb1 | exact cell_kept hb1 (by assumption) | (show Below _ _ _; (repeat' (first | exact Below.refl _ _ | assumption | refine gr_drew ?_ | refine gr_drewN ?_ _ | refine gr_alloc ?_ _ | refine gr_set ?_ ?_ _ | refine gr_call ?_ (by assumption)) <;> (try (simp; done)) <;> (try (simp; omega)) <;> (try omega)); done) | (go_keep; done) | (simp [go_sem, *]; done))))
    (first
      | (go_at_call 14; go_split_ands; refine (HO.out _).mono ?_; rintro e w1 ⟨rfl, hb1⟩)
      | (go_at_call 21; go_split_ands; refine (HF.out _).mono ?_; rintro e w1 ⟨rfl, hb1⟩)
      | (go_at_call 22; go_split_ands; refine (HG.out _).mono ?_; rintro e w1 ⟨rfl, hb1⟩)
      | (go_at_call 10; go_split_ands; refine (awake_any _ (by assumption)).mono ?_; rintro e w1 ⟨rfl, hb1⟩))
  all_goals
    go_split_ands
    go_wp2_with fail
    go_ret
    exact ⟨rfl, by assumption⟩

set_option maxRecDepth 100000 in
set_option maxHeartbeats 1000000 in
theorem fl_sn (b : Nat) (a1 b1 : Int) (w : World) (hA : Amb w) (S N : Int) (HP0 : ∀ W, Calls Tryd.prog 19 #[.float .f64 b] W fun e w' => e = .returned (.tuple #[.agg #[.int .i64 S, .int .i64 N], .bool true]) ∧ Below W.heap.size W w') (HR0 : ∀ W, Calls Tryd.prog 20 #[.float .f64 b] W fun e w' => e = .returned (.agg #[.int .i64 S, .int .i64 N, .bool true]) ∧ Below W.heap.size W w') (hm : mayF a1 b1 = false) :
    Calls Tryd.prog 4 #[.float .f64 b, .agg #[.int .i64 a1, .int .i64 b1]] w fun e w' => e = .returned (.bool true) ∧ Below w.heap.size w w' := by
  have HP := Lib.hid HP0
  have HR := Lib.hid HR0
  have HO := Lib.hid (fun W => refMay_no a1 b1 W hm)
  clear HP0 HR0 hm
  go_enter Tryd.func4, Tryd.ntmps4
  go_wp2_with fail
  refine (HP.out _).mono ?_
  rintro e w1 ⟨rfl, hbw1⟩
  have hzw1 := hbw1.size
  try simp at hzw1
  have : w.heap.size < w1.heap.size := by omega
  have : w.heap.size ≤ w1.heap.size := by omega
  have : w1.cell? ⟨w.heap.size, 0, none⟩ = some (.int .i64 a1) := cell_kept hbw1 (by simp [go_sem, *])
  have : w1.frozen? ⟨w.heap.size, 0, none⟩ = false := free_kept hbw1 (v := .int .i64 a1) (by simp [go_sem, *]) (by simp [go_sem, *])
  have : w.heap.size < w1.heap.size := by omega
  have : w.heap.size ≤ w1.heap.size := by omega
  have : w1.cell? ⟨w.heap.size, 1, none⟩ = some (.int .i64 b1) := cell_kept hbw1 (by simp [go_sem, *])
  have : w1.frozen? ⟨w.heap.size, 1, none⟩ = false := free_kept hbw1 (v := .int .i64 b1) (by simp [go_sem, *]) (by simp [go_sem, *])
  go_wp2_with fail
  refine (HR.out _).mono ?_
  rintro e w2 ⟨rfl, hbw2⟩
  have hzw2 := hbw2.size
  try simp at hzw2
  have : w.heap.size < w2.heap.size := by omega
  have : w.heap.size ≤ w2.heap.size := by omega
  have : w2.cell? ⟨w.heap.size, 0, none⟩ = some (.int .i64 a1) := cell_kept hbw2 (by simp [go_sem, *])
  have : w2.frozen? ⟨w.heap.size, 0, none⟩ = false := free_kept hbw2 (v := .int .i64 a1) (by simp [go_sem, *]) (by simp [go_sem, *])
  have : w.heap.size < w2.heap.size := by omega
  have : w.heap.size ≤ w2.heap.size := by omega
  have : w2.cell? ⟨w.heap.size, 1, none⟩ = some (.int .i64 b1) := cell_kept hbw2 (by simp [go_sem, *])
  have : w2.frozen? ⟨w.heap.size, 1, none⟩ = false := free_kept hbw2 (v := .int .i64 b1) (by simp [go_sem, *]) (by simp [go_sem, *])
  have : w1.heap.size < w2.heap.size := by omega
  have : w1.heap.size ≤ w2.heap.size := by omega
  have : w2.cell? ⟨w1.heap.size, 0, none⟩ = some (.int .i64 S) := cell_kept hbw2 (by simp [go_sem, *])
  have : w2.frozen? ⟨w1.heap.size, 0, none⟩ = false := free_kept hbw2 (v := .int .i64 S) (by simp [go_sem, *]) (by simp [go_sem, *])
  have : w1.heap.size < w2.heap.size := by omega
  have : w1.heap.size ≤ w2.heap.size := by omega
  have : w2.cell? ⟨w1.heap.size, 1, none⟩ = some (.int .i64 N) := cell_kept hbw2 (by simp [go_sem, *])
  have : w2.frozen? ⟨w1.heap.size, 1, none⟩ = false := free_kept hbw2 (v := .int .i64 N) (by simp [go_sem, *]) (by simp [go_sem, *])
  go_upto_region 5 with fail
  go_region_with (first
      | (go_at_call 14; refine (HO.out _).mono ?_; rintro e w3 ⟨rfl, hbw3⟩)
      | (go_at_call 10; refine (awake_any _ (hA.on (by (repeat' (first | exact Below.refl _ _ | assumption | refine gr_drew ?_ | refine gr_drewN ?_ _ | refine gr_alloc ?_ _ | refine gr_set ?_ ?_ _ | refine gr_call ?_ (by assumption)) <;> (try (simp; done)) <;> (try (simp; omega)) <;> (try omega))))).mono ?_; rintro e w4 ⟨rfl, hbw4⟩))
  all_goals
    go_wp2_with fail
    go_ret
    exact ⟨rfl, by (repeat' (first | exact Below.refl _ _ | assumption | refine gr_drew ?_ | refine gr_drewN ?_ _ | refine gr_alloc ?_ _ | refine gr_set ?_ ?_ _ | refine gr_call ?_ (by assumption)) <;> (try (simp; done)) <;> (try (simp; omega)) <;> (try omega))⟩

theorem stampFloats_walk (a0 : Nat) (a1 b1 : Int) (w : World) (hA : Amb w) (w0 : (Lit.float .f64 a0).wf = true) (_w1 : (Lit.int .i64 a1).wf = true) (_x1 : (Lit.int .i64 b1).wf = true) :
    Calls Tryd.prog 4 #[.float .f64 a0, .agg #[.int .i64 a1, .int .i64 b1]] w fun e w' => e = .returned (.bool true) ∧ Below w.heap.size w w' := by
  have hb : a0 < 18446744073709551616 := by
    have e : (2 : Nat) ^ 64 = 18446744073709551616 := by decide
    simp only [Lit.wf, decide_eq_true_eq] at w0
    omega
  rcases hm : mayF a1 b1 with _ | _
  · rcases float_kinds a0 hb with h | h | h
    · exact fl_on a0 a1 b1 w hA h hm
    · exact fl_zn a0 a1 b1 w hA h hm
    · exact fl_sn a0 a1 b1 w hA _ _ (fun W => fromFloat_ok a0 W h) (fun W => refFrom_ok a0 W h) hm
  · rcases float_kinds a0 hb with h | h | h
    · exact fl_oy a0 a1 b1 w hA h hm
    · exact fl_zy a0 a1 b1 w hA h hm
    · exact fl_sy a0 a1 b1 w hA _ _ (fun W => fromFloat_ok a0 W h) (fun W => refFrom_ok a0 W h) hm
end Go.Proofs.YtaobkniecgiplaaDoor
