/- The walk of the law StampFar. -/
import Derived.Test.YtaobkniecgiplaaDoorStampAwake
namespace Go.Proofs.YtaobkniecgiplaaDoor
open Go.RowKit
open StampM

theorem far_min (a1 : Int) (h1 : -9223372036854775808 ≤ a1) (h2 : a1 ≤ 9223372036854775807) : mayF (wrap64 (min a1 (-1) - 1099511627776)) 0 = false := by
  cases h : mayF (wrap64 (min a1 (-1) - 1099511627776)) 0 with
  | false => rfl
  | true =>
    have := (may_iff _ _).1 h
    unfold wrap64 at this
    omega

set_option maxRecDepth 100000 in
theorem far_0 (a0 : Int) (a1 : Int) (w : World) (hA : Amb w) (hb0 : 0 ≤ a0 ∧ a0 ≤ 255) (hb1 : -9223372036854775808 ≤ a1 ∧ a1 ≤ 9223372036854775807) (hj : a0 % 6 = 0) :
    Calls Tryd.prog 9 #[.int .u8 a0, .int .i64 a1] w fun e w' => e = .returned (.bool true) ∧ Below w.heap.size w w' := by
  have m1 := Lib.hid (show mayF 1099511627776 999999999 = true by decide)
  have m2 := Lib.hid (show mayF (-1099511627776) 0 = true by decide)
  have m3 := Lib.hid (show mayF (1099511627777) (0) = false by decide)
  go_enter Tryd.func9, Tryd.ntmps9
  go_wp2_with fail
  refine (may_yes _ _ _ m1.out).mono ?_
  rintro e w1 ⟨rfl, hbw1⟩
  have hzw1 := hbw1.size
  try simp at hzw1
  have : w.heap.size < w1.heap.size := by omega
  have : w.heap.size ≤ w1.heap.size := by omega
  have : w1.cell? ⟨w.heap.size, 0, none⟩ = some (.int .i64 (1099511627777)) := cell_kept hbw1 (by simp [go_sem, *])
  have : w1.frozen? ⟨w.heap.size, 0, none⟩ = false := free_kept hbw1 (v := .int .i64 (1099511627777)) (by simp [go_sem, *]) (by simp [go_sem, *])
  have : w.heap.size < w1.heap.size := by omega
  have : w.heap.size ≤ w1.heap.size := by omega
  have : w1.cell? ⟨w.heap.size, 1, none⟩ = some (.int .i64 (0)) := cell_kept hbw1 (by simp [go_sem, *])
  have : w1.frozen? ⟨w.heap.size, 1, none⟩ = false := free_kept hbw1 (v := .int .i64 (0)) (by simp [go_sem, *]) (by simp [go_sem, *])
  go_wp2_with fail
  refine (may_yes _ _ _ m2.out).mono ?_
  rintro e w2 ⟨rfl, hbw2⟩
  have hzw2 := hbw2.size
  try simp at hzw2
  have : w.heap.size < w2.heap.size := by omega
  have : w.heap.size ≤ w2.heap.size := by omega
  have : w2.cell? ⟨w.heap.size, 0, none⟩ = some (.int .i64 (1099511627777)) := cell_kept hbw2 (by simp [go_sem, *])
  have : w2.frozen? ⟨w.heap.size, 0, none⟩ = false := free_kept hbw2 (v := .int .i64 (1099511627777)) (by simp [go_sem, *]) (by simp [go_sem, *])
  have : w.heap.size < w2.heap.size := by omega
  have : w.heap.size ≤ w2.heap.size := by omega
  have : w2.cell? ⟨w.heap.size, 1, none⟩ = some (.int .i64 (0)) := cell_kept hbw2 (by simp [go_sem, *])
  have : w2.frozen? ⟨w.heap.size, 1, none⟩ = false := free_kept hbw2 (v := .int .i64 (0)) (by simp [go_sem, *]) (by simp [go_sem, *])
  go_wp2_with fail
  refine (may_no _ _ _ m3.out).mono ?_
  rintro e w3 ⟨rfl, hbw3⟩
  have hzw3 := hbw3.size
  try simp at hzw3
  go_wp2_with fail
  refine (awake_any _ (hA.on (by (repeat' (first | exact Below.refl _ _ | assumption | refine gr_drew ?_ | refine gr_drewN ?_ _ | refine gr_alloc ?_ _ | refine gr_set ?_ ?_ _ | refine gr_call ?_ (by assumption)) <;> (try (simp; done)) <;> (try (simp; omega)) <;> (try omega))))).mono ?_
  rintro e w4 ⟨rfl, hbw4⟩
  have hzw4 := hbw4.size
  try simp at hzw4
  go_wp2_with fail
  go_ret
  exact ⟨rfl, by (repeat' (first | exact Below.refl _ _ | assumption | refine gr_drew ?_ | refine gr_drewN ?_ _ | refine gr_alloc ?_ _ | refine gr_set ?_ ?_ _ | refine gr_call ?_ (by assumption)) <;> (try (simp; done)) <;> (try (simp; omega)) <;> (try omega))⟩

set_option maxRecDepth 100000 in
theorem far_1 (a0 : Int) (a1 : Int) (w : World) (hA : Amb w) (hb0 : 0 ≤ a0 ∧ a0 ≤ 255) (hb1 : -9223372036854775808 ≤ a1 ∧ a1 ≤ 9223372036854775807) (hj : a0 % 6 = 1) :
    Calls Tryd.prog 9 #[.int .u8 a0, .int .i64 a1] w fun e w' => e = .returned (.bool true) ∧ Below w.heap.size w w' := by
  have m1 := Lib.hid (show mayF 1099511627776 999999999 = true by decide)
  have m2 := Lib.hid (show mayF (-1099511627776) 0 = true by decide)
  have m3 := Lib.hid (show mayF (-1099511627777) (0) = false by decide)
  go_enter Tryd.func9, Tryd.ntmps9
  go_wp2_with fail
  refine (may_yes _ _ _ m1.out).mono ?_
  rintro e w1 ⟨rfl, hbw1⟩
  have hzw1 := hbw1.size
  try simp at hzw1
  have : w.heap.size < w1.heap.size := by omega
  have : w.heap.size ≤ w1.heap.size := by omega
  have : w1.cell? ⟨w.heap.size, 2, none⟩ = some (.int .i64 (-1099511627777)) := cell_kept hbw1 (by simp [go_sem, *])
  have : w1.frozen? ⟨w.heap.size, 2, none⟩ = false := free_kept hbw1 (v := .int .i64 (-1099511627777)) (by simp [go_sem, *]) (by simp [go_sem, *])
  have : w.heap.size < w1.heap.size := by omega
  have : w.heap.size ≤ w1.heap.size := by omega
  have : w1.cell? ⟨w.heap.size, 3, none⟩ = some (.int .i64 (0)) := cell_kept hbw1 (by simp [go_sem, *])
  have : w1.frozen? ⟨w.heap.size, 3, none⟩ = false := free_kept hbw1 (v := .int .i64 (0)) (by simp [go_sem, *]) (by simp [go_sem, *])
  go_wp2_with fail
  refine (may_yes _ _ _ m2.out).mono ?_
  rintro e w2 ⟨rfl, hbw2⟩
  have hzw2 := hbw2.size
  try simp at hzw2
  have : w.heap.size < w2.heap.size := by omega
  have : w.heap.size ≤ w2.heap.size := by omega
  have : w2.cell? ⟨w.heap.size, 2, none⟩ = some (.int .i64 (-1099511627777)) := cell_kept hbw2 (by simp [go_sem, *])
  have : w2.frozen? ⟨w.heap.size, 2, none⟩ = false := free_kept hbw2 (v := .int .i64 (-1099511627777)) (by simp [go_sem, *]) (by simp [go_sem, *])
  have : w.heap.size < w2.heap.size := by omega
  have : w.heap.size ≤ w2.heap.size := by omega
  have : w2.cell? ⟨w.heap.size, 3, none⟩ = some (.int .i64 (0)) := cell_kept hbw2 (by simp [go_sem, *])
  have : w2.frozen? ⟨w.heap.size, 3, none⟩ = false := free_kept hbw2 (v := .int .i64 (0)) (by simp [go_sem, *]) (by simp [go_sem, *])
  go_wp2_with fail
  refine (may_no _ _ _ m3.out).mono ?_
  rintro e w3 ⟨rfl, hbw3⟩
  have hzw3 := hbw3.size
  try simp at hzw3
  go_wp2_with fail
  refine (awake_any _ (hA.on (by (repeat' (first | exact Below.refl _ _ | assumption | refine gr_drew ?_ | refine gr_drewN ?_ _ | refine gr_alloc ?_ _ | refine gr_set ?_ ?_ _ | refine gr_call ?_ (by assumption)) <;> (try (simp; done)) <;> (try (simp; omega)) <;> (try omega))))).mono ?_
  rintro e w4 ⟨rfl, hbw4⟩
  have hzw4 := hbw4.size
  try simp at hzw4
  go_wp2_with fail
  go_ret
  exact ⟨rfl, by (repeat' (first | exact Below.refl _ _ | assumption | refine gr_drew ?_ | refine gr_drewN ?_ _ | refine gr_alloc ?_ _ | refine gr_set ?_ ?_ _ | refine gr_call ?_ (by assumption)) <;> (try (simp; done)) <;> (try (simp; omega)) <;> (try omega))⟩

set_option maxRecDepth 100000 in
theorem far_2 (a0 : Int) (a1 : Int) (w : World) (hA : Amb w) (hb0 : 0 ≤ a0 ∧ a0 ≤ 255) (hb1 : -9223372036854775808 ≤ a1 ∧ a1 ≤ 9223372036854775807) (hj : a0 % 6 = 2) :
    Calls Tryd.prog 9 #[.int .u8 a0, .int .i64 a1] w fun e w' => e = .returned (.bool true) ∧ Below w.heap.size w w' := by
  have m1 := Lib.hid (show mayF 1099511627776 999999999 = true by decide)
  have m2 := Lib.hid (show mayF (-1099511627776) 0 = true by decide)
  have m3 := Lib.hid (show mayF (0) (-1) = false by decide)
  go_enter Tryd.func9, Tryd.ntmps9
  go_wp2_with fail
  refine (may_yes _ _ _ m1.out).mono ?_
  rintro e w1 ⟨rfl, hbw1⟩
  have hzw1 := hbw1.size
  try simp at hzw1
  have : w.heap.size < w1.heap.size := by omega
  have : w.heap.size ≤ w1.heap.size := by omega
  have : w1.cell? ⟨w.heap.size, 4, none⟩ = some (.int .i64 (0)) := cell_kept hbw1 (by simp [go_sem, *])
  have : w1.frozen? ⟨w.heap.size, 4, none⟩ = false := free_kept hbw1 (v := .int .i64 (0)) (by simp [go_sem, *]) (by simp [go_sem, *])
  have : w.heap.size < w1.heap.size := by omega
  have : w.heap.size ≤ w1.heap.size := by omega
  have : w1.cell? ⟨w.heap.size, 5, none⟩ = some (.int .i64 (-1)) := cell_kept hbw1 (by simp [go_sem, *])
  have : w1.frozen? ⟨w.heap.size, 5, none⟩ = false := free_kept hbw1 (v := .int .i64 (-1)) (by simp [go_sem, *]) (by simp [go_sem, *])
  go_wp2_with fail
  refine (may_yes _ _ _ m2.out).mono ?_
  rintro e w2 ⟨rfl, hbw2⟩
  have hzw2 := hbw2.size
  try simp at hzw2
  have : w.heap.size < w2.heap.size := by omega
  have : w.heap.size ≤ w2.heap.size := by omega
  have : w2.cell? ⟨w.heap.size, 4, none⟩ = some (.int .i64 (0)) := cell_kept hbw2 (by simp [go_sem, *])
  have : w2.frozen? ⟨w.heap.size, 4, none⟩ = false := free_kept hbw2 (v := .int .i64 (0)) (by simp [go_sem, *]) (by simp [go_sem, *])
  have : w.heap.size < w2.heap.size := by omega
  have : w.heap.size ≤ w2.heap.size := by omega
  have : w2.cell? ⟨w.heap.size, 5, none⟩ = some (.int .i64 (-1)) := cell_kept hbw2 (by simp [go_sem, *])
  have : w2.frozen? ⟨w.heap.size, 5, none⟩ = false := free_kept hbw2 (v := .int .i64 (-1)) (by simp [go_sem, *]) (by simp [go_sem, *])
  go_wp2_with fail
  refine (may_no _ _ _ m3.out).mono ?_
  rintro e w3 ⟨rfl, hbw3⟩
  have hzw3 := hbw3.size
  try simp at hzw3
  go_wp2_with fail
  refine (awake_any _ (hA.on (by (repeat' (first | exact Below.refl _ _ | assumption | refine gr_drew ?_ | refine gr_drewN ?_ _ | refine gr_alloc ?_ _ | refine gr_set ?_ ?_ _ | refine gr_call ?_ (by assumption)) <;> (try (simp; done)) <;> (try (simp; omega)) <;> (try omega))))).mono ?_
  rintro e w4 ⟨rfl, hbw4⟩
  have hzw4 := hbw4.size
  try simp at hzw4
  go_wp2_with fail
  go_ret
  exact ⟨rfl, by (repeat' (first | exact Below.refl _ _ | assumption | refine gr_drew ?_ | refine gr_drewN ?_ _ | refine gr_alloc ?_ _ | refine gr_set ?_ ?_ _ | refine gr_call ?_ (by assumption)) <;> (try (simp; done)) <;> (try (simp; omega)) <;> (try omega))⟩

set_option maxRecDepth 100000 in
theorem far_3 (a0 : Int) (a1 : Int) (w : World) (hA : Amb w) (hb0 : 0 ≤ a0 ∧ a0 ≤ 255) (hb1 : -9223372036854775808 ≤ a1 ∧ a1 ≤ 9223372036854775807) (hj : a0 % 6 = 3) :
    Calls Tryd.prog 9 #[.int .u8 a0, .int .i64 a1] w fun e w' => e = .returned (.bool true) ∧ Below w.heap.size w w' := by
  have m1 := Lib.hid (show mayF 1099511627776 999999999 = true by decide)
  have m2 := Lib.hid (show mayF (-1099511627776) 0 = true by decide)
  have m3 := Lib.hid (show mayF (0) (1000000000) = false by decide)
  go_enter Tryd.func9, Tryd.ntmps9
  go_wp2_with fail
  refine (may_yes _ _ _ m1.out).mono ?_
  rintro e w1 ⟨rfl, hbw1⟩
  have hzw1 := hbw1.size
  try simp at hzw1
  have : w.heap.size < w1.heap.size := by omega
  have : w.heap.size ≤ w1.heap.size := by omega
  have : w1.cell? ⟨w.heap.size, 6, none⟩ = some (.int .i64 (0)) := cell_kept hbw1 (by simp [go_sem, *])
  have : w1.frozen? ⟨w.heap.size, 6, none⟩ = false := free_kept hbw1 (v := .int .i64 (0)) (by simp [go_sem, *]) (by simp [go_sem, *])
  have : w.heap.size < w1.heap.size := by omega
  have : w.heap.size ≤ w1.heap.size := by omega
  have : w1.cell? ⟨w.heap.size, 7, none⟩ = some (.int .i64 (1000000000)) := cell_kept hbw1 (by simp [go_sem, *])
  have : w1.frozen? ⟨w.heap.size, 7, none⟩ = false := free_kept hbw1 (v := .int .i64 (1000000000)) (by simp [go_sem, *]) (by simp [go_sem, *])
  go_wp2_with fail
  refine (may_yes _ _ _ m2.out).mono ?_
  rintro e w2 ⟨rfl, hbw2⟩
  have hzw2 := hbw2.size
  try simp at hzw2
  have : w.heap.size < w2.heap.size := by omega
  have : w.heap.size ≤ w2.heap.size := by omega
  have : w2.cell? ⟨w.heap.size, 6, none⟩ = some (.int .i64 (0)) := cell_kept hbw2 (by simp [go_sem, *])
  have : w2.frozen? ⟨w.heap.size, 6, none⟩ = false := free_kept hbw2 (v := .int .i64 (0)) (by simp [go_sem, *]) (by simp [go_sem, *])
  have : w.heap.size < w2.heap.size := by omega
  have : w.heap.size ≤ w2.heap.size := by omega
  have : w2.cell? ⟨w.heap.size, 7, none⟩ = some (.int .i64 (1000000000)) := cell_kept hbw2 (by simp [go_sem, *])
  have : w2.frozen? ⟨w.heap.size, 7, none⟩ = false := free_kept hbw2 (v := .int .i64 (1000000000)) (by simp [go_sem, *]) (by simp [go_sem, *])
  go_wp2_with fail
  refine (may_no _ _ _ m3.out).mono ?_
  rintro e w3 ⟨rfl, hbw3⟩
  have hzw3 := hbw3.size
  try simp at hzw3
  go_wp2_with fail
  refine (awake_any _ (hA.on (by (repeat' (first | exact Below.refl _ _ | assumption | refine gr_drew ?_ | refine gr_drewN ?_ _ | refine gr_alloc ?_ _ | refine gr_set ?_ ?_ _ | refine gr_call ?_ (by assumption)) <;> (try (simp; done)) <;> (try (simp; omega)) <;> (try omega))))).mono ?_
  rintro e w4 ⟨rfl, hbw4⟩
  have hzw4 := hbw4.size
  try simp at hzw4
  go_wp2_with fail
  go_ret
  exact ⟨rfl, by (repeat' (first | exact Below.refl _ _ | assumption | refine gr_drew ?_ | refine gr_drewN ?_ _ | refine gr_alloc ?_ _ | refine gr_set ?_ ?_ _ | refine gr_call ?_ (by assumption)) <;> (try (simp; done)) <;> (try (simp; omega)) <;> (try omega))⟩

set_option maxRecDepth 100000 in
theorem far_4 (a0 : Int) (a1 : Int) (w : World) (hA : Amb w) (hb0 : 0 ≤ a0 ∧ a0 ≤ 255) (hb1 : -9223372036854775808 ≤ a1 ∧ a1 ≤ 9223372036854775807) (hj : a0 % 6 = 4) :
    Calls Tryd.prog 9 #[.int .u8 a0, .int .i64 a1] w fun e w' => e = .returned (.bool true) ∧ Below w.heap.size w w' := by
  have m1 := Lib.hid (show mayF 1099511627776 999999999 = true by decide)
  have m2 := Lib.hid (show mayF (-1099511627776) 0 = true by decide)
  have m3 := Lib.hid (show mayF (1099511627776) (1000000000) = false by decide)
  go_enter Tryd.func9, Tryd.ntmps9
  go_wp2_with fail
  refine (may_yes _ _ _ m1.out).mono ?_
  rintro e w1 ⟨rfl, hbw1⟩
  have hzw1 := hbw1.size
  try simp at hzw1
  have : w.heap.size < w1.heap.size := by omega
  have : w.heap.size ≤ w1.heap.size := by omega
  have : w1.cell? ⟨w.heap.size, 8, none⟩ = some (.int .i64 (1099511627776)) := cell_kept hbw1 (by simp [go_sem, *])
  have : w1.frozen? ⟨w.heap.size, 8, none⟩ = false := free_kept hbw1 (v := .int .i64 (1099511627776)) (by simp [go_sem, *]) (by simp [go_sem, *])
  have : w.heap.size < w1.heap.size := by omega
  have : w.heap.size ≤ w1.heap.size := by omega
  have : w1.cell? ⟨w.heap.size, 9, none⟩ = some (.int .i64 (1000000000)) := cell_kept hbw1 (by simp [go_sem, *])
  have : w1.frozen? ⟨w.heap.size, 9, none⟩ = false := free_kept hbw1 (v := .int .i64 (1000000000)) (by simp [go_sem, *]) (by simp [go_sem, *])
  go_wp2_with fail
  refine (may_yes _ _ _ m2.out).mono ?_
  rintro e w2 ⟨rfl, hbw2⟩
  have hzw2 := hbw2.size
  try simp at hzw2
  have : w.heap.size < w2.heap.size := by omega
  have : w.heap.size ≤ w2.heap.size := by omega
  have : w2.cell? ⟨w.heap.size, 8, none⟩ = some (.int .i64 (1099511627776)) := cell_kept hbw2 (by simp [go_sem, *])
  have : w2.frozen? ⟨w.heap.size, 8, none⟩ = false := free_kept hbw2 (v := .int .i64 (1099511627776)) (by simp [go_sem, *]) (by simp [go_sem, *])
  have : w.heap.size < w2.heap.size := by omega
  have : w.heap.size ≤ w2.heap.size := by omega
  have : w2.cell? ⟨w.heap.size, 9, none⟩ = some (.int .i64 (1000000000)) := cell_kept hbw2 (by simp [go_sem, *])
  have : w2.frozen? ⟨w.heap.size, 9, none⟩ = false := free_kept hbw2 (v := .int .i64 (1000000000)) (by simp [go_sem, *]) (by simp [go_sem, *])
  go_wp2_with fail
  refine (may_no _ _ _ m3.out).mono ?_
  rintro e w3 ⟨rfl, hbw3⟩
  have hzw3 := hbw3.size
  try simp at hzw3
  go_wp2_with fail
  refine (awake_any _ (hA.on (by (repeat' (first | exact Below.refl _ _ | assumption | refine gr_drew ?_ | refine gr_drewN ?_ _ | refine gr_alloc ?_ _ | refine gr_set ?_ ?_ _ | refine gr_call ?_ (by assumption)) <;> (try (simp; done)) <;> (try (simp; omega)) <;> (try omega))))).mono ?_
  rintro e w4 ⟨rfl, hbw4⟩
  have hzw4 := hbw4.size
  try simp at hzw4
  go_wp2_with fail
  go_ret
  exact ⟨rfl, by (repeat' (first | exact Below.refl _ _ | assumption | refine gr_drew ?_ | refine gr_drewN ?_ _ | refine gr_alloc ?_ _ | refine gr_set ?_ ?_ _ | refine gr_call ?_ (by assumption)) <;> (try (simp; done)) <;> (try (simp; omega)) <;> (try omega))⟩

set_option maxRecDepth 100000 in
theorem far_5 (a0 : Int) (a1 : Int) (w : World) (hA : Amb w) (hb0 : 0 ≤ a0 ∧ a0 ≤ 255) (hb1 : -9223372036854775808 ≤ a1 ∧ a1 ≤ 9223372036854775807) (hj : a0 % 6 = 5) :
    Calls Tryd.prog 9 #[.int .u8 a0, .int .i64 a1] w fun e w' => e = .returned (.bool true) ∧ Below w.heap.size w w' := by
  have m1 := Lib.hid (show mayF 1099511627776 999999999 = true by decide)
  have m2 := Lib.hid (show mayF (-1099511627776) 0 = true by decide)
  have m3 := Lib.hid (show mayF (wrap64 (min a1 (-1) - 1099511627776)) (0) = false by exact far_min a1 hb1.1 hb1.2)
  go_enter Tryd.func9, Tryd.ntmps9
  go_wp2_with fail
  refine (may_yes _ _ _ m1.out).mono ?_
  rintro e w1 ⟨rfl, hbw1⟩
  have hzw1 := hbw1.size
  try simp at hzw1
  have : w.heap.size < w1.heap.size := by omega
  have : w.heap.size ≤ w1.heap.size := by omega
  have : w1.cell? ⟨w.heap.size, 10, none⟩ = some (.int .i64 (wrap64 (min a1 (-1) - 1099511627776))) := cell_kept hbw1 (by simp [go_sem, *])
  have : w1.frozen? ⟨w.heap.size, 10, none⟩ = false := free_kept hbw1 (v := .int .i64 (wrap64 (min a1 (-1) - 1099511627776))) (by simp [go_sem, *]) (by simp [go_sem, *])
  have : w.heap.size < w1.heap.size := by omega
  have : w.heap.size ≤ w1.heap.size := by omega
  have : w1.cell? ⟨w.heap.size, 11, none⟩ = some (.int .i64 (0)) := cell_kept hbw1 (by simp [go_sem, *])
  have : w1.frozen? ⟨w.heap.size, 11, none⟩ = false := free_kept hbw1 (v := .int .i64 (0)) (by simp [go_sem, *]) (by simp [go_sem, *])
  go_wp2_with fail
  refine (may_yes _ _ _ m2.out).mono ?_
  rintro e w2 ⟨rfl, hbw2⟩
  have hzw2 := hbw2.size
  try simp at hzw2
  have : w.heap.size < w2.heap.size := by omega
  have : w.heap.size ≤ w2.heap.size := by omega
  have : w2.cell? ⟨w.heap.size, 10, none⟩ = some (.int .i64 (wrap64 (min a1 (-1) - 1099511627776))) := cell_kept hbw2 (by simp [go_sem, *])
  have : w2.frozen? ⟨w.heap.size, 10, none⟩ = false := free_kept hbw2 (v := .int .i64 (wrap64 (min a1 (-1) - 1099511627776))) (by simp [go_sem, *]) (by simp [go_sem, *])
  have : w.heap.size < w2.heap.size := by omega
  have : w.heap.size ≤ w2.heap.size := by omega
  have : w2.cell? ⟨w.heap.size, 11, none⟩ = some (.int .i64 (0)) := cell_kept hbw2 (by simp [go_sem, *])
  have : w2.frozen? ⟨w.heap.size, 11, none⟩ = false := free_kept hbw2 (v := .int .i64 (0)) (by simp [go_sem, *]) (by simp [go_sem, *])
  go_wp2_with fail
  refine (may_no _ _ _ m3.out).mono ?_
  rintro e w3 ⟨rfl, hbw3⟩
  have hzw3 := hbw3.size
  try simp at hzw3
  go_wp2_with fail
  refine (awake_any _ (hA.on (by (repeat' (first | exact Below.refl _ _ | assumption | refine gr_drew ?_ | refine gr_drewN ?_ _ | refine gr_alloc ?_ _ | refine gr_set ?_ ?_ _ | refine gr_call ?_ (by assumption)) <;> (try (simp; done)) <;> (try (simp; omega)) <;> (try omega))))).mono ?_
  rintro e w4 ⟨rfl, hbw4⟩
  have hzw4 := hbw4.size
  try simp at hzw4
  go_wp2_with fail
  go_ret
  exact ⟨rfl, by (repeat' (first | exact Below.refl _ _ | assumption | refine gr_drew ?_ | refine gr_drewN ?_ _ | refine gr_alloc ?_ _ | refine gr_set ?_ ?_ _ | refine gr_call ?_ (by assumption)) <;> (try (simp; done)) <;> (try (simp; omega)) <;> (try omega))⟩

theorem stampFar_walk (a0 : Int) (a1 : Int) (w : World) (hA : Amb w) (w0 : (Lit.int .u8 a0).wf = true) (w1 : (Lit.int .i64 a1).wf = true) :
    Calls Tryd.prog 9 #[.int .u8 a0, .int .i64 a1] w fun e w' => e = .returned (.bool true) ∧ Below w.heap.size w w' := by
  have hb0 := boundsU8 w0
  have hb1 := bounds64 w1
  rcases (show a0 % 6 = 0 ∨ a0 % 6 = 1 ∨ a0 % 6 = 2 ∨ a0 % 6 = 3 ∨ a0 % 6 = 4 ∨ a0 % 6 = 5 by omega) with h | h | h | h | h | h
  · exact far_0 a0 a1 w hA hb0 hb1 h
  · exact far_1 a0 a1 w hA hb0 hb1 h
  · exact far_2 a0 a1 w hA hb0 hb1 h
  · exact far_3 a0 a1 w hA hb0 hb1 h
  · exact far_4 a0 a1 w hA hb0 hb1 h
  · exact far_5 a0 a1 w hA hb0 hb1 h
end Go.Proofs.YtaobkniecgiplaaDoor
