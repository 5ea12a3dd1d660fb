/- The walk of the law TextKnown: one theorem a row of its tables. -/
import Derived.Test.YthmmcmpbpfnocaaDoorRefText2
namespace Go.Proofs.YthmmcmpbpfnocaaDoor
open Go.RowKit
open TextM
set_option linter.unusedVariables false

theorem boundsU8 {n : Int} (h : (Lit.int .u8 n).wf = true) : 0 ≤ n ∧ n ≤ 255 := by
  have hmin : IntKind.u8.min = 0 := rfl
  have hmax : IntKind.u8.max = 255 := rfl
  simp only [Lit.wf, Bool.and_eq_true, decide_eq_true_eq] at h
  omega
theorem chars_ab : Chars [97, 98] 2 := chars_join (l := [97]) (r := [98]) (chars_one (by decide) (by decide)) (chars_one (by decide) (by decide))
/-- The calls at a text, and at bytes that are none. -/
theorem known_good (S : ByteArray) (l : List UInt8) (k : Nat) (hS : S.data.toList = l) (h : Chars l k) (hs : S.size ≤ 1000000) :
    (∀ w, Amb w → Calls Tryd.prog 8 #[.string S] w fun e w' => e = .returned (.bool true) ∧ Below w.heap.size w w') ∧
    (∀ w, Amb w → Calls Tryd.prog 10 #[.string S] w fun e w' => e = .returned (.int .i64 (-1)) ∧ Below w.heap.size w w') := by
  have h1 := valid_any S hs
  have h2 := bad_any S hs
  rw [hS, show validB l = true by unfold validB; rw [h]] at h1
  rw [hS, show badI l = -1 by unfold badI; rw [h]; rfl] at h2
  exact ⟨h1, h2⟩
theorem known_bad (S : ByteArray) (l : List UInt8) (hS : S.data.toList = l) (h : sg l = 0) (hl : l ≠ []) (hs : S.size ≤ 1000000) :
    (∀ w, Amb w → Calls Tryd.prog 10 #[.string S] w fun e w' => e = .returned (.int .i64 0) ∧ Below w.heap.size w w') ∧
    (∀ w, Amb w → Calls Tryd.prog 12 #[.string S] w fun e w' => e = .returned (.int .i64 0) ∧ Below w.heap.size w w') := by
  have h1 := bad_any S hs
  have h2 := count_any S hs
  rw [hS, show badI l = 0 by unfold badI; rw [rd_bad h hl]; rfl] at h1
  rw [hS, show cntN l = 0 by unfold cntN; rw [rd_bad h hl]] at h2
  exact ⟨h1, h2⟩
theorem known_ab (S : ByteArray) (l : List UInt8) (hS : S.data.toList = [97, 98] ++ l) (h : sg l = 0) (hl : l ≠ []) (hs : S.size ≤ 1000000) :
    (∀ w, Amb w → Calls Tryd.prog 10 #[.string S] w fun e w' => e = .returned (.int .i64 2) ∧ Below w.heap.size w w') ∧
    (∀ w, Amb w → Calls Tryd.prog 12 #[.string S] w fun e w' => e = .returned (.int .i64 2) ∧ Below w.heap.size w w') := by
  have h1 := bad_any S hs
  have h2 := count_any S hs
  rw [hS, show badI ([97, 98] ++ l) = 2 by unfold badI; rw [chars_app chars_ab, rd_bad h hl]; rfl] at h1
  rw [hS, show cntN ([97, 98] ++ l) = 2 by unfold cntN; rw [chars_app chars_ab, rd_bad h hl]] at h2
  exact ⟨h1, h2⟩

set_option maxRecDepth 100000 in
theorem known_0 (a0 : Int) (w : World) (hA : Amb w) (h0 : 0 ≤ a0) (h255 : a0 ≤ 255) (hj : a0 % 10 = 0) :
    Calls Tryd.prog 6 #[.int .u8 a0] w fun e w' => e = .returned (.bool true) ∧ Below w.heap.size w w' := by
  have G := Lib.hid (known_good ⟨#[]⟩ [] 0 rfl (chars_nil) (by decide))
  have B := Lib.hid (known_bad ⟨#[128]⟩ [128] rfl (by decide) (by decide) (by decide))
  have C := Lib.hid (known_ab (⟨#[97, 98]⟩ ++ ⟨#[128]⟩) [128] (by simp) (by decide) (by decide) (by decide))
  have htm : a0.tmod 10 = 0 := by rw [Int.tmod_eq_emod_of_nonneg h0, hj]
  go_enter Tryd.func6, Tryd.ntmps6
  go_wp2_with fail
  refine (G.out.1 _ (hA.on (by (repeat' (first | exact Below.refl _ _ | assumption | refine gr_drew ?_ | refine gr_drewN ?_ _ | refine gr_alloc ?_ _ | refine gr_set ?_ ?_ _ | refine gr_call ?_ (by assumption)) <;> (try (simp; done)) <;> (try (simp; omega)) <;> (try omega))))).mono ?_
  rintro e w1 ⟨rfl, hbw1⟩
  have hzw1 := hbw1.size
  try simp at hzw1
  have : w.heap.size < w1.heap.size := by omega
  have : w.heap.size ≤ w1.heap.size := by omega
  have : w1.cell? ⟨w.heap.size, 0, none⟩ = some (.string ⟨#[]⟩) := cell_kept hbw1 (by simp [go_sem, *])
  have : w1.frozen? ⟨w.heap.size, 0, none⟩ = false := free_kept hbw1 (v := .string ⟨#[]⟩) (by simp [go_sem, *]) (by simp [go_sem, *])
  have : (w.heap.size + 1) < w1.heap.size := by omega
  have : (w.heap.size + 1) ≤ w1.heap.size := by omega
  have : w1.cell? ⟨(w.heap.size + 1), 0, none⟩ = some (.string ⟨#[128]⟩) := cell_kept hbw1 (by simp [go_sem, *])
  have : w1.frozen? ⟨(w.heap.size + 1), 0, none⟩ = false := free_kept hbw1 (v := .string ⟨#[128]⟩) (by simp [go_sem, *]) (by simp [go_sem, *])
  go_wp2_with fail
  refine (G.out.2 _ (hA.on (by (repeat' (first | exact Below.refl _ _ | assumption | refine gr_drew ?_ | refine gr_drewN ?_ _ | refine gr_alloc ?_ _ | refine gr_set ?_ ?_ _ | refine gr_call ?_ (by assumption)) <;> (try (simp; done)) <;> (try (simp; omega)) <;> (try omega))))).mono ?_
  rintro e w2 ⟨rfl, hbw2⟩
  have hzw2 := hbw2.size
  try simp at hzw2
  have : w.heap.size < w2.heap.size := by omega
  have : w.heap.size ≤ w2.heap.size := by omega
  have : w2.cell? ⟨w.heap.size, 0, none⟩ = some (.string ⟨#[]⟩) := cell_kept hbw2 (by simp [go_sem, *])
  have : w2.frozen? ⟨w.heap.size, 0, none⟩ = false := free_kept hbw2 (v := .string ⟨#[]⟩) (by simp [go_sem, *]) (by simp [go_sem, *])
  have : (w.heap.size + 1) < w2.heap.size := by omega
  have : (w.heap.size + 1) ≤ w2.heap.size := by omega
  have : w2.cell? ⟨(w.heap.size + 1), 0, none⟩ = some (.string ⟨#[128]⟩) := cell_kept hbw2 (by simp [go_sem, *])
  have : w2.frozen? ⟨(w.heap.size + 1), 0, none⟩ = false := free_kept hbw2 (v := .string ⟨#[128]⟩) (by simp [go_sem, *]) (by simp [go_sem, *])
  go_wp2_with fail
  refine (B.out.1 _ (hA.on (by (repeat' (first | exact Below.refl _ _ | assumption | refine gr_drew ?_ | refine gr_drewN ?_ _ | refine gr_alloc ?_ _ | refine gr_set ?_ ?_ _ | refine gr_call ?_ (by assumption)) <;> (try (simp; done)) <;> (try (simp; omega)) <;> (try omega))))).mono ?_
  rintro e w3 ⟨rfl, hbw3⟩
  have hzw3 := hbw3.size
  try simp at hzw3
  have : w.heap.size < w3.heap.size := by omega
  have : w.heap.size ≤ w3.heap.size := by omega
  have : w3.cell? ⟨w.heap.size, 0, none⟩ = some (.string ⟨#[]⟩) := cell_kept hbw3 (by simp [go_sem, *])
  have : w3.frozen? ⟨w.heap.size, 0, none⟩ = false := free_kept hbw3 (v := .string ⟨#[]⟩) (by simp [go_sem, *]) (by simp [go_sem, *])
  have : (w.heap.size + 1) < w3.heap.size := by omega
  have : (w.heap.size + 1) ≤ w3.heap.size := by omega
  have : w3.cell? ⟨(w.heap.size + 1), 0, none⟩ = some (.string ⟨#[128]⟩) := cell_kept hbw3 (by simp [go_sem, *])
  have : w3.frozen? ⟨(w.heap.size + 1), 0, none⟩ = false := free_kept hbw3 (v := .string ⟨#[128]⟩) (by simp [go_sem, *]) (by simp [go_sem, *])
  go_wp2_with fail
  refine (B.out.2 _ (hA.on (by (repeat' (first | exact Below.refl _ _ | assumption | refine gr_drew ?_ | refine gr_drewN ?_ _ | refine gr_alloc ?_ _ | refine gr_set ?_ ?_ _ | refine gr_call ?_ (by assumption)) <;> (try (simp; done)) <;> (try (simp; omega)) <;> (try omega))))).mono ?_
  rintro e w4 ⟨rfl, hbw4⟩
  have hzw4 := hbw4.size
  try simp at hzw4
  have : w.heap.size < w4.heap.size := by omega
  have : w.heap.size ≤ w4.heap.size := by omega
  have : w4.cell? ⟨w.heap.size, 0, none⟩ = some (.string ⟨#[]⟩) := cell_kept hbw4 (by simp [go_sem, *])
  have : w4.frozen? ⟨w.heap.size, 0, none⟩ = false := free_kept hbw4 (v := .string ⟨#[]⟩) (by simp [go_sem, *]) (by simp [go_sem, *])
  have : (w.heap.size + 1) < w4.heap.size := by omega
  have : (w.heap.size + 1) ≤ w4.heap.size := by omega
  have : w4.cell? ⟨(w.heap.size + 1), 0, none⟩ = some (.string ⟨#[128]⟩) := cell_kept hbw4 (by simp [go_sem, *])
  have : w4.frozen? ⟨(w.heap.size + 1), 0, none⟩ = false := free_kept hbw4 (v := .string ⟨#[128]⟩) (by simp [go_sem, *]) (by simp [go_sem, *])
  go_wp2_with fail
  refine (C.out.1 _ (hA.on (by (repeat' (first | exact Below.refl _ _ | assumption | refine gr_drew ?_ | refine gr_drewN ?_ _ | refine gr_alloc ?_ _ | refine gr_set ?_ ?_ _ | refine gr_call ?_ (by assumption)) <;> (try (simp; done)) <;> (try (simp; omega)) <;> (try omega))))).mono ?_
  rintro e w5 ⟨rfl, hbw5⟩
  have hzw5 := hbw5.size
  try simp at hzw5
  have : w.heap.size < w5.heap.size := by omega
  have : w.heap.size ≤ w5.heap.size := by omega
  have : w5.cell? ⟨w.heap.size, 0, none⟩ = some (.string ⟨#[]⟩) := cell_kept hbw5 (by simp [go_sem, *])
  have : w5.frozen? ⟨w.heap.size, 0, none⟩ = false := free_kept hbw5 (v := .string ⟨#[]⟩) (by simp [go_sem, *]) (by simp [go_sem, *])
  have : (w.heap.size + 1) < w5.heap.size := by omega
  have : (w.heap.size + 1) ≤ w5.heap.size := by omega
  have : w5.cell? ⟨(w.heap.size + 1), 0, none⟩ = some (.string ⟨#[128]⟩) := cell_kept hbw5 (by simp [go_sem, *])
  have : w5.frozen? ⟨(w.heap.size + 1), 0, none⟩ = false := free_kept hbw5 (v := .string ⟨#[128]⟩) (by simp [go_sem, *]) (by simp [go_sem, *])
  go_wp2_with fail
  refine (C.out.2 _ (hA.on (by (repeat' (first | exact Below.refl _ _ | assumption | refine gr_drew ?_ | refine gr_drewN ?_ _ | refine gr_alloc ?_ _ | refine gr_set ?_ ?_ _ | refine gr_call ?_ (by assumption)) <;> (try (simp; done)) <;> (try (simp; omega)) <;> (try omega))))).mono ?_
  rintro e w6 ⟨rfl, hbw6⟩
  have hzw6 := hbw6.size
  try simp at hzw6
  go_wp2_with fail
  refine (awake_any _ (hA.on (by (repeat' (first | exact Below.refl _ _ | assumption | refine gr_drew ?_ | refine gr_drewN ?_ _ | refine gr_alloc ?_ _ | refine gr_set ?_ ?_ _ | refine gr_call ?_ (by assumption)) <;> (try (simp; done)) <;> (try (simp; omega)) <;> (try omega))))).mono ?_
  rintro e w7 ⟨rfl, hbw7⟩
  have hzw7 := hbw7.size
  try simp at hzw7
  go_wp2_with fail
  go_ret
  exact ⟨rfl, by (repeat' (first | exact Below.refl _ _ | assumption | refine gr_drew ?_ | refine gr_drewN ?_ _ | refine gr_alloc ?_ _ | refine gr_set ?_ ?_ _ | refine gr_call ?_ (by assumption)) <;> (try (simp; done)) <;> (try (simp; omega)) <;> (try omega))⟩

set_option maxRecDepth 100000 in
theorem known_1 (a0 : Int) (w : World) (hA : Amb w) (h0 : 0 ≤ a0) (h255 : a0 ≤ 255) (hj : a0 % 10 = 1) :
    Calls Tryd.prog 6 #[.int .u8 a0] w fun e w' => e = .returned (.bool true) ∧ Below w.heap.size w w' := by
  have G := Lib.hid (known_good ⟨#[97]⟩ [97] 1 rfl (chars_one (by decide) (by decide)) (by decide))
  have B := Lib.hid (known_bad ⟨#[193, 191]⟩ [193, 191] rfl (by decide) (by decide) (by decide))
  have C := Lib.hid (known_ab (⟨#[97, 98]⟩ ++ ⟨#[193, 191]⟩) [193, 191] (by simp) (by decide) (by decide) (by decide))
  have htm : a0.tmod 10 = 1 := by rw [Int.tmod_eq_emod_of_nonneg h0, hj]
  go_enter Tryd.func6, Tryd.ntmps6
  go_wp2_with fail
  refine (G.out.1 _ (hA.on (by (repeat' (first | exact Below.refl _ _ | assumption | refine gr_drew ?_ | refine gr_drewN ?_ _ | refine gr_alloc ?_ _ | refine gr_set ?_ ?_ _ | refine gr_call ?_ (by assumption)) <;> (try (simp; done)) <;> (try (simp; omega)) <;> (try omega))))).mono ?_
  rintro e w1 ⟨rfl, hbw1⟩
  have hzw1 := hbw1.size
  try simp at hzw1
  have : w.heap.size < w1.heap.size := by omega
  have : w.heap.size ≤ w1.heap.size := by omega
  have : w1.cell? ⟨w.heap.size, 1, none⟩ = some (.string ⟨#[97]⟩) := cell_kept hbw1 (by simp [go_sem, *])
  have : w1.frozen? ⟨w.heap.size, 1, none⟩ = false := free_kept hbw1 (v := .string ⟨#[97]⟩) (by simp [go_sem, *]) (by simp [go_sem, *])
  have : (w.heap.size + 1) < w1.heap.size := by omega
  have : (w.heap.size + 1) ≤ w1.heap.size := by omega
  have : w1.cell? ⟨(w.heap.size + 1), 1, none⟩ = some (.string ⟨#[193, 191]⟩) := cell_kept hbw1 (by simp [go_sem, *])
  have : w1.frozen? ⟨(w.heap.size + 1), 1, none⟩ = false := free_kept hbw1 (v := .string ⟨#[193, 191]⟩) (by simp [go_sem, *]) (by simp [go_sem, *])
  go_wp2_with fail
  refine (G.out.2 _ (hA.on (by (repeat' (first | exact Below.refl _ _ | assumption | refine gr_drew ?_ | refine gr_drewN ?_ _ | refine gr_alloc ?_ _ | refine gr_set ?_ ?_ _ | refine gr_call ?_ (by assumption)) <;> (try (simp; done)) <;> (try (simp; omega)) <;> (try omega))))).mono ?_
  rintro e w2 ⟨rfl, hbw2⟩
  have hzw2 := hbw2.size
  try simp at hzw2
  have : w.heap.size < w2.heap.size := by omega
  have : w.heap.size ≤ w2.heap.size := by omega
  have : w2.cell? ⟨w.heap.size, 1, none⟩ = some (.string ⟨#[97]⟩) := cell_kept hbw2 (by simp [go_sem, *])
  have : w2.frozen? ⟨w.heap.size, 1, none⟩ = false := free_kept hbw2 (v := .string ⟨#[97]⟩) (by simp [go_sem, *]) (by simp [go_sem, *])
  have : (w.heap.size + 1) < w2.heap.size := by omega
  have : (w.heap.size + 1) ≤ w2.heap.size := by omega
  have : w2.cell? ⟨(w.heap.size + 1), 1, none⟩ = some (.string ⟨#[193, 191]⟩) := cell_kept hbw2 (by simp [go_sem, *])
  have : w2.frozen? ⟨(w.heap.size + 1), 1, none⟩ = false := free_kept hbw2 (v := .string ⟨#[193, 191]⟩) (by simp [go_sem, *]) (by simp [go_sem, *])
  go_wp2_with fail
  refine (B.out.1 _ (hA.on (by (repeat' (first | exact Below.refl _ _ | assumption | refine gr_drew ?_ | refine gr_drewN ?_ _ | refine gr_alloc ?_ _ | refine gr_set ?_ ?_ _ | refine gr_call ?_ (by assumption)) <;> (try (simp; done)) <;> (try (simp; omega)) <;> (try omega))))).mono ?_
  rintro e w3 ⟨rfl, hbw3⟩
  have hzw3 := hbw3.size
  try simp at hzw3
  have : w.heap.size < w3.heap.size := by omega
  have : w.heap.size ≤ w3.heap.size := by omega
  have : w3.cell? ⟨w.heap.size, 1, none⟩ = some (.string ⟨#[97]⟩) := cell_kept hbw3 (by simp [go_sem, *])
  have : w3.frozen? ⟨w.heap.size, 1, none⟩ = false := free_kept hbw3 (v := .string ⟨#[97]⟩) (by simp [go_sem, *]) (by simp [go_sem, *])
  have : (w.heap.size + 1) < w3.heap.size := by omega
  have : (w.heap.size + 1) ≤ w3.heap.size := by omega
  have : w3.cell? ⟨(w.heap.size + 1), 1, none⟩ = some (.string ⟨#[193, 191]⟩) := cell_kept hbw3 (by simp [go_sem, *])
  have : w3.frozen? ⟨(w.heap.size + 1), 1, none⟩ = false := free_kept hbw3 (v := .string ⟨#[193, 191]⟩) (by simp [go_sem, *]) (by simp [go_sem, *])
  go_wp2_with fail
  refine (B.out.2 _ (hA.on (by (repeat' (first | exact Below.refl _ _ | assumption | refine gr_drew ?_ | refine gr_drewN ?_ _ | refine gr_alloc ?_ _ | refine gr_set ?_ ?_ _ | refine gr_call ?_ (by assumption)) <;> (try (simp; done)) <;> (try (simp; omega)) <;> (try omega))))).mono ?_
  rintro e w4 ⟨rfl, hbw4⟩
  have hzw4 := hbw4.size
  try simp at hzw4
  have : w.heap.size < w4.heap.size := by omega
  have : w.heap.size ≤ w4.heap.size := by omega
  have : w4.cell? ⟨w.heap.size, 1, none⟩ = some (.string ⟨#[97]⟩) := cell_kept hbw4 (by simp [go_sem, *])
  have : w4.frozen? ⟨w.heap.size, 1, none⟩ = false := free_kept hbw4 (v := .string ⟨#[97]⟩) (by simp [go_sem, *]) (by simp [go_sem, *])
  have : (w.heap.size + 1) < w4.heap.size := by omega
  have : (w.heap.size + 1) ≤ w4.heap.size := by omega
  have : w4.cell? ⟨(w.heap.size + 1), 1, none⟩ = some (.string ⟨#[193, 191]⟩) := cell_kept hbw4 (by simp [go_sem, *])
  have : w4.frozen? ⟨(w.heap.size + 1), 1, none⟩ = false := free_kept hbw4 (v := .string ⟨#[193, 191]⟩) (by simp [go_sem, *]) (by simp [go_sem, *])
  go_wp2_with fail
  refine (C.out.1 _ (hA.on (by (repeat' (first | exact Below.refl _ _ | assumption | refine gr_drew ?_ | refine gr_drewN ?_ _ | refine gr_alloc ?_ _ | refine gr_set ?_ ?_ _ | refine gr_call ?_ (by assumption)) <;> (try (simp; done)) <;> (try (simp; omega)) <;> (try omega))))).mono ?_
  rintro e w5 ⟨rfl, hbw5⟩
  have hzw5 := hbw5.size
  try simp at hzw5
  have : w.heap.size < w5.heap.size := by omega
  have : w.heap.size ≤ w5.heap.size := by omega
  have : w5.cell? ⟨w.heap.size, 1, none⟩ = some (.string ⟨#[97]⟩) := cell_kept hbw5 (by simp [go_sem, *])
  have : w5.frozen? ⟨w.heap.size, 1, none⟩ = false := free_kept hbw5 (v := .string ⟨#[97]⟩) (by simp [go_sem, *]) (by simp [go_sem, *])
  have : (w.heap.size + 1) < w5.heap.size := by omega
  have : (w.heap.size + 1) ≤ w5.heap.size := by omega
  have : w5.cell? ⟨(w.heap.size + 1), 1, none⟩ = some (.string ⟨#[193, 191]⟩) := cell_kept hbw5 (by simp [go_sem, *])
  have : w5.frozen? ⟨(w.heap.size + 1), 1, none⟩ = false := free_kept hbw5 (v := .string ⟨#[193, 191]⟩) (by simp [go_sem, *]) (by simp [go_sem, *])
  go_wp2_with fail
  refine (C.out.2 _ (hA.on (by (repeat' (first | exact Below.refl _ _ | assumption | refine gr_drew ?_ | refine gr_drewN ?_ _ | refine gr_alloc ?_ _ | refine gr_set ?_ ?_ _ | refine gr_call ?_ (by assumption)) <;> (try (simp; done)) <;> (try (simp; omega)) <;> (try omega))))).mono ?_
  rintro e w6 ⟨rfl, hbw6⟩
  have hzw6 := hbw6.size
  try simp at hzw6
  go_wp2_with fail
  refine (awake_any _ (hA.on (by (repeat' (first | exact Below.refl _ _ | assumption | refine gr_drew ?_ | refine gr_drewN ?_ _ | refine gr_alloc ?_ _ | refine gr_set ?_ ?_ _ | refine gr_call ?_ (by assumption)) <;> (try (simp; done)) <;> (try (simp; omega)) <;> (try omega))))).mono ?_
  rintro e w7 ⟨rfl, hbw7⟩
  have hzw7 := hbw7.size
  try simp at hzw7
  go_wp2_with fail
  go_ret
  exact ⟨rfl, by (repeat' (first | exact Below.refl _ _ | assumption | refine gr_drew ?_ | refine gr_drewN ?_ _ | refine gr_alloc ?_ _ | refine gr_set ?_ ?_ _ | refine gr_call ?_ (by assumption)) <;> (try (simp; done)) <;> (try (simp; omega)) <;> (try omega))⟩

set_option maxRecDepth 100000 in
theorem known_2 (a0 : Int) (w : World) (hA : Amb w) (h0 : 0 ≤ a0) (h255 : a0 ≤ 255) (hj : a0 % 10 = 2) :
    Calls Tryd.prog 6 #[.int .u8 a0] w fun e w' => e = .returned (.bool true) ∧ Below w.heap.size w w' := by
  have G := Lib.hid (known_good ⟨#[194, 128]⟩ [194, 128] 1 rfl (chars_one (by decide) (by decide)) (by decide))
  have B := Lib.hid (known_bad ⟨#[194]⟩ [194] rfl (by decide) (by decide) (by decide))
  have C := Lib.hid (known_ab (⟨#[97, 98]⟩ ++ ⟨#[194]⟩) [194] (by simp) (by decide) (by decide) (by decide))
  have htm : a0.tmod 10 = 2 := by rw [Int.tmod_eq_emod_of_nonneg h0, hj]
  go_enter Tryd.func6, Tryd.ntmps6
  go_wp2_with fail
  refine (G.out.1 _ (hA.on (by (repeat' (first | exact Below.refl _ _ | assumption | refine gr_drew ?_ | refine gr_drewN ?_ _ | refine gr_alloc ?_ _ | refine gr_set ?_ ?_ _ | refine gr_call ?_ (by assumption)) <;> (try (simp; done)) <;> (try (simp; omega)) <;> (try omega))))).mono ?_
  rintro e w1 ⟨rfl, hbw1⟩
  have hzw1 := hbw1.size
  try simp at hzw1
  have : w.heap.size < w1.heap.size := by omega
  have : w.heap.size ≤ w1.heap.size := by omega
  have : w1.cell? ⟨w.heap.size, 2, none⟩ = some (.string ⟨#[194, 128]⟩) := cell_kept hbw1 (by simp [go_sem, *])
  have : w1.frozen? ⟨w.heap.size, 2, none⟩ = false := free_kept hbw1 (v := .string ⟨#[194, 128]⟩) (by simp [go_sem, *]) (by simp [go_sem, *])
  have : (w.heap.size + 1) < w1.heap.size := by omega
  have : (w.heap.size + 1) ≤ w1.heap.size := by omega
  have : w1.cell? ⟨(w.heap.size + 1), 2, none⟩ = some (.string ⟨#[194]⟩) := cell_kept hbw1 (by simp [go_sem, *])
  have : w1.frozen? ⟨(w.heap.size + 1), 2, none⟩ = false := free_kept hbw1 (v := .string ⟨#[194]⟩) (by simp [go_sem, *]) (by simp [go_sem, *])
  go_wp2_with fail
  refine (G.out.2 _ (hA.on (by (repeat' (first | exact Below.refl _ _ | assumption | refine gr_drew ?_ | refine gr_drewN ?_ _ | refine gr_alloc ?_ _ | refine gr_set ?_ ?_ _ | refine gr_call ?_ (by assumption)) <;> (try (simp; done)) <;> (try (simp; omega)) <;> (try omega))))).mono ?_
  rintro e w2 ⟨rfl, hbw2⟩
  have hzw2 := hbw2.size
  try simp at hzw2
  have : w.heap.size < w2.heap.size := by omega
  have : w.heap.size ≤ w2.heap.size := by omega
  have : w2.cell? ⟨w.heap.size, 2, none⟩ = some (.string ⟨#[194, 128]⟩) := cell_kept hbw2 (by simp [go_sem, *])
  have : w2.frozen? ⟨w.heap.size, 2, none⟩ = false := free_kept hbw2 (v := .string ⟨#[194, 128]⟩) (by simp [go_sem, *]) (by simp [go_sem, *])
  have : (w.heap.size + 1) < w2.heap.size := by omega
  have : (w.heap.size + 1) ≤ w2.heap.size := by omega
  have : w2.cell? ⟨(w.heap.size + 1), 2, none⟩ = some (.string ⟨#[194]⟩) := cell_kept hbw2 (by simp [go_sem, *])
  have : w2.frozen? ⟨(w.heap.size + 1), 2, none⟩ = false := free_kept hbw2 (v := .string ⟨#[194]⟩) (by simp [go_sem, *]) (by simp [go_sem, *])
  go_wp2_with fail
  refine (B.out.1 _ (hA.on (by (repeat' (first | exact Below.refl _ _ | assumption | refine gr_drew ?_ | refine gr_drewN ?_ _ | refine gr_alloc ?_ _ | refine gr_set ?_ ?_ _ | refine gr_call ?_ (by assumption)) <;> (try (simp; done)) <;> (try (simp; omega)) <;> (try omega))))).mono ?_
  rintro e w3 ⟨rfl, hbw3⟩
  have hzw3 := hbw3.size
  try simp at hzw3
  have : w.heap.size < w3.heap.size := by omega
  have : w.heap.size ≤ w3.heap.size := by omega
  have : w3.cell? ⟨w.heap.size, 2, none⟩ = some (.string ⟨#[194, 128]⟩) := cell_kept hbw3 (by simp [go_sem, *])
  have : w3.frozen? ⟨w.heap.size, 2, none⟩ = false := free_kept hbw3 (v := .string ⟨#[194, 128]⟩) (by simp [go_sem, *]) (by simp [go_sem, *])
  have : (w.heap.size + 1) < w3.heap.size := by omega
  have : (w.heap.size + 1) ≤ w3.heap.size := by omega
  have : w3.cell? ⟨(w.heap.size + 1), 2, none⟩ = some (.string ⟨#[194]⟩) := cell_kept hbw3 (by simp [go_sem, *])
  have : w3.frozen? ⟨(w.heap.size + 1), 2, none⟩ = false := free_kept hbw3 (v := .string ⟨#[194]⟩) (by simp [go_sem, *]) (by simp [go_sem, *])
  go_wp2_with fail
  refine (B.out.2 _ (hA.on (by (repeat' (first | exact Below.refl _ _ | assumption | refine gr_drew ?_ | refine gr_drewN ?_ _ | refine gr_alloc ?_ _ | refine gr_set ?_ ?_ _ | refine gr_call ?_ (by assumption)) <;> (try (simp; done)) <;> (try (simp; omega)) <;> (try omega))))).mono ?_
  rintro e w4 ⟨rfl, hbw4⟩
  have hzw4 := hbw4.size
  try simp at hzw4
  have : w.heap.size < w4.heap.size := by omega
  have : w.heap.size ≤ w4.heap.size := by omega
  have : w4.cell? ⟨w.heap.size, 2, none⟩ = some (.string ⟨#[194, 128]⟩) := cell_kept hbw4 (by simp [go_sem, *])
  have : w4.frozen? ⟨w.heap.size, 2, none⟩ = false := free_kept hbw4 (v := .string ⟨#[194, 128]⟩) (by simp [go_sem, *]) (by simp [go_sem, *])
  have : (w.heap.size + 1) < w4.heap.size := by omega
  have : (w.heap.size + 1) ≤ w4.heap.size := by omega
  have : w4.cell? ⟨(w.heap.size + 1), 2, none⟩ = some (.string ⟨#[194]⟩) := cell_kept hbw4 (by simp [go_sem, *])
  have : w4.frozen? ⟨(w.heap.size + 1), 2, none⟩ = false := free_kept hbw4 (v := .string ⟨#[194]⟩) (by simp [go_sem, *]) (by simp [go_sem, *])
  go_wp2_with fail
  refine (C.out.1 _ (hA.on (by (repeat' (first | exact Below.refl _ _ | assumption | refine gr_drew ?_ | refine gr_drewN ?_ _ | refine gr_alloc ?_ _ | refine gr_set ?_ ?_ _ | refine gr_call ?_ (by assumption)) <;> (try (simp; done)) <;> (try (simp; omega)) <;> (try omega))))).mono ?_
  rintro e w5 ⟨rfl, hbw5⟩
  have hzw5 := hbw5.size
  try simp at hzw5
  have : w.heap.size < w5.heap.size := by omega
  have : w.heap.size ≤ w5.heap.size := by omega
  have : w5.cell? ⟨w.heap.size, 2, none⟩ = some (.string ⟨#[194, 128]⟩) := cell_kept hbw5 (by simp [go_sem, *])
  have : w5.frozen? ⟨w.heap.size, 2, none⟩ = false := free_kept hbw5 (v := .string ⟨#[194, 128]⟩) (by simp [go_sem, *]) (by simp [go_sem, *])
  have : (w.heap.size + 1) < w5.heap.size := by omega
  have : (w.heap.size + 1) ≤ w5.heap.size := by omega
  have : w5.cell? ⟨(w.heap.size + 1), 2, none⟩ = some (.string ⟨#[194]⟩) := cell_kept hbw5 (by simp [go_sem, *])
  have : w5.frozen? ⟨(w.heap.size + 1), 2, none⟩ = false := free_kept hbw5 (v := .string ⟨#[194]⟩) (by simp [go_sem, *]) (by simp [go_sem, *])
  go_wp2_with fail
  refine (C.out.2 _ (hA.on (by (repeat' (first | exact Below.refl _ _ | assumption | refine gr_drew ?_ | refine gr_drewN ?_ _ | refine gr_alloc ?_ _ | refine gr_set ?_ ?_ _ | refine gr_call ?_ (by assumption)) <;> (try (simp; done)) <;> (try (simp; omega)) <;> (try omega))))).mono ?_
  rintro e w6 ⟨rfl, hbw6⟩
  have hzw6 := hbw6.size
  try simp at hzw6
  go_wp2_with fail
  refine (awake_any _ (hA.on (by (repeat' (first | exact Below.refl _ _ | assumption | refine gr_drew ?_ | refine gr_drewN ?_ _ | refine gr_alloc ?_ _ | refine gr_set ?_ ?_ _ | refine gr_call ?_ (by assumption)) <;> (try (simp; done)) <;> (try (simp; omega)) <;> (try omega))))).mono ?_
  rintro e w7 ⟨rfl, hbw7⟩
  have hzw7 := hbw7.size
  try simp at hzw7
  go_wp2_with fail
  go_ret
  exact ⟨rfl, by (repeat' (first | exact Below.refl _ _ | assumption | refine gr_drew ?_ | refine gr_drewN ?_ _ | refine gr_alloc ?_ _ | refine gr_set ?_ ?_ _ | refine gr_call ?_ (by assumption)) <;> (try (simp; done)) <;> (try (simp; omega)) <;> (try omega))⟩

set_option maxRecDepth 100000 in
theorem known_3 (a0 : Int) (w : World) (hA : Amb w) (h0 : 0 ≤ a0) (h255 : a0 ≤ 255) (hj : a0 % 10 = 3) :
    Calls Tryd.prog 6 #[.int .u8 a0] w fun e w' => e = .returned (.bool true) ∧ Below w.heap.size w w' := by
  have G := Lib.hid (known_good ⟨#[223, 191]⟩ [223, 191] 1 rfl (chars_one (by decide) (by decide)) (by decide))
  have B := Lib.hid (known_bad ⟨#[224, 159, 191]⟩ [224, 159, 191] rfl (by decide) (by decide) (by decide))
  have C := Lib.hid (known_ab (⟨#[97, 98]⟩ ++ ⟨#[224, 159, 191]⟩) [224, 159, 191] (by simp) (by decide) (by decide) (by decide))
  have htm : a0.tmod 10 = 3 := by rw [Int.tmod_eq_emod_of_nonneg h0, hj]
  go_enter Tryd.func6, Tryd.ntmps6
  go_wp2_with fail
  refine (G.out.1 _ (hA.on (by (repeat' (first | exact Below.refl _ _ | assumption | refine gr_drew ?_ | refine gr_drewN ?_ _ | refine gr_alloc ?_ _ | refine gr_set ?_ ?_ _ | refine gr_call ?_ (by assumption)) <;> (try (simp; done)) <;> (try (simp; omega)) <;> (try omega))))).mono ?_
  rintro e w1 ⟨rfl, hbw1⟩
  have hzw1 := hbw1.size
  try simp at hzw1
  have : w.heap.size < w1.heap.size := by omega
  have : w.heap.size ≤ w1.heap.size := by omega
  have : w1.cell? ⟨w.heap.size, 3, none⟩ = some (.string ⟨#[223, 191]⟩) := cell_kept hbw1 (by simp [go_sem, *])
  have : w1.frozen? ⟨w.heap.size, 3, none⟩ = false := free_kept hbw1 (v := .string ⟨#[223, 191]⟩) (by simp [go_sem, *]) (by simp [go_sem, *])
  have : (w.heap.size + 1) < w1.heap.size := by omega
  have : (w.heap.size + 1) ≤ w1.heap.size := by omega
  have : w1.cell? ⟨(w.heap.size + 1), 3, none⟩ = some (.string ⟨#[224, 159, 191]⟩) := cell_kept hbw1 (by simp [go_sem, *])
  have : w1.frozen? ⟨(w.heap.size + 1), 3, none⟩ = false := free_kept hbw1 (v := .string ⟨#[224, 159, 191]⟩) (by simp [go_sem, *]) (by simp [go_sem, *])
  go_wp2_with fail
  refine (G.out.2 _ (hA.on (by (repeat' (first | exact Below.refl _ _ | assumption | refine gr_drew ?_ | refine gr_drewN ?_ _ | refine gr_alloc ?_ _ | refine gr_set ?_ ?_ _ | refine gr_call ?_ (by assumption)) <;> (try (simp; done)) <;> (try (simp; omega)) <;> (try omega))))).mono ?_
  rintro e w2 ⟨rfl, hbw2⟩
  have hzw2 := hbw2.size
  try simp at hzw2
  have : w.heap.size < w2.heap.size := by omega
  have : w.heap.size ≤ w2.heap.size := by omega
  have : w2.cell? ⟨w.heap.size, 3, none⟩ = some (.string ⟨#[223, 191]⟩) := cell_kept hbw2 (by simp [go_sem, *])
  have : w2.frozen? ⟨w.heap.size, 3, none⟩ = false := free_kept hbw2 (v := .string ⟨#[223, 191]⟩) (by simp [go_sem, *]) (by simp [go_sem, *])
  have : (w.heap.size + 1) < w2.heap.size := by omega
  have : (w.heap.size + 1) ≤ w2.heap.size := by omega
  have : w2.cell? ⟨(w.heap.size + 1), 3, none⟩ = some (.string ⟨#[224, 159, 191]⟩) := cell_kept hbw2 (by simp [go_sem, *])
  have : w2.frozen? ⟨(w.heap.size + 1), 3, none⟩ = false := free_kept hbw2 (v := .string ⟨#[224, 159, 191]⟩) (by simp [go_sem, *]) (by simp [go_sem, *])
  go_wp2_with fail
  refine (B.out.1 _ (hA.on (by (repeat' (first | exact Below.refl _ _ | assumption | refine gr_drew ?_ | refine gr_drewN ?_ _ | refine gr_alloc ?_ _ | refine gr_set ?_ ?_ _ | refine gr_call ?_ (by assumption)) <;> (try (simp; done)) <;> (try (simp; omega)) <;> (try omega))))).mono ?_
  rintro e w3 ⟨rfl, hbw3⟩
  have hzw3 := hbw3.size
  try simp at hzw3
  have : w.heap.size < w3.heap.size := by omega
  have : w.heap.size ≤ w3.heap.size := by omega
  have : w3.cell? ⟨w.heap.size, 3, none⟩ = some (.string ⟨#[223, 191]⟩) := cell_kept hbw3 (by simp [go_sem, *])
  have : w3.frozen? ⟨w.heap.size, 3, none⟩ = false := free_kept hbw3 (v := .string ⟨#[223, 191]⟩) (by simp [go_sem, *]) (by simp [go_sem, *])
  have : (w.heap.size + 1) < w3.heap.size := by omega
  have : (w.heap.size + 1) ≤ w3.heap.size := by omega
  have : w3.cell? ⟨(w.heap.size + 1), 3, none⟩ = some (.string ⟨#[224, 159, 191]⟩) := cell_kept hbw3 (by simp [go_sem, *])
  have : w3.frozen? ⟨(w.heap.size + 1), 3, none⟩ = false := free_kept hbw3 (v := .string ⟨#[224, 159, 191]⟩) (by simp [go_sem, *]) (by simp [go_sem, *])
  go_wp2_with fail
  refine (B.out.2 _ (hA.on (by (repeat' (first | exact Below.refl _ _ | assumption | refine gr_drew ?_ | refine gr_drewN ?_ _ | refine gr_alloc ?_ _ | refine gr_set ?_ ?_ _ | refine gr_call ?_ (by assumption)) <;> (try (simp; done)) <;> (try (simp; omega)) <;> (try omega))))).mono ?_
  rintro e w4 ⟨rfl, hbw4⟩
  have hzw4 := hbw4.size
  try simp at hzw4
  have : w.heap.size < w4.heap.size := by omega
  have : w.heap.size ≤ w4.heap.size := by omega
  have : w4.cell? ⟨w.heap.size, 3, none⟩ = some (.string ⟨#[223, 191]⟩) := cell_kept hbw4 (by simp [go_sem, *])
  have : w4.frozen? ⟨w.heap.size, 3, none⟩ = false := free_kept hbw4 (v := .string ⟨#[223, 191]⟩) (by simp [go_sem, *]) (by simp [go_sem, *])
  have : (w.heap.size + 1) < w4.heap.size := by omega
  have : (w.heap.size + 1) ≤ w4.heap.size := by omega
  have : w4.cell? ⟨(w.heap.size + 1), 3, none⟩ = some (.string ⟨#[224, 159, 191]⟩) := cell_kept hbw4 (by simp [go_sem, *])
  have : w4.frozen? ⟨(w.heap.size + 1), 3, none⟩ = false := free_kept hbw4 (v := .string ⟨#[224, 159, 191]⟩) (by simp [go_sem, *]) (by simp [go_sem, *])
  go_wp2_with fail
  refine (C.out.1 _ (hA.on (by (repeat' (first | exact Below.refl _ _ | assumption | refine gr_drew ?_ | refine gr_drewN ?_ _ | refine gr_alloc ?_ _ | refine gr_set ?_ ?_ _ | refine gr_call ?_ (by assumption)) <;> (try (simp; done)) <;> (try (simp; omega)) <;> (try omega))))).mono ?_
  rintro e w5 ⟨rfl, hbw5⟩
  have hzw5 := hbw5.size
  try simp at hzw5
  have : w.heap.size < w5.heap.size := by omega
  have : w.heap.size ≤ w5.heap.size := by omega
  have : w5.cell? ⟨w.heap.size, 3, none⟩ = some (.string ⟨#[223, 191]⟩) := cell_kept hbw5 (by simp [go_sem, *])
  have : w5.frozen? ⟨w.heap.size, 3, none⟩ = false := free_kept hbw5 (v := .string ⟨#[223, 191]⟩) (by simp [go_sem, *]) (by simp [go_sem, *])
  have : (w.heap.size + 1) < w5.heap.size := by omega
  have : (w.heap.size + 1) ≤ w5.heap.size := by omega
  have : w5.cell? ⟨(w.heap.size + 1), 3, none⟩ = some (.string ⟨#[224, 159, 191]⟩) := cell_kept hbw5 (by simp [go_sem, *])
  have : w5.frozen? ⟨(w.heap.size + 1), 3, none⟩ = false := free_kept hbw5 (v := .string ⟨#[224, 159, 191]⟩) (by simp [go_sem, *]) (by simp [go_sem, *])
  go_wp2_with fail
  refine (C.out.2 _ (hA.on (by (repeat' (first | exact Below.refl _ _ | assumption | refine gr_drew ?_ | refine gr_drewN ?_ _ | refine gr_alloc ?_ _ | refine gr_set ?_ ?_ _ | refine gr_call ?_ (by assumption)) <;> (try (simp; done)) <;> (try (simp; omega)) <;> (try omega))))).mono ?_
  rintro e w6 ⟨rfl, hbw6⟩
  have hzw6 := hbw6.size
  try simp at hzw6
  go_wp2_with fail
  refine (awake_any _ (hA.on (by (repeat' (first | exact Below.refl _ _ | assumption | refine gr_drew ?_ | refine gr_drewN ?_ _ | refine gr_alloc ?_ _ | refine gr_set ?_ ?_ _ | refine gr_call ?_ (by assumption)) <;> (try (simp; done)) <;> (try (simp; omega)) <;> (try omega))))).mono ?_
  rintro e w7 ⟨rfl, hbw7⟩
  have hzw7 := hbw7.size
  try simp at hzw7
  go_wp2_with fail
  go_ret
  exact ⟨rfl, by (repeat' (first | exact Below.refl _ _ | assumption | refine gr_drew ?_ | refine gr_drewN ?_ _ | refine gr_alloc ?_ _ | refine gr_set ?_ ?_ _ | refine gr_call ?_ (by assumption)) <;> (try (simp; done)) <;> (try (simp; omega)) <;> (try omega))⟩

set_option maxRecDepth 100000 in
theorem known_4 (a0 : Int) (w : World) (hA : Amb w) (h0 : 0 ≤ a0) (h255 : a0 ≤ 255) (hj : a0 % 10 = 4) :
    Calls Tryd.prog 6 #[.int .u8 a0] w fun e w' => e = .returned (.bool true) ∧ Below w.heap.size w w' := by
  have G := Lib.hid (known_good ⟨#[224, 160, 128]⟩ [224, 160, 128] 1 rfl (chars_one (by decide) (by decide)) (by decide))
  have B := Lib.hid (known_bad ⟨#[237, 160, 128]⟩ [237, 160, 128] rfl (by decide) (by decide) (by decide))
  have C := Lib.hid (known_ab (⟨#[97, 98]⟩ ++ ⟨#[237, 160, 128]⟩) [237, 160, 128] (by simp) (by decide) (by decide) (by decide))
  have htm : a0.tmod 10 = 4 := by rw [Int.tmod_eq_emod_of_nonneg h0, hj]
  go_enter Tryd.func6, Tryd.ntmps6
  go_wp2_with fail
  refine (G.out.1 _ (hA.on (by (repeat' (first | exact Below.refl _ _ | assumption | refine gr_drew ?_ | refine gr_drewN ?_ _ | refine gr_alloc ?_ _ | refine gr_set ?_ ?_ _ | refine gr_call ?_ (by assumption)) <;> (try (simp; done)) <;> (try (simp; omega)) <;> (try omega))))).mono ?_
  rintro e w1 ⟨rfl, hbw1⟩
  have hzw1 := hbw1.size
  try simp at hzw1
  have : w.heap.size < w1.heap.size := by omega
  have : w.heap.size ≤ w1.heap.size := by omega
  have : w1.cell? ⟨w.heap.size, 4, none⟩ = some (.string ⟨#[224, 160, 128]⟩) := cell_kept hbw1 (by simp [go_sem, *])
  have : w1.frozen? ⟨w.heap.size, 4, none⟩ = false := free_kept hbw1 (v := .string ⟨#[224, 160, 128]⟩) (by simp [go_sem, *]) (by simp [go_sem, *])
  have : (w.heap.size + 1) < w1.heap.size := by omega
  have : (w.heap.size + 1) ≤ w1.heap.size := by omega
  have : w1.cell? ⟨(w.heap.size + 1), 4, none⟩ = some (.string ⟨#[237, 160, 128]⟩) := cell_kept hbw1 (by simp [go_sem, *])
  have : w1.frozen? ⟨(w.heap.size + 1), 4, none⟩ = false := free_kept hbw1 (v := .string ⟨#[237, 160, 128]⟩) (by simp [go_sem, *]) (by simp [go_sem, *])
  go_wp2_with fail
  refine (G.out.2 _ (hA.on (by (repeat' (first | exact Below.refl _ _ | assumption | refine gr_drew ?_ | refine gr_drewN ?_ _ | refine gr_alloc ?_ _ | refine gr_set ?_ ?_ _ | refine gr_call ?_ (by assumption)) <;> (try (simp; done)) <;> (try (simp; omega)) <;> (try omega))))).mono ?_
  rintro e w2 ⟨rfl, hbw2⟩
  have hzw2 := hbw2.size
  try simp at hzw2
  have : w.heap.size < w2.heap.size := by omega
  have : w.heap.size ≤ w2.heap.size := by omega
  have : w2.cell? ⟨w.heap.size, 4, none⟩ = some (.string ⟨#[224, 160, 128]⟩) := cell_kept hbw2 (by simp [go_sem, *])
  have : w2.frozen? ⟨w.heap.size, 4, none⟩ = false := free_kept hbw2 (v := .string ⟨#[224, 160, 128]⟩) (by simp [go_sem, *]) (by simp [go_sem, *])
  have : (w.heap.size + 1) < w2.heap.size := by omega
  have : (w.heap.size + 1) ≤ w2.heap.size := by omega
  have : w2.cell? ⟨(w.heap.size + 1), 4, none⟩ = some (.string ⟨#[237, 160, 128]⟩) := cell_kept hbw2 (by simp [go_sem, *])
  have : w2.frozen? ⟨(w.heap.size + 1), 4, none⟩ = false := free_kept hbw2 (v := .string ⟨#[237, 160, 128]⟩) (by simp [go_sem, *]) (by simp [go_sem, *])
  go_wp2_with fail
  refine (B.out.1 _ (hA.on (by (repeat' (first | exact Below.refl _ _ | assumption | refine gr_drew ?_ | refine gr_drewN ?_ _ | refine gr_alloc ?_ _ | refine gr_set ?_ ?_ _ | refine gr_call ?_ (by assumption)) <;> (try (simp; done)) <;> (try (simp; omega)) <;> (try omega))))).mono ?_
  rintro e w3 ⟨rfl, hbw3⟩
  have hzw3 := hbw3.size
  try simp at hzw3
  have : w.heap.size < w3.heap.size := by omega
  have : w.heap.size ≤ w3.heap.size := by omega
  have : w3.cell? ⟨w.heap.size, 4, none⟩ = some (.string ⟨#[224, 160, 128]⟩) := cell_kept hbw3 (by simp [go_sem, *])
  have : w3.frozen? ⟨w.heap.size, 4, none⟩ = false := free_kept hbw3 (v := .string ⟨#[224, 160, 128]⟩) (by simp [go_sem, *]) (by simp [go_sem, *])
  have : (w.heap.size + 1) < w3.heap.size := by omega
  have : (w.heap.size + 1) ≤ w3.heap.size := by omega
  have : w3.cell? ⟨(w.heap.size + 1), 4, none⟩ = some (.string ⟨#[237, 160, 128]⟩) := cell_kept hbw3 (by simp [go_sem, *])
  have : w3.frozen? ⟨(w.heap.size + 1), 4, none⟩ = false := free_kept hbw3 (v := .string ⟨#[237, 160, 128]⟩) (by simp [go_sem, *]) (by simp [go_sem, *])
  go_wp2_with fail
  refine (B.out.2 _ (hA.on (by (repeat' (first | exact Below.refl _ _ | assumption | refine gr_drew ?_ | refine gr_drewN ?_ _ | refine gr_alloc ?_ _ | refine gr_set ?_ ?_ _ | refine gr_call ?_ (by assumption)) <;> (try (simp; done)) <;> (try (simp; omega)) <;> (try omega))))).mono ?_
  rintro e w4 ⟨rfl, hbw4⟩
  have hzw4 := hbw4.size
  try simp at hzw4
  have : w.heap.size < w4.heap.size := by omega
  have : w.heap.size ≤ w4.heap.size := by omega
  have : w4.cell? ⟨w.heap.size, 4, none⟩ = some (.string ⟨#[224, 160, 128]⟩) := cell_kept hbw4 (by simp [go_sem, *])
  have : w4.frozen? ⟨w.heap.size, 4, none⟩ = false := free_kept hbw4 (v := .string ⟨#[224, 160, 128]⟩) (by simp [go_sem, *]) (by simp [go_sem, *])
  have : (w.heap.size + 1) < w4.heap.size := by omega
  have : (w.heap.size + 1) ≤ w4.heap.size := by omega
  have : w4.cell? ⟨(w.heap.size + 1), 4, none⟩ = some (.string ⟨#[237, 160, 128]⟩) := cell_kept hbw4 (by simp [go_sem, *])
  have : w4.frozen? ⟨(w.heap.size + 1), 4, none⟩ = false := free_kept hbw4 (v := .string ⟨#[237, 160, 128]⟩) (by simp [go_sem, *]) (by simp [go_sem, *])
  go_wp2_with fail
  refine (C.out.1 _ (hA.on (by (repeat' (first | exact Below.refl _ _ | assumption | refine gr_drew ?_ | refine gr_drewN ?_ _ | refine gr_alloc ?_ _ | refine gr_set ?_ ?_ _ | refine gr_call ?_ (by assumption)) <;> (try (simp; done)) <;> (try (simp; omega)) <;> (try omega))))).mono ?_
  rintro e w5 ⟨rfl, hbw5⟩
  have hzw5 := hbw5.size
  try simp at hzw5
  have : w.heap.size < w5.heap.size := by omega
  have : w.heap.size ≤ w5.heap.size := by omega
  have : w5.cell? ⟨w.heap.size, 4, none⟩ = some (.string ⟨#[224, 160, 128]⟩) := cell_kept hbw5 (by simp [go_sem, *])
  have : w5.frozen? ⟨w.heap.size, 4, none⟩ = false := free_kept hbw5 (v := .string ⟨#[224, 160, 128]⟩) (by simp [go_sem, *]) (by simp [go_sem, *])
  have : (w.heap.size + 1) < w5.heap.size := by omega
  have : (w.heap.size + 1) ≤ w5.heap.size := by omega
  have : w5.cell? ⟨(w.heap.size + 1), 4, none⟩ = some (.string ⟨#[237, 160, 128]⟩) := cell_kept hbw5 (by simp [go_sem, *])
  have : w5.frozen? ⟨(w.heap.size + 1), 4, none⟩ = false := free_kept hbw5 (v := .string ⟨#[237, 160, 128]⟩) (by simp [go_sem, *]) (by simp [go_sem, *])
  go_wp2_with fail
  refine (C.out.2 _ (hA.on (by (repeat' (first | exact Below.refl _ _ | assumption | refine gr_drew ?_ | refine gr_drewN ?_ _ | refine gr_alloc ?_ _ | refine gr_set ?_ ?_ _ | refine gr_call ?_ (by assumption)) <;> (try (simp; done)) <;> (try (simp; omega)) <;> (try omega))))).mono ?_
  rintro e w6 ⟨rfl, hbw6⟩
  have hzw6 := hbw6.size
  try simp at hzw6
  go_wp2_with fail
  refine (awake_any _ (hA.on (by (repeat' (first | exact Below.refl _ _ | assumption | refine gr_drew ?_ | refine gr_drewN ?_ _ | refine gr_alloc ?_ _ | refine gr_set ?_ ?_ _ | refine gr_call ?_ (by assumption)) <;> (try (simp; done)) <;> (try (simp; omega)) <;> (try omega))))).mono ?_
  rintro e w7 ⟨rfl, hbw7⟩
  have hzw7 := hbw7.size
  try simp at hzw7
  go_wp2_with fail
  go_ret
  exact ⟨rfl, by (repeat' (first | exact Below.refl _ _ | assumption | refine gr_drew ?_ | refine gr_drewN ?_ _ | refine gr_alloc ?_ _ | refine gr_set ?_ ?_ _ | refine gr_call ?_ (by assumption)) <;> (try (simp; done)) <;> (try (simp; omega)) <;> (try omega))⟩

set_option maxRecDepth 100000 in
theorem known_5 (a0 : Int) (w : World) (hA : Amb w) (h0 : 0 ≤ a0) (h255 : a0 ≤ 255) (hj : a0 % 10 = 5) :
    Calls Tryd.prog 6 #[.int .u8 a0] w fun e w' => e = .returned (.bool true) ∧ Below w.heap.size w w' := by
  have G := Lib.hid (known_good ⟨#[237, 159, 191]⟩ [237, 159, 191] 1 rfl (chars_one (by decide) (by decide)) (by decide))
  have B := Lib.hid (known_bad ⟨#[240, 143, 191, 191]⟩ [240, 143, 191, 191] rfl (by decide) (by decide) (by decide))
  have C := Lib.hid (known_ab (⟨#[97, 98]⟩ ++ ⟨#[240, 143, 191, 191]⟩) [240, 143, 191, 191] (by simp) (by decide) (by decide) (by decide))
  have htm : a0.tmod 10 = 5 := by rw [Int.tmod_eq_emod_of_nonneg h0, hj]
  go_enter Tryd.func6, Tryd.ntmps6
  go_wp2_with fail
  refine (G.out.1 _ (hA.on (by (repeat' (first | exact Below.refl _ _ | assumption | refine gr_drew ?_ | refine gr_drewN ?_ _ | refine gr_alloc ?_ _ | refine gr_set ?_ ?_ _ | refine gr_call ?_ (by assumption)) <;> (try (simp; done)) <;> (try (simp; omega)) <;> (try omega))))).mono ?_
  rintro e w1 ⟨rfl, hbw1⟩
  have hzw1 := hbw1.size
  try simp at hzw1
  have : w.heap.size < w1.heap.size := by omega
  have : w.heap.size ≤ w1.heap.size := by omega
  have : w1.cell? ⟨w.heap.size, 5, none⟩ = some (.string ⟨#[237, 159, 191]⟩) := cell_kept hbw1 (by simp [go_sem, *])
  have : w1.frozen? ⟨w.heap.size, 5, none⟩ = false := free_kept hbw1 (v := .string ⟨#[237, 159, 191]⟩) (by simp [go_sem, *]) (by simp [go_sem, *])
  have : (w.heap.size + 1) < w1.heap.size := by omega
  have : (w.heap.size + 1) ≤ w1.heap.size := by omega
  have : w1.cell? ⟨(w.heap.size + 1), 5, none⟩ = some (.string ⟨#[240, 143, 191, 191]⟩) := cell_kept hbw1 (by simp [go_sem, *])
  have : w1.frozen? ⟨(w.heap.size + 1), 5, none⟩ = false := free_kept hbw1 (v := .string ⟨#[240, 143, 191, 191]⟩) (by simp [go_sem, *]) (by simp [go_sem, *])
  go_wp2_with fail
  refine (G.out.2 _ (hA.on (by (repeat' (first | exact Below.refl _ _ | assumption | refine gr_drew ?_ | refine gr_drewN ?_ _ | refine gr_alloc ?_ _ | refine gr_set ?_ ?_ _ | refine gr_call ?_ (by assumption)) <;> (try (simp; done)) <;> (try (simp; omega)) <;> (try omega))))).mono ?_
  rintro e w2 ⟨rfl, hbw2⟩
  have hzw2 := hbw2.size
  try simp at hzw2
  have : w.heap.size < w2.heap.size := by omega
  have : w.heap.size ≤ w2.heap.size := by omega
  have : w2.cell? ⟨w.heap.size, 5, none⟩ = some (.string ⟨#[237, 159, 191]⟩) := cell_kept hbw2 (by simp [go_sem, *])
  have : w2.frozen? ⟨w.heap.size, 5, none⟩ = false := free_kept hbw2 (v := .string ⟨#[237, 159, 191]⟩) (by simp [go_sem, *]) (by simp [go_sem, *])
  have : (w.heap.size + 1) < w2.heap.size := by omega
  have : (w.heap.size + 1) ≤ w2.heap.size := by omega
  have : w2.cell? ⟨(w.heap.size + 1), 5, none⟩ = some (.string ⟨#[240, 143, 191, 191]⟩) := cell_kept hbw2 (by simp [go_sem, *])
  have : w2.frozen? ⟨(w.heap.size + 1), 5, none⟩ = false := free_kept hbw2 (v := .string ⟨#[240, 143, 191, 191]⟩) (by simp [go_sem, *]) (by simp [go_sem, *])
  go_wp2_with fail
  refine (B.out.1 _ (hA.on (by (repeat' (first | exact Below.refl _ _ | assumption | refine gr_drew ?_ | refine gr_drewN ?_ _ | refine gr_alloc ?_ _ | refine gr_set ?_ ?_ _ | refine gr_call ?_ (by assumption)) <;> (try (simp; done)) <;> (try (simp; omega)) <;> (try omega))))).mono ?_
  rintro e w3 ⟨rfl, hbw3⟩
  have hzw3 := hbw3.size
  try simp at hzw3
  have : w.heap.size < w3.heap.size := by omega
  have : w.heap.size ≤ w3.heap.size := by omega
  have : w3.cell? ⟨w.heap.size, 5, none⟩ = some (.string ⟨#[237, 159, 191]⟩) := cell_kept hbw3 (by simp [go_sem, *])
  have : w3.frozen? ⟨w.heap.size, 5, none⟩ = false := free_kept hbw3 (v := .string ⟨#[237, 159, 191]⟩) (by simp [go_sem, *]) (by simp [go_sem, *])
  have : (w.heap.size + 1) < w3.heap.size := by omega
  have : (w.heap.size + 1) ≤ w3.heap.size := by omega
  have : w3.cell? ⟨(w.heap.size + 1), 5, none⟩ = some (.string ⟨#[240, 143, 191, 191]⟩) := cell_kept hbw3 (by simp [go_sem, *])
  have : w3.frozen? ⟨(w.heap.size + 1), 5, none⟩ = false := free_kept hbw3 (v := .string ⟨#[240, 143, 191, 191]⟩) (by simp [go_sem, *]) (by simp [go_sem, *])
  go_wp2_with fail
  refine (B.out.2 _ (hA.on (by (repeat' (first | exact Below.refl _ _ | assumption | refine gr_drew ?_ | refine gr_drewN ?_ _ | refine gr_alloc ?_ _ | refine gr_set ?_ ?_ _ | refine gr_call ?_ (by assumption)) <;> (try (simp; done)) <;> (try (simp; omega)) <;> (try omega))))).mono ?_
  rintro e w4 ⟨rfl, hbw4⟩
  have hzw4 := hbw4.size
  try simp at hzw4
  have : w.heap.size < w4.heap.size := by omega
  have : w.heap.size ≤ w4.heap.size := by omega
  have : w4.cell? ⟨w.heap.size, 5, none⟩ = some (.string ⟨#[237, 159, 191]⟩) := cell_kept hbw4 (by simp [go_sem, *])
  have : w4.frozen? ⟨w.heap.size, 5, none⟩ = false := free_kept hbw4 (v := .string ⟨#[237, 159, 191]⟩) (by simp [go_sem, *]) (by simp [go_sem, *])
  have : (w.heap.size + 1) < w4.heap.size := by omega
  have : (w.heap.size + 1) ≤ w4.heap.size := by omega
  have : w4.cell? ⟨(w.heap.size + 1), 5, none⟩ = some (.string ⟨#[240, 143, 191, 191]⟩) := cell_kept hbw4 (by simp [go_sem, *])
  have : w4.frozen? ⟨(w.heap.size + 1), 5, none⟩ = false := free_kept hbw4 (v := .string ⟨#[240, 143, 191, 191]⟩) (by simp [go_sem, *]) (by simp [go_sem, *])
  go_wp2_with fail
  refine (C.out.1 _ (hA.on (by (repeat' (first | exact Below.refl _ _ | assumption | refine gr_drew ?_ | refine gr_drewN ?_ _ | refine gr_alloc ?_ _ | refine gr_set ?_ ?_ _ | refine gr_call ?_ (by assumption)) <;> (try (simp; done)) <;> (try (simp; omega)) <;> (try omega))))).mono ?_
  rintro e w5 ⟨rfl, hbw5⟩
  have hzw5 := hbw5.size
  try simp at hzw5
  have : w.heap.size < w5.heap.size := by omega
  have : w.heap.size ≤ w5.heap.size := by omega
  have : w5.cell? ⟨w.heap.size, 5, none⟩ = some (.string ⟨#[237, 159, 191]⟩) := cell_kept hbw5 (by simp [go_sem, *])
  have : w5.frozen? ⟨w.heap.size, 5, none⟩ = false := free_kept hbw5 (v := .string ⟨#[237, 159, 191]⟩) (by simp [go_sem, *]) (by simp [go_sem, *])
  have : (w.heap.size + 1) < w5.heap.size := by omega
  have : (w.heap.size + 1) ≤ w5.heap.size := by omega
  have : w5.cell? ⟨(w.heap.size + 1), 5, none⟩ = some (.string ⟨#[240, 143, 191, 191]⟩) := cell_kept hbw5 (by simp [go_sem, *])
  have : w5.frozen? ⟨(w.heap.size + 1), 5, none⟩ = false := free_kept hbw5 (v := .string ⟨#[240, 143, 191, 191]⟩) (by simp [go_sem, *]) (by simp [go_sem, *])
  go_wp2_with fail
  refine (C.out.2 _ (hA.on (by (repeat' (first | exact Below.refl _ _ | assumption | refine gr_drew ?_ | refine gr_drewN ?_ _ | refine gr_alloc ?_ _ | refine gr_set ?_ ?_ _ | refine gr_call ?_ (by assumption)) <;> (try (simp; done)) <;> (try (simp; omega)) <;> (try omega))))).mono ?_
  rintro e w6 ⟨rfl, hbw6⟩
  have hzw6 := hbw6.size
  try simp at hzw6
  go_wp2_with fail
  refine (awake_any _ (hA.on (by (repeat' (first | exact Below.refl _ _ | assumption | refine gr_drew ?_ | refine gr_drewN ?_ _ | refine gr_alloc ?_ _ | refine gr_set ?_ ?_ _ | refine gr_call ?_ (by assumption)) <;> (try (simp; done)) <;> (try (simp; omega)) <;> (try omega))))).mono ?_
  rintro e w7 ⟨rfl, hbw7⟩
  have hzw7 := hbw7.size
  try simp at hzw7
  go_wp2_with fail
  go_ret
  exact ⟨rfl, by (repeat' (first | exact Below.refl _ _ | assumption | refine gr_drew ?_ | refine gr_drewN ?_ _ | refine gr_alloc ?_ _ | refine gr_set ?_ ?_ _ | refine gr_call ?_ (by assumption)) <;> (try (simp; done)) <;> (try (simp; omega)) <;> (try omega))⟩

set_option maxRecDepth 100000 in
theorem known_6 (a0 : Int) (w : World) (hA : Amb w) (h0 : 0 ≤ a0) (h255 : a0 ≤ 255) (hj : a0 % 10 = 6) :
    Calls Tryd.prog 6 #[.int .u8 a0] w fun e w' => e = .returned (.bool true) ∧ Below w.heap.size w w' := by
  have G := Lib.hid (known_good ⟨#[238, 128, 128]⟩ [238, 128, 128] 1 rfl (chars_one (by decide) (by decide)) (by decide))
  have B := Lib.hid (known_bad ⟨#[244, 144, 128, 128]⟩ [244, 144, 128, 128] rfl (by decide) (by decide) (by decide))
  have C := Lib.hid (known_ab (⟨#[97, 98]⟩ ++ ⟨#[244, 144, 128, 128]⟩) [244, 144, 128, 128] (by simp) (by decide) (by decide) (by decide))
  have htm : a0.tmod 10 = 6 := by rw [Int.tmod_eq_emod_of_nonneg h0, hj]
  go_enter Tryd.func6, Tryd.ntmps6
  go_wp2_with fail
  refine (G.out.1 _ (hA.on (by (repeat' (first | exact Below.refl _ _ | assumption | refine gr_drew ?_ | refine gr_drewN ?_ _ | refine gr_alloc ?_ _ | refine gr_set ?_ ?_ _ | refine gr_call ?_ (by assumption)) <;> (try (simp; done)) <;> (try (simp; omega)) <;> (try omega))))).mono ?_
  rintro e w1 ⟨rfl, hbw1⟩
  have hzw1 := hbw1.size
  try simp at hzw1
  have : w.heap.size < w1.heap.size := by omega
  have : w.heap.size ≤ w1.heap.size := by omega
  have : w1.cell? ⟨w.heap.size, 6, none⟩ = some (.string ⟨#[238, 128, 128]⟩) := cell_kept hbw1 (by simp [go_sem, *])
  have : w1.frozen? ⟨w.heap.size, 6, none⟩ = false := free_kept hbw1 (v := .string ⟨#[238, 128, 128]⟩) (by simp [go_sem, *]) (by simp [go_sem, *])
  have : (w.heap.size + 1) < w1.heap.size := by omega
  have : (w.heap.size + 1) ≤ w1.heap.size := by omega
  have : w1.cell? ⟨(w.heap.size + 1), 6, none⟩ = some (.string ⟨#[244, 144, 128, 128]⟩) := cell_kept hbw1 (by simp [go_sem, *])
  have : w1.frozen? ⟨(w.heap.size + 1), 6, none⟩ = false := free_kept hbw1 (v := .string ⟨#[244, 144, 128, 128]⟩) (by simp [go_sem, *]) (by simp [go_sem, *])
  go_wp2_with fail
  refine (G.out.2 _ (hA.on (by (repeat' (first | exact Below.refl _ _ | assumption | refine gr_drew ?_ | refine gr_drewN ?_ _ | refine gr_alloc ?_ _ | refine gr_set ?_ ?_ _ | refine gr_call ?_ (by assumption)) <;> (try (simp; done)) <;> (try (simp; omega)) <;> (try omega))))).mono ?_
  rintro e w2 ⟨rfl, hbw2⟩
  have hzw2 := hbw2.size
  try simp at hzw2
  have : w.heap.size < w2.heap.size := by omega
  have : w.heap.size ≤ w2.heap.size := by omega
  have : w2.cell? ⟨w.heap.size, 6, none⟩ = some (.string ⟨#[238, 128, 128]⟩) := cell_kept hbw2 (by simp [go_sem, *])
  have : w2.frozen? ⟨w.heap.size, 6, none⟩ = false := free_kept hbw2 (v := .string ⟨#[238, 128, 128]⟩) (by simp [go_sem, *]) (by simp [go_sem, *])
  have : (w.heap.size + 1) < w2.heap.size := by omega
  have : (w.heap.size + 1) ≤ w2.heap.size := by omega
  have : w2.cell? ⟨(w.heap.size + 1), 6, none⟩ = some (.string ⟨#[244, 144, 128, 128]⟩) := cell_kept hbw2 (by simp [go_sem, *])
  have : w2.frozen? ⟨(w.heap.size + 1), 6, none⟩ = false := free_kept hbw2 (v := .string ⟨#[244, 144, 128, 128]⟩) (by simp [go_sem, *]) (by simp [go_sem, *])
  go_wp2_with fail
  refine (B.out.1 _ (hA.on (by (repeat' (first | exact Below.refl _ _ | assumption | refine gr_drew ?_ | refine gr_drewN ?_ _ | refine gr_alloc ?_ _ | refine gr_set ?_ ?_ _ | refine gr_call ?_ (by assumption)) <;> (try (simp; done)) <;> (try (simp; omega)) <;> (try omega))))).mono ?_
  rintro e w3 ⟨rfl, hbw3⟩
  have hzw3 := hbw3.size
  try simp at hzw3
  have : w.heap.size < w3.heap.size := by omega
  have : w.heap.size ≤ w3.heap.size := by omega
  have : w3.cell? ⟨w.heap.size, 6, none⟩ = some (.string ⟨#[238, 128, 128]⟩) := cell_kept hbw3 (by simp [go_sem, *])
  have : w3.frozen? ⟨w.heap.size, 6, none⟩ = false := free_kept hbw3 (v := .string ⟨#[238, 128, 128]⟩) (by simp [go_sem, *]) (by simp [go_sem, *])
  have : (w.heap.size + 1) < w3.heap.size := by omega
  have : (w.heap.size + 1) ≤ w3.heap.size := by omega
  have : w3.cell? ⟨(w.heap.size + 1), 6, none⟩ = some (.string ⟨#[244, 144, 128, 128]⟩) := cell_kept hbw3 (by simp [go_sem, *])
  have : w3.frozen? ⟨(w.heap.size + 1), 6, none⟩ = false := free_kept hbw3 (v := .string ⟨#[244, 144, 128, 128]⟩) (by simp [go_sem, *]) (by simp [go_sem, *])
  go_wp2_with fail
  refine (B.out.2 _ (hA.on (by (repeat' (first | exact Below.refl _ _ | assumption | refine gr_drew ?_ | refine gr_drewN ?_ _ | refine gr_alloc ?_ _ | refine gr_set ?_ ?_ _ | refine gr_call ?_ (by assumption)) <;> (try (simp; done)) <;> (try (simp; omega)) <;> (try omega))))).mono ?_
  rintro e w4 ⟨rfl, hbw4⟩
  have hzw4 := hbw4.size
  try simp at hzw4
  have : w.heap.size < w4.heap.size := by omega
  have : w.heap.size ≤ w4.heap.size := by omega
  have : w4.cell? ⟨w.heap.size, 6, none⟩ = some (.string ⟨#[238, 128, 128]⟩) := cell_kept hbw4 (by simp [go_sem, *])
  have : w4.frozen? ⟨w.heap.size, 6, none⟩ = false := free_kept hbw4 (v := .string ⟨#[238, 128, 128]⟩) (by simp [go_sem, *]) (by simp [go_sem, *])
  have : (w.heap.size + 1) < w4.heap.size := by omega
  have : (w.heap.size + 1) ≤ w4.heap.size := by omega
  have : w4.cell? ⟨(w.heap.size + 1), 6, none⟩ = some (.string ⟨#[244, 144, 128, 128]⟩) := cell_kept hbw4 (by simp [go_sem, *])
  have : w4.frozen? ⟨(w.heap.size + 1), 6, none⟩ = false := free_kept hbw4 (v := .string ⟨#[244, 144, 128, 128]⟩) (by simp [go_sem, *]) (by simp [go_sem, *])
  go_wp2_with fail
  refine (C.out.1 _ (hA.on (by (repeat' (first | exact Below.refl _ _ | assumption | refine gr_drew ?_ | refine gr_drewN ?_ _ | refine gr_alloc ?_ _ | refine gr_set ?_ ?_ _ | refine gr_call ?_ (by assumption)) <;> (try (simp; done)) <;> (try (simp; omega)) <;> (try omega))))).mono ?_
  rintro e w5 ⟨rfl, hbw5⟩
  have hzw5 := hbw5.size
  try simp at hzw5
  have : w.heap.size < w5.heap.size := by omega
  have : w.heap.size ≤ w5.heap.size := by omega
  have : w5.cell? ⟨w.heap.size, 6, none⟩ = some (.string ⟨#[238, 128, 128]⟩) := cell_kept hbw5 (by simp [go_sem, *])
  have : w5.frozen? ⟨w.heap.size, 6, none⟩ = false := free_kept hbw5 (v := .string ⟨#[238, 128, 128]⟩) (by simp [go_sem, *]) (by simp [go_sem, *])
  have : (w.heap.size + 1) < w5.heap.size := by omega
  have : (w.heap.size + 1) ≤ w5.heap.size := by omega
  have : w5.cell? ⟨(w.heap.size + 1), 6, none⟩ = some (.string ⟨#[244, 144, 128, 128]⟩) := cell_kept hbw5 (by simp [go_sem, *])
  have : w5.frozen? ⟨(w.heap.size + 1), 6, none⟩ = false := free_kept hbw5 (v := .string ⟨#[244, 144, 128, 128]⟩) (by simp [go_sem, *]) (by simp [go_sem, *])
  go_wp2_with fail
  refine (C.out.2 _ (hA.on (by (repeat' (first | exact Below.refl _ _ | assumption | refine gr_drew ?_ | refine gr_drewN ?_ _ | refine gr_alloc ?_ _ | refine gr_set ?_ ?_ _ | refine gr_call ?_ (by assumption)) <;> (try (simp; done)) <;> (try (simp; omega)) <;> (try omega))))).mono ?_
  rintro e w6 ⟨rfl, hbw6⟩
  have hzw6 := hbw6.size
  try simp at hzw6
  go_wp2_with fail
  refine (awake_any _ (hA.on (by (repeat' (first | exact Below.refl _ _ | assumption | refine gr_drew ?_ | refine gr_drewN ?_ _ | refine gr_alloc ?_ _ | refine gr_set ?_ ?_ _ | refine gr_call ?_ (by assumption)) <;> (try (simp; done)) <;> (try (simp; omega)) <;> (try omega))))).mono ?_
  rintro e w7 ⟨rfl, hbw7⟩
  have hzw7 := hbw7.size
  try simp at hzw7
  go_wp2_with fail
  go_ret
  exact ⟨rfl, by (repeat' (first | exact Below.refl _ _ | assumption | refine gr_drew ?_ | refine gr_drewN ?_ _ | refine gr_alloc ?_ _ | refine gr_set ?_ ?_ _ | refine gr_call ?_ (by assumption)) <;> (try (simp; done)) <;> (try (simp; omega)) <;> (try omega))⟩

set_option maxRecDepth 100000 in
theorem known_7 (a0 : Int) (w : World) (hA : Amb w) (h0 : 0 ≤ a0) (h255 : a0 ≤ 255) (hj : a0 % 10 = 7) :
    Calls Tryd.prog 6 #[.int .u8 a0] w fun e w' => e = .returned (.bool true) ∧ Below w.heap.size w w' := by
  have G := Lib.hid (known_good ⟨#[239, 191, 191]⟩ [239, 191, 191] 1 rfl (chars_one (by decide) (by decide)) (by decide))
  have B := Lib.hid (known_bad ⟨#[248, 136, 128, 128, 128]⟩ [248, 136, 128, 128, 128] rfl (by decide) (by decide) (by decide))
  have C := Lib.hid (known_ab (⟨#[97, 98]⟩ ++ ⟨#[248, 136, 128, 128, 128]⟩) [248, 136, 128, 128, 128] (by simp) (by decide) (by decide) (by decide))
  have htm : a0.tmod 10 = 7 := by rw [Int.tmod_eq_emod_of_nonneg h0, hj]
  go_enter Tryd.func6, Tryd.ntmps6
  go_wp2_with fail
  refine (G.out.1 _ (hA.on (by (repeat' (first | exact Below.refl _ _ | assumption | refine gr_drew ?_ | refine gr_drewN ?_ _ | refine gr_alloc ?_ _ | refine gr_set ?_ ?_ _ | refine gr_call ?_ (by assumption)) <;> (try (simp; done)) <;> (try (simp; omega)) <;> (try omega))))).mono ?_
  rintro e w1 ⟨rfl, hbw1⟩
  have hzw1 := hbw1.size
  try simp at hzw1
  have : w.heap.size < w1.heap.size := by omega
  have : w.heap.size ≤ w1.heap.size := by omega
  have : w1.cell? ⟨w.heap.size, 7, none⟩ = some (.string ⟨#[239, 191, 191]⟩) := cell_kept hbw1 (by simp [go_sem, *])
  have : w1.frozen? ⟨w.heap.size, 7, none⟩ = false := free_kept hbw1 (v := .string ⟨#[239, 191, 191]⟩) (by simp [go_sem, *]) (by simp [go_sem, *])
  have : (w.heap.size + 1) < w1.heap.size := by omega
  have : (w.heap.size + 1) ≤ w1.heap.size := by omega
  have : w1.cell? ⟨(w.heap.size + 1), 7, none⟩ = some (.string ⟨#[248, 136, 128, 128, 128]⟩) := cell_kept hbw1 (by simp [go_sem, *])
  have : w1.frozen? ⟨(w.heap.size + 1), 7, none⟩ = false := free_kept hbw1 (v := .string ⟨#[248, 136, 128, 128, 128]⟩) (by simp [go_sem, *]) (by simp [go_sem, *])
  go_wp2_with fail
  refine (G.out.2 _ (hA.on (by (repeat' (first | exact Below.refl _ _ | assumption | refine gr_drew ?_ | refine gr_drewN ?_ _ | refine gr_alloc ?_ _ | refine gr_set ?_ ?_ _ | refine gr_call ?_ (by assumption)) <;> (try (simp; done)) <;> (try (simp; omega)) <;> (try omega))))).mono ?_
  rintro e w2 ⟨rfl, hbw2⟩
  have hzw2 := hbw2.size
  try simp at hzw2
  have : w.heap.size < w2.heap.size := by omega
  have : w.heap.size ≤ w2.heap.size := by omega
  have : w2.cell? ⟨w.heap.size, 7, none⟩ = some (.string ⟨#[239, 191, 191]⟩) := cell_kept hbw2 (by simp [go_sem, *])
  have : w2.frozen? ⟨w.heap.size, 7, none⟩ = false := free_kept hbw2 (v := .string ⟨#[239, 191, 191]⟩) (by simp [go_sem, *]) (by simp [go_sem, *])
  have : (w.heap.size + 1) < w2.heap.size := by omega
  have : (w.heap.size + 1) ≤ w2.heap.size := by omega
  have : w2.cell? ⟨(w.heap.size + 1), 7, none⟩ = some (.string ⟨#[248, 136, 128, 128, 128]⟩) := cell_kept hbw2 (by simp [go_sem, *])
  have : w2.frozen? ⟨(w.heap.size + 1), 7, none⟩ = false := free_kept hbw2 (v := .string ⟨#[248, 136, 128, 128, 128]⟩) (by simp [go_sem, *]) (by simp [go_sem, *])
  go_wp2_with fail
  refine (B.out.1 _ (hA.on (by (repeat' (first | exact Below.refl _ _ | assumption | refine gr_drew ?_ | refine gr_drewN ?_ _ | refine gr_alloc ?_ _ | refine gr_set ?_ ?_ _ | refine gr_call ?_ (by assumption)) <;> (try (simp; done)) <;> (try (simp; omega)) <;> (try omega))))).mono ?_
  rintro e w3 ⟨rfl, hbw3⟩
  have hzw3 := hbw3.size
  try simp at hzw3
  have : w.heap.size < w3.heap.size := by omega
  have : w.heap.size ≤ w3.heap.size := by omega
  have : w3.cell? ⟨w.heap.size, 7, none⟩ = some (.string ⟨#[239, 191, 191]⟩) := cell_kept hbw3 (by simp [go_sem, *])
  have : w3.frozen? ⟨w.heap.size, 7, none⟩ = false := free_kept hbw3 (v := .string ⟨#[239, 191, 191]⟩) (by simp [go_sem, *]) (by simp [go_sem, *])
  have : (w.heap.size + 1) < w3.heap.size := by omega
  have : (w.heap.size + 1) ≤ w3.heap.size := by omega
  have : w3.cell? ⟨(w.heap.size + 1), 7, none⟩ = some (.string ⟨#[248, 136, 128, 128, 128]⟩) := cell_kept hbw3 (by simp [go_sem, *])
  have : w3.frozen? ⟨(w.heap.size + 1), 7, none⟩ = false := free_kept hbw3 (v := .string ⟨#[248, 136, 128, 128, 128]⟩) (by simp [go_sem, *]) (by simp [go_sem, *])
  go_wp2_with fail
  refine (B.out.2 _ (hA.on (by (repeat' (first | exact Below.refl _ _ | assumption | refine gr_drew ?_ | refine gr_drewN ?_ _ | refine gr_alloc ?_ _ | refine gr_set ?_ ?_ _ | refine gr_call ?_ (by assumption)) <;> (try (simp; done)) <;> (try (simp; omega)) <;> (try omega))))).mono ?_
  rintro e w4 ⟨rfl, hbw4⟩
  have hzw4 := hbw4.size
  try simp at hzw4
  have : w.heap.size < w4.heap.size := by omega
  have : w.heap.size ≤ w4.heap.size := by omega
  have : w4.cell? ⟨w.heap.size, 7, none⟩ = some (.string ⟨#[239, 191, 191]⟩) := cell_kept hbw4 (by simp [go_sem, *])
  have : w4.frozen? ⟨w.heap.size, 7, none⟩ = false := free_kept hbw4 (v := .string ⟨#[239, 191, 191]⟩) (by simp [go_sem, *]) (by simp [go_sem, *])
  have : (w.heap.size + 1) < w4.heap.size := by omega
  have : (w.heap.size + 1) ≤ w4.heap.size := by omega
  have : w4.cell? ⟨(w.heap.size + 1), 7, none⟩ = some (.string ⟨#[248, 136, 128, 128, 128]⟩) := cell_kept hbw4 (by simp [go_sem, *])
  have : w4.frozen? ⟨(w.heap.size + 1), 7, none⟩ = false := free_kept hbw4 (v := .string ⟨#[248, 136, 128, 128, 128]⟩) (by simp [go_sem, *]) (by simp [go_sem, *])
  go_wp2_with fail
  refine (C.out.1 _ (hA.on (by (repeat' (first | exact Below.refl _ _ | assumption | refine gr_drew ?_ | refine gr_drewN ?_ _ | refine gr_alloc ?_ _ | refine gr_set ?_ ?_ _ | refine gr_call ?_ (by assumption)) <;> (try (simp; done)) <;> (try (simp; omega)) <;> (try omega))))).mono ?_
  rintro e w5 ⟨rfl, hbw5⟩
  have hzw5 := hbw5.size
  try simp at hzw5
  have : w.heap.size < w5.heap.size := by omega
  have : w.heap.size ≤ w5.heap.size := by omega
  have : w5.cell? ⟨w.heap.size, 7, none⟩ = some (.string ⟨#[239, 191, 191]⟩) := cell_kept hbw5 (by simp [go_sem, *])
  have : w5.frozen? ⟨w.heap.size, 7, none⟩ = false := free_kept hbw5 (v := .string ⟨#[239, 191, 191]⟩) (by simp [go_sem, *]) (by simp [go_sem, *])
  have : (w.heap.size + 1) < w5.heap.size := by omega
  have : (w.heap.size + 1) ≤ w5.heap.size := by omega
  have : w5.cell? ⟨(w.heap.size + 1), 7, none⟩ = some (.string ⟨#[248, 136, 128, 128, 128]⟩) := cell_kept hbw5 (by simp [go_sem, *])
  have : w5.frozen? ⟨(w.heap.size + 1), 7, none⟩ = false := free_kept hbw5 (v := .string ⟨#[248, 136, 128, 128, 128]⟩) (by simp [go_sem, *]) (by simp [go_sem, *])
  go_wp2_with fail
  refine (C.out.2 _ (hA.on (by (repeat' (first | exact Below.refl _ _ | assumption | refine gr_drew ?_ | refine gr_drewN ?_ _ | refine gr_alloc ?_ _ | refine gr_set ?_ ?_ _ | refine gr_call ?_ (by assumption)) <;> (try (simp; done)) <;> (try (simp; omega)) <;> (try omega))))).mono ?_
  rintro e w6 ⟨rfl, hbw6⟩
  have hzw6 := hbw6.size
  try simp at hzw6
  go_wp2_with fail
  refine (awake_any _ (hA.on (by (repeat' (first | exact Below.refl _ _ | assumption | refine gr_drew ?_ | refine gr_drewN ?_ _ | refine gr_alloc ?_ _ | refine gr_set ?_ ?_ _ | refine gr_call ?_ (by assumption)) <;> (try (simp; done)) <;> (try (simp; omega)) <;> (try omega))))).mono ?_
  rintro e w7 ⟨rfl, hbw7⟩
  have hzw7 := hbw7.size
  try simp at hzw7
  go_wp2_with fail
  go_ret
  exact ⟨rfl, by (repeat' (first | exact Below.refl _ _ | assumption | refine gr_drew ?_ | refine gr_drewN ?_ _ | refine gr_alloc ?_ _ | refine gr_set ?_ ?_ _ | refine gr_call ?_ (by assumption)) <;> (try (simp; done)) <;> (try (simp; omega)) <;> (try omega))⟩

set_option maxRecDepth 100000 in
theorem known_8 (a0 : Int) (w : World) (hA : Amb w) (h0 : 0 ≤ a0) (h255 : a0 ≤ 255) (hj : a0 % 10 = 8) :
    Calls Tryd.prog 6 #[.int .u8 a0] w fun e w' => e = .returned (.bool true) ∧ Below w.heap.size w w' := by
  have G := Lib.hid (known_good ⟨#[240, 144, 128, 128]⟩ [240, 144, 128, 128] 1 rfl (chars_one (by decide) (by decide)) (by decide))
  have B := Lib.hid (known_bad ⟨#[194, 65]⟩ [194, 65] rfl (by decide) (by decide) (by decide))
  have C := Lib.hid (known_ab (⟨#[97, 98]⟩ ++ ⟨#[194, 65]⟩) [194, 65] (by simp) (by decide) (by decide) (by decide))
  have htm : a0.tmod 10 = 8 := by rw [Int.tmod_eq_emod_of_nonneg h0, hj]
  go_enter Tryd.func6, Tryd.ntmps6
  go_wp2_with fail
  refine (G.out.1 _ (hA.on (by (repeat' (first | exact Below.refl _ _ | assumption | refine gr_drew ?_ | refine gr_drewN ?_ _ | refine gr_alloc ?_ _ | refine gr_set ?_ ?_ _ | refine gr_call ?_ (by assumption)) <;> (try (simp; done)) <;> (try (simp; omega)) <;> (try omega))))).mono ?_
  rintro e w1 ⟨rfl, hbw1⟩
  have hzw1 := hbw1.size
  try simp at hzw1
  have : w.heap.size < w1.heap.size := by omega
  have : w.heap.size ≤ w1.heap.size := by omega
  have : w1.cell? ⟨w.heap.size, 8, none⟩ = some (.string ⟨#[240, 144, 128, 128]⟩) := cell_kept hbw1 (by simp [go_sem, *])
  have : w1.frozen? ⟨w.heap.size, 8, none⟩ = false := free_kept hbw1 (v := .string ⟨#[240, 144, 128, 128]⟩) (by simp [go_sem, *]) (by simp [go_sem, *])
  have : (w.heap.size + 1) < w1.heap.size := by omega
  have : (w.heap.size + 1) ≤ w1.heap.size := by omega
  have : w1.cell? ⟨(w.heap.size + 1), 8, none⟩ = some (.string ⟨#[194, 65]⟩) := cell_kept hbw1 (by simp [go_sem, *])
  have : w1.frozen? ⟨(w.heap.size + 1), 8, none⟩ = false := free_kept hbw1 (v := .string ⟨#[194, 65]⟩) (by simp [go_sem, *]) (by simp [go_sem, *])
  go_wp2_with fail
  refine (G.out.2 _ (hA.on (by (repeat' (first | exact Below.refl _ _ | assumption | refine gr_drew ?_ | refine gr_drewN ?_ _ | refine gr_alloc ?_ _ | refine gr_set ?_ ?_ _ | refine gr_call ?_ (by assumption)) <;> (try (simp; done)) <;> (try (simp; omega)) <;> (try omega))))).mono ?_
  rintro e w2 ⟨rfl, hbw2⟩
  have hzw2 := hbw2.size
  try simp at hzw2
  have : w.heap.size < w2.heap.size := by omega
  have : w.heap.size ≤ w2.heap.size := by omega
  have : w2.cell? ⟨w.heap.size, 8, none⟩ = some (.string ⟨#[240, 144, 128, 128]⟩) := cell_kept hbw2 (by simp [go_sem, *])
  have : w2.frozen? ⟨w.heap.size, 8, none⟩ = false := free_kept hbw2 (v := .string ⟨#[240, 144, 128, 128]⟩) (by simp [go_sem, *]) (by simp [go_sem, *])
  have : (w.heap.size + 1) < w2.heap.size := by omega
  have : (w.heap.size + 1) ≤ w2.heap.size := by omega
  have : w2.cell? ⟨(w.heap.size + 1), 8, none⟩ = some (.string ⟨#[194, 65]⟩) := cell_kept hbw2 (by simp [go_sem, *])
  have : w2.frozen? ⟨(w.heap.size + 1), 8, none⟩ = false := free_kept hbw2 (v := .string ⟨#[194, 65]⟩) (by simp [go_sem, *]) (by simp [go_sem, *])
  go_wp2_with fail
  refine (B.out.1 _ (hA.on (by (repeat' (first | exact Below.refl _ _ | assumption | refine gr_drew ?_ | refine gr_drewN ?_ _ | refine gr_alloc ?_ _ | refine gr_set ?_ ?_ _ | refine gr_call ?_ (by assumption)) <;> (try (simp; done)) <;> (try (simp; omega)) <;> (try omega))))).mono ?_
  rintro e w3 ⟨rfl, hbw3⟩
  have hzw3 := hbw3.size
  try simp at hzw3
  have : w.heap.size < w3.heap.size := by omega
  have : w.heap.size ≤ w3.heap.size := by omega
  have : w3.cell? ⟨w.heap.size, 8, none⟩ = some (.string ⟨#[240, 144, 128, 128]⟩) := cell_kept hbw3 (by simp [go_sem, *])
  have : w3.frozen? ⟨w.heap.size, 8, none⟩ = false := free_kept hbw3 (v := .string ⟨#[240, 144, 128, 128]⟩) (by simp [go_sem, *]) (by simp [go_sem, *])
  have : (w.heap.size + 1) < w3.heap.size := by omega
  have : (w.heap.size + 1) ≤ w3.heap.size := by omega
  have : w3.cell? ⟨(w.heap.size + 1), 8, none⟩ = some (.string ⟨#[194, 65]⟩) := cell_kept hbw3 (by simp [go_sem, *])
  have : w3.frozen? ⟨(w.heap.size + 1), 8, none⟩ = false := free_kept hbw3 (v := .string ⟨#[194, 65]⟩) (by simp [go_sem, *]) (by simp [go_sem, *])
  go_wp2_with fail
  refine (B.out.2 _ (hA.on (by (repeat' (first | exact Below.refl _ _ | assumption | refine gr_drew ?_ | refine gr_drewN ?_ _ | refine gr_alloc ?_ _ | refine gr_set ?_ ?_ _ | refine gr_call ?_ (by assumption)) <;> (try (simp; done)) <;> (try (simp; omega)) <;> (try omega))))).mono ?_
  rintro e w4 ⟨rfl, hbw4⟩
  have hzw4 := hbw4.size
  try simp at hzw4
  have : w.heap.size < w4.heap.size := by omega
  have : w.heap.size ≤ w4.heap.size := by omega
  have : w4.cell? ⟨w.heap.size, 8, none⟩ = some (.string ⟨#[240, 144, 128, 128]⟩) := cell_kept hbw4 (by simp [go_sem, *])
  have : w4.frozen? ⟨w.heap.size, 8, none⟩ = false := free_kept hbw4 (v := .string ⟨#[240, 144, 128, 128]⟩) (by simp [go_sem, *]) (by simp [go_sem, *])
  have : (w.heap.size + 1) < w4.heap.size := by omega
  have : (w.heap.size + 1) ≤ w4.heap.size := by omega
  have : w4.cell? ⟨(w.heap.size + 1), 8, none⟩ = some (.string ⟨#[194, 65]⟩) := cell_kept hbw4 (by simp [go_sem, *])
  have : w4.frozen? ⟨(w.heap.size + 1), 8, none⟩ = false := free_kept hbw4 (v := .string ⟨#[194, 65]⟩) (by simp [go_sem, *]) (by simp [go_sem, *])
  go_wp2_with fail
  refine (C.out.1 _ (hA.on (by (repeat' (first | exact Below.refl _ _ | assumption | refine gr_drew ?_ | refine gr_drewN ?_ _ | refine gr_alloc ?_ _ | refine gr_set ?_ ?_ _ | refine gr_call ?_ (by assumption)) <;> (try (simp; done)) <;> (try (simp; omega)) <;> (try omega))))).mono ?_
  rintro e w5 ⟨rfl, hbw5⟩
  have hzw5 := hbw5.size
  try simp at hzw5
  have : w.heap.size < w5.heap.size := by omega
  have : w.heap.size ≤ w5.heap.size := by omega
  have : w5.cell? ⟨w.heap.size, 8, none⟩ = some (.string ⟨#[240, 144, 128, 128]⟩) := cell_kept hbw5 (by simp [go_sem, *])
  have : w5.frozen? ⟨w.heap.size, 8, none⟩ = false := free_kept hbw5 (v := .string ⟨#[240, 144, 128, 128]⟩) (by simp [go_sem, *]) (by simp [go_sem, *])
  have : (w.heap.size + 1) < w5.heap.size := by omega
  have : (w.heap.size + 1) ≤ w5.heap.size := by omega
  have : w5.cell? ⟨(w.heap.size + 1), 8, none⟩ = some (.string ⟨#[194, 65]⟩) := cell_kept hbw5 (by simp [go_sem, *])
  have : w5.frozen? ⟨(w.heap.size + 1), 8, none⟩ = false := free_kept hbw5 (v := .string ⟨#[194, 65]⟩) (by simp [go_sem, *]) (by simp [go_sem, *])
  go_wp2_with fail
  refine (C.out.2 _ (hA.on (by (repeat' (first | exact Below.refl _ _ | assumption | refine gr_drew ?_ | refine gr_drewN ?_ _ | refine gr_alloc ?_ _ | refine gr_set ?_ ?_ _ | refine gr_call ?_ (by assumption)) <;> (try (simp; done)) <;> (try (simp; omega)) <;> (try omega))))).mono ?_
  rintro e w6 ⟨rfl, hbw6⟩
  have hzw6 := hbw6.size
  try simp at hzw6
  go_wp2_with fail
  refine (awake_any _ (hA.on (by (repeat' (first | exact Below.refl _ _ | assumption | refine gr_drew ?_ | refine gr_drewN ?_ _ | refine gr_alloc ?_ _ | refine gr_set ?_ ?_ _ | refine gr_call ?_ (by assumption)) <;> (try (simp; done)) <;> (try (simp; omega)) <;> (try omega))))).mono ?_
  rintro e w7 ⟨rfl, hbw7⟩
  have hzw7 := hbw7.size
  try simp at hzw7
  go_wp2_with fail
  go_ret
  exact ⟨rfl, by (repeat' (first | exact Below.refl _ _ | assumption | refine gr_drew ?_ | refine gr_drewN ?_ _ | refine gr_alloc ?_ _ | refine gr_set ?_ ?_ _ | refine gr_call ?_ (by assumption)) <;> (try (simp; done)) <;> (try (simp; omega)) <;> (try omega))⟩

set_option maxRecDepth 100000 in
theorem known_9 (a0 : Int) (w : World) (hA : Amb w) (h0 : 0 ≤ a0) (h255 : a0 ≤ 255) (hj : a0 % 10 = 9) :
    Calls Tryd.prog 6 #[.int .u8 a0] w fun e w' => e = .returned (.bool true) ∧ Below w.heap.size w w' := by
  have G := Lib.hid (known_good ⟨#[244, 143, 191, 191]⟩ [244, 143, 191, 191] 1 rfl (chars_one (by decide) (by decide)) (by decide))
  have B := Lib.hid (known_bad ⟨#[226, 130]⟩ [226, 130] rfl (by decide) (by decide) (by decide))
  have C := Lib.hid (known_ab (⟨#[97, 98]⟩ ++ ⟨#[226, 130]⟩) [226, 130] (by simp) (by decide) (by decide) (by decide))
  have htm : a0.tmod 10 = 9 := by rw [Int.tmod_eq_emod_of_nonneg h0, hj]
  go_enter Tryd.func6, Tryd.ntmps6
  go_wp2_with fail
  refine (G.out.1 _ (hA.on (by (repeat' (first | exact Below.refl _ _ | assumption | refine gr_drew ?_ | refine gr_drewN ?_ _ | refine gr_alloc ?_ _ | refine gr_set ?_ ?_ _ | refine gr_call ?_ (by assumption)) <;> (try (simp; done)) <;> (try (simp; omega)) <;> (try omega))))).mono ?_
  rintro e w1 ⟨rfl, hbw1⟩
  have hzw1 := hbw1.size
  try simp at hzw1
  have : w.heap.size < w1.heap.size := by omega
  have : w.heap.size ≤ w1.heap.size := by omega
  have : w1.cell? ⟨w.heap.size, 9, none⟩ = some (.string ⟨#[244, 143, 191, 191]⟩) := cell_kept hbw1 (by simp [go_sem, *])
  have : w1.frozen? ⟨w.heap.size, 9, none⟩ = false := free_kept hbw1 (v := .string ⟨#[244, 143, 191, 191]⟩) (by simp [go_sem, *]) (by simp [go_sem, *])
  have : (w.heap.size + 1) < w1.heap.size := by omega
  have : (w.heap.size + 1) ≤ w1.heap.size := by omega
  have : w1.cell? ⟨(w.heap.size + 1), 9, none⟩ = some (.string ⟨#[226, 130]⟩) := cell_kept hbw1 (by simp [go_sem, *])
  have : w1.frozen? ⟨(w.heap.size + 1), 9, none⟩ = false := free_kept hbw1 (v := .string ⟨#[226, 130]⟩) (by simp [go_sem, *]) (by simp [go_sem, *])
  go_wp2_with fail
  refine (G.out.2 _ (hA.on (by (repeat' (first | exact Below.refl _ _ | assumption | refine gr_drew ?_ | refine gr_drewN ?_ _ | refine gr_alloc ?_ _ | refine gr_set ?_ ?_ _ | refine gr_call ?_ (by assumption)) <;> (try (simp; done)) <;> (try (simp; omega)) <;> (try omega))))).mono ?_
  rintro e w2 ⟨rfl, hbw2⟩
  have hzw2 := hbw2.size
  try simp at hzw2
  have : w.heap.size < w2.heap.size := by omega
  have : w.heap.size ≤ w2.heap.size := by omega
  have : w2.cell? ⟨w.heap.size, 9, none⟩ = some (.string ⟨#[244, 143, 191, 191]⟩) := cell_kept hbw2 (by simp [go_sem, *])
  have : w2.frozen? ⟨w.heap.size, 9, none⟩ = false := free_kept hbw2 (v := .string ⟨#[244, 143, 191, 191]⟩) (by simp [go_sem, *]) (by simp [go_sem, *])
  have : (w.heap.size + 1) < w2.heap.size := by omega
  have : (w.heap.size + 1) ≤ w2.heap.size := by omega
  have : w2.cell? ⟨(w.heap.size + 1), 9, none⟩ = some (.string ⟨#[226, 130]⟩) := cell_kept hbw2 (by simp [go_sem, *])
  have : w2.frozen? ⟨(w.heap.size + 1), 9, none⟩ = false := free_kept hbw2 (v := .string ⟨#[226, 130]⟩) (by simp [go_sem, *]) (by simp [go_sem, *])
  go_wp2_with fail
  refine (B.out.1 _ (hA.on (by (repeat' (first | exact Below.refl _ _ | assumption | refine gr_drew ?_ | refine gr_drewN ?_ _ | refine gr_alloc ?_ _ | refine gr_set ?_ ?_ _ | refine gr_call ?_ (by assumption)) <;> (try (simp; done)) <;> (try (simp; omega)) <;> (try omega))))).mono ?_
  rintro e w3 ⟨rfl, hbw3⟩
  have hzw3 := hbw3.size
  try simp at hzw3
  have : w.heap.size < w3.heap.size := by omega
  have : w.heap.size ≤ w3.heap.size := by omega
  have : w3.cell? ⟨w.heap.size, 9, none⟩ = some (.string ⟨#[244, 143, 191, 191]⟩) := cell_kept hbw3 (by simp [go_sem, *])
  have : w3.frozen? ⟨w.heap.size, 9, none⟩ = false := free_kept hbw3 (v := .string ⟨#[244, 143, 191, 191]⟩) (by simp [go_sem, *]) (by simp [go_sem, *])
  have : (w.heap.size + 1) < w3.heap.size := by omega
  have : (w.heap.size + 1) ≤ w3.heap.size := by omega
  have : w3.cell? ⟨(w.heap.size + 1), 9, none⟩ = some (.string ⟨#[226, 130]⟩) := cell_kept hbw3 (by simp [go_sem, *])
  have : w3.frozen? ⟨(w.heap.size + 1), 9, none⟩ = false := free_kept hbw3 (v := .string ⟨#[226, 130]⟩) (by simp [go_sem, *]) (by simp [go_sem, *])
  go_wp2_with fail
  refine (B.out.2 _ (hA.on (by (repeat' (first | exact Below.refl _ _ | assumption | refine gr_drew ?_ | refine gr_drewN ?_ _ | refine gr_alloc ?_ _ | refine gr_set ?_ ?_ _ | refine gr_call ?_ (by assumption)) <;> (try (simp; done)) <;> (try (simp; omega)) <;> (try omega))))).mono ?_
  rintro e w4 ⟨rfl, hbw4⟩
  have hzw4 := hbw4.size
  try simp at hzw4
  have : w.heap.size < w4.heap.size := by omega
  have : w.heap.size ≤ w4.heap.size := by omega
  have : w4.cell? ⟨w.heap.size, 9, none⟩ = some (.string ⟨#[244, 143, 191, 191]⟩) := cell_kept hbw4 (by simp [go_sem, *])
  have : w4.frozen? ⟨w.heap.size, 9, none⟩ = false := free_kept hbw4 (v := .string ⟨#[244, 143, 191, 191]⟩) (by simp [go_sem, *]) (by simp [go_sem, *])
  have : (w.heap.size + 1) < w4.heap.size := by omega
  have : (w.heap.size + 1) ≤ w4.heap.size := by omega
  have : w4.cell? ⟨(w.heap.size + 1), 9, none⟩ = some (.string ⟨#[226, 130]⟩) := cell_kept hbw4 (by simp [go_sem, *])
  have : w4.frozen? ⟨(w.heap.size + 1), 9, none⟩ = false := free_kept hbw4 (v := .string ⟨#[226, 130]⟩) (by simp [go_sem, *]) (by simp [go_sem, *])
  go_wp2_with fail
  refine (C.out.1 _ (hA.on (by (repeat' (first | exact Below.refl _ _ | assumption | refine gr_drew ?_ | refine gr_drewN ?_ _ | refine gr_alloc ?_ _ | refine gr_set ?_ ?_ _ | refine gr_call ?_ (by assumption)) <;> (try (simp; done)) <;> (try (simp; omega)) <;> (try omega))))).mono ?_
  rintro e w5 ⟨rfl, hbw5⟩
  have hzw5 := hbw5.size
  try simp at hzw5
  have : w.heap.size < w5.heap.size := by omega
  have : w.heap.size ≤ w5.heap.size := by omega
  have : w5.cell? ⟨w.heap.size, 9, none⟩ = some (.string ⟨#[244, 143, 191, 191]⟩) := cell_kept hbw5 (by simp [go_sem, *])
  have : w5.frozen? ⟨w.heap.size, 9, none⟩ = false := free_kept hbw5 (v := .string ⟨#[244, 143, 191, 191]⟩) (by simp [go_sem, *]) (by simp [go_sem, *])
  have : (w.heap.size + 1) < w5.heap.size := by omega
  have : (w.heap.size + 1) ≤ w5.heap.size := by omega
  have : w5.cell? ⟨(w.heap.size + 1), 9, none⟩ = some (.string ⟨#[226, 130]⟩) := cell_kept hbw5 (by simp [go_sem, *])
  have : w5.frozen? ⟨(w.heap.size + 1), 9, none⟩ = false := free_kept hbw5 (v := .string ⟨#[226, 130]⟩) (by simp [go_sem, *]) (by simp [go_sem, *])
  go_wp2_with fail
  refine (C.out.2 _ (hA.on (by (repeat' (first | exact Below.refl _ _ | assumption | refine gr_drew ?_ | refine gr_drewN ?_ _ | refine gr_alloc ?_ _ | refine gr_set ?_ ?_ _ | refine gr_call ?_ (by assumption)) <;> (try (simp; done)) <;> (try (simp; omega)) <;> (try omega))))).mono ?_
  rintro e w6 ⟨rfl, hbw6⟩
  have hzw6 := hbw6.size
  try simp at hzw6
  go_wp2_with fail
  refine (awake_any _ (hA.on (by (repeat' (first | exact Below.refl _ _ | assumption | refine gr_drew ?_ | refine gr_drewN ?_ _ | refine gr_alloc ?_ _ | refine gr_set ?_ ?_ _ | refine gr_call ?_ (by assumption)) <;> (try (simp; done)) <;> (try (simp; omega)) <;> (try omega))))).mono ?_
  rintro e w7 ⟨rfl, hbw7⟩
  have hzw7 := hbw7.size
  try simp at hzw7
  go_wp2_with fail
  go_ret
  exact ⟨rfl, by (repeat' (first | exact Below.refl _ _ | assumption | refine gr_drew ?_ | refine gr_drewN ?_ _ | refine gr_alloc ?_ _ | refine gr_set ?_ ?_ _ | refine gr_call ?_ (by assumption)) <;> (try (simp; done)) <;> (try (simp; omega)) <;> (try omega))⟩

theorem textKnown_walk (a0 : Int) (w : World) (hA : Amb w) (w0 : (Lit.int .u8 a0).wf = true) :
    Calls Tryd.prog 6 #[.int .u8 a0] w fun e w' => e = .returned (.bool true) ∧ Below w.heap.size w w' := by
  obtain ⟨h0, h255⟩ := boundsU8 w0
  rcases (show a0 % 10 = 0 ∨ a0 % 10 = 1 ∨ a0 % 10 = 2 ∨ a0 % 10 = 3 ∨ a0 % 10 = 4 ∨ a0 % 10 = 5 ∨ a0 % 10 = 6 ∨ a0 % 10 = 7 ∨ a0 % 10 = 8 ∨ a0 % 10 = 9 by omega) with h | h | h | h | h | h | h | h | h | h
  · exact known_0 a0 w hA h0 h255 h
  · exact known_1 a0 w hA h0 h255 h
  · exact known_2 a0 w hA h0 h255 h
  · exact known_3 a0 w hA h0 h255 h
  · exact known_4 a0 w hA h0 h255 h
  · exact known_5 a0 w hA h0 h255 h
  · exact known_6 a0 w hA h0 h255 h
  · exact known_7 a0 w hA h0 h255 h
  · exact known_8 a0 w hA h0 h255 h
  · exact known_9 a0 w hA h0 h255 h
end Go.Proofs.YthmmcmpbpfnocaaDoor
