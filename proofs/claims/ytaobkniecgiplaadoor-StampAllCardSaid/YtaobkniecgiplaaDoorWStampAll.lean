/- The walk of the law StampAll. -/
import Derived.Test.YtaobkniecgiplaaDoorStampAwake
import Derived.Deep.DeepCutAuto
namespace Go.Proofs.YtaobkniecgiplaaDoor
open Go.RowKit
open StampM

set_option maxRecDepth 100000 in
theorem all_long (a0 b0 a1 b1 : Int) (s : ByteArray) (w : World) (hA : Amb w) (hs : s.size ≤ maxLen) (hl : 100 < s.size) :
    Calls Tryd.prog 3 #[.agg #[.int .i64 a0, .int .i64 b0], .agg #[.int .i64 a1, .int .i64 b1], .string s] w fun e w' => e = .returned (.bool true) ∧ Below w.heap.size w w' := by
  have h1 : decide ((100 : Int) < (s.size : Int)) = true := by simp; omega
  go_enter Tryd.func3, Tryd.ntmps3
  go_wp2_with fail
  refine (awake_any _ (hA.on (by (repeat' (first | exact Below.refl _ _ | assumption | refine gr_drew ?_ | refine gr_drewN ?_ _ | refine gr_alloc ?_ _ | refine gr_set ?_ ?_ _ | refine gr_call ?_ (by assumption)) <;> (try (simp; done)) <;> (try (simp; omega)) <;> (try omega))))).mono ?_
  rintro e w1 ⟨rfl, hbw1⟩
  have hzw1 := hbw1.size
  try simp at hzw1
  go_wp2_with fail
  go_ret
  exact ⟨rfl, by (repeat' (first | exact Below.refl _ _ | assumption | refine gr_drew ?_ | refine gr_drewN ?_ _ | refine gr_alloc ?_ _ | refine gr_set ?_ ?_ _ | refine gr_call ?_ (by assumption)) <;> (try (simp; done)) <;> (try (simp; omega)) <;> (try omega))⟩

set_option maxRecDepth 100000 in
set_option maxHeartbeats 1000000 in
theorem all_yn (a0 b0 a1 b1 : Int) (s : ByteArray) (w : World) (hA : Amb w) (hl : s.size ≤ 100) (hok : parseOk s.data.toList = true) (hm : mayF a0 b0 = false) :
    Calls Tryd.prog 3 #[.agg #[.int .i64 a0, .int .i64 b0], .agg #[.int .i64 a1, .int .i64 b1], .string s] w fun e w' => e = .returned (.bool true) ∧ Below w.heap.size w w' := by
  have HP := Lib.hid (fun W hA => parse_yes s W hA (by omega) hok)
  have HR := Lib.hid (fun W => refParse_yes s W hok)
  have HM := Lib.hid (fun W => may_no a0 b0 W hm)
  have HN := Lib.hid (fun W => refMay_no a0 b0 W hm)
  clear hok hm
  generalize guessS s.data.toList = S at *
  generalize guessN s.data.toList = N at *
  go_enter Tryd.func3, Tryd.ntmps3
  go_wp2_with fail
  refine (HP.out _ (hA.on (by (repeat' (first | exact Below.refl _ _ | assumption | refine gr_drew ?_ | refine gr_drewN ?_ _ | refine gr_alloc ?_ _ | refine gr_set ?_ ?_ _ | refine gr_call ?_ (by assumption)) <;> (try (simp; done)) <;> (try (simp; omega)) <;> (try omega))))).mono ?_
  rintro e w1 ⟨rfl, hbw1⟩
  have hzw1 := hbw1.size
  try simp at hzw1
  have : w.heap.size < w1.heap.size := by omega
  have : w.heap.size ≤ w1.heap.size := by omega
  have : w1.cell? ⟨w.heap.size, 0, none⟩ = some (.int .i64 a0) := cell_kept hbw1 (by simp [go_sem, *])
  have : w1.frozen? ⟨w.heap.size, 0, none⟩ = false := free_kept hbw1 (v := .int .i64 a0) (by simp [go_sem, *]) (by simp [go_sem, *])
  have : w.heap.size < w1.heap.size := by omega
  have : w.heap.size ≤ w1.heap.size := by omega
  have : w1.cell? ⟨w.heap.size, 1, none⟩ = some (.int .i64 b0) := cell_kept hbw1 (by simp [go_sem, *])
  have : w1.frozen? ⟨w.heap.size, 1, none⟩ = false := free_kept hbw1 (v := .int .i64 b0) (by simp [go_sem, *]) (by simp [go_sem, *])
  have : w.heap.size + 1 < w1.heap.size := by omega
  have : w.heap.size + 1 ≤ w1.heap.size := by omega
  have : w1.cell? ⟨w.heap.size + 1, 0, none⟩ = some (.int .i64 a1) := cell_kept hbw1 (by simp [go_sem, *])
  have : w1.frozen? ⟨w.heap.size + 1, 0, none⟩ = false := free_kept hbw1 (v := .int .i64 a1) (by simp [go_sem, *]) (by simp [go_sem, *])
  have : w.heap.size + 1 < w1.heap.size := by omega
  have : w.heap.size + 1 ≤ w1.heap.size := by omega
  have : w1.cell? ⟨w.heap.size + 1, 1, none⟩ = some (.int .i64 b1) := cell_kept hbw1 (by simp [go_sem, *])
  have : w1.frozen? ⟨w.heap.size + 1, 1, none⟩ = false := free_kept hbw1 (v := .int .i64 b1) (by simp [go_sem, *]) (by simp [go_sem, *])
  go_wp2_with fail
  refine (HR.out _).mono ?_
  rintro e w2 ⟨rfl, hbw2⟩
  have hzw2 := hbw2.size
  try simp at hzw2
  have : w.heap.size < w2.heap.size := by omega
  have : w.heap.size ≤ w2.heap.size := by omega
  have : w2.cell? ⟨w.heap.size, 0, none⟩ = some (.int .i64 a0) := cell_kept hbw2 (by simp [go_sem, *])
  have : w2.frozen? ⟨w.heap.size, 0, none⟩ = false := free_kept hbw2 (v := .int .i64 a0) (by simp [go_sem, *]) (by simp [go_sem, *])
  have : w.heap.size < w2.heap.size := by omega
  have : w.heap.size ≤ w2.heap.size := by omega
  have : w2.cell? ⟨w.heap.size, 1, none⟩ = some (.int .i64 b0) := cell_kept hbw2 (by simp [go_sem, *])
  have : w2.frozen? ⟨w.heap.size, 1, none⟩ = false := free_kept hbw2 (v := .int .i64 b0) (by simp [go_sem, *]) (by simp [go_sem, *])
  have : w.heap.size + 1 < w2.heap.size := by omega
  have : w.heap.size + 1 ≤ w2.heap.size := by omega
  have : w2.cell? ⟨w.heap.size + 1, 0, none⟩ = some (.int .i64 a1) := cell_kept hbw2 (by simp [go_sem, *])
  have : w2.frozen? ⟨w.heap.size + 1, 0, none⟩ = false := free_kept hbw2 (v := .int .i64 a1) (by simp [go_sem, *]) (by simp [go_sem, *])
  have : w.heap.size + 1 < w2.heap.size := by omega
  have : w.heap.size + 1 ≤ w2.heap.size := by omega
  have : w2.cell? ⟨w.heap.size + 1, 1, none⟩ = some (.int .i64 b1) := cell_kept hbw2 (by simp [go_sem, *])
  have : w2.frozen? ⟨w.heap.size + 1, 1, none⟩ = false := free_kept hbw2 (v := .int .i64 b1) (by simp [go_sem, *]) (by simp [go_sem, *])
  have : w1.heap.size < w2.heap.size := by omega
  have : w1.heap.size ≤ w2.heap.size := by omega
  have : w2.cell? ⟨w1.heap.size, 0, none⟩ = some (.int .i64 S) := cell_kept hbw2 (by simp [go_sem, *])
  have : w2.frozen? ⟨w1.heap.size, 0, none⟩ = false := free_kept hbw2 (v := .int .i64 S) (by simp [go_sem, *]) (by simp [go_sem, *])
  have : w1.heap.size < w2.heap.size := by omega
  have : w1.heap.size ≤ w2.heap.size := by omega
  have : w2.cell? ⟨w1.heap.size, 1, none⟩ = some (.int .i64 N) := cell_kept hbw2 (by simp [go_sem, *])
  have : w2.frozen? ⟨w1.heap.size, 1, none⟩ = false := free_kept hbw2 (v := .int .i64 N) (by simp [go_sem, *]) (by simp [go_sem, *])
  go_upto_region 5 with fail
  have hB1 : Below w.heap.size w (w2.alloc (.cells #[.int .i64 S, .int .i64 N, .bool true] 28)).drew := by (repeat' (first | exact Below.refl _ _ | assumption | refine gr_drew ?_ | refine gr_drewN ?_ _ | refine gr_alloc ?_ _ | refine gr_set ?_ ?_ _ | refine gr_call ?_ (by assumption)) <;> (try (simp; done)) <;> (try (simp; omega)) <;> (try omega))
  have hA1 := hA.on hB1
  go_cut [37] (fun s37 wx => s37 = .bool false ∧ Amb wx ∧ Below w.heap.size w wx ∧ wx.cell? ⟨w.heap.size, 0, none⟩ = some (.int .i64 a0) ∧ wx.cell? ⟨w.heap.size, 1, none⟩ = some (.int .i64 b0) ∧ wx.cell? ⟨w.heap.size + 1, 0, none⟩ = some (.int .i64 a1) ∧ wx.cell? ⟨w.heap.size + 1, 1, none⟩ = some (.int .i64 b1))
  case first =>
    go_region_held3 (fun w' => Amb w' ∧ Below w.heap.size w w' ∧ w'.cell? ⟨w.heap.size, 0, none⟩ = some (.int .i64 a0) ∧ w'.cell? ⟨w.heap.size, 1, none⟩ = some (.int .i64 b0) ∧ w'.cell? ⟨w.heap.size + 1, 0, none⟩ = some (.int .i64 a1) ∧ w'.cell? ⟨w.heap.size + 1, 1, none⟩ = some (.int .i64 b1) ∧ w'.cell? ⟨w1.heap.size, 0, none⟩ = some (.int .i64 S) ∧ w'.cell? ⟨w1.heap.size, 1, none⟩ = some (.int .i64 N) ∧ w'.cell? ⟨w2.heap.size, 0, none⟩ = some (.int .i64 S) ∧ w'.cell? ⟨w2.heap.size, 1, none⟩ = some (.int .i64 N) ∧ w'.cell? ⟨w2.heap.size, 2, none⟩ = some (.bool true))
      (first | (go_keep; done) | (go_split_ands; (repeat' apply And.intro) <;> (first | assumption | exact Amb.on (by assumption) hb1 | exact gr_call (by assumption) hb1 | exact cell_kept hb1 (by assumption) | (show Below _ _ _; (repeat' (first | exact Below.refl _ _ | assumption | refine gr_drew ?_ | refine gr_drewN ?_ _ | refine gr_alloc ?_ _ | refine gr_set ?_ ?_ _ | refine gr_call ?_ (by assumption)) <;> (try (simp; done)) <;> (try (simp; omega)) <;> (try omega)); done) | (go_keep; done) | (simp [go_sem, *]; done))))
      (first
        | (go_at_call 13; go_split_ands; refine (HM.out _).mono ?_; rintro e w1 ⟨rfl, hb1⟩)
        | (go_at_call 14; go_split_ands; refine (HN.out _).mono ?_; rintro e w1 ⟨rfl, hb1⟩))
    all_goals
      go_split_ands
      go_wp2_with fail
      go_meet
      exact ⟨rfl, by assumption, by assumption, by assumption, by assumption, by assumption, by assumption⟩
  case rest =>
    obtain ⟨rfl, hA2, hB2, k0, k1, k2, k3⟩ := hcut
    go_wp2_with fail
    refine (HN.out _).mono ?_
    rintro e w3 ⟨rfl, hbw3⟩
    have hzw3 := hbw3.size
    try simp at hzw3
    have : w3.cell? ⟨w.heap.size, 0, none⟩ = some (.int .i64 a0) := cell_kept hbw3 (by assumption)
    have : w3.cell? ⟨w.heap.size, 1, none⟩ = some (.int .i64 b0) := cell_kept hbw3 (by assumption)
    have : w3.cell? ⟨w.heap.size + 1, 0, none⟩ = some (.int .i64 a1) := cell_kept hbw3 (by assumption)
    have : w3.cell? ⟨w.heap.size + 1, 1, none⟩ = some (.int .i64 b1) := cell_kept hbw3 (by assumption)
    go_wp2_with fail
    refine (awake_any _ (hA2.on (by (repeat' (first | exact Below.refl _ _ | assumption | refine gr_drew ?_ | refine gr_drewN ?_ _ | refine gr_alloc ?_ _ | refine gr_set ?_ ?_ _ | refine gr_call ?_ (by assumption)) <;> (try (simp; done)) <;> (try (simp; omega)) <;> (try omega))))).mono ?_
    rintro e w4 ⟨rfl, hbw4⟩
    have hzw4 := hbw4.size
    try simp at hzw4
    go_wp2_with fail
    go_ret
    exact ⟨rfl, by (repeat' (first | exact Below.refl _ _ | assumption | refine gr_drew ?_ | refine gr_drewN ?_ _ | refine gr_alloc ?_ _ | refine gr_set ?_ ?_ _ | refine gr_call ?_ (by assumption)) <;> (try (simp; done)) <;> (try (simp; omega)) <;> (try omega))⟩

set_option maxRecDepth 100000 in
set_option maxHeartbeats 1000000 in
theorem all_yyn (a0 b0 a1 b1 : Int) (s : ByteArray) (w : World) (hA : Amb w) (hl : s.size ≤ 100) (hok : parseOk s.data.toList = true) (hm : mayF a0 b0 = true) (hn : mayF a1 b1 = false) :
    Calls Tryd.prog 3 #[.agg #[.int .i64 a0, .int .i64 b0], .agg #[.int .i64 a1, .int .i64 b1], .string s] w fun e w' => e = .returned (.bool true) ∧ Below w.heap.size w w' := by
  have HP := Lib.hid (fun W hA => parse_yes s W hA (by omega) hok)
  have HR := Lib.hid (fun W => refParse_yes s W hok)
  have HM := Lib.hid (fun W => may_yes a0 b0 W hm)
  have HN := Lib.hid (fun W => refMay_yes a0 b0 W hm)
  have HO := Lib.hid (fun W => refMay_no a1 b1 W hn)
  clear hok hm hn
  generalize guessS s.data.toList = S at *
  generalize guessN s.data.toList = N at *
  go_enter Tryd.func3, Tryd.ntmps3
  go_wp2_with fail
  refine (HP.out _ (hA.on (by (repeat' (first | exact Below.refl _ _ | assumption | refine gr_drew ?_ | refine gr_drewN ?_ _ | refine gr_alloc ?_ _ | refine gr_set ?_ ?_ _ | refine gr_call ?_ (by assumption)) <;> (try (simp; done)) <;> (try (simp; omega)) <;> (try omega))))).mono ?_
  rintro e w1 ⟨rfl, hbw1⟩
  have hzw1 := hbw1.size
  try simp at hzw1
  have : w.heap.size < w1.heap.size := by omega
  have : w.heap.size ≤ w1.heap.size := by omega
  have : w1.cell? ⟨w.heap.size, 0, none⟩ = some (.int .i64 a0) := cell_kept hbw1 (by simp [go_sem, *])
  have : w1.frozen? ⟨w.heap.size, 0, none⟩ = false := free_kept hbw1 (v := .int .i64 a0) (by simp [go_sem, *]) (by simp [go_sem, *])
  have : w.heap.size < w1.heap.size := by omega
  have : w.heap.size ≤ w1.heap.size := by omega
  have : w1.cell? ⟨w.heap.size, 1, none⟩ = some (.int .i64 b0) := cell_kept hbw1 (by simp [go_sem, *])
  have : w1.frozen? ⟨w.heap.size, 1, none⟩ = false := free_kept hbw1 (v := .int .i64 b0) (by simp [go_sem, *]) (by simp [go_sem, *])
  have : w.heap.size + 1 < w1.heap.size := by omega
  have : w.heap.size + 1 ≤ w1.heap.size := by omega
  have : w1.cell? ⟨w.heap.size + 1, 0, none⟩ = some (.int .i64 a1) := cell_kept hbw1 (by simp [go_sem, *])
  have : w1.frozen? ⟨w.heap.size + 1, 0, none⟩ = false := free_kept hbw1 (v := .int .i64 a1) (by simp [go_sem, *]) (by simp [go_sem, *])
  have : w.heap.size + 1 < w1.heap.size := by omega
  have : w.heap.size + 1 ≤ w1.heap.size := by omega
  have : w1.cell? ⟨w.heap.size + 1, 1, none⟩ = some (.int .i64 b1) := cell_kept hbw1 (by simp [go_sem, *])
  have : w1.frozen? ⟨w.heap.size + 1, 1, none⟩ = false := free_kept hbw1 (v := .int .i64 b1) (by simp [go_sem, *]) (by simp [go_sem, *])
  go_wp2_with fail
  refine (HR.out _).mono ?_
  rintro e w2 ⟨rfl, hbw2⟩
  have hzw2 := hbw2.size
  try simp at hzw2
  have : w.heap.size < w2.heap.size := by omega
  have : w.heap.size ≤ w2.heap.size := by omega
  have : w2.cell? ⟨w.heap.size, 0, none⟩ = some (.int .i64 a0) := cell_kept hbw2 (by simp [go_sem, *])
  have : w2.frozen? ⟨w.heap.size, 0, none⟩ = false := free_kept hbw2 (v := .int .i64 a0) (by simp [go_sem, *]) (by simp [go_sem, *])
  have : w.heap.size < w2.heap.size := by omega
  have : w.heap.size ≤ w2.heap.size := by omega
  have : w2.cell? ⟨w.heap.size, 1, none⟩ = some (.int .i64 b0) := cell_kept hbw2 (by simp [go_sem, *])
  have : w2.frozen? ⟨w.heap.size, 1, none⟩ = false := free_kept hbw2 (v := .int .i64 b0) (by simp [go_sem, *]) (by simp [go_sem, *])
  have : w.heap.size + 1 < w2.heap.size := by omega
  have : w.heap.size + 1 ≤ w2.heap.size := by omega
  have : w2.cell? ⟨w.heap.size + 1, 0, none⟩ = some (.int .i64 a1) := cell_kept hbw2 (by simp [go_sem, *])
  have : w2.frozen? ⟨w.heap.size + 1, 0, none⟩ = false := free_kept hbw2 (v := .int .i64 a1) (by simp [go_sem, *]) (by simp [go_sem, *])
  have : w.heap.size + 1 < w2.heap.size := by omega
  have : w.heap.size + 1 ≤ w2.heap.size := by omega
  have : w2.cell? ⟨w.heap.size + 1, 1, none⟩ = some (.int .i64 b1) := cell_kept hbw2 (by simp [go_sem, *])
  have : w2.frozen? ⟨w.heap.size + 1, 1, none⟩ = false := free_kept hbw2 (v := .int .i64 b1) (by simp [go_sem, *]) (by simp [go_sem, *])
  have : w1.heap.size < w2.heap.size := by omega
  have : w1.heap.size ≤ w2.heap.size := by omega
  have : w2.cell? ⟨w1.heap.size, 0, none⟩ = some (.int .i64 S) := cell_kept hbw2 (by simp [go_sem, *])
  have : w2.frozen? ⟨w1.heap.size, 0, none⟩ = false := free_kept hbw2 (v := .int .i64 S) (by simp [go_sem, *]) (by simp [go_sem, *])
  have : w1.heap.size < w2.heap.size := by omega
  have : w1.heap.size ≤ w2.heap.size := by omega
  have : w2.cell? ⟨w1.heap.size, 1, none⟩ = some (.int .i64 N) := cell_kept hbw2 (by simp [go_sem, *])
  have : w2.frozen? ⟨w1.heap.size, 1, none⟩ = false := free_kept hbw2 (v := .int .i64 N) (by simp [go_sem, *]) (by simp [go_sem, *])
  go_upto_region 5 with fail
  have hB1 : Below w.heap.size w (w2.alloc (.cells #[.int .i64 S, .int .i64 N, .bool true] 28)).drew := by (repeat' (first | exact Below.refl _ _ | assumption | refine gr_drew ?_ | refine gr_drewN ?_ _ | refine gr_alloc ?_ _ | refine gr_set ?_ ?_ _ | refine gr_call ?_ (by assumption)) <;> (try (simp; done)) <;> (try (simp; omega)) <;> (try omega))
  have hA1 := hA.on hB1
  go_cut [37] (fun s37 wx => s37 = .bool false ∧ Amb wx ∧ Below w.heap.size w wx ∧ wx.cell? ⟨w.heap.size, 0, none⟩ = some (.int .i64 a0) ∧ wx.cell? ⟨w.heap.size, 1, none⟩ = some (.int .i64 b0) ∧ wx.cell? ⟨w.heap.size + 1, 0, none⟩ = some (.int .i64 a1) ∧ wx.cell? ⟨w.heap.size + 1, 1, none⟩ = some (.int .i64 b1))
  case first =>
    go_region_held3 (fun w' => Amb w' ∧ Below w.heap.size w w' ∧ w'.cell? ⟨w.heap.size, 0, none⟩ = some (.int .i64 a0) ∧ w'.cell? ⟨w.heap.size, 1, none⟩ = some (.int .i64 b0) ∧ w'.cell? ⟨w.heap.size + 1, 0, none⟩ = some (.int .i64 a1) ∧ w'.cell? ⟨w.heap.size + 1, 1, none⟩ = some (.int .i64 b1) ∧ w'.cell? ⟨w1.heap.size, 0, none⟩ = some (.int .i64 S) ∧ w'.cell? ⟨w1.heap.size, 1, none⟩ = some (.int .i64 N) ∧ w'.cell? ⟨w2.heap.size, 0, none⟩ = some (.int .i64 S) ∧ w'.cell? ⟨w2.heap.size, 1, none⟩ = some (.int .i64 N) ∧ w'.cell? ⟨w2.heap.size, 2, none⟩ = some (.bool true))
      (first | (go_keep; done) | (go_split_ands; (repeat' apply And.intro) <;> (first | assumption | exact Amb.on (by assumption) hb1 | exact gr_call (by assumption) hb1 | exact cell_kept hb1 (by assumption) | (show Below _ _ _; (repeat' (first | exact Below.refl _ _ | assumption | refine gr_drew ?_ | refine gr_drewN ?_ _ | refine gr_alloc ?_ _ | refine gr_set ?_ ?_ _ | refine gr_call ?_ (by assumption)) <;> (try (simp; done)) <;> (try (simp; omega)) <;> (try omega)); done) | (go_keep; done) | (simp [go_sem, *]; done))))
      (first
        | (go_at_call 13; go_split_ands; refine (HM.out _).mono ?_; rintro e w1 ⟨rfl, hb1⟩)
        | (go_at_call 14; go_split_ands; refine (HN.out _).mono ?_; rintro e w1 ⟨rfl, hb1⟩))
    all_goals
      go_split_ands
      go_wp2_with fail
      go_meet
      exact ⟨rfl, by assumption, by assumption, by assumption, by assumption, by assumption, by assumption⟩
  case rest =>
    obtain ⟨rfl, hA2, hB2, k0, k1, k2, k3⟩ := hcut
    go_wp2_with fail
    refine (HN.out _).mono ?_
    rintro e w3 ⟨rfl, hbw3⟩
    have hzw3 := hbw3.size
    try simp at hzw3
    have : w3.cell? ⟨w.heap.size, 0, none⟩ = some (.int .i64 a0) := cell_kept hbw3 (by assumption)
    have : w3.cell? ⟨w.heap.size, 1, none⟩ = some (.int .i64 b0) := cell_kept hbw3 (by assumption)
    have : w3.cell? ⟨w.heap.size + 1, 0, none⟩ = some (.int .i64 a1) := cell_kept hbw3 (by assumption)
    have : w3.cell? ⟨w.heap.size + 1, 1, none⟩ = some (.int .i64 b1) := cell_kept hbw3 (by assumption)
    go_wp2_with fail
    refine (HO.out _).mono ?_
    rintro e w4 ⟨rfl, hbw4⟩
    have hzw4 := hbw4.size
    try simp at hzw4
    have hA4 := (hA2.on hbw3).on hbw4
    go_wp2_with fail
    refine (awake_any _ hA4).mono ?_
    rintro e w5 ⟨rfl, hbw5⟩
    have hzw5 := hbw5.size
    try simp at hzw5
    go_wp2_with fail
    go_ret
    exact ⟨rfl, by (repeat' (first | exact Below.refl _ _ | assumption | refine gr_drew ?_ | refine gr_drewN ?_ _ | refine gr_alloc ?_ _ | refine gr_set ?_ ?_ _ | refine gr_call ?_ (by assumption)) <;> (try (simp; done)) <;> (try (simp; omega)) <;> (try omega))⟩

set_option maxRecDepth 100000 in
set_option maxHeartbeats 1000000 in
theorem all_yyy (a0 b0 a1 b1 : Int) (s : ByteArray) (w : World) (hA : Amb w) (hl : s.size ≤ 100) (hok : parseOk s.data.toList = true) (hm : mayF a0 b0 = true) (hn : mayF a1 b1 = true) :
    Calls Tryd.prog 3 #[.agg #[.int .i64 a0, .int .i64 b0], .agg #[.int .i64 a1, .int .i64 b1], .string s] w fun e w' => e = .returned (.bool true) ∧ Below w.heap.size w w' := by
  have HP := Lib.hid (fun W hA => parse_yes s W hA (by omega) hok)
  have HR := Lib.hid (fun W => refParse_yes s W hok)
  have HM := Lib.hid (fun W => may_yes a0 b0 W hm)
  have HN := Lib.hid (fun W => refMay_yes a0 b0 W hm)
  have HO := Lib.hid (fun W => refMay_yes a1 b1 W hn)
  have HT := Lib.hid (fun W hA => text_any a0 b0 W hA hm)
  have HU := Lib.hid (fun W => refText_any a0 b0 W hm)
  have HC := Lib.hid (fun W => cmp_any a0 b0 a1 b1 W)
  have HD := Lib.hid (fun W => refCmp_any a0 b0 a1 b1 W)
  have htt : (textF a0 b0 == textF a0 b0) = true := by simp
  clear hok hm hn
  generalize guessS s.data.toList = S at *
  generalize guessN s.data.toList = N at *
  generalize textF a0 b0 = T at *
  generalize cmpF a0 b0 a1 b1 = K at *
  go_enter Tryd.func3, Tryd.ntmps3
  go_wp2_with fail
  refine (HP.out _ (hA.on (by (repeat' (first | exact Below.refl _ _ | assumption | refine gr_drew ?_ | refine gr_drewN ?_ _ | refine gr_alloc ?_ _ | refine gr_set ?_ ?_ _ | refine gr_call ?_ (by assumption)) <;> (try (simp; done)) <;> (try (simp; omega)) <;> (try omega))))).mono ?_
  rintro e w1 ⟨rfl, hbw1⟩
  have hzw1 := hbw1.size
  try simp at hzw1
  have : w.heap.size < w1.heap.size := by omega
  have : w.heap.size ≤ w1.heap.size := by omega
  have : w1.cell? ⟨w.heap.size, 0, none⟩ = some (.int .i64 a0) := cell_kept hbw1 (by simp [go_sem, *])
  have : w1.frozen? ⟨w.heap.size, 0, none⟩ = false := free_kept hbw1 (v := .int .i64 a0) (by simp [go_sem, *]) (by simp [go_sem, *])
  have : w.heap.size < w1.heap.size := by omega
  have : w.heap.size ≤ w1.heap.size := by omega
  have : w1.cell? ⟨w.heap.size, 1, none⟩ = some (.int .i64 b0) := cell_kept hbw1 (by simp [go_sem, *])
  have : w1.frozen? ⟨w.heap.size, 1, none⟩ = false := free_kept hbw1 (v := .int .i64 b0) (by simp [go_sem, *]) (by simp [go_sem, *])
  have : w.heap.size + 1 < w1.heap.size := by omega
  have : w.heap.size + 1 ≤ w1.heap.size := by omega
  have : w1.cell? ⟨w.heap.size + 1, 0, none⟩ = some (.int .i64 a1) := cell_kept hbw1 (by simp [go_sem, *])
  have : w1.frozen? ⟨w.heap.size + 1, 0, none⟩ = false := free_kept hbw1 (v := .int .i64 a1) (by simp [go_sem, *]) (by simp [go_sem, *])
  have : w.heap.size + 1 < w1.heap.size := by omega
  have : w.heap.size + 1 ≤ w1.heap.size := by omega
  have : w1.cell? ⟨w.heap.size + 1, 1, none⟩ = some (.int .i64 b1) := cell_kept hbw1 (by simp [go_sem, *])
  have : w1.frozen? ⟨w.heap.size + 1, 1, none⟩ = false := free_kept hbw1 (v := .int .i64 b1) (by simp [go_sem, *]) (by simp [go_sem, *])
  go_wp2_with fail
  refine (HR.out _).mono ?_
  rintro e w2 ⟨rfl, hbw2⟩
  have hzw2 := hbw2.size
  try simp at hzw2
  have : w.heap.size < w2.heap.size := by omega
  have : w.heap.size ≤ w2.heap.size := by omega
  have : w2.cell? ⟨w.heap.size, 0, none⟩ = some (.int .i64 a0) := cell_kept hbw2 (by simp [go_sem, *])
  have : w2.frozen? ⟨w.heap.size, 0, none⟩ = false := free_kept hbw2 (v := .int .i64 a0) (by simp [go_sem, *]) (by simp [go_sem, *])
  have : w.heap.size < w2.heap.size := by omega
  have : w.heap.size ≤ w2.heap.size := by omega
  have : w2.cell? ⟨w.heap.size, 1, none⟩ = some (.int .i64 b0) := cell_kept hbw2 (by simp [go_sem, *])
  have : w2.frozen? ⟨w.heap.size, 1, none⟩ = false := free_kept hbw2 (v := .int .i64 b0) (by simp [go_sem, *]) (by simp [go_sem, *])
  have : w.heap.size + 1 < w2.heap.size := by omega
  have : w.heap.size + 1 ≤ w2.heap.size := by omega
  have : w2.cell? ⟨w.heap.size + 1, 0, none⟩ = some (.int .i64 a1) := cell_kept hbw2 (by simp [go_sem, *])
  have : w2.frozen? ⟨w.heap.size + 1, 0, none⟩ = false := free_kept hbw2 (v := .int .i64 a1) (by simp [go_sem, *]) (by simp [go_sem, *])
  have : w.heap.size + 1 < w2.heap.size := by omega
  have : w.heap.size + 1 ≤ w2.heap.size := by omega
  have : w2.cell? ⟨w.heap.size + 1, 1, none⟩ = some (.int .i64 b1) := cell_kept hbw2 (by simp [go_sem, *])
  have : w2.frozen? ⟨w.heap.size + 1, 1, none⟩ = false := free_kept hbw2 (v := .int .i64 b1) (by simp [go_sem, *]) (by simp [go_sem, *])
  have : w1.heap.size < w2.heap.size := by omega
  have : w1.heap.size ≤ w2.heap.size := by omega
  have : w2.cell? ⟨w1.heap.size, 0, none⟩ = some (.int .i64 S) := cell_kept hbw2 (by simp [go_sem, *])
  have : w2.frozen? ⟨w1.heap.size, 0, none⟩ = false := free_kept hbw2 (v := .int .i64 S) (by simp [go_sem, *]) (by simp [go_sem, *])
  have : w1.heap.size < w2.heap.size := by omega
  have : w1.heap.size ≤ w2.heap.size := by omega
  have : w2.cell? ⟨w1.heap.size, 1, none⟩ = some (.int .i64 N) := cell_kept hbw2 (by simp [go_sem, *])
  have : w2.frozen? ⟨w1.heap.size, 1, none⟩ = false := free_kept hbw2 (v := .int .i64 N) (by simp [go_sem, *]) (by simp [go_sem, *])
  go_upto_region 5 with fail
  have hB1 : Below w.heap.size w (w2.alloc (.cells #[.int .i64 S, .int .i64 N, .bool true] 28)).drew := by (repeat' (first | exact Below.refl _ _ | assumption | refine gr_drew ?_ | refine gr_drewN ?_ _ | refine gr_alloc ?_ _ | refine gr_set ?_ ?_ _ | refine gr_call ?_ (by assumption)) <;> (try (simp; done)) <;> (try (simp; omega)) <;> (try omega))
  have hA1 := hA.on hB1
  go_cut [37] (fun s37 wx => s37 = .bool false ∧ Amb wx ∧ Below w.heap.size w wx ∧ wx.cell? ⟨w.heap.size, 0, none⟩ = some (.int .i64 a0) ∧ wx.cell? ⟨w.heap.size, 1, none⟩ = some (.int .i64 b0) ∧ wx.cell? ⟨w.heap.size + 1, 0, none⟩ = some (.int .i64 a1) ∧ wx.cell? ⟨w.heap.size + 1, 1, none⟩ = some (.int .i64 b1))
  case first =>
    go_region_held3 (fun w' => Amb w' ∧ Below w.heap.size w w' ∧ w'.cell? ⟨w.heap.size, 0, none⟩ = some (.int .i64 a0) ∧ w'.cell? ⟨w.heap.size, 1, none⟩ = some (.int .i64 b0) ∧ w'.cell? ⟨w.heap.size + 1, 0, none⟩ = some (.int .i64 a1) ∧ w'.cell? ⟨w.heap.size + 1, 1, none⟩ = some (.int .i64 b1) ∧ w'.cell? ⟨w1.heap.size, 0, none⟩ = some (.int .i64 S) ∧ w'.cell? ⟨w1.heap.size, 1, none⟩ = some (.int .i64 N) ∧ w'.cell? ⟨w2.heap.size, 0, none⟩ = some (.int .i64 S) ∧ w'.cell? ⟨w2.heap.size, 1, none⟩ = some (.int .i64 N) ∧ w'.cell? ⟨w2.heap.size, 2, none⟩ = some (.bool true))
      (first | (go_keep; done) | (go_split_ands; (repeat' apply And.intro) <;> (first | assumption | exact Amb.on (by assumption) hb1 | exact gr_call (by assumption) hb1 | exact cell_kept hb1 (by assumption) | (show Below _ _ _; (repeat' (first | exact Below.refl _ _ | assumption | refine gr_drew ?_ | refine gr_drewN ?_ _ | refine gr_alloc ?_ _ | refine gr_set ?_ ?_ _ | refine gr_call ?_ (by assumption)) <;> (try (simp; done)) <;> (try (simp; omega)) <;> (try omega)); done) | (go_keep; done) | (simp [go_sem, *]; done))))
      (first
        | (go_at_call 13; go_split_ands; refine (HM.out _).mono ?_; rintro e w1 ⟨rfl, hb1⟩)
        | (go_at_call 14; go_split_ands; refine (HN.out _).mono ?_; rintro e w1 ⟨rfl, hb1⟩))
    all_goals
      go_split_ands
      go_wp2_with fail
      go_meet
      exact ⟨rfl, by assumption, by assumption, by assumption, by assumption, by assumption, by assumption⟩
  case rest =>
    obtain ⟨rfl, hA2, hB2, k0, k1, k2, k3⟩ := hcut
    go_wp2_with fail
    refine (HN.out _).mono ?_
    rintro e w3 ⟨rfl, hbw3⟩
    have hzw3 := hbw3.size
    try simp at hzw3
    have : w3.cell? ⟨w.heap.size, 0, none⟩ = some (.int .i64 a0) := cell_kept hbw3 (by assumption)
    have : w3.cell? ⟨w.heap.size, 1, none⟩ = some (.int .i64 b0) := cell_kept hbw3 (by assumption)
    have : w3.cell? ⟨w.heap.size + 1, 0, none⟩ = some (.int .i64 a1) := cell_kept hbw3 (by assumption)
    have : w3.cell? ⟨w.heap.size + 1, 1, none⟩ = some (.int .i64 b1) := cell_kept hbw3 (by assumption)
    go_wp2_with fail
    refine (HO.out _).mono ?_
    rintro e w4 ⟨rfl, hbw4⟩
    have hzw4 := hbw4.size
    try simp at hzw4
    have hA4 := ((hA2.on hbw3).on hbw4).on (gr_drew (Below.refl _ _))
    have hB4 : Below w.heap.size w w4.drew := by (repeat' (first | exact Below.refl _ _ | assumption | refine gr_drew ?_ | refine gr_drewN ?_ _ | refine gr_alloc ?_ _ | refine gr_set ?_ ?_ _ | refine gr_call ?_ (by assumption)) <;> (try (simp; done)) <;> (try (simp; omega)) <;> (try omega))
    have : w4.cell? ⟨w.heap.size, 0, none⟩ = some (.int .i64 a0) := cell_kept hbw4 (by assumption)
    have : w4.cell? ⟨w.heap.size, 1, none⟩ = some (.int .i64 b0) := cell_kept hbw4 (by assumption)
    have : w4.cell? ⟨w.heap.size + 1, 0, none⟩ = some (.int .i64 a1) := cell_kept hbw4 (by assumption)
    have : w4.cell? ⟨w.heap.size + 1, 1, none⟩ = some (.int .i64 b1) := cell_kept hbw4 (by assumption)
    go_upto_region 9 with fail
    go_region_held3 (fun w' => Amb w' ∧ Below w.heap.size w w' ∧ w'.cell? ⟨w.heap.size, 0, none⟩ = some (.int .i64 a0) ∧ w'.cell? ⟨w.heap.size, 1, none⟩ = some (.int .i64 b0) ∧ w'.cell? ⟨w.heap.size + 1, 0, none⟩ = some (.int .i64 a1) ∧ w'.cell? ⟨w.heap.size + 1, 1, none⟩ = some (.int .i64 b1))
      (first | (go_keep; done) | (go_split_ands; (repeat' apply And.intro) <;> (first | assumption | exact Amb.on (by assumption) hb1 | exact gr_call (by assumption) hb1 | exact cell_kept hb1 (by assumption) | (show Below _ _ _; (repeat' (first | exact Below.refl _ _ | assumption | refine gr_drew ?_ | refine gr_drewN ?_ _ | refine gr_alloc ?_ _ | refine gr_set ?_ ?_ _ | refine gr_call ?_ (by assumption)) <;> (try (simp; done)) <;> (try (simp; omega)) <;> (try omega)); done) | (go_keep; done) | (simp [go_sem, *]; done))))
      (first
        | (go_at_call 15; go_split_ands; refine (HT.out _ (by assumption)).mono ?_; rintro e w1 ⟨rfl, hb1⟩)
        | (go_at_call 16; go_split_ands; refine (HU.out _).mono ?_; rintro e w1 ⟨rfl, hb1⟩)
        | (go_at_call 17; go_split_ands; refine (HC.out _).mono ?_; rintro e w1 ⟨rfl, hb1⟩)
        | (go_at_call 18; go_split_ands; refine (HD.out _).mono ?_; rintro e w1 ⟨rfl, hb1⟩)
        | (go_at_call 10; go_split_ands; refine (awake_any _ (by assumption)).mono ?_; rintro e w1 ⟨rfl, hb1⟩))
    all_goals
      go_split_ands
      go_wp2_with fail
      go_ret
      exact ⟨rfl, by assumption⟩

set_option maxRecDepth 100000 in
set_option maxHeartbeats 1000000 in
theorem all_nn (a0 b0 a1 b1 : Int) (s : ByteArray) (w : World) (hA : Amb w) (hl : s.size ≤ 100) (hok : parseOk s.data.toList = false) (hm : mayF a0 b0 = false) :
    Calls Tryd.prog 3 #[.agg #[.int .i64 a0, .int .i64 b0], .agg #[.int .i64 a1, .int .i64 b1], .string s] w fun e w' => e = .returned (.bool true) ∧ Below w.heap.size w w' := by
  have HP := Lib.hid (fun W hA => parse_no s W hA (by omega) hok)
  have HR := Lib.hid (fun W => refParse_no s W hok)
  have HM := Lib.hid (fun W => may_no a0 b0 W hm)
  have HN := Lib.hid (fun W => refMay_no a0 b0 W hm)
  clear hok hm
  go_enter Tryd.func3, Tryd.ntmps3
  go_wp2_with fail
  refine (HP.out _ (hA.on (by (repeat' (first | exact Below.refl _ _ | assumption | refine gr_drew ?_ | refine gr_drewN ?_ _ | refine gr_alloc ?_ _ | refine gr_set ?_ ?_ _ | refine gr_call ?_ (by assumption)) <;> (try (simp; done)) <;> (try (simp; omega)) <;> (try omega))))).mono ?_
  rintro e w1 ⟨rfl, hbw1⟩
  have hzw1 := hbw1.size
  try simp at hzw1
  have : w.heap.size < w1.heap.size := by omega
  have : w.heap.size ≤ w1.heap.size := by omega
  have : w1.cell? ⟨w.heap.size, 0, none⟩ = some (.int .i64 a0) := cell_kept hbw1 (by simp [go_sem, *])
  have : w1.frozen? ⟨w.heap.size, 0, none⟩ = false := free_kept hbw1 (v := .int .i64 a0) (by simp [go_sem, *]) (by simp [go_sem, *])
  have : w.heap.size < w1.heap.size := by omega
  have : w.heap.size ≤ w1.heap.size := by omega
  have : w1.cell? ⟨w.heap.size, 1, none⟩ = some (.int .i64 b0) := cell_kept hbw1 (by simp [go_sem, *])
  have : w1.frozen? ⟨w.heap.size, 1, none⟩ = false := free_kept hbw1 (v := .int .i64 b0) (by simp [go_sem, *]) (by simp [go_sem, *])
  have : w.heap.size + 1 < w1.heap.size := by omega
  have : w.heap.size + 1 ≤ w1.heap.size := by omega
  have : w1.cell? ⟨w.heap.size + 1, 0, none⟩ = some (.int .i64 a1) := cell_kept hbw1 (by simp [go_sem, *])
  have : w1.frozen? ⟨w.heap.size + 1, 0, none⟩ = false := free_kept hbw1 (v := .int .i64 a1) (by simp [go_sem, *]) (by simp [go_sem, *])
  have : w.heap.size + 1 < w1.heap.size := by omega
  have : w.heap.size + 1 ≤ w1.heap.size := by omega
  have : w1.cell? ⟨w.heap.size + 1, 1, none⟩ = some (.int .i64 b1) := cell_kept hbw1 (by simp [go_sem, *])
  have : w1.frozen? ⟨w.heap.size + 1, 1, none⟩ = false := free_kept hbw1 (v := .int .i64 b1) (by simp [go_sem, *]) (by simp [go_sem, *])
  go_wp2_with fail
  refine (HR.out _).mono ?_
  rintro e w2 ⟨rfl, hbw2⟩
  have hzw2 := hbw2.size
  try simp at hzw2
  have : w.heap.size < w2.heap.size := by omega
  have : w.heap.size ≤ w2.heap.size := by omega
  have : w2.cell? ⟨w.heap.size, 0, none⟩ = some (.int .i64 a0) := cell_kept hbw2 (by simp [go_sem, *])
  have : w2.frozen? ⟨w.heap.size, 0, none⟩ = false := free_kept hbw2 (v := .int .i64 a0) (by simp [go_sem, *]) (by simp [go_sem, *])
  have : w.heap.size < w2.heap.size := by omega
  have : w.heap.size ≤ w2.heap.size := by omega
  have : w2.cell? ⟨w.heap.size, 1, none⟩ = some (.int .i64 b0) := cell_kept hbw2 (by simp [go_sem, *])
  have : w2.frozen? ⟨w.heap.size, 1, none⟩ = false := free_kept hbw2 (v := .int .i64 b0) (by simp [go_sem, *]) (by simp [go_sem, *])
  have : w.heap.size + 1 < w2.heap.size := by omega
  have : w.heap.size + 1 ≤ w2.heap.size := by omega
  have : w2.cell? ⟨w.heap.size + 1, 0, none⟩ = some (.int .i64 a1) := cell_kept hbw2 (by simp [go_sem, *])
  have : w2.frozen? ⟨w.heap.size + 1, 0, none⟩ = false := free_kept hbw2 (v := .int .i64 a1) (by simp [go_sem, *]) (by simp [go_sem, *])
  have : w.heap.size + 1 < w2.heap.size := by omega
  have : w.heap.size + 1 ≤ w2.heap.size := by omega
  have : w2.cell? ⟨w.heap.size + 1, 1, none⟩ = some (.int .i64 b1) := cell_kept hbw2 (by simp [go_sem, *])
  have : w2.frozen? ⟨w.heap.size + 1, 1, none⟩ = false := free_kept hbw2 (v := .int .i64 b1) (by simp [go_sem, *]) (by simp [go_sem, *])
  have : w1.heap.size < w2.heap.size := by omega
  have : w1.heap.size ≤ w2.heap.size := by omega
  have : w2.cell? ⟨w1.heap.size, 0, none⟩ = some (.int .i64 0) := cell_kept hbw2 (by simp [go_sem, *])
  have : w2.frozen? ⟨w1.heap.size, 0, none⟩ = false := free_kept hbw2 (v := .int .i64 0) (by simp [go_sem, *]) (by simp [go_sem, *])
  have : w1.heap.size < w2.heap.size := by omega
  have : w1.heap.size ≤ w2.heap.size := by omega
  have : w2.cell? ⟨w1.heap.size, 1, none⟩ = some (.int .i64 0) := cell_kept hbw2 (by simp [go_sem, *])
  have : w2.frozen? ⟨w1.heap.size, 1, none⟩ = false := free_kept hbw2 (v := .int .i64 0) (by simp [go_sem, *]) (by simp [go_sem, *])
  go_upto_region 5 with fail
  have hB1 : Below w.heap.size w (w2.alloc (.cells #[.int .i64 0, .int .i64 0, .bool false] 28)).drew := by (repeat' (first | exact Below.refl _ _ | assumption | refine gr_drew ?_ | refine gr_drewN ?_ _ | refine gr_alloc ?_ _ | refine gr_set ?_ ?_ _ | refine gr_call ?_ (by assumption)) <;> (try (simp; done)) <;> (try (simp; omega)) <;> (try omega))
  have hA1 := hA.on hB1
  go_cut [37] (fun s37 wx => s37 = .bool false ∧ Amb wx ∧ Below w.heap.size w wx ∧ wx.cell? ⟨w.heap.size, 0, none⟩ = some (.int .i64 a0) ∧ wx.cell? ⟨w.heap.size, 1, none⟩ = some (.int .i64 b0) ∧ wx.cell? ⟨w.heap.size + 1, 0, none⟩ = some (.int .i64 a1) ∧ wx.cell? ⟨w.heap.size + 1, 1, none⟩ = some (.int .i64 b1))
  case first =>
    go_region_held3 (fun w' => Amb w' ∧ Below w.heap.size w w' ∧ w'.cell? ⟨w.heap.size, 0, none⟩ = some (.int .i64 a0) ∧ w'.cell? ⟨w.heap.size, 1, none⟩ = some (.int .i64 b0) ∧ w'.cell? ⟨w.heap.size + 1, 0, none⟩ = some (.int .i64 a1) ∧ w'.cell? ⟨w.heap.size + 1, 1, none⟩ = some (.int .i64 b1) ∧ w'.cell? ⟨w1.heap.size, 0, none⟩ = some (.int .i64 0) ∧ w'.cell? ⟨w1.heap.size, 1, none⟩ = some (.int .i64 0) ∧ w'.cell? ⟨w2.heap.size, 0, none⟩ = some (.int .i64 0) ∧ w'.cell? ⟨w2.heap.size, 1, none⟩ = some (.int .i64 0) ∧ w'.cell? ⟨w2.heap.size, 2, none⟩ = some (.bool false))
      (first | (go_keep; done) | (go_split_ands; (repeat' apply And.intro) <;> (first | assumption | exact Amb.on (by assumption) hb1 | exact gr_call (by assumption) hb1 | exact cell_kept hb1 (by assumption) | (show Below _ _ _; (repeat' (first | exact Below.refl _ _ | assumption | refine gr_drew ?_ | refine gr_drewN ?_ _ | refine gr_alloc ?_ _ | refine gr_set ?_ ?_ _ | refine gr_call ?_ (by assumption)) <;> (try (simp; done)) <;> (try (simp; omega)) <;> (try omega)); done) | (go_keep; done) | (simp [go_sem, *]; done))))
      (first
        | (go_at_call 13; go_split_ands; refine (HM.out _).mono ?_; rintro e w1 ⟨rfl, hb1⟩)
        | (go_at_call 14; go_split_ands; refine (HN.out _).mono ?_; rintro e w1 ⟨rfl, hb1⟩))
    all_goals
      go_split_ands
      go_wp2_with fail
      go_meet
      exact ⟨rfl, by assumption, by assumption, by assumption, by assumption, by assumption, by assumption⟩
  case rest =>
    obtain ⟨rfl, hA2, hB2, k0, k1, k2, k3⟩ := hcut
    go_wp2_with fail
    refine (HN.out _).mono ?_
    rintro e w3 ⟨rfl, hbw3⟩
    have hzw3 := hbw3.size
    try simp at hzw3
    have : w3.cell? ⟨w.heap.size, 0, none⟩ = some (.int .i64 a0) := cell_kept hbw3 (by assumption)
    have : w3.cell? ⟨w.heap.size, 1, none⟩ = some (.int .i64 b0) := cell_kept hbw3 (by assumption)
    have : w3.cell? ⟨w.heap.size + 1, 0, none⟩ = some (.int .i64 a1) := cell_kept hbw3 (by assumption)
    have : w3.cell? ⟨w.heap.size + 1, 1, none⟩ = some (.int .i64 b1) := cell_kept hbw3 (by assumption)
    go_wp2_with fail
    refine (awake_any _ (hA2.on (by (repeat' (first | exact Below.refl _ _ | assumption | refine gr_drew ?_ | refine gr_drewN ?_ _ | refine gr_alloc ?_ _ | refine gr_set ?_ ?_ _ | refine gr_call ?_ (by assumption)) <;> (try (simp; done)) <;> (try (simp; omega)) <;> (try omega))))).mono ?_
    rintro e w4 ⟨rfl, hbw4⟩
    have hzw4 := hbw4.size
    try simp at hzw4
    go_wp2_with fail
    go_ret
    exact ⟨rfl, by (repeat' (first | exact Below.refl _ _ | assumption | refine gr_drew ?_ | refine gr_drewN ?_ _ | refine gr_alloc ?_ _ | refine gr_set ?_ ?_ _ | refine gr_call ?_ (by assumption)) <;> (try (simp; done)) <;> (try (simp; omega)) <;> (try omega))⟩

set_option maxRecDepth 100000 in
set_option maxHeartbeats 1000000 in
theorem all_nyn (a0 b0 a1 b1 : Int) (s : ByteArray) (w : World) (hA : Amb w) (hl : s.size ≤ 100) (hok : parseOk s.data.toList = false) (hm : mayF a0 b0 = true) (hn : mayF a1 b1 = false) :
    Calls Tryd.prog 3 #[.agg #[.int .i64 a0, .int .i64 b0], .agg #[.int .i64 a1, .int .i64 b1], .string s] w fun e w' => e = .returned (.bool true) ∧ Below w.heap.size w w' := by
  have HP := Lib.hid (fun W hA => parse_no s W hA (by omega) hok)
  have HR := Lib.hid (fun W => refParse_no s W hok)
  have HM := Lib.hid (fun W => may_yes a0 b0 W hm)
  have HN := Lib.hid (fun W => refMay_yes a0 b0 W hm)
  have HO := Lib.hid (fun W => refMay_no a1 b1 W hn)
  clear hok hm hn
  go_enter Tryd.func3, Tryd.ntmps3
  go_wp2_with fail
  refine (HP.out _ (hA.on (by (repeat' (first | exact Below.refl _ _ | assumption | refine gr_drew ?_ | refine gr_drewN ?_ _ | refine gr_alloc ?_ _ | refine gr_set ?_ ?_ _ | refine gr_call ?_ (by assumption)) <;> (try (simp; done)) <;> (try (simp; omega)) <;> (try omega))))).mono ?_
  rintro e w1 ⟨rfl, hbw1⟩
  have hzw1 := hbw1.size
  try simp at hzw1
  have : w.heap.size < w1.heap.size := by omega
  have : w.heap.size ≤ w1.heap.size := by omega
  have : w1.cell? ⟨w.heap.size, 0, none⟩ = some (.int .i64 a0) := cell_kept hbw1 (by simp [go_sem, *])
  have : w1.frozen? ⟨w.heap.size, 0, none⟩ = false := free_kept hbw1 (v := .int .i64 a0) (by simp [go_sem, *]) (by simp [go_sem, *])
  have : w.heap.size < w1.heap.size := by omega
  have : w.heap.size ≤ w1.heap.size := by omega
  have : w1.cell? ⟨w.heap.size, 1, none⟩ = some (.int .i64 b0) := cell_kept hbw1 (by simp [go_sem, *])
  have : w1.frozen? ⟨w.heap.size, 1, none⟩ = false := free_kept hbw1 (v := .int .i64 b0) (by simp [go_sem, *]) (by simp [go_sem, *])
  have : w.heap.size + 1 < w1.heap.size := by omega
  have : w.heap.size + 1 ≤ w1.heap.size := by omega
  have : w1.cell? ⟨w.heap.size + 1, 0, none⟩ = some (.int .i64 a1) := cell_kept hbw1 (by simp [go_sem, *])
  have : w1.frozen? ⟨w.heap.size + 1, 0, none⟩ = false := free_kept hbw1 (v := .int .i64 a1) (by simp [go_sem, *]) (by simp [go_sem, *])
  have : w.heap.size + 1 < w1.heap.size := by omega
  have : w.heap.size + 1 ≤ w1.heap.size := by omega
  have : w1.cell? ⟨w.heap.size + 1, 1, none⟩ = some (.int .i64 b1) := cell_kept hbw1 (by simp [go_sem, *])
  have : w1.frozen? ⟨w.heap.size + 1, 1, none⟩ = false := free_kept hbw1 (v := .int .i64 b1) (by simp [go_sem, *]) (by simp [go_sem, *])
  go_wp2_with fail
  refine (HR.out _).mono ?_
  rintro e w2 ⟨rfl, hbw2⟩
  have hzw2 := hbw2.size
  try simp at hzw2
  have : w.heap.size < w2.heap.size := by omega
  have : w.heap.size ≤ w2.heap.size := by omega
  have : w2.cell? ⟨w.heap.size, 0, none⟩ = some (.int .i64 a0) := cell_kept hbw2 (by simp [go_sem, *])
  have : w2.frozen? ⟨w.heap.size, 0, none⟩ = false := free_kept hbw2 (v := .int .i64 a0) (by simp [go_sem, *]) (by simp [go_sem, *])
  have : w.heap.size < w2.heap.size := by omega
  have : w.heap.size ≤ w2.heap.size := by omega
  have : w2.cell? ⟨w.heap.size, 1, none⟩ = some (.int .i64 b0) := cell_kept hbw2 (by simp [go_sem, *])
  have : w2.frozen? ⟨w.heap.size, 1, none⟩ = false := free_kept hbw2 (v := .int .i64 b0) (by simp [go_sem, *]) (by simp [go_sem, *])
  have : w.heap.size + 1 < w2.heap.size := by omega
  have : w.heap.size + 1 ≤ w2.heap.size := by omega
  have : w2.cell? ⟨w.heap.size + 1, 0, none⟩ = some (.int .i64 a1) := cell_kept hbw2 (by simp [go_sem, *])
  have : w2.frozen? ⟨w.heap.size + 1, 0, none⟩ = false := free_kept hbw2 (v := .int .i64 a1) (by simp [go_sem, *]) (by simp [go_sem, *])
  have : w.heap.size + 1 < w2.heap.size := by omega
  have : w.heap.size + 1 ≤ w2.heap.size := by omega
  have : w2.cell? ⟨w.heap.size + 1, 1, none⟩ = some (.int .i64 b1) := cell_kept hbw2 (by simp [go_sem, *])
  have : w2.frozen? ⟨w.heap.size + 1, 1, none⟩ = false := free_kept hbw2 (v := .int .i64 b1) (by simp [go_sem, *]) (by simp [go_sem, *])
  have : w1.heap.size < w2.heap.size := by omega
  have : w1.heap.size ≤ w2.heap.size := by omega
  have : w2.cell? ⟨w1.heap.size, 0, none⟩ = some (.int .i64 0) := cell_kept hbw2 (by simp [go_sem, *])
  have : w2.frozen? ⟨w1.heap.size, 0, none⟩ = false := free_kept hbw2 (v := .int .i64 0) (by simp [go_sem, *]) (by simp [go_sem, *])
  have : w1.heap.size < w2.heap.size := by omega
  have : w1.heap.size ≤ w2.heap.size := by omega
  have : w2.cell? ⟨w1.heap.size, 1, none⟩ = some (.int .i64 0) := cell_kept hbw2 (by simp [go_sem, *])
  have : w2.frozen? ⟨w1.heap.size, 1, none⟩ = false := free_kept hbw2 (v := .int .i64 0) (by simp [go_sem, *]) (by simp [go_sem, *])
  go_upto_region 5 with fail
  have hB1 : Below w.heap.size w (w2.alloc (.cells #[.int .i64 0, .int .i64 0, .bool false] 28)).drew := by (repeat' (first | exact Below.refl _ _ | assumption | refine gr_drew ?_ | refine gr_drewN ?_ _ | refine gr_alloc ?_ _ | refine gr_set ?_ ?_ _ | refine gr_call ?_ (by assumption)) <;> (try (simp; done)) <;> (try (simp; omega)) <;> (try omega))
  have hA1 := hA.on hB1
  go_cut [37] (fun s37 wx => s37 = .bool false ∧ Amb wx ∧ Below w.heap.size w wx ∧ wx.cell? ⟨w.heap.size, 0, none⟩ = some (.int .i64 a0) ∧ wx.cell? ⟨w.heap.size, 1, none⟩ = some (.int .i64 b0) ∧ wx.cell? ⟨w.heap.size + 1, 0, none⟩ = some (.int .i64 a1) ∧ wx.cell? ⟨w.heap.size + 1, 1, none⟩ = some (.int .i64 b1))
  case first =>
    go_region_held3 (fun w' => Amb w' ∧ Below w.heap.size w w' ∧ w'.cell? ⟨w.heap.size, 0, none⟩ = some (.int .i64 a0) ∧ w'.cell? ⟨w.heap.size, 1, none⟩ = some (.int .i64 b0) ∧ w'.cell? ⟨w.heap.size + 1, 0, none⟩ = some (.int .i64 a1) ∧ w'.cell? ⟨w.heap.size + 1, 1, none⟩ = some (.int .i64 b1) ∧ w'.cell? ⟨w1.heap.size, 0, none⟩ = some (.int .i64 0) ∧ w'.cell? ⟨w1.heap.size, 1, none⟩ = some (.int .i64 0) ∧ w'.cell? ⟨w2.heap.size, 0, none⟩ = some (.int .i64 0) ∧ w'.cell? ⟨w2.heap.size, 1, none⟩ = some (.int .i64 0) ∧ w'.cell? ⟨w2.heap.size, 2, none⟩ = some (.bool false))
      (first | (go_keep; done) | (go_split_ands; (repeat' apply And.intro) <;> (first | assumption | exact Amb.on (by assumption) hb1 | exact gr_call (by assumption) hb1 | exact cell_kept hb1 (by assumption) | (show Below _ _ _; (repeat' (first | exact Below.refl _ _ | assumption | refine gr_drew ?_ | refine gr_drewN ?_ _ | refine gr_alloc ?_ _ | refine gr_set ?_ ?_ _ | refine gr_call ?_ (by assumption)) <;> (try (simp; done)) <;> (try (simp; omega)) <;> (try omega)); done) | (go_keep; done) | (simp [go_sem, *]; done))))
      (first
        | (go_at_call 13; go_split_ands; refine (HM.out _).mono ?_; rintro e w1 ⟨rfl, hb1⟩)
        | (go_at_call 14; go_split_ands; refine (HN.out _).mono ?_; rintro e w1 ⟨rfl, hb1⟩))
    all_goals
      go_split_ands
      go_wp2_with fail
      go_meet
      exact ⟨rfl, by assumption, by assumption, by assumption, by assumption, by assumption, by assumption⟩
  case rest =>
    obtain ⟨rfl, hA2, hB2, k0, k1, k2, k3⟩ := hcut
    go_wp2_with fail
    refine (HN.out _).mono ?_
    rintro e w3 ⟨rfl, hbw3⟩
    have hzw3 := hbw3.size
    try simp at hzw3
    have : w3.cell? ⟨w.heap.size, 0, none⟩ = some (.int .i64 a0) := cell_kept hbw3 (by assumption)
    have : w3.cell? ⟨w.heap.size, 1, none⟩ = some (.int .i64 b0) := cell_kept hbw3 (by assumption)
    have : w3.cell? ⟨w.heap.size + 1, 0, none⟩ = some (.int .i64 a1) := cell_kept hbw3 (by assumption)
    have : w3.cell? ⟨w.heap.size + 1, 1, none⟩ = some (.int .i64 b1) := cell_kept hbw3 (by assumption)
    go_wp2_with fail
    refine (HO.out _).mono ?_
    rintro e w4 ⟨rfl, hbw4⟩
    have hzw4 := hbw4.size
    try simp at hzw4
    have hA4 := (hA2.on hbw3).on hbw4
    go_wp2_with fail
    refine (awake_any _ hA4).mono ?_
    rintro e w5 ⟨rfl, hbw5⟩
    have hzw5 := hbw5.size
    try simp at hzw5
    go_wp2_with fail
    go_ret
    exact ⟨rfl, by (repeat' (first | exact Below.refl _ _ | assumption | refine gr_drew ?_ | refine gr_drewN ?_ _ | refine gr_alloc ?_ _ | refine gr_set ?_ ?_ _ | refine gr_call ?_ (by assumption)) <;> (try (simp; done)) <;> (try (simp; omega)) <;> (try omega))⟩

set_option maxRecDepth 100000 in
set_option maxHeartbeats 1000000 in
theorem all_nyy (a0 b0 a1 b1 : Int) (s : ByteArray) (w : World) (hA : Amb w) (hl : s.size ≤ 100) (hok : parseOk s.data.toList = false) (hm : mayF a0 b0 = true) (hn : mayF a1 b1 = true) :
    Calls Tryd.prog 3 #[.agg #[.int .i64 a0, .int .i64 b0], .agg #[.int .i64 a1, .int .i64 b1], .string s] w fun e w' => e = .returned (.bool true) ∧ Below w.heap.size w w' := by
  have HP := Lib.hid (fun W hA => parse_no s W hA (by omega) hok)
  have HR := Lib.hid (fun W => refParse_no s W hok)
  have HM := Lib.hid (fun W => may_yes a0 b0 W hm)
  have HN := Lib.hid (fun W => refMay_yes a0 b0 W hm)
  have HO := Lib.hid (fun W => refMay_yes a1 b1 W hn)
  have HT := Lib.hid (fun W hA => text_any a0 b0 W hA hm)
  have HU := Lib.hid (fun W => refText_any a0 b0 W hm)
  have HC := Lib.hid (fun W => cmp_any a0 b0 a1 b1 W)
  have HD := Lib.hid (fun W => refCmp_any a0 b0 a1 b1 W)
  have htt : (textF a0 b0 == textF a0 b0) = true := by simp
  clear hok hm hn
  generalize textF a0 b0 = T at *
  generalize cmpF a0 b0 a1 b1 = K at *
  go_enter Tryd.func3, Tryd.ntmps3
  go_wp2_with fail
  refine (HP.out _ (hA.on (by (repeat' (first | exact Below.refl _ _ | assumption | refine gr_drew ?_ | refine gr_drewN ?_ _ | refine gr_alloc ?_ _ | refine gr_set ?_ ?_ _ | refine gr_call ?_ (by assumption)) <;> (try (simp; done)) <;> (try (simp; omega)) <;> (try omega))))).mono ?_
  rintro e w1 ⟨rfl, hbw1⟩
  have hzw1 := hbw1.size
  try simp at hzw1
  have : w.heap.size < w1.heap.size := by omega
  have : w.heap.size ≤ w1.heap.size := by omega
  have : w1.cell? ⟨w.heap.size, 0, none⟩ = some (.int .i64 a0) := cell_kept hbw1 (by simp [go_sem, *])
  have : w1.frozen? ⟨w.heap.size, 0, none⟩ = false := free_kept hbw1 (v := .int .i64 a0) (by simp [go_sem, *]) (by simp [go_sem, *])
  have : w.heap.size < w1.heap.size := by omega
  have : w.heap.size ≤ w1.heap.size := by omega
  have : w1.cell? ⟨w.heap.size, 1, none⟩ = some (.int .i64 b0) := cell_kept hbw1 (by simp [go_sem, *])
  have : w1.frozen? ⟨w.heap.size, 1, none⟩ = false := free_kept hbw1 (v := .int .i64 b0) (by simp [go_sem, *]) (by simp [go_sem, *])
  have : w.heap.size + 1 < w1.heap.size := by omega
  have : w.heap.size + 1 ≤ w1.heap.size := by omega
  have : w1.cell? ⟨w.heap.size + 1, 0, none⟩ = some (.int .i64 a1) := cell_kept hbw1 (by simp [go_sem, *])
  have : w1.frozen? ⟨w.heap.size + 1, 0, none⟩ = false := free_kept hbw1 (v := .int .i64 a1) (by simp [go_sem, *]) (by simp [go_sem, *])
  have : w.heap.size + 1 < w1.heap.size := by omega
  have : w.heap.size + 1 ≤ w1.heap.size := by omega
  have : w1.cell? ⟨w.heap.size + 1, 1, none⟩ = some (.int .i64 b1) := cell_kept hbw1 (by simp [go_sem, *])
  have : w1.frozen? ⟨w.heap.size + 1, 1, none⟩ = false := free_kept hbw1 (v := .int .i64 b1) (by simp [go_sem, *]) (by simp [go_sem, *])
  go_wp2_with fail
  refine (HR.out _).mono ?_
  rintro e w2 ⟨rfl, hbw2⟩
  have hzw2 := hbw2.size
  try simp at hzw2
  have : w.heap.size < w2.heap.size := by omega
  have : w.heap.size ≤ w2.heap.size := by omega
  have : w2.cell? ⟨w.heap.size, 0, none⟩ = some (.int .i64 a0) := cell_kept hbw2 (by simp [go_sem, *])
  have : w2.frozen? ⟨w.heap.size, 0, none⟩ = false := free_kept hbw2 (v := .int .i64 a0) (by simp [go_sem, *]) (by simp [go_sem, *])
  have : w.heap.size < w2.heap.size := by omega
  have : w.heap.size ≤ w2.heap.size := by omega
  have : w2.cell? ⟨w.heap.size, 1, none⟩ = some (.int .i64 b0) := cell_kept hbw2 (by simp [go_sem, *])
  have : w2.frozen? ⟨w.heap.size, 1, none⟩ = false := free_kept hbw2 (v := .int .i64 b0) (by simp [go_sem, *]) (by simp [go_sem, *])
  have : w.heap.size + 1 < w2.heap.size := by omega
  have : w.heap.size + 1 ≤ w2.heap.size := by omega
  have : w2.cell? ⟨w.heap.size + 1, 0, none⟩ = some (.int .i64 a1) := cell_kept hbw2 (by simp [go_sem, *])
  have : w2.frozen? ⟨w.heap.size + 1, 0, none⟩ = false := free_kept hbw2 (v := .int .i64 a1) (by simp [go_sem, *]) (by simp [go_sem, *])
  have : w.heap.size + 1 < w2.heap.size := by omega
  have : w.heap.size + 1 ≤ w2.heap.size := by omega
  have : w2.cell? ⟨w.heap.size + 1, 1, none⟩ = some (.int .i64 b1) := cell_kept hbw2 (by simp [go_sem, *])
  have : w2.frozen? ⟨w.heap.size + 1, 1, none⟩ = false := free_kept hbw2 (v := .int .i64 b1) (by simp [go_sem, *]) (by simp [go_sem, *])
  have : w1.heap.size < w2.heap.size := by omega
  have : w1.heap.size ≤ w2.heap.size := by omega
  have : w2.cell? ⟨w1.heap.size, 0, none⟩ = some (.int .i64 0) := cell_kept hbw2 (by simp [go_sem, *])
  have : w2.frozen? ⟨w1.heap.size, 0, none⟩ = false := free_kept hbw2 (v := .int .i64 0) (by simp [go_sem, *]) (by simp [go_sem, *])
  have : w1.heap.size < w2.heap.size := by omega
  have : w1.heap.size ≤ w2.heap.size := by omega
  have : w2.cell? ⟨w1.heap.size, 1, none⟩ = some (.int .i64 0) := cell_kept hbw2 (by simp [go_sem, *])
  have : w2.frozen? ⟨w1.heap.size, 1, none⟩ = false := free_kept hbw2 (v := .int .i64 0) (by simp [go_sem, *]) (by simp [go_sem, *])
  go_upto_region 5 with fail
  have hB1 : Below w.heap.size w (w2.alloc (.cells #[.int .i64 0, .int .i64 0, .bool false] 28)).drew := by (repeat' (first | exact Below.refl _ _ | assumption | refine gr_drew ?_ | refine gr_drewN ?_ _ | refine gr_alloc ?_ _ | refine gr_set ?_ ?_ _ | refine gr_call ?_ (by assumption)) <;> (try (simp; done)) <;> (try (simp; omega)) <;> (try omega))
  have hA1 := hA.on hB1
  go_cut [37] (fun s37 wx => s37 = .bool false ∧ Amb wx ∧ Below w.heap.size w wx ∧ wx.cell? ⟨w.heap.size, 0, none⟩ = some (.int .i64 a0) ∧ wx.cell? ⟨w.heap.size, 1, none⟩ = some (.int .i64 b0) ∧ wx.cell? ⟨w.heap.size + 1, 0, none⟩ = some (.int .i64 a1) ∧ wx.cell? ⟨w.heap.size + 1, 1, none⟩ = some (.int .i64 b1))
  case first =>
    go_region_held3 (fun w' => Amb w' ∧ Below w.heap.size w w' ∧ w'.cell? ⟨w.heap.size, 0, none⟩ = some (.int .i64 a0) ∧ w'.cell? ⟨w.heap.size, 1, none⟩ = some (.int .i64 b0) ∧ w'.cell? ⟨w.heap.size + 1, 0, none⟩ = some (.int .i64 a1) ∧ w'.cell? ⟨w.heap.size + 1, 1, none⟩ = some (.int .i64 b1) ∧ w'.cell? ⟨w1.heap.size, 0, none⟩ = some (.int .i64 0) ∧ w'.cell? ⟨w1.heap.size, 1, none⟩ = some (.int .i64 0) ∧ w'.cell? ⟨w2.heap.size, 0, none⟩ = some (.int .i64 0) ∧ w'.cell? ⟨w2.heap.size, 1, none⟩ = some (.int .i64 0) ∧ w'.cell? ⟨w2.heap.size, 2, none⟩ = some (.bool false))
      (first | (go_keep; done) | (go_split_ands; (repeat' apply And.intro) <;> (first | assumption | exact Amb.on (by assumption) hb1 | exact gr_call (by assumption) hb1 | exact cell_kept hb1 (by assumption) | (show Below _ _ _; (repeat' (first | exact Below.refl _ _ | assumption | refine gr_drew ?_ | refine gr_drewN ?_ _ | refine gr_alloc ?_ _ | refine gr_set ?_ ?_ _ | refine gr_call ?_ (by assumption)) <;> (try (simp; done)) <;> (try (simp; omega)) <;> (try omega)); done) | (go_keep; done) | (simp [go_sem, *]; done))))
      (first
        | (go_at_call 13; go_split_ands; refine (HM.out _).mono ?_; rintro e w1 ⟨rfl, hb1⟩)
        | (go_at_call 14; go_split_ands; refine (HN.out _).mono ?_; rintro e w1 ⟨rfl, hb1⟩))
    all_goals
      go_split_ands
      go_wp2_with fail
      go_meet
      exact ⟨rfl, by assumption, by assumption, by assumption, by assumption, by assumption, by assumption⟩
  case rest =>
    obtain ⟨rfl, hA2, hB2, k0, k1, k2, k3⟩ := hcut
    go_wp2_with fail
    refine (HN.out _).mono ?_
    rintro e w3 ⟨rfl, hbw3⟩
    have hzw3 := hbw3.size
    try simp at hzw3
    have : w3.cell? ⟨w.heap.size, 0, none⟩ = some (.int .i64 a0) := cell_kept hbw3 (by assumption)
    have : w3.cell? ⟨w.heap.size, 1, none⟩ = some (.int .i64 b0) := cell_kept hbw3 (by assumption)
    have : w3.cell? ⟨w.heap.size + 1, 0, none⟩ = some (.int .i64 a1) := cell_kept hbw3 (by assumption)
    have : w3.cell? ⟨w.heap.size + 1, 1, none⟩ = some (.int .i64 b1) := cell_kept hbw3 (by assumption)
    go_wp2_with fail
    refine (HO.out _).mono ?_
    rintro e w4 ⟨rfl, hbw4⟩
    have hzw4 := hbw4.size
    try simp at hzw4
    have hA4 := ((hA2.on hbw3).on hbw4).on (gr_drew (Below.refl _ _))
    have hB4 : Below w.heap.size w w4.drew := by (repeat' (first | exact Below.refl _ _ | assumption | refine gr_drew ?_ | refine gr_drewN ?_ _ | refine gr_alloc ?_ _ | refine gr_set ?_ ?_ _ | refine gr_call ?_ (by assumption)) <;> (try (simp; done)) <;> (try (simp; omega)) <;> (try omega))
    have : w4.cell? ⟨w.heap.size, 0, none⟩ = some (.int .i64 a0) := cell_kept hbw4 (by assumption)
    have : w4.cell? ⟨w.heap.size, 1, none⟩ = some (.int .i64 b0) := cell_kept hbw4 (by assumption)
    have : w4.cell? ⟨w.heap.size + 1, 0, none⟩ = some (.int .i64 a1) := cell_kept hbw4 (by assumption)
    have : w4.cell? ⟨w.heap.size + 1, 1, none⟩ = some (.int .i64 b1) := cell_kept hbw4 (by assumption)
    go_upto_region 9 with fail
    go_region_held3 (fun w' => Amb w' ∧ Below w.heap.size w w' ∧ w'.cell? ⟨w.heap.size, 0, none⟩ = some (.int .i64 a0) ∧ w'.cell? ⟨w.heap.size, 1, none⟩ = some (.int .i64 b0) ∧ w'.cell? ⟨w.heap.size + 1, 0, none⟩ = some (.int .i64 a1) ∧ w'.cell? ⟨w.heap.size + 1, 1, none⟩ = some (.int .i64 b1))
      (first | (go_keep; done) | (go_split_ands; (repeat' apply And.intro) <;> (first | assumption | exact Amb.on (by assumption) hb1 | exact gr_call (by assumption) hb1 | exact cell_kept hb1 (by assumption) | (show Below _ _ _; (repeat' (first | exact Below.refl _ _ | assumption | refine gr_drew ?_ | refine gr_drewN ?_ _ | refine gr_alloc ?_ _ | refine gr_set ?_ ?_ _ | refine gr_call ?_ (by assumption)) <;> (try (simp; done)) <;> (try (simp; omega)) <;> (try omega)); done) | (go_keep; done) | (simp [go_sem, *]; done))))
      (first
        | (go_at_call 15; go_split_ands; refine (HT.out _ (by assumption)).mono ?_; rintro e w1 ⟨rfl, hb1⟩)
        | (go_at_call 16; go_split_ands; refine (HU.out _).mono ?_; rintro e w1 ⟨rfl, hb1⟩)
        | (go_at_call 17; go_split_ands; refine (HC.out _).mono ?_; rintro e w1 ⟨rfl, hb1⟩)
        | (go_at_call 18; go_split_ands; refine (HD.out _).mono ?_; rintro e w1 ⟨rfl, hb1⟩)
        | (go_at_call 10; go_split_ands; refine (awake_any _ (by assumption)).mono ?_; rintro e w1 ⟨rfl, hb1⟩))
    all_goals
      go_split_ands
      go_wp2_with fail
      go_ret
      exact ⟨rfl, by assumption⟩

theorem stampAll_walk (a0 b0 : Int) (a1 b1 : Int) (a2 : ByteArray) (w : World) (hA : Amb w) (_w0 : (Lit.int .i64 a0).wf = true) (_x0 : (Lit.int .i64 b0).wf = true) (_w1 : (Lit.int .i64 a1).wf = true) (_x1 : (Lit.int .i64 b1).wf = true) (w2 : a2.size ≤ maxLen) :
    Calls Tryd.prog 3 #[.agg #[.int .i64 a0, .int .i64 b0], .agg #[.int .i64 a1, .int .i64 b1], .string a2] w fun e w' => e = .returned (.bool true) ∧ Below w.heap.size w w' := by
  by_cases hl : 100 < a2.size
  · exact all_long a0 b0 a1 b1 a2 w hA w2 hl
  · have hl' : a2.size ≤ 100 := by omega
    rcases hok : parseOk a2.data.toList with _ | _
    · rcases hm : mayF a0 b0 with _ | _
      · exact all_nn a0 b0 a1 b1 a2 w hA hl' hok hm
      · rcases hn : mayF a1 b1 with _ | _
        · exact all_nyn a0 b0 a1 b1 a2 w hA hl' hok hm hn
        · exact all_nyy a0 b0 a1 b1 a2 w hA hl' hok hm hn
    · rcases hm : mayF a0 b0 with _ | _
      · exact all_yn a0 b0 a1 b1 a2 w hA hl' hok hm
      · rcases hn : mayF a1 b1 with _ | _
        · exact all_yyn a0 b0 a1 b1 a2 w hA hl' hok hm hn
        · exact all_yyy a0 b0 a1 b1 a2 w hA hl' hok hm hn
end Go.Proofs.YtaobkniecgiplaaDoor
