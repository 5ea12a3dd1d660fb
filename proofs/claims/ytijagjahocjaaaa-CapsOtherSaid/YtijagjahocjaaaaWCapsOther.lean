/- The law CapsOther, walked. -/
import Derived.Test.YtijagjahocjaaaaCapsAwake
namespace Go.Proofs.Ytijagjahocjaaaa
open Go.RowKit
open CapsM
set_option linter.unusedVariables false

theorem get_nil : getL ([] : List UInt8) = some none0 := by unfold getL; rw [if_pos rfl]
set_option maxHeartbeats 800000 in
/-- One case: may they be, have they bytes. -/
theorem other0 (v : Int) (k : Nat) (hk : k < 4294967296) (hm : may ⟨v, 0, 0, false, (k : Int)⟩ = true) (hq : decide (putL ⟨v, 0, 0, false, (k : Int)⟩ = []) = true) (h0 : (v == 0) = true) (hz : ((k : Int) == 0) = true) (w : World) :
    Calls Try.prog 6 #[.int .i64 v, .int .u32 (k : Int)] w fun e w' => e = .returned (.bool true) ∧ Below w.heap.size w w' := by
  have hmay := May_any ⟨v, 0, 0, false, (k : Int)⟩
  rw [hm] at hmay
  have hput := Put_any ⟨v, 0, 0, false, (k : Int)⟩ (by unfold Fits; simp)
  have hT : (strOf (putL ⟨v, 0, 0, false, (k : Int)⟩)).toList.isEmpty = true := by
    rw [Lib.toList_data, strOf_list]
    refine Eq.trans ?_ hq
    cases putL ⟨v, 0, 0, false, (k : Int)⟩ <;> simp
  obtain ⟨T, hTT⟩ : ∃ T, strOf (putL ⟨v, 0, 0, false, (k : Int)⟩) = T := ⟨_, rfl⟩
  rw [hTT] at hput hT
  have hget := Get_any ⟨#[]⟩ (by decide)
  rw [show (⟨#[]⟩ : ByteArray).data.toList = [] from rfl, get_nil] at hget
  have hmay2 := May_any ⟨0, 0, 0, true, 0⟩
  rw [show may ⟨0, 0, 0, true, 0⟩ = false from rfl] at hmay2
  unfold capV at hmay hput hmay2
  unfold getRet capV none0 at hget
  simp only at hmay hput hmay2 hget
  have Hmay := Lib.hid hmay
  have Hput := Lib.hid hput
  have Hget := Lib.hid hget
  have Hmay2 := Lib.hid hmay2
  have hcv : IntKind.i64.wrap (k : Int) = (k : Int) := by rw [IntKind.wrap_i64]; omega
  clear hmay hput hget hmay2 hm hq hTT
  go_enter Try.func6, Try.ntmps6
  go_wp2_with fail
  refine (Hget.out _).mono ?_
  rintro e w1 ⟨rfl, hb1⟩
  have c0 : w1.cell? ⟨w.heap.size, 0, none⟩ = some (.int .i64 v) := cell_kept hb1 (by simp [go_sem])
  have c1 : w1.cell? ⟨w.heap.size, 1, none⟩ = some (.int .u64 0) := cell_kept hb1 (by simp [go_sem])
  have c2 : w1.cell? ⟨w.heap.size, 2, none⟩ = some (.int .u64 0) := cell_kept hb1 (by simp [go_sem])
  have c3 : w1.cell? ⟨w.heap.size, 3, none⟩ = some (.bool false) := cell_kept hb1 (by simp [go_sem])
  have c4 : w1.cell? ⟨w.heap.size, 4, none⟩ = some (.int .i64 (k : Int)) := cell_kept hb1 (by simp [go_sem])
  have hbl : Below w.heap.size w w1 := gr_call (by (repeat' (first | exact Below.refl _ _ | assumption | refine gr_drew ?_ | refine gr_drewN ?_ _ | refine gr_alloc ?_ _ | refine gr_set ?_ ?_ _ | refine gr_call ?_ (by assumption)) <;> (try (simp; done)) <;> (try (simp; omega)) <;> (try omega))) hb1
  clear hb1
  have hlt : w.heap.size < w1.heap.size := block_lt c0
  go_wp2_with fail
  refine (Hmay.out _).mono ?_
  rintro e w2 ⟨rfl, hb2⟩
  have x0 : w2.cell? ⟨w1.heap.size, 0, none⟩ = some (.int .i64 0) := cell_kept hb2 (by simp [go_sem])
  have x1 : w2.cell? ⟨w1.heap.size, 1, none⟩ = some (.int .u64 0) := cell_kept hb2 (by simp [go_sem])
  have x2 : w2.cell? ⟨w1.heap.size, 2, none⟩ = some (.int .u64 0) := cell_kept hb2 (by simp [go_sem])
  have x3 : w2.cell? ⟨w1.heap.size, 3, none⟩ = some (.bool false) := cell_kept hb2 (by simp [go_sem])
  have x4 : w2.cell? ⟨w1.heap.size, 4, none⟩ = some (.int .i64 0) := cell_kept hb2 (by simp [go_sem])
  have hb1 : Below w1.heap.size w1 w2 := gr_call (by (repeat' (first | exact Below.refl _ _ | assumption | refine gr_drew ?_ | refine gr_drewN ?_ _ | refine gr_alloc ?_ _ | refine gr_set ?_ ?_ _ | refine gr_call ?_ (by assumption)) <;> (try (simp; done)) <;> (try (simp; omega)) <;> (try omega))) hb2
  replace c0 := cell_kept hb1 c0
  replace c1 := cell_kept hb1 c1
  replace c2 := cell_kept hb1 c2
  replace c3 := cell_kept hb1 c3
  replace c4 := cell_kept hb1 c4
  replace hbl := gr_call hbl hb1
  clear hb1 hb2
  go_wp2_with fail
  refine (Hput.out _).mono ?_
  rintro e w3 ⟨rfl, hb3⟩
  replace c0 := cell_kept hb3 c0
  replace c1 := cell_kept hb3 c1
  replace c2 := cell_kept hb3 c2
  replace c3 := cell_kept hb3 c3
  replace c4 := cell_kept hb3 c4
  replace x0 := cell_kept hb3 x0
  replace x1 := cell_kept hb3 x1
  replace x2 := cell_kept hb3 x2
  replace x3 := cell_kept hb3 x3
  replace x4 := cell_kept hb3 x4
  replace hbl := gr_call hbl hb3
  clear hb3
  go_wp2_with fail
  refine (Hmay2.out _).mono ?_
  rintro e w4 ⟨rfl, hb4⟩
  replace hbl := gr_call hbl hb4
  clear hb4 c0 c1 c2 c3 c4 x0 x1 x2 x3 x4
  go_wp2_with fail
  refine (awake_true _).mono ?_
  rintro e w5 ⟨rfl, hb5⟩
  replace hbl := gr_call hbl hb5
  go_wp2_with fail
  go_ret
  exact ⟨rfl, hbl⟩
set_option maxHeartbeats 800000 in
/-- One case: may they be, have they bytes. -/
theorem other1 (v : Int) (k : Nat) (hk : k < 4294967296) (hm : may ⟨v, 0, 0, false, (k : Int)⟩ = false) (hq : decide (putL ⟨v, 0, 0, false, (k : Int)⟩ = []) = true) (h0 : (v == 0) = true) (h2 : (v == 2) = false) (h3 : (v == 3) = false) (hz : ((k : Int) == 0) = false) (w : World) :
    Calls Try.prog 6 #[.int .i64 v, .int .u32 (k : Int)] w fun e w' => e = .returned (.bool true) ∧ Below w.heap.size w w' := by
  have hmay := May_any ⟨v, 0, 0, false, (k : Int)⟩
  rw [hm] at hmay
  have hput := Put_any ⟨v, 0, 0, false, (k : Int)⟩ (by unfold Fits; simp)
  have hT : (strOf (putL ⟨v, 0, 0, false, (k : Int)⟩)).toList.isEmpty = true := by
    rw [Lib.toList_data, strOf_list]
    refine Eq.trans ?_ hq
    cases putL ⟨v, 0, 0, false, (k : Int)⟩ <;> simp
  obtain ⟨T, hTT⟩ : ∃ T, strOf (putL ⟨v, 0, 0, false, (k : Int)⟩) = T := ⟨_, rfl⟩
  rw [hTT] at hput hT
  have hget := Get_any ⟨#[]⟩ (by decide)
  rw [show (⟨#[]⟩ : ByteArray).data.toList = [] from rfl, get_nil] at hget
  have hmay2 := May_any ⟨0, 0, 0, true, 0⟩
  rw [show may ⟨0, 0, 0, true, 0⟩ = false from rfl] at hmay2
  unfold capV at hmay hput hmay2
  unfold getRet capV none0 at hget
  simp only at hmay hput hmay2 hget
  have Hmay := Lib.hid hmay
  have Hput := Lib.hid hput
  have Hget := Lib.hid hget
  have Hmay2 := Lib.hid hmay2
  have hcv : IntKind.i64.wrap (k : Int) = (k : Int) := by rw [IntKind.wrap_i64]; omega
  clear hmay hput hget hmay2 hm hq hTT
  go_enter Try.func6, Try.ntmps6
  go_wp2_with fail
  refine (Hget.out _).mono ?_
  rintro e w1 ⟨rfl, hb1⟩
  have c0 : w1.cell? ⟨w.heap.size, 0, none⟩ = some (.int .i64 v) := cell_kept hb1 (by simp [go_sem])
  have c1 : w1.cell? ⟨w.heap.size, 1, none⟩ = some (.int .u64 0) := cell_kept hb1 (by simp [go_sem])
  have c2 : w1.cell? ⟨w.heap.size, 2, none⟩ = some (.int .u64 0) := cell_kept hb1 (by simp [go_sem])
  have c3 : w1.cell? ⟨w.heap.size, 3, none⟩ = some (.bool false) := cell_kept hb1 (by simp [go_sem])
  have c4 : w1.cell? ⟨w.heap.size, 4, none⟩ = some (.int .i64 (k : Int)) := cell_kept hb1 (by simp [go_sem])
  have hbl : Below w.heap.size w w1 := gr_call (by (repeat' (first | exact Below.refl _ _ | assumption | refine gr_drew ?_ | refine gr_drewN ?_ _ | refine gr_alloc ?_ _ | refine gr_set ?_ ?_ _ | refine gr_call ?_ (by assumption)) <;> (try (simp; done)) <;> (try (simp; omega)) <;> (try omega))) hb1
  clear hb1
  have hlt : w.heap.size < w1.heap.size := block_lt c0
  go_wp2_with fail
  refine (Hmay.out _).mono ?_
  rintro e w2 ⟨rfl, hb2⟩
  have x0 : w2.cell? ⟨w1.heap.size, 0, none⟩ = some (.int .i64 0) := cell_kept hb2 (by simp [go_sem])
  have x1 : w2.cell? ⟨w1.heap.size, 1, none⟩ = some (.int .u64 0) := cell_kept hb2 (by simp [go_sem])
  have x2 : w2.cell? ⟨w1.heap.size, 2, none⟩ = some (.int .u64 0) := cell_kept hb2 (by simp [go_sem])
  have x3 : w2.cell? ⟨w1.heap.size, 3, none⟩ = some (.bool false) := cell_kept hb2 (by simp [go_sem])
  have x4 : w2.cell? ⟨w1.heap.size, 4, none⟩ = some (.int .i64 0) := cell_kept hb2 (by simp [go_sem])
  have hb1 : Below w1.heap.size w1 w2 := gr_call (by (repeat' (first | exact Below.refl _ _ | assumption | refine gr_drew ?_ | refine gr_drewN ?_ _ | refine gr_alloc ?_ _ | refine gr_set ?_ ?_ _ | refine gr_call ?_ (by assumption)) <;> (try (simp; done)) <;> (try (simp; omega)) <;> (try omega))) hb2
  replace c0 := cell_kept hb1 c0
  replace c1 := cell_kept hb1 c1
  replace c2 := cell_kept hb1 c2
  replace c3 := cell_kept hb1 c3
  replace c4 := cell_kept hb1 c4
  replace hbl := gr_call hbl hb1
  clear hb1 hb2
  go_wp2_with fail
  refine (Hput.out _).mono ?_
  rintro e w3 ⟨rfl, hb3⟩
  replace c0 := cell_kept hb3 c0
  replace c1 := cell_kept hb3 c1
  replace c2 := cell_kept hb3 c2
  replace c3 := cell_kept hb3 c3
  replace c4 := cell_kept hb3 c4
  replace x0 := cell_kept hb3 x0
  replace x1 := cell_kept hb3 x1
  replace x2 := cell_kept hb3 x2
  replace x3 := cell_kept hb3 x3
  replace x4 := cell_kept hb3 x4
  replace hbl := gr_call hbl hb3
  clear hb3
  go_wp2_with fail
  refine (Hmay2.out _).mono ?_
  rintro e w4 ⟨rfl, hb4⟩
  replace hbl := gr_call hbl hb4
  clear hb4 c0 c1 c2 c3 c4 x0 x1 x2 x3 x4
  go_wp2_with fail
  refine (awake_true _).mono ?_
  rintro e w5 ⟨rfl, hb5⟩
  replace hbl := gr_call hbl hb5
  go_wp2_with fail
  go_ret
  exact ⟨rfl, hbl⟩
set_option maxHeartbeats 800000 in
/-- One case: may they be, have they bytes. -/
theorem other2 (v : Int) (k : Nat) (hk : k < 4294967296) (hm : may ⟨v, 0, 0, false, (k : Int)⟩ = true) (hq : decide (putL ⟨v, 0, 0, false, (k : Int)⟩ = []) = false) (h0 : (v == 0) = false) (h2 : (v == 2) = true) (hz : ((k : Int) == 0) = true) (w : World) :
    Calls Try.prog 6 #[.int .i64 v, .int .u32 (k : Int)] w fun e w' => e = .returned (.bool true) ∧ Below w.heap.size w w' := by
  have hmay := May_any ⟨v, 0, 0, false, (k : Int)⟩
  rw [hm] at hmay
  have hput := Put_any ⟨v, 0, 0, false, (k : Int)⟩ (by unfold Fits; simp)
  have hT : (strOf (putL ⟨v, 0, 0, false, (k : Int)⟩)).toList.isEmpty = false := by
    rw [Lib.toList_data, strOf_list]
    refine Eq.trans ?_ hq
    cases putL ⟨v, 0, 0, false, (k : Int)⟩ <;> simp
  obtain ⟨T, hTT⟩ : ∃ T, strOf (putL ⟨v, 0, 0, false, (k : Int)⟩) = T := ⟨_, rfl⟩
  rw [hTT] at hput hT
  have hget := Get_any ⟨#[]⟩ (by decide)
  rw [show (⟨#[]⟩ : ByteArray).data.toList = [] from rfl, get_nil] at hget
  have hmay2 := May_any ⟨0, 0, 0, true, 0⟩
  rw [show may ⟨0, 0, 0, true, 0⟩ = false from rfl] at hmay2
  unfold capV at hmay hput hmay2
  unfold getRet capV none0 at hget
  simp only at hmay hput hmay2 hget
  have Hmay := Lib.hid hmay
  have Hput := Lib.hid hput
  have Hget := Lib.hid hget
  have Hmay2 := Lib.hid hmay2
  have hcv : IntKind.i64.wrap (k : Int) = (k : Int) := by rw [IntKind.wrap_i64]; omega
  clear hmay hput hget hmay2 hm hq hTT
  go_enter Try.func6, Try.ntmps6
  go_wp2_with fail
  refine (Hget.out _).mono ?_
  rintro e w1 ⟨rfl, hb1⟩
  have c0 : w1.cell? ⟨w.heap.size, 0, none⟩ = some (.int .i64 v) := cell_kept hb1 (by simp [go_sem])
  have c1 : w1.cell? ⟨w.heap.size, 1, none⟩ = some (.int .u64 0) := cell_kept hb1 (by simp [go_sem])
  have c2 : w1.cell? ⟨w.heap.size, 2, none⟩ = some (.int .u64 0) := cell_kept hb1 (by simp [go_sem])
  have c3 : w1.cell? ⟨w.heap.size, 3, none⟩ = some (.bool false) := cell_kept hb1 (by simp [go_sem])
  have c4 : w1.cell? ⟨w.heap.size, 4, none⟩ = some (.int .i64 (k : Int)) := cell_kept hb1 (by simp [go_sem])
  have hbl : Below w.heap.size w w1 := gr_call (by (repeat' (first | exact Below.refl _ _ | assumption | refine gr_drew ?_ | refine gr_drewN ?_ _ | refine gr_alloc ?_ _ | refine gr_set ?_ ?_ _ | refine gr_call ?_ (by assumption)) <;> (try (simp; done)) <;> (try (simp; omega)) <;> (try omega))) hb1
  clear hb1
  have hlt : w.heap.size < w1.heap.size := block_lt c0
  go_wp2_with fail
  refine (Hmay.out _).mono ?_
  rintro e w2 ⟨rfl, hb2⟩
  have x0 : w2.cell? ⟨w1.heap.size, 0, none⟩ = some (.int .i64 0) := cell_kept hb2 (by simp [go_sem])
  have x1 : w2.cell? ⟨w1.heap.size, 1, none⟩ = some (.int .u64 0) := cell_kept hb2 (by simp [go_sem])
  have x2 : w2.cell? ⟨w1.heap.size, 2, none⟩ = some (.int .u64 0) := cell_kept hb2 (by simp [go_sem])
  have x3 : w2.cell? ⟨w1.heap.size, 3, none⟩ = some (.bool false) := cell_kept hb2 (by simp [go_sem])
  have x4 : w2.cell? ⟨w1.heap.size, 4, none⟩ = some (.int .i64 0) := cell_kept hb2 (by simp [go_sem])
  have hb1 : Below w1.heap.size w1 w2 := gr_call (by (repeat' (first | exact Below.refl _ _ | assumption | refine gr_drew ?_ | refine gr_drewN ?_ _ | refine gr_alloc ?_ _ | refine gr_set ?_ ?_ _ | refine gr_call ?_ (by assumption)) <;> (try (simp; done)) <;> (try (simp; omega)) <;> (try omega))) hb2
  replace c0 := cell_kept hb1 c0
  replace c1 := cell_kept hb1 c1
  replace c2 := cell_kept hb1 c2
  replace c3 := cell_kept hb1 c3
  replace c4 := cell_kept hb1 c4
  replace hbl := gr_call hbl hb1
  clear hb1 hb2
  go_wp2_with fail
  refine (Hput.out _).mono ?_
  rintro e w3 ⟨rfl, hb3⟩
  replace c0 := cell_kept hb3 c0
  replace c1 := cell_kept hb3 c1
  replace c2 := cell_kept hb3 c2
  replace c3 := cell_kept hb3 c3
  replace c4 := cell_kept hb3 c4
  replace x0 := cell_kept hb3 x0
  replace x1 := cell_kept hb3 x1
  replace x2 := cell_kept hb3 x2
  replace x3 := cell_kept hb3 x3
  replace x4 := cell_kept hb3 x4
  replace hbl := gr_call hbl hb3
  clear hb3
  go_wp2_with fail
  refine (Hmay2.out _).mono ?_
  rintro e w4 ⟨rfl, hb4⟩
  replace hbl := gr_call hbl hb4
  clear hb4 c0 c1 c2 c3 c4 x0 x1 x2 x3 x4
  go_wp2_with fail
  refine (awake_true _).mono ?_
  rintro e w5 ⟨rfl, hb5⟩
  replace hbl := gr_call hbl hb5
  go_wp2_with fail
  go_ret
  exact ⟨rfl, hbl⟩
set_option maxHeartbeats 800000 in
/-- One case: may they be, have they bytes. -/
theorem other3 (v : Int) (k : Nat) (hk : k < 4294967296) (hm : may ⟨v, 0, 0, false, (k : Int)⟩ = false) (hq : decide (putL ⟨v, 0, 0, false, (k : Int)⟩ = []) = true) (h0 : (v == 0) = false) (h2 : (v == 2) = true) (h3 : (v == 3) = false) (hz : ((k : Int) == 0) = false) (w : World) :
    Calls Try.prog 6 #[.int .i64 v, .int .u32 (k : Int)] w fun e w' => e = .returned (.bool true) ∧ Below w.heap.size w w' := by
  have hmay := May_any ⟨v, 0, 0, false, (k : Int)⟩
  rw [hm] at hmay
  have hput := Put_any ⟨v, 0, 0, false, (k : Int)⟩ (by unfold Fits; simp)
  have hT : (strOf (putL ⟨v, 0, 0, false, (k : Int)⟩)).toList.isEmpty = true := by
    rw [Lib.toList_data, strOf_list]
    refine Eq.trans ?_ hq
    cases putL ⟨v, 0, 0, false, (k : Int)⟩ <;> simp
  obtain ⟨T, hTT⟩ : ∃ T, strOf (putL ⟨v, 0, 0, false, (k : Int)⟩) = T := ⟨_, rfl⟩
  rw [hTT] at hput hT
  have hget := Get_any ⟨#[]⟩ (by decide)
  rw [show (⟨#[]⟩ : ByteArray).data.toList = [] from rfl, get_nil] at hget
  have hmay2 := May_any ⟨0, 0, 0, true, 0⟩
  rw [show may ⟨0, 0, 0, true, 0⟩ = false from rfl] at hmay2
  unfold capV at hmay hput hmay2
  unfold getRet capV none0 at hget
  simp only at hmay hput hmay2 hget
  have Hmay := Lib.hid hmay
  have Hput := Lib.hid hput
  have Hget := Lib.hid hget
  have Hmay2 := Lib.hid hmay2
  have hcv : IntKind.i64.wrap (k : Int) = (k : Int) := by rw [IntKind.wrap_i64]; omega
  clear hmay hput hget hmay2 hm hq hTT
  go_enter Try.func6, Try.ntmps6
  go_wp2_with fail
  refine (Hget.out _).mono ?_
  rintro e w1 ⟨rfl, hb1⟩
  have c0 : w1.cell? ⟨w.heap.size, 0, none⟩ = some (.int .i64 v) := cell_kept hb1 (by simp [go_sem])
  have c1 : w1.cell? ⟨w.heap.size, 1, none⟩ = some (.int .u64 0) := cell_kept hb1 (by simp [go_sem])
  have c2 : w1.cell? ⟨w.heap.size, 2, none⟩ = some (.int .u64 0) := cell_kept hb1 (by simp [go_sem])
  have c3 : w1.cell? ⟨w.heap.size, 3, none⟩ = some (.bool false) := cell_kept hb1 (by simp [go_sem])
  have c4 : w1.cell? ⟨w.heap.size, 4, none⟩ = some (.int .i64 (k : Int)) := cell_kept hb1 (by simp [go_sem])
  have hbl : Below w.heap.size w w1 := gr_call (by (repeat' (first | exact Below.refl _ _ | assumption | refine gr_drew ?_ | refine gr_drewN ?_ _ | refine gr_alloc ?_ _ | refine gr_set ?_ ?_ _ | refine gr_call ?_ (by assumption)) <;> (try (simp; done)) <;> (try (simp; omega)) <;> (try omega))) hb1
  clear hb1
  have hlt : w.heap.size < w1.heap.size := block_lt c0
  go_wp2_with fail
  refine (Hmay.out _).mono ?_
  rintro e w2 ⟨rfl, hb2⟩
  have x0 : w2.cell? ⟨w1.heap.size, 0, none⟩ = some (.int .i64 0) := cell_kept hb2 (by simp [go_sem])
  have x1 : w2.cell? ⟨w1.heap.size, 1, none⟩ = some (.int .u64 0) := cell_kept hb2 (by simp [go_sem])
  have x2 : w2.cell? ⟨w1.heap.size, 2, none⟩ = some (.int .u64 0) := cell_kept hb2 (by simp [go_sem])
  have x3 : w2.cell? ⟨w1.heap.size, 3, none⟩ = some (.bool false) := cell_kept hb2 (by simp [go_sem])
  have x4 : w2.cell? ⟨w1.heap.size, 4, none⟩ = some (.int .i64 0) := cell_kept hb2 (by simp [go_sem])
  have hb1 : Below w1.heap.size w1 w2 := gr_call (by (repeat' (first | exact Below.refl _ _ | assumption | refine gr_drew ?_ | refine gr_drewN ?_ _ | refine gr_alloc ?_ _ | refine gr_set ?_ ?_ _ | refine gr_call ?_ (by assumption)) <;> (try (simp; done)) <;> (try (simp; omega)) <;> (try omega))) hb2
  replace c0 := cell_kept hb1 c0
  replace c1 := cell_kept hb1 c1
  replace c2 := cell_kept hb1 c2
  replace c3 := cell_kept hb1 c3
  replace c4 := cell_kept hb1 c4
  replace hbl := gr_call hbl hb1
  clear hb1 hb2
  go_wp2_with fail
  refine (Hput.out _).mono ?_
  rintro e w3 ⟨rfl, hb3⟩
  replace c0 := cell_kept hb3 c0
  replace c1 := cell_kept hb3 c1
  replace c2 := cell_kept hb3 c2
  replace c3 := cell_kept hb3 c3
  replace c4 := cell_kept hb3 c4
  replace x0 := cell_kept hb3 x0
  replace x1 := cell_kept hb3 x1
  replace x2 := cell_kept hb3 x2
  replace x3 := cell_kept hb3 x3
  replace x4 := cell_kept hb3 x4
  replace hbl := gr_call hbl hb3
  clear hb3
  go_wp2_with fail
  refine (Hmay2.out _).mono ?_
  rintro e w4 ⟨rfl, hb4⟩
  replace hbl := gr_call hbl hb4
  clear hb4 c0 c1 c2 c3 c4 x0 x1 x2 x3 x4
  go_wp2_with fail
  refine (awake_true _).mono ?_
  rintro e w5 ⟨rfl, hb5⟩
  replace hbl := gr_call hbl hb5
  go_wp2_with fail
  go_ret
  exact ⟨rfl, hbl⟩
set_option maxHeartbeats 800000 in
/-- One case: may they be, have they bytes. -/
theorem other4 (v : Int) (k : Nat) (hk : k < 4294967296) (hm : may ⟨v, 0, 0, false, (k : Int)⟩ = true) (hq : decide (putL ⟨v, 0, 0, false, (k : Int)⟩ = []) = false) (h0 : (v == 0) = false) (h2 : (v == 2) = false) (h3 : (v == 3) = true) (hs : decide ((k : Int) ≤ 2147483647) = true) (hs2 : decide (k ≤ 2147483647) = true) (w : World) :
    Calls Try.prog 6 #[.int .i64 v, .int .u32 (k : Int)] w fun e w' => e = .returned (.bool true) ∧ Below w.heap.size w w' := by
  have hmay := May_any ⟨v, 0, 0, false, (k : Int)⟩
  rw [hm] at hmay
  have hput := Put_any ⟨v, 0, 0, false, (k : Int)⟩ (by unfold Fits; simp)
  have hT : (strOf (putL ⟨v, 0, 0, false, (k : Int)⟩)).toList.isEmpty = false := by
    rw [Lib.toList_data, strOf_list]
    refine Eq.trans ?_ hq
    cases putL ⟨v, 0, 0, false, (k : Int)⟩ <;> simp
  obtain ⟨T, hTT⟩ : ∃ T, strOf (putL ⟨v, 0, 0, false, (k : Int)⟩) = T := ⟨_, rfl⟩
  rw [hTT] at hput hT
  have hget := Get_any ⟨#[]⟩ (by decide)
  rw [show (⟨#[]⟩ : ByteArray).data.toList = [] from rfl, get_nil] at hget
  have hmay2 := May_any ⟨0, 0, 0, true, 0⟩
  rw [show may ⟨0, 0, 0, true, 0⟩ = false from rfl] at hmay2
  unfold capV at hmay hput hmay2
  unfold getRet capV none0 at hget
  simp only at hmay hput hmay2 hget
  have Hmay := Lib.hid hmay
  have Hput := Lib.hid hput
  have Hget := Lib.hid hget
  have Hmay2 := Lib.hid hmay2
  have hcv : IntKind.i64.wrap (k : Int) = (k : Int) := by rw [IntKind.wrap_i64]; omega
  clear hmay hput hget hmay2 hm hq hTT
  go_enter Try.func6, Try.ntmps6
  go_wp2_with fail
  refine (Hget.out _).mono ?_
  rintro e w1 ⟨rfl, hb1⟩
  have c0 : w1.cell? ⟨w.heap.size, 0, none⟩ = some (.int .i64 v) := cell_kept hb1 (by simp [go_sem])
  have c1 : w1.cell? ⟨w.heap.size, 1, none⟩ = some (.int .u64 0) := cell_kept hb1 (by simp [go_sem])
  have c2 : w1.cell? ⟨w.heap.size, 2, none⟩ = some (.int .u64 0) := cell_kept hb1 (by simp [go_sem])
  have c3 : w1.cell? ⟨w.heap.size, 3, none⟩ = some (.bool false) := cell_kept hb1 (by simp [go_sem])
  have c4 : w1.cell? ⟨w.heap.size, 4, none⟩ = some (.int .i64 (k : Int)) := cell_kept hb1 (by simp [go_sem])
  have hbl : Below w.heap.size w w1 := gr_call (by (repeat' (first | exact Below.refl _ _ | assumption | refine gr_drew ?_ | refine gr_drewN ?_ _ | refine gr_alloc ?_ _ | refine gr_set ?_ ?_ _ | refine gr_call ?_ (by assumption)) <;> (try (simp; done)) <;> (try (simp; omega)) <;> (try omega))) hb1
  clear hb1
  have hlt : w.heap.size < w1.heap.size := block_lt c0
  go_wp2_with fail
  refine (Hmay.out _).mono ?_
  rintro e w2 ⟨rfl, hb2⟩
  have x0 : w2.cell? ⟨w1.heap.size, 0, none⟩ = some (.int .i64 0) := cell_kept hb2 (by simp [go_sem])
  have x1 : w2.cell? ⟨w1.heap.size, 1, none⟩ = some (.int .u64 0) := cell_kept hb2 (by simp [go_sem])
  have x2 : w2.cell? ⟨w1.heap.size, 2, none⟩ = some (.int .u64 0) := cell_kept hb2 (by simp [go_sem])
  have x3 : w2.cell? ⟨w1.heap.size, 3, none⟩ = some (.bool false) := cell_kept hb2 (by simp [go_sem])
  have x4 : w2.cell? ⟨w1.heap.size, 4, none⟩ = some (.int .i64 0) := cell_kept hb2 (by simp [go_sem])
  have hb1 : Below w1.heap.size w1 w2 := gr_call (by (repeat' (first | exact Below.refl _ _ | assumption | refine gr_drew ?_ | refine gr_drewN ?_ _ | refine gr_alloc ?_ _ | refine gr_set ?_ ?_ _ | refine gr_call ?_ (by assumption)) <;> (try (simp; done)) <;> (try (simp; omega)) <;> (try omega))) hb2
  replace c0 := cell_kept hb1 c0
  replace c1 := cell_kept hb1 c1
  replace c2 := cell_kept hb1 c2
  replace c3 := cell_kept hb1 c3
  replace c4 := cell_kept hb1 c4
  replace hbl := gr_call hbl hb1
  clear hb1 hb2
  go_wp2_with fail
  refine (Hput.out _).mono ?_
  rintro e w3 ⟨rfl, hb3⟩
  replace c0 := cell_kept hb3 c0
  replace c1 := cell_kept hb3 c1
  replace c2 := cell_kept hb3 c2
  replace c3 := cell_kept hb3 c3
  replace c4 := cell_kept hb3 c4
  replace x0 := cell_kept hb3 x0
  replace x1 := cell_kept hb3 x1
  replace x2 := cell_kept hb3 x2
  replace x3 := cell_kept hb3 x3
  replace x4 := cell_kept hb3 x4
  replace hbl := gr_call hbl hb3
  clear hb3
  go_wp2_with fail
  refine (Hmay2.out _).mono ?_
  rintro e w4 ⟨rfl, hb4⟩
  replace hbl := gr_call hbl hb4
  clear hb4 c0 c1 c2 c3 c4 x0 x1 x2 x3 x4
  go_wp2_with fail
  refine (awake_true _).mono ?_
  rintro e w5 ⟨rfl, hb5⟩
  replace hbl := gr_call hbl hb5
  go_wp2_with fail
  go_ret
  exact ⟨rfl, hbl⟩
set_option maxHeartbeats 800000 in
/-- One case: may they be, have they bytes. -/
theorem other5 (v : Int) (k : Nat) (hk : k < 4294967296) (hm : may ⟨v, 0, 0, false, (k : Int)⟩ = false) (hq : decide (putL ⟨v, 0, 0, false, (k : Int)⟩ = []) = true) (h0 : (v == 0) = false) (h2 : (v == 2) = false) (h3 : (v == 3) = true) (hs : decide ((k : Int) ≤ 2147483647) = false) (hs2 : decide (k ≤ 2147483647) = false) (w : World) :
    Calls Try.prog 6 #[.int .i64 v, .int .u32 (k : Int)] w fun e w' => e = .returned (.bool true) ∧ Below w.heap.size w w' := by
  have hmay := May_any ⟨v, 0, 0, false, (k : Int)⟩
  rw [hm] at hmay
  have hput := Put_any ⟨v, 0, 0, false, (k : Int)⟩ (by unfold Fits; simp)
  have hT : (strOf (putL ⟨v, 0, 0, false, (k : Int)⟩)).toList.isEmpty = true := by
    rw [Lib.toList_data, strOf_list]
    refine Eq.trans ?_ hq
    cases putL ⟨v, 0, 0, false, (k : Int)⟩ <;> simp
  obtain ⟨T, hTT⟩ : ∃ T, strOf (putL ⟨v, 0, 0, false, (k : Int)⟩) = T := ⟨_, rfl⟩
  rw [hTT] at hput hT
  have hget := Get_any ⟨#[]⟩ (by decide)
  rw [show (⟨#[]⟩ : ByteArray).data.toList = [] from rfl, get_nil] at hget
  have hmay2 := May_any ⟨0, 0, 0, true, 0⟩
  rw [show may ⟨0, 0, 0, true, 0⟩ = false from rfl] at hmay2
  unfold capV at hmay hput hmay2
  unfold getRet capV none0 at hget
  simp only at hmay hput hmay2 hget
  have Hmay := Lib.hid hmay
  have Hput := Lib.hid hput
  have Hget := Lib.hid hget
  have Hmay2 := Lib.hid hmay2
  have hcv : IntKind.i64.wrap (k : Int) = (k : Int) := by rw [IntKind.wrap_i64]; omega
  clear hmay hput hget hmay2 hm hq hTT
  go_enter Try.func6, Try.ntmps6
  go_wp2_with fail
  refine (Hget.out _).mono ?_
  rintro e w1 ⟨rfl, hb1⟩
  have c0 : w1.cell? ⟨w.heap.size, 0, none⟩ = some (.int .i64 v) := cell_kept hb1 (by simp [go_sem])
  have c1 : w1.cell? ⟨w.heap.size, 1, none⟩ = some (.int .u64 0) := cell_kept hb1 (by simp [go_sem])
  have c2 : w1.cell? ⟨w.heap.size, 2, none⟩ = some (.int .u64 0) := cell_kept hb1 (by simp [go_sem])
  have c3 : w1.cell? ⟨w.heap.size, 3, none⟩ = some (.bool false) := cell_kept hb1 (by simp [go_sem])
  have c4 : w1.cell? ⟨w.heap.size, 4, none⟩ = some (.int .i64 (k : Int)) := cell_kept hb1 (by simp [go_sem])
  have hbl : Below w.heap.size w w1 := gr_call (by (repeat' (first | exact Below.refl _ _ | assumption | refine gr_drew ?_ | refine gr_drewN ?_ _ | refine gr_alloc ?_ _ | refine gr_set ?_ ?_ _ | refine gr_call ?_ (by assumption)) <;> (try (simp; done)) <;> (try (simp; omega)) <;> (try omega))) hb1
  clear hb1
  have hlt : w.heap.size < w1.heap.size := block_lt c0
  go_wp2_with fail
  refine (Hmay.out _).mono ?_
  rintro e w2 ⟨rfl, hb2⟩
  have x0 : w2.cell? ⟨w1.heap.size, 0, none⟩ = some (.int .i64 0) := cell_kept hb2 (by simp [go_sem])
  have x1 : w2.cell? ⟨w1.heap.size, 1, none⟩ = some (.int .u64 0) := cell_kept hb2 (by simp [go_sem])
  have x2 : w2.cell? ⟨w1.heap.size, 2, none⟩ = some (.int .u64 0) := cell_kept hb2 (by simp [go_sem])
  have x3 : w2.cell? ⟨w1.heap.size, 3, none⟩ = some (.bool false) := cell_kept hb2 (by simp [go_sem])
  have x4 : w2.cell? ⟨w1.heap.size, 4, none⟩ = some (.int .i64 0) := cell_kept hb2 (by simp [go_sem])
  have hb1 : Below w1.heap.size w1 w2 := gr_call (by (repeat' (first | exact Below.refl _ _ | assumption | refine gr_drew ?_ | refine gr_drewN ?_ _ | refine gr_alloc ?_ _ | refine gr_set ?_ ?_ _ | refine gr_call ?_ (by assumption)) <;> (try (simp; done)) <;> (try (simp; omega)) <;> (try omega))) hb2
  replace c0 := cell_kept hb1 c0
  replace c1 := cell_kept hb1 c1
  replace c2 := cell_kept hb1 c2
  replace c3 := cell_kept hb1 c3
  replace c4 := cell_kept hb1 c4
  replace hbl := gr_call hbl hb1
  clear hb1 hb2
  go_wp2_with fail
  refine (Hput.out _).mono ?_
  rintro e w3 ⟨rfl, hb3⟩
  replace c0 := cell_kept hb3 c0
  replace c1 := cell_kept hb3 c1
  replace c2 := cell_kept hb3 c2
  replace c3 := cell_kept hb3 c3
  replace c4 := cell_kept hb3 c4
  replace x0 := cell_kept hb3 x0
  replace x1 := cell_kept hb3 x1
  replace x2 := cell_kept hb3 x2
  replace x3 := cell_kept hb3 x3
  replace x4 := cell_kept hb3 x4
  replace hbl := gr_call hbl hb3
  clear hb3
  go_wp2_with fail
  refine (Hmay2.out _).mono ?_
  rintro e w4 ⟨rfl, hb4⟩
  replace hbl := gr_call hbl hb4
  clear hb4 c0 c1 c2 c3 c4 x0 x1 x2 x3 x4
  go_wp2_with fail
  refine (awake_true _).mono ?_
  rintro e w5 ⟨rfl, hb5⟩
  replace hbl := gr_call hbl hb5
  go_wp2_with fail
  go_ret
  exact ⟨rfl, hbl⟩
set_option maxHeartbeats 800000 in
/-- One case: may they be, have they bytes. -/
theorem other6 (v : Int) (k : Nat) (hk : k < 4294967296) (hm : may ⟨v, 0, 0, false, (k : Int)⟩ = false) (hq : decide (putL ⟨v, 0, 0, false, (k : Int)⟩ = []) = true) (h0 : (v == 0) = false) (h2 : (v == 2) = false) (h3 : (v == 3) = false) (w : World) :
    Calls Try.prog 6 #[.int .i64 v, .int .u32 (k : Int)] w fun e w' => e = .returned (.bool true) ∧ Below w.heap.size w w' := by
  have hmay := May_any ⟨v, 0, 0, false, (k : Int)⟩
  rw [hm] at hmay
  have hput := Put_any ⟨v, 0, 0, false, (k : Int)⟩ (by unfold Fits; simp)
  have hT : (strOf (putL ⟨v, 0, 0, false, (k : Int)⟩)).toList.isEmpty = true := by
    rw [Lib.toList_data, strOf_list]
    refine Eq.trans ?_ hq
    cases putL ⟨v, 0, 0, false, (k : Int)⟩ <;> simp
  obtain ⟨T, hTT⟩ : ∃ T, strOf (putL ⟨v, 0, 0, false, (k : Int)⟩) = T := ⟨_, rfl⟩
  rw [hTT] at hput hT
  have hget := Get_any ⟨#[]⟩ (by decide)
  rw [show (⟨#[]⟩ : ByteArray).data.toList = [] from rfl, get_nil] at hget
  have hmay2 := May_any ⟨0, 0, 0, true, 0⟩
  rw [show may ⟨0, 0, 0, true, 0⟩ = false from rfl] at hmay2
  unfold capV at hmay hput hmay2
  unfold getRet capV none0 at hget
  simp only at hmay hput hmay2 hget
  have Hmay := Lib.hid hmay
  have Hput := Lib.hid hput
  have Hget := Lib.hid hget
  have Hmay2 := Lib.hid hmay2
  have hcv : IntKind.i64.wrap (k : Int) = (k : Int) := by rw [IntKind.wrap_i64]; omega
  clear hmay hput hget hmay2 hm hq hTT
  go_enter Try.func6, Try.ntmps6
  go_wp2_with fail
  refine (Hget.out _).mono ?_
  rintro e w1 ⟨rfl, hb1⟩
  have c0 : w1.cell? ⟨w.heap.size, 0, none⟩ = some (.int .i64 v) := cell_kept hb1 (by simp [go_sem])
  have c1 : w1.cell? ⟨w.heap.size, 1, none⟩ = some (.int .u64 0) := cell_kept hb1 (by simp [go_sem])
  have c2 : w1.cell? ⟨w.heap.size, 2, none⟩ = some (.int .u64 0) := cell_kept hb1 (by simp [go_sem])
  have c3 : w1.cell? ⟨w.heap.size, 3, none⟩ = some (.bool false) := cell_kept hb1 (by simp [go_sem])
  have c4 : w1.cell? ⟨w.heap.size, 4, none⟩ = some (.int .i64 (k : Int)) := cell_kept hb1 (by simp [go_sem])
  have hbl : Below w.heap.size w w1 := gr_call (by (repeat' (first | exact Below.refl _ _ | assumption | refine gr_drew ?_ | refine gr_drewN ?_ _ | refine gr_alloc ?_ _ | refine gr_set ?_ ?_ _ | refine gr_call ?_ (by assumption)) <;> (try (simp; done)) <;> (try (simp; omega)) <;> (try omega))) hb1
  clear hb1
  have hlt : w.heap.size < w1.heap.size := block_lt c0
  go_wp2_with fail
  refine (Hmay.out _).mono ?_
  rintro e w2 ⟨rfl, hb2⟩
  have x0 : w2.cell? ⟨w1.heap.size, 0, none⟩ = some (.int .i64 0) := cell_kept hb2 (by simp [go_sem])
  have x1 : w2.cell? ⟨w1.heap.size, 1, none⟩ = some (.int .u64 0) := cell_kept hb2 (by simp [go_sem])
  have x2 : w2.cell? ⟨w1.heap.size, 2, none⟩ = some (.int .u64 0) := cell_kept hb2 (by simp [go_sem])
  have x3 : w2.cell? ⟨w1.heap.size, 3, none⟩ = some (.bool false) := cell_kept hb2 (by simp [go_sem])
  have x4 : w2.cell? ⟨w1.heap.size, 4, none⟩ = some (.int .i64 0) := cell_kept hb2 (by simp [go_sem])
  have hb1 : Below w1.heap.size w1 w2 := gr_call (by (repeat' (first | exact Below.refl _ _ | assumption | refine gr_drew ?_ | refine gr_drewN ?_ _ | refine gr_alloc ?_ _ | refine gr_set ?_ ?_ _ | refine gr_call ?_ (by assumption)) <;> (try (simp; done)) <;> (try (simp; omega)) <;> (try omega))) hb2
  replace c0 := cell_kept hb1 c0
  replace c1 := cell_kept hb1 c1
  replace c2 := cell_kept hb1 c2
  replace c3 := cell_kept hb1 c3
  replace c4 := cell_kept hb1 c4
  replace hbl := gr_call hbl hb1
  clear hb1 hb2
  go_wp2_with fail
  refine (Hput.out _).mono ?_
  rintro e w3 ⟨rfl, hb3⟩
  replace c0 := cell_kept hb3 c0
  replace c1 := cell_kept hb3 c1
  replace c2 := cell_kept hb3 c2
  replace c3 := cell_kept hb3 c3
  replace c4 := cell_kept hb3 c4
  replace x0 := cell_kept hb3 x0
  replace x1 := cell_kept hb3 x1
  replace x2 := cell_kept hb3 x2
  replace x3 := cell_kept hb3 x3
  replace x4 := cell_kept hb3 x4
  replace hbl := gr_call hbl hb3
  clear hb3
  go_wp2_with fail
  refine (Hmay2.out _).mono ?_
  rintro e w4 ⟨rfl, hb4⟩
  replace hbl := gr_call hbl hb4
  clear hb4 c0 c1 c2 c3 c4 x0 x1 x2 x3 x4
  go_wp2_with fail
  refine (awake_true _).mono ?_
  rintro e w5 ⟨rfl, hb5⟩
  replace hbl := gr_call hbl hb5
  go_wp2_with fail
  go_ret
  exact ⟨rfl, hbl⟩

theorem capsOther_walk (a0 : Int) (a1 : Int) (w : World) (w0 : (Lit.int .i64 a0).wf = true) (w1 : (Lit.int .u32 a1).wf = true) :
    Calls Try.prog 6 #[.int .i64 a0, .int .u32 a1] w fun e w' => e = .returned (.bool true) ∧ Below w.heap.size w w' := by
  have hr : 0 ≤ a1 ∧ a1 ≤ 4294967295 := by simpa [Lit.wf, IntKind.min, IntKind.max, IntKind.bits, IntKind.signed] using w1
  obtain ⟨k, rfl⟩ : ∃ k : Nat, a1 = (k : Int) := ⟨a1.toNat, by omega⟩
  have hk : k < 4294967296 := by omega
  have hne : ∀ {c : Cap}, may c = true → c.v ≠ 0 → decide (putL c = []) = false := fun {c} h h0 => decide_eq_false (fun e => by
    have := putL_length h h0
    rw [e] at this
    simp at this
    split at this <;> omega)
  have hno : ∀ {c : Cap}, may c = false → decide (putL c = []) = true := fun {c} h => decide_eq_true (putL_none (by rw [h]; simp))
  by_cases h0 : a0 = 0
  · subst h0
    by_cases hz : k = 0
    · subst hz
      exact other0 0 0 hk rfl (decide_eq_true (putL_none (by simp))) rfl rfl w
    · have hm : may ⟨0, 0, 0, false, (k : Int)⟩ = false := by unfold may; simp; omega
      exact other1 0 k hk hm (hno hm) rfl rfl rfl (by simp; omega) w
  have t0 : (a0 == 0) = false := by simpa using h0
  by_cases h2 : a0 = 2
  · subst h2
    by_cases hz : k = 0
    · subst hz
      exact other2 2 0 hk rfl (hne rfl (by decide)) rfl rfl rfl w
    · have hm : may ⟨2, 0, 0, false, (k : Int)⟩ = false := by unfold may; simp; omega
      exact other3 2 k hk hm (hno hm) rfl rfl rfl (by simp; omega) w
  have t2 : (a0 == 2) = false := by simpa using h2
  by_cases h3 : a0 = 3
  · subst h3
    by_cases hz : k ≤ 2147483647
    · have hm : may ⟨3, 0, 0, false, (k : Int)⟩ = true := by unfold may; simp; omega
      exact other4 3 k hk hm (hne hm (by simp)) rfl rfl rfl (decide_eq_true (by omega)) (decide_eq_true hz) w
    · have hm : may ⟨3, 0, 0, false, (k : Int)⟩ = false := by unfold may; simp; omega
      exact other5 3 k hk hm (hno hm) rfl rfl rfl (decide_eq_false (by omega)) (decide_eq_false hz) w
  have t3 : (a0 == 3) = false := by simpa using h3
  have hm : may ⟨a0, 0, 0, false, (k : Int)⟩ = false := by unfold may; simp only; rw [if_neg h0, if_neg h2, if_neg h3]
  exact other6 a0 k hk hm (hno hm) t0 t2 t3 w
end Go.Proofs.Ytijagjahocjaaaa
