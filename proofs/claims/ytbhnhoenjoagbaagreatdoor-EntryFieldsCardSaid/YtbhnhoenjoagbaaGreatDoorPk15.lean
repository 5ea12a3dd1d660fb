/- Bundle of 4 texts. -/
import Derived.Test.YtbhnhoenjoagbaaGreatDoorPk14
import Derived.Test.YtbhnhoenjoagbaaGreatDoorPk01
import Derived.Lib.SlBytesConst
import Derived.Deep.RegionHeld3
import Derived.Test.YtbhnhoenjoagbaaGreatDoorPk07
import Derived.Test.YtbhnhoenjoagbaaGreatDoorPk12
import Derived.Test.YtbhnhoenjoagbaaGreatDoorPk09
import Derived.Below
/- Walks over package acl: a part's text. -/
namespace Go.Proofs.YtbhnhoenjoagbaaGreatDoor.AclW
open Go.RowKit
open AclM DecM
set_option linter.unusedVariables false

def bit (n k : Nat) (c : UInt8) : UInt8 := if n &&& k = 0 then 45 else c
def upto (n i : Nat) : List UInt8 := if i = 0 then [114, 119, 120] else if i = 1 then [bit n 4 114, 119, 120] else if i = 2 then [bit n 4 114, bit n 2 119, 120] else [bit n 4 114, bit n 2 119, bit n 1 120]
theorem five {c : UInt8} {S0 ID RW : ByteArray} (h : S0.data.toList = [c]) :
    Ending.returned (Value.string (S0 ++ ⟨#[58]⟩ ++ ID ++ ⟨#[58]⟩ ++ RW)) = Ending.returned (Value.string (strOf ([c] ++ [58] ++ ID.data.toList ++ [58] ++ RW.data.toList))) := by
  refine congrArg _ (congrArg _ (bytes_ext ?_))
  simp only [bytes_list, strOf_list, h]
theorem upto_row (w : World) (n : Nat) (t : TypeId) : RowIs (w.alloc (.cells #[.int .u8 114, .int .u8 119, .int .u8 120] t (3, 4))) w.heap.size t (upto n 0) := by
  refine ⟨_, _, heap_alloc_new w _, .inr (by simp [upto]), ?_⟩
  intro i hi
  have hi' : i < 3 := hi
  have : i = 0 ∨ i = 1 ∨ i = 2 := by omega
  rcases this with rfl | rfl | rfl <;> rfl
theorem upto_end (p : Int) : upto p.toNat 3 = rwx p := rfl

set_option maxHeartbeats 1600000 in
set_option maxRecDepth 100000 in
theorem text_any (a : Ace) (w : World) (hA : AmbB w) (h1 : 1 ≤ a.1) (h2 : a.1 ≤ 6) (h3 : 0 ≤ a.2.2) (h4 : a.2.2 ≤ 7) (h5 : -9223372036854775808 ≤ a.2.1) (h6 : a.2.1 ≤ 9223372036854775807) :
    Calls Tryz.prog 136 #[aceV a] w fun e w' => e = .returned (.string (strOf (partText a))) ∧ Below w.heap.size w w' := by
  have hh := Lib.hid (hasId_any a.1)
  have hit := Lib.hid (fun w' (hb : Below w.heap.size w w') => itoa_any a.2.1 w' (hA.on hb) h5 h6)
  obtain ⟨t, d, p⟩ := a
  simp only at h1 h2 h3 h4 h5 h6 hh hit
  obtain ⟨ID, hID⟩ : ∃ ID, strOf (idText (t, d, p)) = ID := ⟨_, rfl⟩
  obtain ⟨n, rfl⟩ : ∃ n : Nat, p = (n : Int) := ⟨p.toNat, by omega⟩
  have hn : n < 8 := by omega
  have HR : Hid (∀ c : UInt8, c = letter t → strOf ([c] ++ [58] ++ ID.data.toList ++ [58] ++ upto n 3) = strOf (partText (t, d, (n : Int)))) := Lib.hid (by
    intro c hc
    subst hc
    rw [← hID, strOf_list]
    apply strOf_eq
    simp [partText, ← upto_end])
  have ha4 : (bits .and .i64 (n : Int) 4 == 0) = decide (n &&& 4 = 0) := by
    rw [show (4 : Int) = ((4 : Nat) : Int) from rfl, and_i64 n 4 (by omega) (by omega)]
    by_cases h : n &&& 4 = 0 <;> simp [h]
  have ha2 : (bits .and .i64 (n : Int) 2 == 0) = decide (n &&& 2 = 0) := by
    rw [show (2 : Int) = ((2 : Nat) : Int) from rfl, and_i64 n 2 (by omega) (by omega)]
    by_cases h : n &&& 2 = 0 <;> simp [h]
  have ha1 : (bits .and .i64 (n : Int) 1 == 0) = decide (n &&& 1 = 0) := by
    rw [show (1 : Int) = ((1 : Nat) : Int) from rfl, and_i64 n 1 (by omega) (by omega)]
    by_cases h : n &&& 1 = 0
    · rw [h, decide_eq_true rfl]; rfl
    · rw [decide_eq_false h]; exact beq_eq_false_iff_ne.2 (by omega)
  have Ha4 := Lib.hid ha4
  have Ha2 := Lib.hid ha2
  have Ha1 := Lib.hid ha1
  clear ha4 ha2 ha1 h3 h4
  have kc := fun (w : World) (C : Array Value) (n c : Nat) => Lib.run_convert_bytes_const (P := Tryz.prog) w 49 5 C n c Tryz.underlying49 Tryz.underlying5
  rcases hb : hasId t with _ | _
  · rw [hb] at hh
    have hid : ID = ⟨#[]⟩ := by rw [← hID]; simp [idText, hb, strOf]
    subst hid
    clear hID hit hb
    unfold aceV
    go_enter Tryz.func136, Tryz.ntmps136
    go_wp2_with fail
    refine (hh.out _).mono ?_
    rintro e w1 ⟨rfl, hw1⟩
    have hb1 : Below w.heap.size w w1 := by rw [← hw1]; (repeat' (first | exact Below.refl _ _ | assumption | refine gr_drew ?_ | refine gr_drewN ?_ _ | refine gr_alloc ?_ _ | refine gr_set ?_ ?_ _ | refine gr_call ?_ (by assumption)) <;> (try (simp; done)) <;> (try (simp; omega)) <;> (try omega))
    have c0 : w1.cell? ⟨w.heap.size, 0, none⟩ = some (.int .i64 t) := by rw [← hw1]; simp [go_sem]
    have c1 : w1.cell? ⟨w.heap.size, 1, none⟩ = some (.int .i64 d) := by rw [← hw1]; simp [go_sem]
    have c2 : w1.cell? ⟨w.heap.size, 2, none⟩ = some (.int .i64 (n : Int)) := by rw [← hw1]; simp [go_sem]
    clear hw1
    obtain ⟨G, hG⟩ : ∃ G, w1.heap.size = G := ⟨_, rfl⟩
    have hrow0 := upto_row w1 n 5
    have hHG : w.heap.size < G := by rw [← hG]; exact block_lt c0
    have hne : w.heap.size ≠ G := Nat.ne_of_lt hHG
    rw [hG] at hrow0
    have kc1 : (convert 49 49 (.slice (some ⟨G, 0, none⟩) 3 3)).run Tryz.prog (w1.alloc (.cells #[.int .u8 114, .int .u8 119, .int .u8 120] 5)) = .ok (.slice (some ⟨G, 0, none⟩) 3 3) (w1.alloc (.cells #[.int .u8 114, .int .u8 119, .int .u8 120] 5 (3, 4))) := by rw [← hG]; exact kc w1 #[.int .u8 114, .int .u8 119, .int .u8 120] 3 3
    clear kc
    go_wp2_with fail
    go_loopw [16] (fun iv wr => ∃ i : Nat, iv = .int .i64 (i : Int) ∧ i ≤ 3 ∧ Below w.heap.size w wr ∧ wr.cell? ⟨w.heap.size, 0, none⟩ = some (.int .i64 t) ∧ wr.cell? ⟨w.heap.size, 1, none⟩ = some (.int .i64 d) ∧ wr.cell? ⟨w.heap.size, 2, none⟩ = some (.int .i64 (n : Int)) ∧ RowIs wr G 5 (upto n i)) (fun iv _ => 3 - (intOf iv).toNat)
    case atStart => exact ⟨0, rfl, by omega, by (repeat' (first | exact Below.refl _ _ | assumption | refine gr_drew ?_ | refine gr_drewN ?_ _ | refine gr_alloc ?_ _ | refine gr_set ?_ ?_ _ | refine gr_call ?_ (by assumption)) <;> (try (simp; done)) <;> (try (simp; omega)) <;> (try omega)), cell_kept (gr_alloc (Below.refl _ _) _) c0, cell_kept (gr_alloc (Below.refl _ _) _) c1, cell_kept (gr_alloc (Below.refl _ _) _) c2, hrow0⟩
    case round =>
      clear c0 c1 c2 hrow0 hb1 kc1
      obtain ⟨i, rfl, hi, hbl, c0, c1, c2, hrow⟩ := hrel
      rename_i wr
      have hi4 : i = 0 ∨ i = 1 ∨ i = 2 ∨ i = 3 := by omega
      rcases hi4 with rfl | rfl | rfl | rfl
      · -- letter 0
        have hx := hrow.cell 0 (by simp [upto])
        have hf := hrow.free 0 (by simp [upto])
        by_cases hz : n &&& 4 = 0
        · have f : (bits .and .i64 (n : Int) 4 == 0) = true := by rw [Ha4.out, decide_eq_true hz]
          have hu : (upto n 0).set 0 45 = upto n 1 := by simp [upto, bit, hz]
          have hput := (show RowIs wr.drew G 5 (upto n 0) from hrow).put 0 45
          rw [hu] at hput
          clear hz hu hrow
          go_wp2_with fail
          go_quiet (fail)
          go_wp2_with fail
          go_roundw
          case rel => exact ⟨1, rfl, by omega, by (repeat' (first | exact Below.refl _ _ | assumption | refine gr_drew ?_ | refine gr_drewN ?_ _ | refine gr_alloc ?_ _ | refine gr_set ?_ ?_ _ | refine gr_call ?_ (by assumption)) <;> (try (simp; done)) <;> (try (simp; omega)) <;> (try omega)), by simp [go_sem, *], by simp [go_sem, *], by simp [go_sem, *], hput⟩
          case measure => simp only [intOf]; omega
        · have f : (bits .and .i64 (n : Int) 4 == 0) = false := by rw [Ha4.out, decide_eq_false hz]
          have hu : upto n 0 = upto n 1 := by simp [upto, bit, hz]
          rw [hu] at hrow
          clear hz hu
          go_wp2_with fail
          go_quiet (fail)
          go_wp2_with fail
          go_roundw
          case rel => exact ⟨1, rfl, by omega, by (repeat' (first | exact Below.refl _ _ | assumption | refine gr_drew ?_ | refine gr_drewN ?_ _ | refine gr_alloc ?_ _ | refine gr_set ?_ ?_ _ | refine gr_call ?_ (by assumption)) <;> (try (simp; done)) <;> (try (simp; omega)) <;> (try omega)), by simp [go_sem, *], by simp [go_sem, *], by simp [go_sem, *], hrow⟩
          case measure => simp only [intOf]; omega
      · -- letter 1
        have hx := hrow.cell 1 (by simp [upto])
        have hf := hrow.free 1 (by simp [upto])
        by_cases hz : n &&& 2 = 0
        · have f : (bits .and .i64 (n : Int) 2 == 0) = true := by rw [Ha2.out, decide_eq_true hz]
          have hu : (upto n 1).set 1 45 = upto n 2 := by simp [upto, bit, hz]
          have hput := (show RowIs wr.drew G 5 (upto n 1) from hrow).put 1 45
          rw [hu] at hput
          clear hz hu hrow
          go_wp2_with fail
          go_quiet (fail)
          go_wp2_with fail
          go_roundw
          case rel => exact ⟨2, rfl, by omega, by (repeat' (first | exact Below.refl _ _ | assumption | refine gr_drew ?_ | refine gr_drewN ?_ _ | refine gr_alloc ?_ _ | refine gr_set ?_ ?_ _ | refine gr_call ?_ (by assumption)) <;> (try (simp; done)) <;> (try (simp; omega)) <;> (try omega)), by simp [go_sem, *], by simp [go_sem, *], by simp [go_sem, *], hput⟩
          case measure => simp only [intOf]; omega
        · have f : (bits .and .i64 (n : Int) 2 == 0) = false := by rw [Ha2.out, decide_eq_false hz]
          have hu : upto n 1 = upto n 2 := by simp [upto, bit, hz]
          rw [hu] at hrow
          clear hz hu
          go_wp2_with fail
          go_quiet (fail)
          go_wp2_with fail
          go_roundw
          case rel => exact ⟨2, rfl, by omega, by (repeat' (first | exact Below.refl _ _ | assumption | refine gr_drew ?_ | refine gr_drewN ?_ _ | refine gr_alloc ?_ _ | refine gr_set ?_ ?_ _ | refine gr_call ?_ (by assumption)) <;> (try (simp; done)) <;> (try (simp; omega)) <;> (try omega)), by simp [go_sem, *], by simp [go_sem, *], by simp [go_sem, *], hrow⟩
          case measure => simp only [intOf]; omega
      · -- letter 2
        have hx := hrow.cell 2 (by simp [upto])
        have hf := hrow.free 2 (by simp [upto])
        by_cases hz : n &&& 1 = 0
        · have f : (bits .and .i64 (n : Int) 1 == 0) = true := by rw [Ha1.out, decide_eq_true hz]
          have hu : (upto n 2).set 2 45 = upto n 3 := by simp [upto, bit, hz]
          have hput := (show RowIs wr.drew G 5 (upto n 2) from hrow).put 2 45
          rw [hu] at hput
          clear hz hu hrow
          go_wp2_with fail
          go_quiet (fail)
          go_wp2_with fail
          go_roundw
          case rel => exact ⟨3, rfl, by omega, by (repeat' (first | exact Below.refl _ _ | assumption | refine gr_drew ?_ | refine gr_drewN ?_ _ | refine gr_alloc ?_ _ | refine gr_set ?_ ?_ _ | refine gr_call ?_ (by assumption)) <;> (try (simp; done)) <;> (try (simp; omega)) <;> (try omega)), by simp [go_sem, *], by simp [go_sem, *], by simp [go_sem, *], hput⟩
          case measure => simp only [intOf]; omega
        · have f : (bits .and .i64 (n : Int) 1 == 0) = false := by rw [Ha1.out, decide_eq_false hz]
          have hu : upto n 2 = upto n 3 := by have e : bit n 1 120 = 120 := if_neg hz; show [bit n 4 114, bit n 2 119, 120] = [bit n 4 114, bit n 2 119, bit n 1 120]; rw [e]
          rw [hu] at hrow
          clear hz hu
          go_wp2_with fail
          go_quiet (fail)
          go_wp2_with fail
          go_roundw
          case rel => exact ⟨3, rfl, by omega, by (repeat' (first | exact Below.refl _ _ | assumption | refine gr_drew ?_ | refine gr_drewN ?_ _ | refine gr_alloc ?_ _ | refine gr_set ?_ ?_ _ | refine gr_call ?_ (by assumption)) <;> (try (simp; done)) <;> (try (simp; omega)) <;> (try omega)), by simp [go_sem, *], by simp [go_sem, *], by simp [go_sem, *], hrow⟩
          case measure => simp only [intOf]; omega
      · have ht : t = 1 ∨ t = 2 ∨ t = 3 ∨ t = 4 ∨ t = 5 ∨ t = 6 := by omega
        obtain ⟨RW, hRW⟩ : ∃ RW : ByteArray, (⟨(upto n 3).toArray⟩ : ByteArray) = RW := ⟨_, rfl⟩
        have hsRW : RW.size = 3 := by rw [← hRW]; rfl
        have hlRW : RW.data.toList = upto n 3 := by rw [← hRW]
        have hcv : ∀ k, (convert 49 9 (.slice (some ⟨G, 0, none⟩) 3 3)).run Tryz.prog (wr.drewN k) = .ok (.string RW) (wr.drewN k) := fun k => by rw [← hRW]; exact (show RowIs (wr.drewN k) G 5 (upto n 3) from hrow).back 3 Tryz.underlying49 Tryz.underlying5 Tryz.underlying9
        rw [← hlRW] at HR
        clear hRW hlRW
        rcases ht with rfl | rfl | rfl | rfl | rfl | rfl
        all_goals
          have hR := Lib.hid (HR.out _ rfl)
          have hw2 : IntKind.i64.wrap 2 = 2 := rfl
          have hw3 : IntKind.i64.wrap 3 = 3 := rfl
          have hw4 : IntKind.i64.wrap 4 = 4 := rfl
          have hw5 : IntKind.i64.wrap 5 = 5 := rfl
          have hw6 : IntKind.i64.wrap 6 = 6 := rfl
          have hw7 : IntKind.i64.wrap 7 = 7 := rfl
          clear HR Ha4 Ha2 Ha1 h1 h2 hrow
          go_wp2_with fail
          go_quiet (fail)
          go_wp2_with fail
          go_ret
          exact ⟨by rw [← hR.out]; exact five rfl, by (repeat' (first | exact Below.refl _ _ | assumption | refine gr_drew ?_ | refine gr_drewN ?_ _ | refine gr_alloc ?_ _ | refine gr_set ?_ ?_ _ | refine gr_call ?_ (by assumption)) <;> (try (simp; done)) <;> (try (simp; omega)) <;> (try omega))⟩
  · rw [hb] at hh
    have hid : strOf (Lib.itoa d) = ID := by rw [← hID]; simp [idText, hb]
    rw [hid] at hit
    have hsID : ID.size ≤ 20 := by rw [← hid, strOf_size]; exact (itoa_len d h5 h6).2
    clear hID hb hid
    have hbx : Below w.heap.size w (w.alloc (.cells #[.int .i64 t, .int .i64 d, .int .i64 (n : Int)] 115)) := by (repeat' (first | exact Below.refl _ _ | assumption | refine gr_drew ?_ | refine gr_drewN ?_ _ | refine gr_alloc ?_ _ | refine gr_set ?_ ?_ _ | refine gr_call ?_ (by assumption)) <;> (try (simp; done)) <;> (try (simp; omega)) <;> (try omega))
    unfold aceV
    go_enter Tryz.func136, Tryz.ntmps136
    go_wp2_with fail
    refine (hh.out _).mono ?_
    rintro e w1 ⟨rfl, rfl⟩
    go_wp2_with fail
    refine (hit.out _ hbx).mono ?_
    rintro e w1 ⟨rfl, hb1⟩
    have c0 : w1.cell? ⟨w.heap.size, 0, none⟩ = some (.int .i64 t) := cell_kept hb1 (by simp [go_sem])
    have c1 : w1.cell? ⟨w.heap.size, 1, none⟩ = some (.int .i64 d) := cell_kept hb1 (by simp [go_sem])
    have c2 : w1.cell? ⟨w.heap.size, 2, none⟩ = some (.int .i64 (n : Int)) := cell_kept hb1 (by simp [go_sem])
    replace hb1 := gr_call hbx hb1
    clear hbx hit
    obtain ⟨G, hG⟩ : ∃ G, w1.heap.size = G := ⟨_, rfl⟩
    have hrow0 := upto_row w1 n 5
    have hHG : w.heap.size < G := by rw [← hG]; exact block_lt c0
    have hne : w.heap.size ≠ G := Nat.ne_of_lt hHG
    rw [hG] at hrow0
    have kc1 : (convert 49 49 (.slice (some ⟨G, 0, none⟩) 3 3)).run Tryz.prog (w1.alloc (.cells #[.int .u8 114, .int .u8 119, .int .u8 120] 5)) = .ok (.slice (some ⟨G, 0, none⟩) 3 3) (w1.alloc (.cells #[.int .u8 114, .int .u8 119, .int .u8 120] 5 (3, 4))) := by rw [← hG]; exact kc w1 #[.int .u8 114, .int .u8 119, .int .u8 120] 3 3
    clear kc
    go_wp2_with fail
    go_loopw [16] (fun iv wr => ∃ i : Nat, iv = .int .i64 (i : Int) ∧ i ≤ 3 ∧ Below w.heap.size w wr ∧ wr.cell? ⟨w.heap.size, 0, none⟩ = some (.int .i64 t) ∧ wr.cell? ⟨w.heap.size, 1, none⟩ = some (.int .i64 d) ∧ wr.cell? ⟨w.heap.size, 2, none⟩ = some (.int .i64 (n : Int)) ∧ RowIs wr G 5 (upto n i)) (fun iv _ => 3 - (intOf iv).toNat)
    case atStart => exact ⟨0, rfl, by omega, by (repeat' (first | exact Below.refl _ _ | assumption | refine gr_drew ?_ | refine gr_drewN ?_ _ | refine gr_alloc ?_ _ | refine gr_set ?_ ?_ _ | refine gr_call ?_ (by assumption)) <;> (try (simp; done)) <;> (try (simp; omega)) <;> (try omega)), cell_kept (gr_alloc (Below.refl _ _) _) c0, cell_kept (gr_alloc (Below.refl _ _) _) c1, cell_kept (gr_alloc (Below.refl _ _) _) c2, hrow0⟩
    case round =>
      clear c0 c1 c2 hrow0 hb1 kc1
      obtain ⟨i, rfl, hi, hbl, c0, c1, c2, hrow⟩ := hrel
      rename_i wr
      have hi4 : i = 0 ∨ i = 1 ∨ i = 2 ∨ i = 3 := by omega
      rcases hi4 with rfl | rfl | rfl | rfl
      · -- letter 0
        have hx := hrow.cell 0 (by simp [upto])
        have hf := hrow.free 0 (by simp [upto])
        by_cases hz : n &&& 4 = 0
        · have f : (bits .and .i64 (n : Int) 4 == 0) = true := by rw [Ha4.out, decide_eq_true hz]
          have hu : (upto n 0).set 0 45 = upto n 1 := by simp [upto, bit, hz]
          have hput := (show RowIs wr.drew G 5 (upto n 0) from hrow).put 0 45
          rw [hu] at hput
          clear hz hu hrow
          go_wp2_with fail
          go_quiet (fail)
          go_wp2_with fail
          go_roundw
          case rel => exact ⟨1, rfl, by omega, by (repeat' (first | exact Below.refl _ _ | assumption | refine gr_drew ?_ | refine gr_drewN ?_ _ | refine gr_alloc ?_ _ | refine gr_set ?_ ?_ _ | refine gr_call ?_ (by assumption)) <;> (try (simp; done)) <;> (try (simp; omega)) <;> (try omega)), by simp [go_sem, *], by simp [go_sem, *], by simp [go_sem, *], hput⟩
          case measure => simp only [intOf]; omega
        · have f : (bits .and .i64 (n : Int) 4 == 0) = false := by rw [Ha4.out, decide_eq_false hz]
          have hu : upto n 0 = upto n 1 := by simp [upto, bit, hz]
          rw [hu] at hrow
          clear hz hu
          go_wp2_with fail
          go_quiet (fail)
          go_wp2_with fail
          go_roundw
          case rel => exact ⟨1, rfl, by omega, by (repeat' (first | exact Below.refl _ _ | assumption | refine gr_drew ?_ | refine gr_drewN ?_ _ | refine gr_alloc ?_ _ | refine gr_set ?_ ?_ _ | refine gr_call ?_ (by assumption)) <;> (try (simp; done)) <;> (try (simp; omega)) <;> (try omega)), by simp [go_sem, *], by simp [go_sem, *], by simp [go_sem, *], hrow⟩
          case measure => simp only [intOf]; omega
      · -- letter 1
        have hx := hrow.cell 1 (by simp [upto])
        have hf := hrow.free 1 (by simp [upto])
        by_cases hz : n &&& 2 = 0
        · have f : (bits .and .i64 (n : Int) 2 == 0) = true := by rw [Ha2.out, decide_eq_true hz]
          have hu : (upto n 1).set 1 45 = upto n 2 := by simp [upto, bit, hz]
          have hput := (show RowIs wr.drew G 5 (upto n 1) from hrow).put 1 45
          rw [hu] at hput
          clear hz hu hrow
          go_wp2_with fail
          go_quiet (fail)
          go_wp2_with fail
          go_roundw
          case rel => exact ⟨2, rfl, by omega, by (repeat' (first | exact Below.refl _ _ | assumption | refine gr_drew ?_ | refine gr_drewN ?_ _ | refine gr_alloc ?_ _ | refine gr_set ?_ ?_ _ | refine gr_call ?_ (by assumption)) <;> (try (simp; done)) <;> (try (simp; omega)) <;> (try omega)), by simp [go_sem, *], by simp [go_sem, *], by simp [go_sem, *], hput⟩
          case measure => simp only [intOf]; omega
        · have f : (bits .and .i64 (n : Int) 2 == 0) = false := by rw [Ha2.out, decide_eq_false hz]
          have hu : upto n 1 = upto n 2 := by simp [upto, bit, hz]
          rw [hu] at hrow
          clear hz hu
          go_wp2_with fail
          go_quiet (fail)
          go_wp2_with fail
          go_roundw
          case rel => exact ⟨2, rfl, by omega, by (repeat' (first | exact Below.refl _ _ | assumption | refine gr_drew ?_ | refine gr_drewN ?_ _ | refine gr_alloc ?_ _ | refine gr_set ?_ ?_ _ | refine gr_call ?_ (by assumption)) <;> (try (simp; done)) <;> (try (simp; omega)) <;> (try omega)), by simp [go_sem, *], by simp [go_sem, *], by simp [go_sem, *], hrow⟩
          case measure => simp only [intOf]; omega
      · -- letter 2
        have hx := hrow.cell 2 (by simp [upto])
        have hf := hrow.free 2 (by simp [upto])
        by_cases hz : n &&& 1 = 0
        · have f : (bits .and .i64 (n : Int) 1 == 0) = true := by rw [Ha1.out, decide_eq_true hz]
          have hu : (upto n 2).set 2 45 = upto n 3 := by simp [upto, bit, hz]
          have hput := (show RowIs wr.drew G 5 (upto n 2) from hrow).put 2 45
          rw [hu] at hput
          clear hz hu hrow
          go_wp2_with fail
          go_quiet (fail)
          go_wp2_with fail
          go_roundw
          case rel => exact ⟨3, rfl, by omega, by (repeat' (first | exact Below.refl _ _ | assumption | refine gr_drew ?_ | refine gr_drewN ?_ _ | refine gr_alloc ?_ _ | refine gr_set ?_ ?_ _ | refine gr_call ?_ (by assumption)) <;> (try (simp; done)) <;> (try (simp; omega)) <;> (try omega)), by simp [go_sem, *], by simp [go_sem, *], by simp [go_sem, *], hput⟩
          case measure => simp only [intOf]; omega
        · have f : (bits .and .i64 (n : Int) 1 == 0) = false := by rw [Ha1.out, decide_eq_false hz]
          have hu : upto n 2 = upto n 3 := by have e : bit n 1 120 = 120 := if_neg hz; show [bit n 4 114, bit n 2 119, 120] = [bit n 4 114, bit n 2 119, bit n 1 120]; rw [e]
          rw [hu] at hrow
          clear hz hu
          go_wp2_with fail
          go_quiet (fail)
          go_wp2_with fail
          go_roundw
          case rel => exact ⟨3, rfl, by omega, by (repeat' (first | exact Below.refl _ _ | assumption | refine gr_drew ?_ | refine gr_drewN ?_ _ | refine gr_alloc ?_ _ | refine gr_set ?_ ?_ _ | refine gr_call ?_ (by assumption)) <;> (try (simp; done)) <;> (try (simp; omega)) <;> (try omega)), by simp [go_sem, *], by simp [go_sem, *], by simp [go_sem, *], hrow⟩
          case measure => simp only [intOf]; omega
      · have ht : t = 1 ∨ t = 2 ∨ t = 3 ∨ t = 4 ∨ t = 5 ∨ t = 6 := by omega
        obtain ⟨RW, hRW⟩ : ∃ RW : ByteArray, (⟨(upto n 3).toArray⟩ : ByteArray) = RW := ⟨_, rfl⟩
        have hsRW : RW.size = 3 := by rw [← hRW]; rfl
        have hlRW : RW.data.toList = upto n 3 := by rw [← hRW]
        have hcv : ∀ k, (convert 49 9 (.slice (some ⟨G, 0, none⟩) 3 3)).run Tryz.prog (wr.drewN k) = .ok (.string RW) (wr.drewN k) := fun k => by rw [← hRW]; exact (show RowIs (wr.drewN k) G 5 (upto n 3) from hrow).back 3 Tryz.underlying49 Tryz.underlying5 Tryz.underlying9
        rw [← hlRW] at HR
        clear hRW hlRW
        rcases ht with rfl | rfl | rfl | rfl | rfl | rfl
        all_goals
          have hR := Lib.hid (HR.out _ rfl)
          have hw2 : IntKind.i64.wrap 2 = 2 := rfl
          have hw3 : IntKind.i64.wrap 3 = 3 := rfl
          have hw4 : IntKind.i64.wrap 4 = 4 := rfl
          have hw5 : IntKind.i64.wrap 5 = 5 := rfl
          have hw6 : IntKind.i64.wrap 6 = 6 := rfl
          have hw7 : IntKind.i64.wrap 7 = 7 := rfl
          clear HR Ha4 Ha2 Ha1 h1 h2 hrow
          go_wp2_with fail
          go_quiet (fail)
          go_wp2_with fail
          go_ret
          exact ⟨by rw [← hR.out]; exact five rfl, by (repeat' (first | exact Below.refl _ _ | assumption | refine gr_drew ?_ | refine gr_drewN ?_ _ | refine gr_alloc ?_ _ | refine gr_set ?_ ?_ _ | refine gr_call ?_ (by assumption)) <;> (try (simp; done)) <;> (try (simp; omega)) <;> (try omega))⟩
end Go.Proofs.YtbhnhoenjoagbaaGreatDoor.AclW

/- Walks over package acl: a list's text. -/
namespace Go.Proofs.YtbhnhoenjoagbaaGreatDoor.AclW
open Go.RowKit
open AclM DecM
set_option linter.unusedVariables false

theorem textL_first {l : List Ace} {i : Nat} (h : i < l.length) (h0 : i = 0) : textL (l.take (i + 1)) = textL (l.take i) ++ partText l[i] := by
  subst h0
  rw [List.take_succ_eq_append_getElem h, textL_snoc]
  rfl
theorem textL_more {l : List Ace} {i : Nat} (h : i < l.length) (h0 : i ≠ 0) : textL (l.take (i + 1)) = (textL (l.take i) ++ [44]) ++ partText l[i] := by
  rw [List.take_succ_eq_append_getElem h, textL_snoc, if_neg]
  intro e
  have := congrArg List.length e
  rw [List.length_take, List.length_nil] at this
  omega
theorem textL_take {l : List Ace} (h : ∀ a ∈ l, okPart a = true) (h32 : l.length ≤ 32) (i : Nat) : (textL (l.take i)).length ≤ 544 := by
  have := joinC_len ((l.take i).map partText) (by intro p hp; obtain ⟨a, ha, rfl⟩ := List.mem_map.1 hp; exact part_len (h a (List.mem_of_mem_take ha)))
  rw [List.length_map, List.length_take] at this
  unfold textL
  omega
def textR (l : List Ace) : List UInt8 := if may l = true then textL l else []

set_option maxHeartbeats 1600000 in
theorem textL_any (v : Value) (l : List Ace) (w : World) (hA : AmbB w) (hat : At aceE v l w) (hl : l.length ≤ 1000000) :
    Calls Tryz.prog 68 #[v] w fun e w' => e = .returned (.string (strOf (textR l))) ∧ Below w.heap.size w w' := by
  have hmay := Lib.hid (may_any v l w hat hl)
  unfold textR
  rcases hb : may l with _ | _
  · rw [hb] at hmay
    clear hat hl hA
    go_enter Tryz.func68, Tryz.ntmps68
    go_wp2_with fail
    refine (hmay.out).mono ?_
    rintro e w1 ⟨rfl, hb1⟩
    go_wp2_with fail
    go_ret
    exact ⟨rfl, hb1⟩
  · rw [hb] at hmay
    obtain ⟨hok, h32, _, _⟩ := may_parts hb
    have Hok := Lib.hid hok
    have Hlen := Lib.hid (textL_take hok h32)
    have HE := Lib.hid (show (if true = true then textL l else []) = textL l from if_pos rfl)
    obtain ⟨z, hz⟩ : ∃ z, l.length = z := ⟨_, rfl⟩
    obtain ⟨p, cap, rfl, hcap, hcell⟩ := ace_look hat
    rw [hz] at hl hcap h32 hmay ⊢
    have Hcell := Lib.hid hcell
    have Hz := Lib.hid hz
    have Htext := Lib.hid text_any
    clear hcell hat hz hok hb
    rw [HE.out]
    clear HE
    go_enter Tryz.func68, Tryz.ntmps68
    go_wp2_with fail
    refine (hmay.out).mono ?_
    rintro e w1 ⟨rfl, hb1⟩
    clear hmay
    have hs1 := hb1.size
    have hbld0 := newBld w1
    obtain ⟨b, hbb⟩ : ∃ b, w1.heap.size = b := ⟨_, rfl⟩
    have hbl0 : Below w.heap.size w (w1.alloc (.cells #[.pointer none, .slice none 0 0] 142)) := gr_alloc hb1 _
    have hwb : w.heap.size ≤ b := by rw [← hbb]; exact hs1
    rw [hbb] at hbld0
    go_wp2_with fail
    go_loopw [11] (fun iv wr => ∃ i : Nat, iv = .int .i64 (i : Int) ∧ i ≤ z ∧ Below w.heap.size w wr ∧ Bld b (textL (l.take i)) wr) (fun iv _ => z - (intOf iv).toNat)
    case atStart => exact ⟨0, rfl, by omega, hbl0, by simpa [textL, joinC] using hbld0⟩
    case round =>
      clear hbld0 hbl0 hbb hb1 hs1
      obtain ⟨i, rfl, hi, hbl, hB⟩ := hrel
      rename_i wr
      by_cases hlt : i < z
      · have hlt' : decide ((i : Int) < (z : Int)) = true := decide_eq_true (by omega)
        have hlt2 : decide (i < z) = true := decide_eq_true hlt
        have hi' : i < l.length := by rw [Hz.out]; exact hlt
        obtain ⟨g, off, rfl, hg, c0, c1, c2⟩ := Hcell.out i hi'
        replace c0 := cell_kept hbl c0
        replace c1 := cell_kept hbl c1
        replace c2 := cell_kept hbl c2
        have hli := Hlen.out i
        have hok := okPart_iff (Hok.out l[i] (List.getElem_mem hi'))
        have hpl := part_len (Hok.out l[i] (List.getElem_mem hi'))
        have HF := Lib.hid (textL_first hi')
        have HM := Lib.hid (textL_more hi')
        generalize l[i] = a at *
        have htx := Lib.hid (fun w' (hA' : AmbB w') => Htext.out a w' hA' hok.1 hok.2.1 hok.2.2.1 hok.2.2.2.1 (by omega) (by omega))
        obtain ⟨T, hT⟩ : ∃ T, strOf (partText a) = T := ⟨_, rfl⟩
        rw [hT] at htx
        have hTl : T.data.toList = partText a := by rw [← hT, strOf_list]
        have hTs : T.size ≤ 16 := by rw [← hT, strOf_size]; exact hpl
        rw [← hTl] at HF HM
        clear hT hTl hpl hok
        obtain ⟨t, d, q⟩ := a
        simp only at c0 c1 c2
        have hgs := hbl.size
        have hbw := bld_lt hB
        have hB2 := hB.keep (gr_alloc (Below.refl _ _) (.cells #[.int .i64 t, .int .i64 d, .int .i64 q] 115))
        have hbl2 : Below w.heap.size w (wr.alloc (.cells #[.int .i64 t, .int .i64 d, .int .i64 q] 115)) := gr_alloc hbl _
        have hk0 : (wr.alloc (.cells #[.int .i64 t, .int .i64 d, .int .i64 q] 115)).heap[wr.heap.size]? = some (.cells #[.int .i64 t, .int .i64 d, .int .i64 q] 115 (0, 0)) := heap_alloc_new wr _
        by_cases h0 : i = 0
        · have hi0 : decide ((0 : Int) < (i : Int)) = false := decide_eq_false (by omega)
          have hi0' : decide (0 < i) = false := decide_eq_false (by omega)
          have HT := Lib.hid (HF.out h0)
          clear HF HM h0
          go_wp2_with fail
          refine (htx.out _ (hA.on hbl2)).mono ?_
          rintro e w2 ⟨rfl, hb2⟩
          have hB3 := hB2.keep hb2
          have hbl3 := gr_call hbl2 hb2
          clear hB2 hbl2 hB hk0 htx
          go_wp2_with fail
          refine (writeStr_b b _ T _ hB3 (by omega) (bld_lt hB3)).mono ?_
          rintro e w3 ⟨rfl, hB4, hb3⟩
          have hbl4 : Below w.heap.size w w3 := hbl3.trans (hb3.mono hwb)
          rw [← HT.out] at hB4
          clear hb2 hb3 hB3 hbl3
          go_wp2_with fail
          go_roundw
          case rel => exact ⟨i + 1, rfl, by omega, hbl4, hB4⟩
          case measure => simp only [intOf]; omega
        · have hi0 : decide ((0 : Int) < (i : Int)) = true := decide_eq_true (by omega)
          have hi0' : decide (0 < i) = true := decide_eq_true (by omega)
          have HT := Lib.hid (HM.out h0)
          have hbuf : ∀ u, (wr.alloc (.cells #[.int .i64 t, .int .i64 d, .int .i64 q] 115)).cell? ⟨b, 1, none⟩ = some u → u.ownBlock ≠ some wr.heap.size := by
            intro u hu e
            rw [World.cell?_alloc_lt _ _ _ hbw] at hu
            have := hB.buf u hu _ e
            omega
          clear HF HM h0
          go_wp2_with fail
          refine (writeByte_k wr.heap.size b _ 44 44 rfl _ hB2 (by omega) (bld_lt hB2) (by simp) (by omega) hbuf).mono ?_
          rintro e w2 ⟨rfl, hB3, hb2, hk2⟩
          have hbl3 : Below w.heap.size w w2 := hbl2.trans (hb2.mono hwb)
          rw [hk0] at hk2
          have d0 : w2.cell? ⟨wr.heap.size, 0, none⟩ = some (.int .i64 t) := cell_of_row _ _ _ _ _ _ hk2
          have d1 : w2.cell? ⟨wr.heap.size, 1, none⟩ = some (.int .i64 d) := cell_of_row _ _ _ _ _ _ hk2
          have d2 : w2.cell? ⟨wr.heap.size, 2, none⟩ = some (.int .i64 q) := cell_of_row _ _ _ _ _ _ hk2
          clear hB2 hbl2 hB hk0 hbuf hk2 hb2
          go_wp2_with fail
          refine (htx.out _ (hA.on hbl3)).mono ?_
          rintro e w3 ⟨rfl, hb3⟩
          have hB4 := hB3.keep hb3
          have hbl4 := gr_call hbl3 hb3
          clear hbl3 hB3 htx
          go_wp2_with fail
          refine (writeStr_b b _ T _ hB4 (by simp; omega) (bld_lt hB4)).mono ?_
          rintro e w4 ⟨rfl, hB5, hb4⟩
          have hbl5 : Below w.heap.size w w4 := hbl4.trans (hb4.mono hwb)
          rw [← HT.out] at hB5
          clear hb3 hb4 hB4 hbl4
          go_wp2_with fail
          go_roundw
          case rel => exact ⟨i + 1, rfl, by omega, hbl5, hB5⟩
          case measure => simp only [intOf]; omega
      · have hlt' : decide ((i : Int) < (z : Int)) = false := decide_eq_false (by omega)
        have hlt2 : decide (i < z) = false := decide_eq_false hlt
        rw [List.take_of_length_le (by rw [Hz.out]; omega)] at hB
        go_wp2_with fail
        refine (string_b b _ _ hB).mono ?_
        rintro e w2 ⟨rfl, hb2⟩
        have hbl2 : Below w.heap.size w w2 := hbl.trans (hb2.mono hwb)
        go_wp2_with fail
        go_ret
        exact ⟨rfl, hbl2⟩
end Go.Proofs.YtbhnhoenjoagbaaGreatDoor.AclW

/- Flags as text: the names of the bits with commas between; what a text says. -/
namespace Go.Proofs.YtbhnhoenjoagbaaGreatDoor.FlagsW
namespace FlagsM

def nm : Nat → List UInt8
  | 0 => [117, 99, 104, 103]
  | 1 => [117, 97, 112, 112, 110, 100]
  | 2 => [110, 111, 100, 117, 109, 112]
  | 3 => [111, 112, 97, 113, 117, 101]
  | _ => []
def isBit (n i : Nat) : Bool := decide (n / 2 ^ i % 2 = 1)
def addN (l : List UInt8) (i : Nat) : List UInt8 := if l = [] then nm i else l ++ 44 :: nm i
def upTo (n : Nat) : Nat → List UInt8
  | 0 => []
  | i + 1 => if isBit n i then addN (upTo n i) i else upTo n i
def textL (n : Nat) : List UInt8 := upTo n 4
def textI (n : Int) : List UInt8 := if 0 ≤ n ∧ n ≤ 15 then textL n.toNat else []
def mayI (n : Int) : Bool := decide (0 ≤ n) && decide (n ≤ 15)
def place (s : List UInt8) : Option Nat := if s = nm 0 then some 0 else if s = nm 1 then some 1 else if s = nm 2 then some 2 else if s = nm 3 then some 3 else none
def cutC : List UInt8 → List UInt8 × List UInt8 × Bool
  | [] => ([], [], false)
  | x :: r => if x = 44 then ([], r, true) else (x :: (cutC r).1, (cutC r).2.1, (cutC r).2.2)
def pieces : List UInt8 → List (List UInt8)
  | [] => [[]]
  | x :: r => if x = 44 then [] :: pieces r else match pieces r with
    | p :: ps => (x :: p) :: ps
    | [] => [[x]]
def saysP (n : Nat) : List (List UInt8) → Option Nat
  | [] => some n
  | p :: ps => match place p with
    | none => none
    | some i => if 2 ^ i ≤ n then none else saysP (n ||| 2 ^ i) ps
def getL (s : List UInt8) : Option Nat := if s = [] then some 0 else saysP 0 (pieces s)

def joinP : List (List UInt8) → List UInt8
  | [] => []
  | [p] => p
  | p :: ps => p ++ 44 :: joinP ps
def top (n : Nat) : Nat := if n = 0 then 0 else if n < 2 then 1 else if n < 4 then 2 else if n < 8 then 3 else 4
def fromP (i n : Nat) : List (List UInt8) := ((List.range 4).filter fun j => decide (i ≤ j) && isBit n j).map nm
theorem text_tab2 : ∀ n : Fin 16, (textL n.val).length ≤ 25 := by decide +kernel
theorem text_len {n : Nat} (h : n < 16) : (textL n).length ≤ 25 := text_tab2 ⟨n, h⟩
theorem up_tab : ∀ (n : Fin 16) (i : Fin 5), (upTo n.val i.val).length ≤ 25 := by decide +kernel
theorem up_len {n i : Nat} (h : n < 16) (hi : i ≤ 4) : (upTo n i).length ≤ 25 := up_tab ⟨n, h⟩ ⟨i, by omega⟩
end FlagsM
end Go.Proofs.YtbhnhoenjoagbaaGreatDoor.FlagsW

/- What the walks of this seat lean on in memory: package flags' table of names; it stays as it is whatever a call makes. -/
namespace Go.Proofs.YtbhnhoenjoagbaaGreatDoor.FlagsW
open Go.RowKit
open FlagsM

def nameCells : List Value := [.string ⟨#[117, 99, 104, 103]⟩, .string ⟨#[117, 97, 112, 112, 110, 100]⟩, .string ⟨#[110, 111, 100, 117, 109, 112]⟩, .string ⟨#[111, 112, 97, 113, 117, 101]⟩]
def Amb (w : World) : Prop := ∀ (i : Nat) v, nameCells[i]? = some v → w.cell? ⟨0, i, none⟩ = some v
theorem Amb.on {w w' : World} (h : Amb w) (hb : Below w.heap.size w w') : Amb w' := fun i v hv => cell_kept hb (h i v hv)
theorem Amb.cells {w : World} (h : Amb w) :
    w.cell? ⟨0, 0, none⟩ = some (.string ⟨#[117, 99, 104, 103]⟩) ∧ w.cell? ⟨0, 1, none⟩ = some (.string ⟨#[117, 97, 112, 112, 110, 100]⟩) ∧
    w.cell? ⟨0, 2, none⟩ = some (.string ⟨#[110, 111, 100, 117, 109, 112]⟩) ∧ w.cell? ⟨0, 3, none⟩ = some (.string ⟨#[111, 112, 97, 113, 117, 101]⟩) :=
  ⟨h 0 _ rfl, h 1 _ rfl, h 2 _ rfl, h 3 _ rfl⟩
end Go.Proofs.YtbhnhoenjoagbaaGreatDoor.FlagsW
