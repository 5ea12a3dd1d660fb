/- Walks over package acl: a part's text. -/
import Derived.Test.YtdjffnhkfpjafaaDoorAclMode
import Derived.Test.YtdjffnhkfpjafaaDoorBuild
import Derived.Test.YtdjffnhkfpjafaaDoorByteRow
import Derived.Lib.SlBytesConst
import Derived.Deep.RegionHeld3
namespace Go.Proofs.YtdjffnhkfpjafaaDoor
open Go.RowKit
open AclM DecM
set_option linter.unusedVariables false

def bit (n k : Nat) (c : UInt8) : UInt8 := if n &&& k = 0 then 45 else c
def upto (n i : Nat) : List UInt8 := if i = 0 then [114, 119, 120] else if i = 1 then [bit n 4 114, 119, 120] else if i = 2 then [bit n 4 114, bit n 2 119, 120] else [bit n 4 114, bit n 2 119, bit n 1 120]
theorem five {c : UInt8} {S0 ID RW : ByteArray} (h : S0.data.toList = [c]) :
    Ending.returned (Value.string (S0 ++ ⟨#[58]⟩ ++ ID ++ ⟨#[58]⟩ ++ RW)) = Ending.returned (Value.string (strOf ([c] ++ [58] ++ ID.data.toList ++ [58] ++ RW.data.toList))) := by
  refine congrArg _ (congrArg _ (bytes_ext ?_))
  simp only [bytes_list, strOf_list, h]
theorem upto_row (w : World) (n : Nat) (t : TypeId) : RowIs (w.alloc (.cells #[.int .u8 114, .int .u8 119, .int .u8 120] t (3, 4))) w.heap.size t (upto n 0) := by
  refine ⟨_, _, heap_alloc_new w _, .inr (by simp [upto]), ?_⟩
  intro i hi
  have hi' : i < 3 := hi
  have : i = 0 ∨ i = 1 ∨ i = 2 := by omega
  rcases this with rfl | rfl | rfl <;> rfl
theorem upto_end (p : Int) : upto p.toNat 3 = rwx p := rfl

set_option maxHeartbeats 1600000 in
set_option maxRecDepth 100000 in
theorem text_any (a : Ace) (w : World) (hA : Amb w) (h1 : 1 ≤ a.1) (h2 : a.1 ≤ 6) (h3 : 0 ≤ a.2.2) (h4 : a.2.2 ≤ 7) (h5 : -9223372036854775808 ≤ a.2.1) (h6 : a.2.1 ≤ 9223372036854775807) :
    Calls Tryd.prog 33 #[aceV a] w fun e w' => e = .returned (.string (strOf (partText a))) ∧ Below w.heap.size w w' := by
  have hh := Lib.hid (hasId_any a.1)
  have hit := Lib.hid (fun w' (hb : Below w.heap.size w w') => itoa_any a.2.1 w' (hA.on hb) h5 h6)
  obtain ⟨t, d, p⟩ := a
  simp only at h1 h2 h3 h4 h5 h6 hh hit
  obtain ⟨ID, hID⟩ : ∃ ID, strOf (idText (t, d, p)) = ID := ⟨_, rfl⟩
  obtain ⟨n, rfl⟩ : ∃ n : Nat, p = (n : Int) := ⟨p.toNat, by omega⟩
  have hn : n < 8 := by omega
  have HR : Hid (∀ c : UInt8, c = letter t → strOf ([c] ++ [58] ++ ID.data.toList ++ [58] ++ upto n 3) = strOf (partText (t, d, (n : Int)))) := Lib.hid (by
    intro c hc
    subst hc
    rw [← hID, strOf_list]
    apply strOf_eq
    simp [partText, ← upto_end])
  have ha4 : (bits .and .i64 (n : Int) 4 == 0) = decide (n &&& 4 = 0) := by
    rw [show (4 : Int) = ((4 : Nat) : Int) from rfl, and_i64 n 4 (by omega) (by omega)]
    by_cases h : n &&& 4 = 0 <;> simp [h]
  have ha2 : (bits .and .i64 (n : Int) 2 == 0) = decide (n &&& 2 = 0) := by
    rw [show (2 : Int) = ((2 : Nat) : Int) from rfl, and_i64 n 2 (by omega) (by omega)]
    by_cases h : n &&& 2 = 0 <;> simp [h]
  have ha1 : (bits .and .i64 (n : Int) 1 == 0) = decide (n &&& 1 = 0) := by
    rw [show (1 : Int) = ((1 : Nat) : Int) from rfl, and_i64 n 1 (by omega) (by omega)]
    by_cases h : n &&& 1 = 0
    · rw [h, decide_eq_true rfl]; rfl
    · rw [decide_eq_false h]; exact beq_eq_false_iff_ne.2 (by omega)
  have Ha4 := Lib.hid ha4
  have Ha2 := Lib.hid ha2
  have Ha1 := Lib.hid ha1
  clear ha4 ha2 ha1 h3 h4
  have kc := fun (w : World) (C : Array Value) (n c : Nat) => Lib.run_convert_bytes_const (P := Tryd.prog) w 35 5 C n c Tryd.underlying35 Tryd.underlying5
  rcases hb : hasId t with _ | _
  · rw [hb] at hh
    have hid : ID = ⟨#[]⟩ := by rw [← hID]; simp [idText, hb, strOf]
    subst hid
    clear hID hit hb
    unfold aceV
    go_enter Tryd.func33, Tryd.ntmps33
    go_wp2_with fail
    refine (hh.out _).mono ?_
    rintro e w1 ⟨rfl, hw1⟩
    have hb1 : Below w.heap.size w w1 := by rw [← hw1]; (repeat' (first | exact Below.refl _ _ | assumption | refine gr_drew ?_ | refine gr_drewN ?_ _ | refine gr_alloc ?_ _ | refine gr_set ?_ ?_ _ | refine gr_call ?_ (by assumption)) <;> (try (simp; done)) <;> (try (simp; omega)) <;> (try omega))
    have c0 : w1.cell? ⟨w.heap.size, 0, none⟩ = some (.int .i64 t) := by rw [← hw1]; simp [go_sem]
    have c1 : w1.cell? ⟨w.heap.size, 1, none⟩ = some (.int .i64 d) := by rw [← hw1]; simp [go_sem]
    have c2 : w1.cell? ⟨w.heap.size, 2, none⟩ = some (.int .i64 (n : Int)) := by rw [← hw1]; simp [go_sem]
    clear hw1
    obtain ⟨G, hG⟩ : ∃ G, w1.heap.size = G := ⟨_, rfl⟩
    have hrow0 := upto_row w1 n 5
    have hHG : w.heap.size < G := by rw [← hG]; exact block_lt c0
    have hne : w.heap.size ≠ G := Nat.ne_of_lt hHG
    rw [hG] at hrow0
    have kc1 : (convert 35 35 (.slice (some ⟨G, 0, none⟩) 3 3)).run Tryd.prog (w1.alloc (.cells #[.int .u8 114, .int .u8 119, .int .u8 120] 5)) = .ok (.slice (some ⟨G, 0, none⟩) 3 3) (w1.alloc (.cells #[.int .u8 114, .int .u8 119, .int .u8 120] 5 (3, 4))) := by rw [← hG]; exact kc w1 #[.int .u8 114, .int .u8 119, .int .u8 120] 3 3
    clear kc
    go_wp2_with fail
    go_loopw [16] (fun iv wr => ∃ i : Nat, iv = .int .i64 (i : Int) ∧ i ≤ 3 ∧ Below w.heap.size w wr ∧ wr.cell? ⟨w.heap.size, 0, none⟩ = some (.int .i64 t) ∧ wr.cell? ⟨w.heap.size, 1, none⟩ = some (.int .i64 d) ∧ wr.cell? ⟨w.heap.size, 2, none⟩ = some (.int .i64 (n : Int)) ∧ RowIs wr G 5 (upto n i)) (fun iv _ => 3 - (intOf iv).toNat)
    case atStart => exact ⟨0, rfl, by omega, by (repeat' (first | exact Below.refl _ _ | assumption | refine gr_drew ?_ | refine gr_drewN ?_ _ | refine gr_alloc ?_ _ | refine gr_set ?_ ?_ _ | refine gr_call ?_ (by assumption)) <;> (try (simp; done)) <;> (try (simp; omega)) <;> (try omega)), cell_kept (gr_alloc (Below.refl _ _) _) c0, cell_kept (gr_alloc (Below.refl _ _) _) c1, cell_kept (gr_alloc (Below.refl _ _) _) c2, hrow0⟩
    case round =>
      clear c0 c1 c2 hrow0 hb1 kc1
      obtain ⟨i, rfl, hi, hbl, c0, c1, c2, hrow⟩ := hrel
      rename_i wr
      have hi4 : i = 0 ∨ i = 1 ∨ i = 2 ∨ i = 3 := by omega
      rcases hi4 with rfl | rfl | rfl | rfl
      · -- letter 0
        have hx := hrow.cell 0 (by simp [upto])
        have hf := hrow.free 0 (by simp [upto])
        by_cases hz : n &&& 4 = 0
        · have f : (bits .and .i64 (n : Int) 4 == 0) = true := by rw [Ha4.out, decide_eq_true hz]
          have hu : (upto n 0).set 0 45 = upto n 1 := by simp [upto, bit, hz]
          have hput := (show RowIs wr.drew G 5 (upto n 0) from hrow).put 0 45
          rw [hu] at hput
          clear hz hu hrow
          go_wp2_with fail
          go_quiet (fail)
          go_wp2_with fail
          go_roundw
          case rel => exact ⟨1, rfl, by omega, by (repeat' (first | exact Below.refl _ _ | assumption | refine gr_drew ?_ | refine gr_drewN ?_ _ | refine gr_alloc ?_ _ | refine gr_set ?_ ?_ _ | refine gr_call ?_ (by assumption)) <;> (try (simp; done)) <;> (try (simp; omega)) <;> (try omega)), by simp [go_sem, *], by simp [go_sem, *], by simp [go_sem, *], hput⟩
          case measure => simp only [intOf]; omega
        · have f : (bits .and .i64 (n : Int) 4 == 0) = false := by rw [Ha4.out, decide_eq_false hz]
          have hu : upto n 0 = upto n 1 := by simp [upto, bit, hz]
          rw [hu] at hrow
          clear hz hu
          go_wp2_with fail
          go_quiet (fail)
          go_wp2_with fail
          go_roundw
          case rel => exact ⟨1, rfl, by omega, by (repeat' (first | exact Below.refl _ _ | assumption | refine gr_drew ?_ | refine gr_drewN ?_ _ | refine gr_alloc ?_ _ | refine gr_set ?_ ?_ _ | refine gr_call ?_ (by assumption)) <;> (try (simp; done)) <;> (try (simp; omega)) <;> (try omega)), by simp [go_sem, *], by simp [go_sem, *], by simp [go_sem, *], hrow⟩
          case measure => simp only [intOf]; omega
      · -- letter 1
        have hx := hrow.cell 1 (by simp [upto])
        have hf := hrow.free 1 (by simp [upto])
        by_cases hz : n &&& 2 = 0
        · have f : (bits .and .i64 (n : Int) 2 == 0) = true := by rw [Ha2.out, decide_eq_true hz]
          have hu : (upto n 1).set 1 45 = upto n 2 := by simp [upto, bit, hz]
          have hput := (show RowIs wr.drew G 5 (upto n 1) from hrow).put 1 45
          rw [hu] at hput
          clear hz hu hrow
          go_wp2_with fail
          go_quiet (fail)
          go_wp2_with fail
          go_roundw
          case rel => exact ⟨2, rfl, by omega, by (repeat' (first | exact Below.refl _ _ | assumption | refine gr_drew ?_ | refine gr_drewN ?_ _ | refine gr_alloc ?_ _ | refine gr_set ?_ ?_ _ | refine gr_call ?_ (by assumption)) <;> (try (simp; done)) <;> (try (simp; omega)) <;> (try omega)), by simp [go_sem, *], by simp [go_sem, *], by simp [go_sem, *], hput⟩
          case measure => simp only [intOf]; omega
        · have f : (bits .and .i64 (n : Int) 2 == 0) = false := by rw [Ha2.out, decide_eq_false hz]
          have hu : upto n 1 = upto n 2 := by simp [upto, bit, hz]
          rw [hu] at hrow
          clear hz hu
          go_wp2_with fail
          go_quiet (fail)
          go_wp2_with fail
          go_roundw
          case rel => exact ⟨2, rfl, by omega, by (repeat' (first | exact Below.refl _ _ | assumption | refine gr_drew ?_ | refine gr_drewN ?_ _ | refine gr_alloc ?_ _ | refine gr_set ?_ ?_ _ | refine gr_call ?_ (by assumption)) <;> (try (simp; done)) <;> (try (simp; omega)) <;> (try omega)), by simp [go_sem, *], by simp [go_sem, *], by simp [go_sem, *], hrow⟩
          case measure => simp only [intOf]; omega
      · -- letter 2
        have hx := hrow.cell 2 (by simp [upto])
        have hf := hrow.free 2 (by simp [upto])
        by_cases hz : n &&& 1 = 0
        · have f : (bits .and .i64 (n : Int) 1 == 0) = true := by rw [Ha1.out, decide_eq_true hz]
          have hu : (upto n 2).set 2 45 = upto n 3 := by simp [upto, bit, hz]
          have hput := (show RowIs wr.drew G 5 (upto n 2) from hrow).put 2 45
          rw [hu] at hput
          clear hz hu hrow
          go_wp2_with fail
          go_quiet (fail)
          go_wp2_with fail
          go_roundw
          case rel => exact ⟨3, rfl, by omega, by (repeat' (first | exact Below.refl _ _ | assumption | refine gr_drew ?_ | refine gr_drewN ?_ _ | refine gr_alloc ?_ _ | refine gr_set ?_ ?_ _ | refine gr_call ?_ (by assumption)) <;> (try (simp; done)) <;> (try (simp; omega)) <;> (try omega)), by simp [go_sem, *], by simp [go_sem, *], by simp [go_sem, *], hput⟩
          case measure => simp only [intOf]; omega
        · have f : (bits .and .i64 (n : Int) 1 == 0) = false := by rw [Ha1.out, decide_eq_false hz]
          have hu : upto n 2 = upto n 3 := by have e : bit n 1 120 = 120 := if_neg hz; show [bit n 4 114, bit n 2 119, 120] = [bit n 4 114, bit n 2 119, bit n 1 120]; rw [e]
          rw [hu] at hrow
          clear hz hu
          go_wp2_with fail
          go_quiet (fail)
          go_wp2_with fail
          go_roundw
          case rel => exact ⟨3, rfl, by omega, by (repeat' (first | exact Below.refl _ _ | assumption | refine gr_drew ?_ | refine gr_drewN ?_ _ | refine gr_alloc ?_ _ | refine gr_set ?_ ?_ _ | refine gr_call ?_ (by assumption)) <;> (try (simp; done)) <;> (try (simp; omega)) <;> (try omega)), by simp [go_sem, *], by simp [go_sem, *], by simp [go_sem, *], hrow⟩
          case measure => simp only [intOf]; omega
      · have ht : t = 1 ∨ t = 2 ∨ t = 3 ∨ t = 4 ∨ t = 5 ∨ t = 6 := by omega
        obtain ⟨RW, hRW⟩ : ∃ RW : ByteArray, (⟨(upto n 3).toArray⟩ : ByteArray) = RW := ⟨_, rfl⟩
        have hsRW : RW.size = 3 := by rw [← hRW]; rfl
        have hlRW : RW.data.toList = upto n 3 := by rw [← hRW]
        have hcv : ∀ k, (convert 35 9 (.slice (some ⟨G, 0, none⟩) 3 3)).run Tryd.prog (wr.drewN k) = .ok (.string RW) (wr.drewN k) := fun k => by rw [← hRW]; exact (show RowIs (wr.drewN k) G 5 (upto n 3) from hrow).back 3 Tryd.underlying35 Tryd.underlying5 Tryd.underlying9
        rw [← hlRW] at HR
        clear hRW hlRW
        rcases ht with rfl | rfl | rfl | rfl | rfl | rfl
        all_goals
          have hR := Lib.hid (HR.out _ rfl)
          have hw2 : IntKind.i64.wrap 2 = 2 := rfl
          have hw3 : IntKind.i64.wrap 3 = 3 := rfl
          have hw4 : IntKind.i64.wrap 4 = 4 := rfl
          have hw5 : IntKind.i64.wrap 5 = 5 := rfl
          have hw6 : IntKind.i64.wrap 6 = 6 := rfl
          have hw7 : IntKind.i64.wrap 7 = 7 := rfl
          clear HR Ha4 Ha2 Ha1 h1 h2 hrow
          go_wp2_with fail
          go_quiet (fail)
          go_wp2_with fail
          go_ret
          exact ⟨by rw [← hR.out]; exact five rfl, by (repeat' (first | exact Below.refl _ _ | assumption | refine gr_drew ?_ | refine gr_drewN ?_ _ | refine gr_alloc ?_ _ | refine gr_set ?_ ?_ _ | refine gr_call ?_ (by assumption)) <;> (try (simp; done)) <;> (try (simp; omega)) <;> (try omega))⟩
  · rw [hb] at hh
    have hid : strOf (Lib.itoa d) = ID := by rw [← hID]; simp [idText, hb]
    rw [hid] at hit
    have hsID : ID.size ≤ 20 := by rw [← hid, strOf_size]; exact (itoa_len d h5 h6).2
    clear hID hb hid
    have hbx : Below w.heap.size w (w.alloc (.cells #[.int .i64 t, .int .i64 d, .int .i64 (n : Int)] 39)) := by (repeat' (first | exact Below.refl _ _ | assumption | refine gr_drew ?_ | refine gr_drewN ?_ _ | refine gr_alloc ?_ _ | refine gr_set ?_ ?_ _ | refine gr_call ?_ (by assumption)) <;> (try (simp; done)) <;> (try (simp; omega)) <;> (try omega))
    unfold aceV
    go_enter Tryd.func33, Tryd.ntmps33
    go_wp2_with fail
    refine (hh.out _).mono ?_
    rintro e w1 ⟨rfl, rfl⟩
    go_wp2_with fail
    refine (hit.out _ hbx).mono ?_
    rintro e w1 ⟨rfl, hb1⟩
    have c0 : w1.cell? ⟨w.heap.size, 0, none⟩ = some (.int .i64 t) := cell_kept hb1 (by simp [go_sem])
    have c1 : w1.cell? ⟨w.heap.size, 1, none⟩ = some (.int .i64 d) := cell_kept hb1 (by simp [go_sem])
    have c2 : w1.cell? ⟨w.heap.size, 2, none⟩ = some (.int .i64 (n : Int)) := cell_kept hb1 (by simp [go_sem])
    replace hb1 := gr_call hbx hb1
    clear hbx hit
    obtain ⟨G, hG⟩ : ∃ G, w1.heap.size = G := ⟨_, rfl⟩
    have hrow0 := upto_row w1 n 5
    have hHG : w.heap.size < G := by rw [← hG]; exact block_lt c0
    have hne : w.heap.size ≠ G := Nat.ne_of_lt hHG
    rw [hG] at hrow0
    have kc1 : (convert 35 35 (.slice (some ⟨G, 0, none⟩) 3 3)).run Tryd.prog (w1.alloc (.cells #[.int .u8 114, .int .u8 119, .int .u8 120] 5)) = .ok (.slice (some ⟨G, 0, none⟩) 3 3) (w1.alloc (.cells #[.int .u8 114, .int .u8 119, .int .u8 120] 5 (3, 4))) := by rw [← hG]; exact kc w1 #[.int .u8 114, .int .u8 119, .int .u8 120] 3 3
    clear kc
    go_wp2_with fail
    go_loopw [16] (fun iv wr => ∃ i : Nat, iv = .int .i64 (i : Int) ∧ i ≤ 3 ∧ Below w.heap.size w wr ∧ wr.cell? ⟨w.heap.size, 0, none⟩ = some (.int .i64 t) ∧ wr.cell? ⟨w.heap.size, 1, none⟩ = some (.int .i64 d) ∧ wr.cell? ⟨w.heap.size, 2, none⟩ = some (.int .i64 (n : Int)) ∧ RowIs wr G 5 (upto n i)) (fun iv _ => 3 - (intOf iv).toNat)
    case atStart => exact ⟨0, rfl, by omega, by (repeat' (first | exact Below.refl _ _ | assumption | refine gr_drew ?_ | refine gr_drewN ?_ _ | refine gr_alloc ?_ _ | refine gr_set ?_ ?_ _ | refine gr_call ?_ (by assumption)) <;> (try (simp; done)) <;> (try (simp; omega)) <;> (try omega)), cell_kept (gr_alloc (Below.refl _ _) _) c0, cell_kept (gr_alloc (Below.refl _ _) _) c1, cell_kept (gr_alloc (Below.refl _ _) _) c2, hrow0⟩
    case round =>
      clear c0 c1 c2 hrow0 hb1 kc1
      obtain ⟨i, rfl, hi, hbl, c0, c1, c2, hrow⟩ := hrel
      rename_i wr
      have hi4 : i = 0 ∨ i = 1 ∨ i = 2 ∨ i = 3 := by omega
      rcases hi4 with rfl | rfl | rfl | rfl
      · -- letter 0
        have hx := hrow.cell 0 (by simp [upto])
        have hf := hrow.free 0 (by simp [upto])
        by_cases hz : n &&& 4 = 0
        · have f : (bits .and .i64 (n : Int) 4 == 0) = true := by rw [Ha4.out, decide_eq_true hz]
          have hu : (upto n 0).set 0 45 = upto n 1 := by simp [upto, bit, hz]
          have hput := (show RowIs wr.drew G 5 (upto n 0) from hrow).put 0 45
          rw [hu] at hput
          clear hz hu hrow
          go_wp2_with fail
          go_quiet (fail)
          go_wp2_with fail
          go_roundw
          case rel => exact ⟨1, rfl, by omega, by (repeat' (first | exact Below.refl _ _ | assumption | refine gr_drew ?_ | refine gr_drewN ?_ _ | refine gr_alloc ?_ _ | refine gr_set ?_ ?_ _ | refine gr_call ?_ (by assumption)) <;> (try (simp; done)) <;> (try (simp; omega)) <;> (try omega)), by simp [go_sem, *], by simp [go_sem, *], by simp [go_sem, *], hput⟩
          case measure => simp only [intOf]; omega
        · have f : (bits .and .i64 (n : Int) 4 == 0) = false := by rw [Ha4.out, decide_eq_false hz]
          have hu : upto n 0 = upto n 1 := by simp [upto, bit, hz]
          rw [hu] at hrow
          clear hz hu
          go_wp2_with fail
          go_quiet (fail)
          go_wp2_with fail
          go_roundw
          case rel => exact ⟨1, rfl, by omega, by (repeat' (first | exact Below.refl _ _ | assumption | refine gr_drew ?_ | refine gr_drewN ?_ _ | refine gr_alloc ?_ _ | refine gr_set ?_ ?_ _ | refine gr_call ?_ (by assumption)) <;> (try (simp; done)) <;> (try (simp; omega)) <;> (try omega)), by simp [go_sem, *], by simp [go_sem, *], by simp [go_sem, *], hrow⟩
          case measure => simp only [intOf]; omega
      · -- letter 1
        have hx := hrow.cell 1 (by simp [upto])
        have hf := hrow.free 1 (by simp [upto])
        by_cases hz : n &&& 2 = 0
        · have f : (bits .and .i64 (n : Int) 2 == 0) = true := by rw [Ha2.out, decide_eq_true hz]
          have hu : (upto n 1).set 1 45 = upto n 2 := by simp [upto, bit, hz]
          have hput := (show RowIs wr.drew G 5 (upto n 1) from hrow).put 1 45
          rw [hu] at hput
          clear hz hu hrow
          go_wp2_with fail
          go_quiet (fail)
          go_wp2_with fail
          go_roundw
          case rel => exact ⟨2, rfl, by omega, by (repeat' (first | exact Below.refl _ _ | assumption | refine gr_drew ?_ | refine gr_drewN ?_ _ | refine gr_alloc ?_ _ | refine gr_set ?_ ?_ _ | refine gr_call ?_ (by assumption)) <;> (try (simp; done)) <;> (try (simp; omega)) <;> (try omega)), by simp [go_sem, *], by simp [go_sem, *], by simp [go_sem, *], hput⟩
          case measure => simp only [intOf]; omega
        · have f : (bits .and .i64 (n : Int) 2 == 0) = false := by rw [Ha2.out, decide_eq_false hz]
          have hu : upto n 1 = upto n 2 := by simp [upto, bit, hz]
          rw [hu] at hrow
          clear hz hu
          go_wp2_with fail
          go_quiet (fail)
          go_wp2_with fail
          go_roundw
          case rel => exact ⟨2, rfl, by omega, by (repeat' (first | exact Below.refl _ _ | assumption | refine gr_drew ?_ | refine gr_drewN ?_ _ | refine gr_alloc ?_ _ | refine gr_set ?_ ?_ _ | refine gr_call ?_ (by assumption)) <;> (try (simp; done)) <;> (try (simp; omega)) <;> (try omega)), by simp [go_sem, *], by simp [go_sem, *], by simp [go_sem, *], hrow⟩
          case measure => simp only [intOf]; omega
      · -- letter 2
        have hx := hrow.cell 2 (by simp [upto])
        have hf := hrow.free 2 (by simp [upto])
        by_cases hz : n &&& 1 = 0
        · have f : (bits .and .i64 (n : Int) 1 == 0) = true := by rw [Ha1.out, decide_eq_true hz]
          have hu : (upto n 2).set 2 45 = upto n 3 := by simp [upto, bit, hz]
          have hput := (show RowIs wr.drew G 5 (upto n 2) from hrow).put 2 45
          rw [hu] at hput
          clear hz hu hrow
          go_wp2_with fail
          go_quiet (fail)
          go_wp2_with fail
          go_roundw
          case rel => exact ⟨3, rfl, by omega, by (repeat' (first | exact Below.refl _ _ | assumption | refine gr_drew ?_ | refine gr_drewN ?_ _ | refine gr_alloc ?_ _ | refine gr_set ?_ ?_ _ | refine gr_call ?_ (by assumption)) <;> (try (simp; done)) <;> (try (simp; omega)) <;> (try omega)), by simp [go_sem, *], by simp [go_sem, *], by simp [go_sem, *], hput⟩
          case measure => simp only [intOf]; omega
        · have f : (bits .and .i64 (n : Int) 1 == 0) = false := by rw [Ha1.out, decide_eq_false hz]
          have hu : upto n 2 = upto n 3 := by have e : bit n 1 120 = 120 := if_neg hz; show [bit n 4 114, bit n 2 119, 120] = [bit n 4 114, bit n 2 119, bit n 1 120]; rw [e]
          rw [hu] at hrow
          clear hz hu
          go_wp2_with fail
          go_quiet (fail)
          go_wp2_with fail
          go_roundw
          case rel => exact ⟨3, rfl, by omega, by (repeat' (first | exact Below.refl _ _ | assumption | refine gr_drew ?_ | refine gr_drewN ?_ _ | refine gr_alloc ?_ _ | refine gr_set ?_ ?_ _ | refine gr_call ?_ (by assumption)) <;> (try (simp; done)) <;> (try (simp; omega)) <;> (try omega)), by simp [go_sem, *], by simp [go_sem, *], by simp [go_sem, *], hrow⟩
          case measure => simp only [intOf]; omega
      · have ht : t = 1 ∨ t = 2 ∨ t = 3 ∨ t = 4 ∨ t = 5 ∨ t = 6 := by omega
        obtain ⟨RW, hRW⟩ : ∃ RW : ByteArray, (⟨(upto n 3).toArray⟩ : ByteArray) = RW := ⟨_, rfl⟩
        have hsRW : RW.size = 3 := by rw [← hRW]; rfl
        have hlRW : RW.data.toList = upto n 3 := by rw [← hRW]
        have hcv : ∀ k, (convert 35 9 (.slice (some ⟨G, 0, none⟩) 3 3)).run Tryd.prog (wr.drewN k) = .ok (.string RW) (wr.drewN k) := fun k => by rw [← hRW]; exact (show RowIs (wr.drewN k) G 5 (upto n 3) from hrow).back 3 Tryd.underlying35 Tryd.underlying5 Tryd.underlying9
        rw [← hlRW] at HR
        clear hRW hlRW
        rcases ht with rfl | rfl | rfl | rfl | rfl | rfl
        all_goals
          have hR := Lib.hid (HR.out _ rfl)
          have hw2 : IntKind.i64.wrap 2 = 2 := rfl
          have hw3 : IntKind.i64.wrap 3 = 3 := rfl
          have hw4 : IntKind.i64.wrap 4 = 4 := rfl
          have hw5 : IntKind.i64.wrap 5 = 5 := rfl
          have hw6 : IntKind.i64.wrap 6 = 6 := rfl
          have hw7 : IntKind.i64.wrap 7 = 7 := rfl
          clear HR Ha4 Ha2 Ha1 h1 h2 hrow
          go_wp2_with fail
          go_quiet (fail)
          go_wp2_with fail
          go_ret
          exact ⟨by rw [← hR.out]; exact five rfl, by (repeat' (first | exact Below.refl _ _ | assumption | refine gr_drew ?_ | refine gr_drewN ?_ _ | refine gr_alloc ?_ _ | refine gr_set ?_ ?_ _ | refine gr_call ?_ (by assumption)) <;> (try (simp; done)) <;> (try (simp; omega)) <;> (try omega))⟩
end Go.Proofs.YtdjffnhkfpjafaaDoor
