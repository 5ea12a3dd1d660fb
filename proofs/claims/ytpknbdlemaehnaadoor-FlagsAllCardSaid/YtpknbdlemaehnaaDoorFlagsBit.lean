/- Walks over package flags: May, bitOf. -/
import Derived.Test.YtpknbdlemaehnaaDoorFlagsAmb
import Derived.Test.YtpknbdlemaehnaaDoorChecked
import Derived.Deep.QuietTactic
import Derived.BigQuiet
import Derived.Outline
import Derived.Recover
namespace Go.Proofs.YtpknbdlemaehnaaDoor
open Go.RowKit
open FlagsM
set_option linter.unusedVariables false

/-- What the parsing ends with where it meets what no text has. -/
def noFlags : List PanicEntry := [{ v := .iface 37 (.agg #[]), recovered := false }]
/-- How it ends. -/
def natEnd (o : Option Nat) (e : Ending) : Prop := match o with
  | some n => e = .returned (.int .i64 (n : Int))
  | none => e = .panicked noFlags

theorem may_any (n : Int) (w : World) : Calls Tryd.prog 9 #[.int .i64 n] w fun e w' => e = .returned (.bool (mayI n)) ∧ w' = w := by
  have Hd := Lib.hid (show mayI n = (decide (0 ≤ n) && decide (n ≤ 15)) from rfl)
  by_cases h1 : 0 ≤ n
  · go_enter Tryd.func9, Tryd.ntmps9
    go_wp2_with fail
    go_ret
    exact ⟨ret_bool (by rw [Hd.out, decide_eq_true h1]; rfl), rfl⟩
  · go_enter Tryd.func9, Tryd.ntmps9
    go_wp2_with fail
    go_ret
    exact ⟨ret_bool (by rw [Hd.out, decide_eq_false (by omega)]; rfl), rfl⟩
theorem refMay_any (n : Int) (w : World) : Calls Tryd.prog 10 #[.int .i64 n] w fun e w' => e = .returned (.bool (mayI n)) ∧ w' = w := by
  have Hd := Lib.hid (show mayI n = (decide (0 ≤ n) && decide (n ≤ 15)) from rfl)
  by_cases h1 : 0 ≤ n
  · go_enter Tryd.func10, Tryd.ntmps10
    go_wp2_with fail
    go_ret
    exact ⟨ret_bool (by rw [Hd.out, decide_eq_true h1]; rfl), rfl⟩
  · go_enter Tryd.func10, Tryd.ntmps10
    go_wp2_with fail
    go_ret
    exact ⟨ret_bool (by rw [Hd.out, decide_eq_false (by omega)]; rfl), rfl⟩

/-- The names in the table, each by its letters. -/
theorem Amb.named {w : World} (h : Amb w) : ∃ N0 N1 N2 N3 : ByteArray, (w.cell? ⟨0, 0, none⟩ = some (.string N0) ∧ w.cell? ⟨0, 1, none⟩ = some (.string N1) ∧
    w.cell? ⟨0, 2, none⟩ = some (.string N2) ∧ w.cell? ⟨0, 3, none⟩ = some (.string N3)) ∧ Hid (N0 = strOf (nm 0) ∧ N1 = strOf (nm 1) ∧ N2 = strOf (nm 2) ∧ N3 = strOf (nm 3)) :=
  ⟨_, _, _, _, h.cells, Lib.hid ⟨rfl, rfl, rfl, rfl⟩⟩
theorem place_yes {s : List UInt8} {i : Nat} (hi : i < 4) (h : s = nm i) : place s = some i := by
  subst h
  obtain rfl | rfl | rfl | rfl : i = 0 ∨ i = 1 ∨ i = 2 ∨ i = 3 := by omega
  all_goals rfl
theorem place_no {s : List UInt8} (h : ∀ i, i < 4 → s ≠ nm i) : place s = none := by
  unfold place
  rw [if_neg (h 0 (by decide)), if_neg (h 1 (by decide)), if_neg (h 2 (by decide)), if_neg (h 3 (by decide))]
theorem beq_strOf (A : ByteArray) (l : List UInt8) : (A.toList == (strOf l).toList) = decide (A.data.toList = l) := by rw [str_beq, strOf_list]

set_option maxHeartbeats 1600000 in
theorem bitOf_any (p : ByteArray) (w : World) (hA : Amb w) :
    Calls Tryd.prog 16 #[.string p] w fun e w' => natEnd ((place p.data.toList).map (2 ^ ·)) e ∧ w' = w := by
  obtain ⟨N0, N1, N2, N3, ⟨c0, c1, c2, c3⟩, HN⟩ := hA.named
  have b0 : (p.toList == N0.toList) = decide (p.data.toList = nm 0) := by rw [HN.out.1, beq_strOf]
  have b1 : (p.toList == N1.toList) = decide (p.data.toList = nm 1) := by rw [HN.out.2.1, beq_strOf]
  have b2 : (p.toList == N2.toList) = decide (p.data.toList = nm 2) := by rw [HN.out.2.2.1, beq_strOf]
  have b3 : (p.toList == N3.toList) = decide (p.data.toList = nm 3) := by rw [HN.out.2.2.2, beq_strOf]
  have HY := Lib.hid (fun i (hi : i < 4) (h : p.data.toList = nm i) => place_yes hi h)
  have HZ := Lib.hid (fun (h : ∀ i, i < 4 → p.data.toList ≠ nm i) => place_no h)
  have B0 := Lib.hid b0
  have B1 := Lib.hid b1
  have B2 := Lib.hid b2
  have B3 := Lib.hid b3
  clear b0 b1 b2 b3 HN
  go_enter Tryd.func16, Tryd.ntmps16
  go_wp2_with fail
  go_loopw [6] (fun iv wr => ∃ i : Nat, iv = .int .i64 (i : Int) ∧ i ≤ 4 ∧ wr = w ∧ Hid (∀ j, j < i → p.data.toList ≠ nm j)) (fun iv _ => 4 - (intOf iv).toNat)
  case atStart => exact ⟨0, rfl, by omega, rfl, Lib.hid (fun j h => by omega)⟩
  case round =>
    obtain ⟨i, rfl, hi, rfl, HR⟩ := hrel
    obtain rfl | rfl | rfl | rfl | rfl : i = 0 ∨ i = 1 ∨ i = 2 ∨ i = 3 ∨ i = 4 := by omega
    · have hx : ∀ W, (Instr.index 33 (.agg #[.string N0, .string N1, .string N2, .string N3]) (.int .i64 0)).run Tryd.prog W = .ok (.string N0) W := fun W => by kernel_rfl
      by_cases hq : p.data.toList = nm 0
      · have hb := B0.out
        rw [decide_eq_true hq] at hb
        have HE := Lib.hid (HY.out 0 (by decide) hq)
        clear HR HY HZ hq
        go_wp2_with fail
        go_ret
        exact ⟨by rw [HE.out]; rfl, rfl⟩
      · have hb := B0.out
        rw [decide_eq_false hq] at hb
        have HR2 : Hid (∀ j, j < 1 → p.data.toList ≠ nm j) := Lib.hid (fun j hj => by
          by_cases hji : j = 0
          · subst hji; exact hq
          · exact HR.out j (by omega))
        clear HR HY HZ hq
        go_wp2_with fail
        go_roundw
        case rel => exact ⟨1, rfl, by omega, by first | trivial | rfl, HR2⟩
        case measure => simp only [intOf]; omega
    · have hx : ∀ W, (Instr.index 33 (.agg #[.string N0, .string N1, .string N2, .string N3]) (.int .i64 1)).run Tryd.prog W = .ok (.string N1) W := fun W => by kernel_rfl
      by_cases hq : p.data.toList = nm 1
      · have hb := B1.out
        rw [decide_eq_true hq] at hb
        have HE := Lib.hid (HY.out 1 (by decide) hq)
        clear HR HY HZ hq
        go_wp2_with fail
        go_ret
        exact ⟨by rw [HE.out]; rfl, rfl⟩
      · have hb := B1.out
        rw [decide_eq_false hq] at hb
        have HR2 : Hid (∀ j, j < 2 → p.data.toList ≠ nm j) := Lib.hid (fun j hj => by
          by_cases hji : j = 1
          · subst hji; exact hq
          · exact HR.out j (by omega))
        clear HR HY HZ hq
        go_wp2_with fail
        go_roundw
        case rel => exact ⟨2, rfl, by omega, by first | trivial | rfl, HR2⟩
        case measure => simp only [intOf]; omega
    · have hx : ∀ W, (Instr.index 33 (.agg #[.string N0, .string N1, .string N2, .string N3]) (.int .i64 2)).run Tryd.prog W = .ok (.string N2) W := fun W => by kernel_rfl
      by_cases hq : p.data.toList = nm 2
      · have hb := B2.out
        rw [decide_eq_true hq] at hb
        have HE := Lib.hid (HY.out 2 (by decide) hq)
        clear HR HY HZ hq
        go_wp2_with fail
        go_ret
        exact ⟨by rw [HE.out]; rfl, rfl⟩
      · have hb := B2.out
        rw [decide_eq_false hq] at hb
        have HR2 : Hid (∀ j, j < 3 → p.data.toList ≠ nm j) := Lib.hid (fun j hj => by
          by_cases hji : j = 2
          · subst hji; exact hq
          · exact HR.out j (by omega))
        clear HR HY HZ hq
        go_wp2_with fail
        go_roundw
        case rel => exact ⟨3, rfl, by omega, by first | trivial | rfl, HR2⟩
        case measure => simp only [intOf]; omega
    · have hx : ∀ W, (Instr.index 33 (.agg #[.string N0, .string N1, .string N2, .string N3]) (.int .i64 3)).run Tryd.prog W = .ok (.string N3) W := fun W => by kernel_rfl
      by_cases hq : p.data.toList = nm 3
      · have hb := B3.out
        rw [decide_eq_true hq] at hb
        have HE := Lib.hid (HY.out 3 (by decide) hq)
        clear HR HY HZ hq
        go_wp2_with fail
        go_ret
        exact ⟨by rw [HE.out]; rfl, rfl⟩
      · have hb := B3.out
        rw [decide_eq_false hq] at hb
        have HR2 : Hid (∀ j, j < 4 → p.data.toList ≠ nm j) := Lib.hid (fun j hj => by
          by_cases hji : j = 3
          · subst hji; exact hq
          · exact HR.out j (by omega))
        clear HR HY HZ hq
        go_wp2_with fail
        go_roundw
        case rel => exact ⟨4, rfl, by omega, by first | trivial | rfl, HR2⟩
        case measure => simp only [intOf]; omega
    · have HE := Lib.hid (HZ.out HR.out)
      clear HR HZ HY
      go_wp2_with fail
      exact ⟨rfl, by rw [HE.out]; rfl, rfl⟩
end Go.Proofs.YtpknbdlemaehnaaDoor
