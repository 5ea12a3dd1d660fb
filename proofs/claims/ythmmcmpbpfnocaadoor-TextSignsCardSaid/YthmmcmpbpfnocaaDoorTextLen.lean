/- Walks over package text: length. -/
import Derived.Test.YthmmcmpbpfnocaaDoorTextWalk
namespace Go.Proofs.YthmmcmpbpfnocaaDoor
open Go.RowKit
open TextM
set_option linter.unusedVariables false

set_option maxHeartbeats 1600000 in
theorem length_any (c : UInt8) (w : World) (hA : Amb w) :
    Calls Tryd.prog 19 #[.int .u8 (c.toNat : Int)] w fun e w' => e = .returned (.int .i64 (lenOf c : Int)) ∧ Below w.heap.size w w' := by
  obtain ⟨n, hn⟩ : ∃ n, c.toNat = n := ⟨_, rfl⟩
  have hn2 : n < 256 := by have := c.toNat_lt; omega
  have HL := Lib.hid (show (lenOf c = 1 ∧ n < 128) ∨ (lenOf c = 2 ∧ n / 32 = 6) ∨ (lenOf c = 3 ∧ n / 16 = 14) ∨ (lenOf c = 4 ∧ n / 8 = 30) ∨ (lenOf c = 0 ∧ ¬ n < 128 ∧ ¬ n / 32 = 6 ∧ ¬ n / 16 = 14 ∧ ¬ n / 8 = 30) by
    unfold lenOf
    rw [hn]
    split
    · omega
    · split
      · omega
      · split
        · omega
        · split <;> omega)
  generalize lenOf c = m at *
  rw [hn]
  clear hn
  go_enter Tryd.func19, Tryd.ntmps19
  go_wp2_with fail
  go_loopw [4] (fun iv wr => ∃ i : Nat, iv = .int .i64 (i : Int) ∧ i ≤ 4 ∧ Below w.heap.size w wr ∧ (m = 0 ∨ i + 1 ≤ m)) (fun iv _ => 4 - (intOf iv).toNat)
  case atStart => exact ⟨0, rfl, by omega, Below.refl _ _, by rcases HL.out with h | h | h | h | h <;> omega⟩
  case round =>
    obtain ⟨i, rfl, hi, hbl, him⟩ := hrel
    rename_i wr
    have hA' : Amb wr := hA.on hbl
    obtain ⟨c0, c1, c2, c3, c4, c5, c6, c7, c8, c9, c10, c11⟩ := hA'.cells
    obtain rfl | rfl | rfl | rfl | rfl : i = 0 ∨ i = 1 ∨ i = 2 ∨ i = 3 ∨ i = 4 := by omega
    · clear c2 c3 c4 c5 c6 c7 c8 c9 c10 c11
      have HL := HL.out
      by_cases ht : m = 1
      · have hq : ((n : Int) / 128 == 0) = true := by rcases HL with h | h | h | h | h <;> (rw [beq_iff_eq]; omega)
        clear HL
        go_wp2_with fail
        go_quiet (fail)
        go_wp2_with fail
        subst ht
        exact bodyPost_ret (v := .int .i64 (1 : Nat)) (by simp [results, Tryd.results19, go_sem, *]) rfl ⟨rfl, gr_drewN hbl _⟩
      · have hq : ((n : Int) / 128 == 0) = false := by
          rw [beq_eq_false_iff_ne]
          rcases HL with h | h | h | h | h <;> omega
        have him2 : m = 0 ∨ 1 + 1 ≤ m := by omega
        clear HL him
        go_wp2_with fail
        go_quiet (fail)
        go_wp2_with fail
        go_roundw
        case rel => exact ⟨1, rfl, by omega, gr_drewN hbl _, him2⟩
        case measure => simp only [intOf]; omega
    · clear c0 c1 c2 c5 c6 c7 c8 c9 c10 c11
      have HL := HL.out
      by_cases ht : m = 2
      · have hq : ((n : Int) / 32 == 6) = true := by rcases HL with h | h | h | h | h <;> (rw [beq_iff_eq]; omega)
        clear HL
        go_wp2_with fail
        go_quiet (fail)
        go_wp2_with fail
        subst ht
        exact bodyPost_ret (v := .int .i64 (2 : Nat)) (by simp [results, Tryd.results19, go_sem, *]) rfl ⟨rfl, gr_drewN hbl _⟩
      · have hq : ((n : Int) / 32 == 6) = false := by
          rw [beq_eq_false_iff_ne]
          rcases HL with h | h | h | h | h <;> omega
        have him2 : m = 0 ∨ 2 + 1 ≤ m := by omega
        clear HL him
        go_wp2_with fail
        go_quiet (fail)
        go_wp2_with fail
        go_roundw
        case rel => exact ⟨2, rfl, by omega, gr_drewN hbl _, him2⟩
        case measure => simp only [intOf]; omega
    · clear c0 c1 c2 c3 c4 c5 c8 c9 c10 c11
      have HL := HL.out
      by_cases ht : m = 3
      · have hq : ((n : Int) / 16 == 14) = true := by rcases HL with h | h | h | h | h <;> (rw [beq_iff_eq]; omega)
        clear HL
        go_wp2_with fail
        go_quiet (fail)
        go_wp2_with fail
        subst ht
        exact bodyPost_ret (v := .int .i64 (3 : Nat)) (by simp [results, Tryd.results19, go_sem, *]) rfl ⟨rfl, gr_drewN hbl _⟩
      · have hq : ((n : Int) / 16 == 14) = false := by
          rw [beq_eq_false_iff_ne]
          rcases HL with h | h | h | h | h <;> omega
        have him2 : m = 0 ∨ 3 + 1 ≤ m := by omega
        clear HL him
        go_wp2_with fail
        go_quiet (fail)
        go_wp2_with fail
        go_roundw
        case rel => exact ⟨3, rfl, by omega, gr_drewN hbl _, him2⟩
        case measure => simp only [intOf]; omega
    · clear c0 c1 c2 c3 c4 c5 c6 c7 c8 c11
      have HL := HL.out
      by_cases ht : m = 4
      · have hq : ((n : Int) / 8 == 30) = true := by rcases HL with h | h | h | h | h <;> (rw [beq_iff_eq]; omega)
        clear HL
        go_wp2_with fail
        go_quiet (fail)
        go_wp2_with fail
        subst ht
        exact bodyPost_ret (v := .int .i64 (4 : Nat)) (by simp [results, Tryd.results19, go_sem, *]) rfl ⟨rfl, gr_drewN hbl _⟩
      · have hq : ((n : Int) / 8 == 30) = false := by
          rw [beq_eq_false_iff_ne]
          rcases HL with h | h | h | h | h <;> omega
        have him2 : m = 0 ∨ 4 + 1 ≤ m := by omega
        clear HL him
        go_wp2_with fail
        go_quiet (fail)
        go_wp2_with fail
        go_roundw
        case rel => exact ⟨4, rfl, by omega, gr_drewN hbl _, him2⟩
        case measure => simp only [intOf]; omega
    · have h0 : m = 0 := by rcases HL.out with h | h | h | h | h <;> omega
      clear c0 c1 c2 c3 c4 c5 c6 c7 c8 c9 c10 c11
      go_wp2_with fail
      subst h0
      go_ret
      exact ⟨rfl, hbl⟩
end Go.Proofs.YthmmcmpbpfnocaaDoor
