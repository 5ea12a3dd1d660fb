/- The document's answer: the four bytes at a place. -/
import Derived.Test.YtijagjahocjaaaaCapsAwake
import Derived.Deep.QuietTactic
import Derived.BigQuiet
namespace Go.Proofs.Ytijagjahocjaaaa
open Go.RowKit
open CapsM
set_option linter.unusedVariables false

theorem or64 (a c k : Nat) (hk : k < 4) (ha : a < 256 ^ k) (hc : c < 256) : bits .or .u64 (a : Int) ((c * 256 ^ k : Nat) : Int) = ((a + c * 256 ^ k : Nat) : Int) := by
  have h4 : 256 ^ k ≤ 16777216 := by
    have : k = 0 ∨ k = 1 ∨ k = 2 ∨ k = 3 := by omega
    rcases this with rfl | rfl | rfl | rfl <;> decide
  have h5 : c * 256 ^ k ≤ 255 * 16777216 := Nat.mul_le_mul (by omega) h4
  rw [u64_or_nat _ _ (by omega) (by omega)]
  have e : (256 : Nat) ^ k = 2 ^ (8 * k) := by rw [show (256 : Nat) = 2 ^ 8 from rfl, ← Nat.pow_mul]
  rw [e] at ha ⊢
  have := Nat.two_pow_add_eq_or_of_lt ha c
  rw [Nat.mul_comm c, Nat.or_comm, ← this, Nat.add_comm]

set_option maxHeartbeats 1600000 in
theorem word_any (S : ByteArray) (hS : S.size ≤ 800000) (a : Nat) (ha : a ≤ 20) (w : World) :
    Calls Try.prog 17 #[.string S, .int .i64 (a : Int)] w fun e w' => e = .returned (.int .u64 (le4 (S.data.toList.drop a) : Int)) ∧ Below w.heap.size w w' := by
  obtain ⟨n, hn⟩ : ∃ n, S.size = n := ⟨_, rfl⟩
  obtain ⟨q4, hq4⟩ : ∃ q, a + 4 = q := ⟨_, rfl⟩
  have hw4 : (a : Int) + 4 = (q4 : Int) := by omega
  by_cases h4 : n < q4
  · have t1 : decide ((n : Int) < (q4 : Int)) = true := decide_eq_true (by omega)
    have t2 : decide (n < q4) = true := decide_eq_true h4
    have HE := Lib.hid (show le4 (S.data.toList.drop a) = 0 from le4_short (by rw [List.length_drop, len_list, hn]; omega))
    clear hq4 h4 hS
    go_enter Try.func17, Try.ntmps17
    go_wp2_with fail
    go_ret
    exact ⟨by rw [HE.out]; rfl, Below.refl _ _⟩
  have t1 : decide ((n : Int) < (q4 : Int)) = false := decide_eq_false (by omega)
  have t2 : decide (n < q4) = false := decide_eq_false h4
  obtain ⟨q1, hq1⟩ : ∃ q, a + 1 = q := ⟨_, rfl⟩
  obtain ⟨q2, hq2⟩ : ∃ q, a + 2 = q := ⟨_, rfl⟩
  obtain ⟨q3, hq3⟩ : ∃ q, a + 3 = q := ⟨_, rfl⟩
  have hw1 : IntKind.i64.wrap ((a : Int) + 1) = (q1 : Int) := by rw [IntKind.wrap_i64]; omega
  have hw2 : IntKind.i64.wrap ((a : Int) + 2) = (q2 : Int) := by rw [IntKind.wrap_i64]; omega
  have hw3 : IntKind.i64.wrap ((a : Int) + 3) = (q3 : Int) := by rw [IntKind.wrap_i64]; omega
  obtain ⟨c0, hc0, hi0⟩ := idxAt (P := Try.prog) Try.underlying9 S a (by omega)
  obtain ⟨c1, hc1, hi1⟩ := idxAt (P := Try.prog) Try.underlying9 S q1 (by omega)
  obtain ⟨c2, hc2, hi2⟩ := idxAt (P := Try.prog) Try.underlying9 S q2 (by omega)
  obtain ⟨c3, hc3, hi3⟩ := idxAt (P := Try.prog) Try.underlying9 S q3 (by omega)
  have b0 := c0.toNat_lt
  have b1 := c1.toNat_lt
  have b2 := c2.toNat_lt
  have b3 := c3.toNat_lt
  have HE := Lib.hid (show le4 (S.data.toList.drop a) = ((c0.toNat + c1.toNat * 256 ^ 1) + c2.toNat * 256 ^ 2) + c3.toNat * 256 ^ 3 by
    rw [dropAt hc0, hq1, dropAt hc1, show q1 + 1 = q2 by omega, dropAt hc2, show q2 + 1 = q3 by omega, dropAt hc3]
    simp [le4])
  have o1 := or64 c0.toNat c1.toNat 1 (by decide) (by omega) b1
  have o2 := or64 (c0.toNat + c1.toNat * 256 ^ 1) c2.toNat 2 (by decide) (by omega) b2
  have o3 := or64 ((c0.toNat + c1.toNat * 256 ^ 1) + c2.toNat * 256 ^ 2) c3.toNat 3 (by decide) (by omega) b3
  obtain ⟨D1, hD1⟩ : ∃ D, c0.toNat + c1.toNat * 256 ^ 1 = D := ⟨_, rfl⟩
  rw [hD1] at o1 o2 o3 HE
  obtain ⟨D2, hD2⟩ : ∃ D, D1 + c2.toNat * 256 ^ 2 = D := ⟨_, rfl⟩
  rw [hD2] at o2 o3 HE
  obtain ⟨D3, hD3⟩ : ∃ D, D2 + c3.toNat * 256 ^ 3 = D := ⟨_, rfl⟩
  rw [hD3] at o3 HE
  obtain ⟨E1, hE1⟩ : ∃ D, c1.toNat * 256 ^ 1 = D := ⟨_, rfl⟩
  obtain ⟨E2, hE2⟩ : ∃ D, c2.toNat * 256 ^ 2 = D := ⟨_, rfl⟩
  obtain ⟨E3, hE3⟩ : ∃ D, c3.toNat * 256 ^ 3 = D := ⟨_, rfl⟩
  rw [hE1] at o1
  rw [hE2] at o2
  rw [hE3] at o3
  have k0 : IntKind.u64.wrap (c0.toNat : Int) = (c0.toNat : Int) := by rw [IntKind.wrap_u64]; omega
  have k1 : IntKind.u64.wrap (c1.toNat : Int) = (c1.toNat : Int) := by rw [IntKind.wrap_u64]; omega
  have k2 : IntKind.u64.wrap (c2.toNat : Int) = (c2.toNat : Int) := by rw [IntKind.wrap_u64]; omega
  have k3 : IntKind.u64.wrap (c3.toNat : Int) = (c3.toNat : Int) := by rw [IntKind.wrap_u64]; omega
  have s1 : IntKind.u64.wrap ((c1.toNat : Int) * 256) = (E1 : Int) := by rw [IntKind.wrap_u64]; omega
  have s2 : IntKind.u64.wrap ((c2.toNat : Int) * 65536) = (E2 : Int) := by rw [IntKind.wrap_u64]; omega
  have s3 : IntKind.u64.wrap ((c3.toNat : Int) * 16777216) = (E3 : Int) := by rw [IntKind.wrap_u64]; omega
  clear hq4 h4 hq1 hq2 hq3 hc0 hc1 hc2 hc3 b0 b1 b2 b3 hD1 hD2 hD3 hE1 hE2 hE3
  generalize c0.toNat = z0 at *
  generalize c1.toNat = z1 at *
  generalize c2.toNat = z2 at *
  generalize c3.toNat = z3 at *
  go_enter Try.func17, Try.ntmps17
  go_wp2_with fail
  go_quiet (fail)
  go_wp2_with fail
  go_ret
  exact ⟨by rw [HE.out]; rfl, by (repeat' (first | exact Below.refl _ _ | assumption | refine gr_drew ?_ | refine gr_drewN ?_ _ | refine gr_alloc ?_ _ | refine gr_set ?_ ?_ _ | refine gr_call ?_ (by assumption)) <;> (try (simp; done)) <;> (try (simp; omega)) <;> (try omega))⟩
end Go.Proofs.Ytijagjahocjaaaa
