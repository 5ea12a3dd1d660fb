/- The law PadSizes, walked. -/
import Derived.Test.YtkklgdefliinoaaDoorPadFacts
import Derived.Test.YtkklgdefliinoaaDoorPadAmb
namespace Go.Proofs.YtkklgdefliinoaaDoor
open Go.RowKit
open PadM
set_option linter.unusedVariables false

set_option maxHeartbeats 1600000 in
theorem padSizes_walk (a0 : Int) (a1 : Int) (w : World) (hA : Amb w) (w0 : (Lit.int .u32 a0).wf = true) (w1 : (Lit.int .i64 a1).wf = true) :
    Calls Tryd.prog 5 #[.int .u32 a0, .int .i64 a1] w fun e w' => e = .returned (.bool true) ∧ Below w.heap.size w w' := by
  have hb0 : 0 ≤ a0 ∧ a0 ≤ 4294967295 := by simpa [Lit.wf, IntKind.min, IntKind.max, IntKind.signed, IntKind.bits] using w0
  have hsz := sz_in (n := a0) hb0.1 (by omega)
  obtain ⟨K, hK⟩ : ∃ K : Nat, sz a0 = (K : Int) := ⟨(sz a0).toNat, by have := (sz_range a0).1; omega⟩
  obtain ⟨N, rfl⟩ : ∃ N : Nat, a0 = (N : Int) := ⟨a0.toNat, by omega⟩
  have hKK : sz (K : Int) = (K : Int) := by rw [← hK]; exact sz_sz _
  have hbig : sz 4611686018427387904 = 4611686018427387904 := sz_big (by omega)
  have hzero : sz 0 = 0 := sz_neg (by omega)
  rw [hK] at hsz
  have hmod : (K : Int).tmod 512 = 0 := by rw [Int.tmod_eq_emod_of_nonneg (by omega)]; exact hsz.2.2.2
  have hmod2 : K % 512 = 0 := by have := hsz.2.2.2; omega
  have hmod3 : (K : Int) % 512 = 0 := hsz.2.2.2
  have hge : (N : Int) ≤ (K : Int) := hsz.1
  have hge2 : N ≤ K := by omega
  have hlt : (K : Int) < (N : Int) + 512 := hsz.2.1
  have hlt2 : K < N + 512 := by omega
  have hN : N ≤ 4294967295 := by omega
  have hwr : IntKind.i64.wrap ((N : Int) + 512) = (N : Int) + 512 := by rw [IntKind.wrap_i64]; omega
  have hwn : IntKind.i64.wrap (N : Int) = (N : Int) := by rw [IntKind.wrap_i64]; omega
  have hsN := fun w => size_any (N : Int) w
  rw [hK] at hsN
  have hsK := fun w => size_any (K : Int) w
  rw [hKK] at hsK
  have hsB := fun w => size_any 4611686018427387904 w
  rw [hbig] at hsB
  have hs0 := fun w => size_any 0 w
  rw [hzero] at hs0
  have hs1 := fun w => size_any (min a1 0) w
  rw [sz_neg (by omega)] at hs1
  have hs2 := fun w => size_any (max a1 4611686018427387904) w
  rw [sz_big (by omega)] at hs2
  have haw := awake_true
  replace hsN := Lib.hid hsN
  replace hsK := Lib.hid hsK
  replace hsB := Lib.hid hsB
  replace hs0 := Lib.hid hs0
  replace haw := Lib.hid haw
  clear hsz hK hKK hbig hzero hb0 w0 w1
  replace hs1 := Lib.hid hs1
  replace hs2 := Lib.hid hs2
  go_enter Tryd.func5, Tryd.ntmps5
  go_wp2_with fail
  refine (hsN.out _).mono ?_
  rintro e w1 ⟨rfl, rfl⟩
  go_wp2_with fail
  refine (hs1.out _).mono ?_
  rintro e w1 ⟨rfl, rfl⟩
  go_wp2_with fail
  refine (hsK.out _).mono ?_
  rintro e w1 ⟨rfl, rfl⟩
  go_wp2_with fail
  refine (hsB.out _).mono ?_
  rintro e w1 ⟨rfl, rfl⟩
  go_wp2_with fail
  refine (hs2.out _).mono ?_
  rintro e w1 ⟨rfl, rfl⟩
  go_wp2_with fail
  refine (haw.out _).mono ?_
  rintro e w1 ⟨rfl, hb1⟩
  go_wp2_with fail
  go_ret
  exact ⟨rfl, hb1⟩
end Go.Proofs.YtkklgdefliinoaaDoor
