/- The law HeadAll in its frame's words. -/
import Derived.Test.YtkkmhfgfkjeooaaWHeadAll
import Derived.Test.YtkkmhfgfkjeooaaHeadFrame
import Derived.Test.YtkkmhfgfkjeooaaNumAwake
namespace Go.Proofs.Ytkkmhfgfkjeooaa
open Go.RowKit
open HeadM
set_option linter.unusedVariables false
theorem headAll_walk (a0_0 : ByteArray) (a0_1 : Int) (a0_2 : Int) (a0_3 : Int) (a0_4 : Int) (a0_5 : Int) (a0_6 : Int) (a0_7 : ByteArray) (a0_8 : ByteArray) (a0_9 : ByteArray) (a0_10 : Int) (a0_11 : Int) (a0_12 : ByteArray) (a1 : ByteArray) (a2 : ByteArray) (w : World) (w0_1 : (Lit.int .i64 a0_1).wf = true) (w0_2 : (Lit.int .i64 a0_2).wf = true) (w0_3 : (Lit.int .i64 a0_3).wf = true) (w0_4 : (Lit.int .i64 a0_4).wf = true) (w0_5 : (Lit.int .i64 a0_5).wf = true) (w0_6 : (Lit.int .u8 a0_6).wf = true) (w0_10 : (Lit.int .i64 a0_10).wf = true) (w0_11 : (Lit.int .i64 a0_11).wf = true) (z0 : a0_0.size ≤ 140737488351232) (y0 : a0_12.size ≤ 140737488351232) (w1 : a1.size ≤ maxLen) (w2 : a2.size ≤ maxLen) :
    Calls Try.prog 3 #[.agg #[.string a0_0, .int .i64 a0_1, .int .i64 a0_2, .int .i64 a0_3, .int .i64 a0_4, .int .i64 a0_5, .int .u8 a0_6, .string a0_7, .string a0_8, .string a0_9, .int .i64 a0_10, .int .i64 a0_11, .string a0_12], .string a1, .string a2] w fun e w' => e = .returned (.bool true) ∧ Below w.heap.size w w' := by
  obtain ⟨h0, h1⟩ := boundsU8 w0_6
  obtain ⟨c, rfl⟩ : ∃ c : UInt8, a0_6 = (c.toNat : Int) := ⟨UInt8.ofNat a0_6.toNat, by
    rw [UInt8.toNat_ofNat_of_lt' (by have : UInt8.size = 256 := rfl; omega)]; omega⟩
  exact all_true ⟨a0_0, a0_1, a0_2, a0_3, a0_4, a0_5, c, a0_7, a0_8, a0_9, a0_10, a0_11, a0_12⟩ ⟨bounds64 w0_1, bounds64 w0_2, bounds64 w0_3, bounds64 w0_4, bounds64 w0_5, bounds64 w0_10, bounds64 w0_11⟩ z0 y0 a1 a2 w
end Go.Proofs.Ytkkmhfgfkjeooaa
