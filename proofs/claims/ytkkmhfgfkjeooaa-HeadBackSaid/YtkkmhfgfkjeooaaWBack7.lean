/- The law HeadBack in its frame's words. -/
import Derived.Test.YtkkmhfgfkjeooaaWHeadBack
namespace Go.Proofs.Ytkkmhfgfkjeooaa
open Go.RowKit
set_option linter.unusedVariables false
theorem boundsU16 {n : Int} (h : (Lit.int .u16 n).wf = true) : 0 ≤ n ∧ n ≤ 65535 := by
  have hmin : IntKind.u16.min = 0 := rfl
  have hmax : IntKind.u16.max = 65535 := rfl
  simp only [Lit.wf, Bool.and_eq_true, decide_eq_true_eq] at h
  omega
theorem headBack_walk (a0 : ByteArray) (a1 : ByteArray) (a2 : Option Addr) (len2 cap2 : Nat) (z2 : List Int) (a3 : Int) (a4 : Int) (a5 : Int) (a6 : ByteArray) (w : World) (w0 : a0.size ≤ maxLen) (w1 : a1.size ≤ maxLen) (w2 : IsRow .u32 w a2 len2 cap2 z2) (w3 : (Lit.int .u8 a3).wf = true) (w4 : (Lit.int .u16 a4).wf = true) (w5 : (Lit.int .u8 a5).wf = true) (w6 : a6.size ≤ maxLen) :
    Calls Try.prog 4 #[.string a0, .string a1, .slice a2 len2 cap2, .int .u8 a3, .int .u16 a4, .int .u8 a5, .string a6] w fun e w' => e = .returned (.bool true) ∧ Below w.heap.size w w' :=
  back_true a0 a1 a2 len2 cap2 z2 a3 a4 a5 a6 (boundsU8 w3) (boundsU16 w4) (boundsU8 w5) w w2
end Go.Proofs.Ytkkmhfgfkjeooaa
