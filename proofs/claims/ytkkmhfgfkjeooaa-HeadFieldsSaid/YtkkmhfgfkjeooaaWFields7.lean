/- The law HeadFields in its frame's words. -/
import Derived.Test.YtkkmhfgfkjeooaaWHeadFields
namespace Go.Proofs.Ytkkmhfgfkjeooaa
open Go.RowKit
set_option linter.unusedVariables false
theorem headFields_walk (a0 : ByteArray) (a1 : ByteArray) (a2 : Option Addr) (len2 cap2 : Nat) (z2 : List Int) (a3 : Int) (w : World) (w0 : a0.size ≤ maxLen) (w1 : a1.size ≤ maxLen) (w2 : IsRow .u32 w a2 len2 cap2 z2) (w3 : (Lit.int .u8 a3).wf = true) :
    Calls Try.prog 7 #[.string a0, .string a1, .slice a2 len2 cap2, .int .u8 a3] w fun e w' => e = .returned (.bool true) ∧ Below w.heap.size w w' :=
  fields_true a0 a1 a2 len2 cap2 z2 a3 (boundsU8 w3) w w2
end Go.Proofs.Ytkkmhfgfkjeooaa
