/- The law HeadSplits in its frame's words. -/
import Derived.Test.YtkkmhfgfkjeooaaWHeadSplits
namespace Go.Proofs.Ytkkmhfgfkjeooaa
open Go.RowKit
theorem headSplits_walk (a0 : Option Addr) (len0 cap0 : Nat) (z0 : List Int) (w : World) (w0 : IsRow .u8 w a0 len0 cap0 z0) :
    Calls Try.prog 5 #[.slice a0 len0 cap0] w fun e w' => e = .returned (.bool true) ∧ Below w.heap.size w w' :=
  splits_true a0 len0 cap0 z0 w w0
end Go.Proofs.Ytkkmhfgfkjeooaa
