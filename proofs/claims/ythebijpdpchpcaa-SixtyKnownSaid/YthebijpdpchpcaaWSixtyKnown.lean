/- The walk of the law SixtyKnown: its ten rows. -/
import Derived.Test.YthebijpdpchpcaaWKnown1
import Derived.Test.YthebijpdpchpcaaWKnown2
namespace Go.Proofs.Ythebijpdpchpcaa
open Go.RowKit

theorem sixtyKnown_walk (a0 : Int) (w : World) (w0 : (Lit.int .u8 a0).wf = true) :
    Calls Try.prog 6 #[.int .u8 a0] w fun e w' => e = .returned (.bool true) ∧ Below w.heap.size w w' := by
  have h : 0 ≤ a0 ∧ a0 ≤ 255 := by simpa [Lit.wf, IntKind.min, IntKind.max, IntKind.signed, IntKind.bits] using w0
  obtain h0 | h0 | h0 | h0 | h0 | h0 | h0 | h0 | h0 | h0 : a0 % 10 = 0 ∨ a0 % 10 = 1 ∨ a0 % 10 = 2 ∨ a0 % 10 = 3 ∨ a0 % 10 = 4 ∨ a0 % 10 = 5 ∨ a0 % 10 = 6 ∨ a0 % 10 = 7 ∨ a0 % 10 = 8 ∨ a0 % 10 = 9 := by omega
  · exact known0 a0 w h0 h.1 h.2
  · exact known1 a0 w h0 h.1 h.2
  · exact known2 a0 w h0 h.1 h.2
  · exact known3 a0 w h0 h.1 h.2
  · exact known4 a0 w h0 h.1 h.2
  · exact known5 a0 w h0 h.1 h.2
  · exact known6 a0 w h0 h.1 h.2
  · exact known7 a0 w h0 h.1 h.2
  · exact known8 a0 w h0 h.1 h.2
  · exact known9 a0 w h0 h.1 h.2
end Go.Proofs.Ythebijpdpchpcaa
