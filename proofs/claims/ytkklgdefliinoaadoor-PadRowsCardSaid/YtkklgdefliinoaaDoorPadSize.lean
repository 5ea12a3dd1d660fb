/- Walks: pad.Size, and the document's. -/
import Derived.Test.YtkklgdefliinoaaDoorRows
import Derived.Test.YtkklgdefliinoaaDoorChecked
import Derived.Test.YtkklgdefliinoaaDoorPadMath
import Derived.Below
namespace Go.Proofs.YtkklgdefliinoaaDoor
open Go.RowKit
open PadM
set_option linter.unusedVariables false

theorem size_any (n : Int) (w : World) :
    Calls Tryd.prog 10 #[.int .i64 n] w fun e w' => e = .returned (.int .i64 (sz n)) ∧ w = w' := by
  go_enter Tryd.func10, Tryd.ntmps10
  go_wp2_with fail
  all_goals go_ret
  all_goals exact ⟨ret_num (by unfold sz; omega), rfl⟩
theorem refSize_any (n : Int) (w : World) :
    Calls Tryd.prog 11 #[.int .i64 n] w fun e w' => e = .returned (.int .i64 (sz n)) ∧ w = w' := by
  go_enter Tryd.func11, Tryd.ntmps11
  go_wp2_with fail
  all_goals go_ret
  all_goals exact ⟨ret_num (by unfold sz; omega), rfl⟩
end Go.Proofs.YtkklgdefliinoaaDoor
