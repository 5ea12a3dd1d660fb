/- The laws' example. -/
import Derived.Test.YtdjffnhkfpjafaaDoorAclGet
import Derived.Test.YtdjffnhkfpjafaaDoorAclTextL
import Derived.Test.YtdjffnhkfpjafaaDoorAclSame
namespace Go.Proofs.YtdjffnhkfpjafaaDoor
open Go.RowKit
open AclM DecM
set_option linter.unusedVariables false

def exText : List UInt8 := [117, 58, 58, 114, 119, 45, 44, 103, 58, 58, 114, 45, 45, 44, 111, 58, 58, 114, 45, 45]
theorem ex_may : may (fromL 420) = true := by decide
theorem ex_text : textL (fromL 420) = exText := by decide
theorem ex_get : getL exText = some (fromL 420) := (get_iff _ _).2 ⟨ex_may, ex_text⟩
theorem ex_mode : modeL (fromL 420) = 420 := by decide

theorem awake_true (w : World) (hA : Amb w) : Calls Tryd.prog 8 #[] w fun e w' => e = .returned (.bool true) ∧ Below w.heap.size w w' := by
  have h1 := Parse_any (strOf exText) (by decide) w hA
  rw [strOf_list, ex_get] at h1
  have h1' := Lib.hid h1
  have h2 := Lib.hid (fun w' => from_any 420 w' (by decide) (by decide))
  have h3 := Lib.hid (fun v w' (hA' : Amb w') (hat : At aceE v (fromL 420) w') => textL_any v (fromL 420) w' hA' hat (by decide))
  have h4 := Lib.hid (fun v w' (hat : At aceE v (fromL 420) w') => mode_any v (fromL 420) w' hat (by decide) (may_parts ex_may).1)
  rw [ex_mode] at h4
  rw [show textR (fromL 420) = exText by unfold textR; rw [if_pos ex_may]; exact ex_text] at h3
  obtain ⟨T, hT⟩ : ∃ T, strOf exText = T := ⟨_, rfl⟩
  have hT2 : T.toList = exText := by rw [← hT, Lib.toList_data, strOf_list]
  have hT3 : ({ data := #[117, 58, 58, 114, 119, 45, 44, 103, 58, 58, 114, 45, 45, 44, 111, 58, 58, 114, 45, 45] } : ByteArray) = T := hT
  clear h1
  rw [hT] at h1' h3
  generalize fromL 420 = l at *
  go_enter Tryd.func8, Tryd.ntmps8
  simp only [hT3]
  go_wp2_with fail
  refine (h1'.out).mono ?_
  rintro e w1 ⟨⟨v, rfl, hR⟩, hb1⟩
  have ha1 := hR.at
  go_wp2_with fail
  refine (h2.out _).mono ?_
  rintro e w2 ⟨⟨v2, rfl, hR2⟩, hb2⟩
  have ha2 := ha1.call hb2
  replace hb2 := gr_call hb1 hb2
  go_wp2_with fail
  refine (h3.out _ _ (hA.on hb2) hR2.at).mono ?_
  rintro e w3 ⟨rfl, hb3⟩
  have ha3 := ha2.call hb3
  replace hb3 := gr_call hb2 hb3
  go_wp2_with fail
  refine (h4.out _ _ ha3).mono ?_
  rintro e w4 ⟨rfl, hb4⟩
  replace hb4 := gr_call hb3 hb4
  go_wp2_with fail
  go_ret
  exact ⟨rfl, hb4⟩
end Go.Proofs.YtdjffnhkfpjafaaDoor
