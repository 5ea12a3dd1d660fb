/- The laws' example. -/
import Derived.Test.YtpknbdlemaehnaaDoorFlagsText
import Derived.Test.YtpknbdlemaehnaaDoorFlagsParse
namespace Go.Proofs.YtpknbdlemaehnaaDoor
open Go.RowKit
open FlagsM
set_option linter.unusedVariables false

def exText : List UInt8 := [117, 99, 104, 103, 44, 110, 111, 100, 117, 109, 112]
theorem ex_get : getL exText = some 5 := by decide +kernel
theorem ex_text : textI 5 = exText := by decide +kernel

theorem awake_true (w : World) (hA : Amb w) : Calls Tryd.prog 6 #[] w fun e w' => e = .returned (.bool true) ∧ Below w.heap.size w w' := by
  have h1 := Parse_any (strOf exText) (by decide) w hA
  rw [strOf_list, ex_get] at h1
  have h1' : Hid (Calls Tryd.prog 7 #[.string (strOf exText)] w fun e w' => e = .returned (.tuple #[.int .i64 5, .bool true]) ∧ Below w.heap.size w w') := Lib.hid h1
  have h2 := Lib.hid (fun w' (hA' : Amb w') => text_any 5 w' hA')
  rw [ex_text] at h2
  obtain ⟨T, hT⟩ : ∃ T, strOf exText = T := ⟨_, rfl⟩
  have hT3 : ({ data := #[117, 99, 104, 103, 44, 110, 111, 100, 117, 109, 112] } : ByteArray) = T := hT
  have hself : (T.toList == T.toList) = true := beq_self_eq_true _
  clear h1
  rw [hT] at h1' h2
  clear hT
  go_enter Tryd.func6, Tryd.ntmps6
  simp only [hT3]
  clear hT3
  go_wp2_with fail
  refine (h1'.out).mono ?_
  rintro e w1 ⟨rfl, hb1⟩
  go_wp2_with fail
  refine (h2.out _ (hA.on hb1)).mono ?_
  rintro e w2 ⟨rfl, hb2⟩
  replace hb2 := gr_call hb1 hb2
  go_wp2_with fail
  go_ret
  exact ⟨rfl, hb2⟩
end Go.Proofs.YtpknbdlemaehnaaDoor
