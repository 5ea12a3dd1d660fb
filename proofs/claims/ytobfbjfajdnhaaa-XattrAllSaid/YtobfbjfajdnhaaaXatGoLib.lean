/- The library's functions that package xattr calls, by their contracts. -/
import Derived.Test.YtobfbjfajdnhaaaXatGoFind
import Derived.Test.YtobfbjfajdnhaaaShelf
namespace Go.Proofs.Ytobfbjfajdnhaaa
open Go.RowKit
open XatM
set_option linter.unusedVariables false

theorem clone_go (s : ByteArray) (w : World) (hs : s.size ≤ 281474976710656) :
    Calls Try.prog 30 #[.string s] w fun e w' => e = .returned (.string s) ∧ Below w.heap.size w w' := by
  have h := Try.stringslite_Clone s
  go_enter Try.func30, Try.ntmps30
  go_wp2_with fail
  refine (h _ hs).mono ?_
  rintro e w' ⟨rfl, hb⟩
  go_wp2_with fail
  go_ret
  exact ⟨rfl, hb⟩
theorem cmpC : CmpC := fun a b w => Try.strings_Compare a b w
/-- strings.CutPrefix at a known prefix. -/
theorem cutPrefix_go (s p : ByteArray) (w : World) :
    Calls Try.prog 47 #[.string s, .string p] w fun e w' => e = .returned (.tuple #[.string ⟨(Lib.trimPrefix s.data.toList p.data.toList).toArray⟩, .bool (Lib.hasPrefix s.data.toList p.data.toList)]) ∧ w' = w :=
  (Try.strings_CutPrefix s p w).mono fun _ _ ⟨he, hw⟩ => ⟨he, hw⟩
end Go.Proofs.Ytobfbjfajdnhaaa
