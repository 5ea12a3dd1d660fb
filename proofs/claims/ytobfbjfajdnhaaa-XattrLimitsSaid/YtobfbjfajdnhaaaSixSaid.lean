/- The laws of package sixty: awake; Get by what Put writes. -/
import Derived.Test.YtobfbjfajdnhaaaSixGet
namespace Go.Proofs.Ytobfbjfajdnhaaa.SixW
open Go.RowKit
open SixM
set_option linter.unusedVariables false

theorem Get_yes (t : ByteArray) (ht : t.size ≤ 30000) (l : List UInt8) (hl : p3 l = t.data.toList) (w : World) :
    Calls Try.prog 50 #[.string t] w fun e w' => e = .returned (.tuple #[.string ⟨l.toArray⟩, .bool true]) ∧ Below w.heap.size w w' := by
  refine (Get_any t ht w).mono ?_
  rintro e w' ⟨rfl, hb⟩
  refine ⟨?_, hb⟩
  rw [(get_iff _ _).2 hl]
  rfl
theorem Get_no (t : ByteArray) (ht : t.size ≤ 30000) (hl : ∀ l, p3 l ≠ t.data.toList) (w : World) :
    Calls Try.prog 50 #[.string t] w fun e w' => e = .returned (.tuple #[.string ⟨#[]⟩, .bool false]) ∧ Below w.heap.size w w' := by
  refine (Get_any t ht w).mono ?_
  rintro e w' ⟨rfl, hb⟩
  refine ⟨?_, hb⟩
  cases hg : SixM.get t.data.toList with
  | none => rfl
  | some s => exact absurd (p3_get hg) (hl s)

theorem get_none {t : List UInt8} (h : SixM.get t = none) : ∀ l, p3 l ≠ t := fun l hl => by
  rw [(get_iff t l).2 hl] at h
  exact absurd h (by simp)

end Go.Proofs.Ytobfbjfajdnhaaa.SixW
