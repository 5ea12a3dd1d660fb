/- The laws of package sixty: awake; Get by what Put writes. -/
import Derived.Test.YthebijpdpchpcaaGetWalk
namespace Go.Proofs.Ythebijpdpchpcaa
open Go.RowKit
open SixM
set_option linter.unusedVariables false

theorem Get_yes (t : ByteArray) (ht : t.size ≤ 30000) (l : List UInt8) (hl : p3 l = t.data.toList) (w : World) :
    Calls Try.prog 8 #[.string t] w fun e w' => e = .returned (.tuple #[.string ⟨l.toArray⟩, .bool true]) ∧ Below w.heap.size w w' := by
  refine (Get_any t ht w).mono ?_
  rintro e w' ⟨rfl, hb⟩
  refine ⟨?_, hb⟩
  rw [(get_iff _ _).2 hl]
  rfl
theorem Get_no (t : ByteArray) (ht : t.size ≤ 30000) (hl : ∀ l, p3 l ≠ t.data.toList) (w : World) :
    Calls Try.prog 8 #[.string t] w fun e w' => e = .returned (.tuple #[.string ⟨#[]⟩, .bool false]) ∧ Below w.heap.size w w' := by
  refine (Get_any t ht w).mono ?_
  rintro e w' ⟨rfl, hb⟩
  refine ⟨?_, hb⟩
  cases hg : SixM.get t.data.toList with
  | none => rfl
  | some s => exact absurd (p3_get hg) (hl s)

theorem get_none {t : List UInt8} (h : SixM.get t = none) : ∀ l, p3 l ≠ t := fun l hl => by
  rw [(get_iff t l).2 hl] at h
  exact absurd h (by simp)

theorem awake_true (w : World) :
    Calls Try.prog 7 #[] w fun e w' => e = .returned (.bool true) ∧ Below w.heap.size w w' := by
  have H1 := fun W => Get_yes ⟨#[89, 81, 61, 61]⟩ (by decide) [97] (by decide +kernel) W
  have H2 := fun W => Put_any ⟨#[97]⟩ (by decide) W
  have hp : p3 (⟨#[97]⟩ : ByteArray).data.toList = [89, 81, 61, 61] := by decide +kernel
  rw [hp] at H2
  clear hp
  go_enter Try.func7, Try.ntmps7
  go_wp2_with fail
  refine (H1 _).mono ?_
  rintro e w1 ⟨rfl, hb1⟩
  go_wp2_with fail
  refine (H2 _).mono ?_
  rintro e w2 ⟨rfl, hb2⟩
  clear H1 H2
  go_wp2_with fail
  go_ret
  exact ⟨rfl, bthen hb1 hb2⟩
end Go.Proofs.Ythebijpdpchpcaa
