/- Slices of access lists: from a place on, up to a place. -/
import Derived.Test.YtbhnhoenjoagbaaGreatDoorPk11
namespace Go.Proofs.YtbhnhoenjoagbaaGreatDoor.AclW
open Go.RowKit
open AclM
set_option linter.unusedVariables false

theorem slice_from {v : Value} {l : List Ace} {w : World} (h : At aceE v l w) {k : Nat} (hk : k ≤ l.length) :
    ∃ v', (∀ W, (Instr.sliceAt 31 v (some (.int .i64 (k : Int))) none none).run Tryz.prog W = .ok v' W) ∧ (∀ W, At aceE v l W → At aceE v' (l.drop k) W) ∧ v'.ownBlock = v.ownBlock := by
  rcases h with ⟨rfl, rfl | ⟨ad, cap, rfl⟩⟩ | ⟨g, off, cap, rfl, hc, hg, hj⟩
  · simp at hk
    subst hk
    exact ⟨.slice none 0 0, fun W => by simp [go_sem], fun W h => .inl ⟨by simp, .inl rfl⟩, rfl⟩
  · simp at hk
    subst hk
    exact ⟨.slice (some ad) 0 cap, fun W => by simp [go_sem], fun W h => .inl ⟨by simp, .inr ⟨_, _, rfl⟩⟩, rfl⟩
  · refine ⟨.slice (if cap = k then some ⟨g, off, none⟩ else some ⟨g, off + k * 3, none⟩) (l.length - k) (cap - k), fun W => by simp [go_sem, hk], fun W h => ?_, ?_⟩
    · by_cases he : k = l.length
      · refine .inl ⟨by simp [he], .inr ?_⟩
        split
        · exact ⟨_, _, by rw [he, Nat.sub_self]⟩
        · exact ⟨_, _, by rw [he, Nat.sub_self]⟩
      · rw [if_neg (by omega)]
        obtain ⟨g', off', cap', e, _, hg', hj'⟩ := ace_open h (by intro e; rw [e] at hk he; simp at hk he; omega)
        cases e
        refine ace_at (by simp) (by simp; omega) hg' ?_
        intro j hj
        have hj2 : k + j < l.length := by simp at hj; omega
        have := hj' (k + j) hj2
        rw [show off + (k + j) * 3 = off + k * 3 + j * 3 by omega] at this
        rw [List.getElem_drop]
        exact this
    · split <;> rfl
theorem slice_upto {v : Value} {l : List Ace} {w : World} (h : At aceE v l w) {k : Nat} (hk : k ≤ l.length) :
    ∃ v', (∀ W, (Instr.sliceAt 31 v none (some (.int .i64 (k : Int))) none).run Tryz.prog W = .ok v' W) ∧ (∀ W, At aceE v l W → At aceE v' (l.take k) W) ∧ v'.ownBlock = v.ownBlock := by
  rcases h with ⟨rfl, rfl | ⟨ad, cap, rfl⟩⟩ | ⟨g, off, cap, rfl, hc, hg, hj⟩
  · simp at hk
    subst hk
    exact ⟨.slice none 0 0, fun W => by simp [go_sem], fun W h => .inl ⟨by simp, .inl rfl⟩, rfl⟩
  · simp at hk
    subst hk
    exact ⟨.slice (some ad) 0 cap, fun W => by simp [go_sem], fun W h => .inl ⟨by simp, .inr ⟨_, _, rfl⟩⟩, rfl⟩
  · refine ⟨.slice (some ⟨g, off, none⟩) k cap, fun W => by simp [go_sem, show k ≤ cap by omega], fun W h => ?_, rfl⟩
    by_cases h0 : k = 0
    · exact .inl ⟨by simp [h0], .inr ⟨_, _, by rw [h0]⟩⟩
    · obtain ⟨g', off', cap', e, _, hg', hj'⟩ := ace_open h (by intro e; rw [e] at hk; simp at hk; omega)
      cases e
      refine ace_at (by rw [List.length_take]; omega) (by rw [List.length_take]; omega) hg' ?_
      intro j hj
      rw [List.length_take] at hj
      have := hj' j (by omega)
      rw [List.getElem_take]
      exact this
end Go.Proofs.YtbhnhoenjoagbaaGreatDoor.AclW
