/- Lists of names with values, and of records, in memory. -/
import Derived.Test.YtajjhndpdjfcpaaElt
import Derived.Test.YtajjhndpdjfcpaaMathPack
namespace Go.Proofs.Ytajjhndpdjfcpaa.XatW
open Go.RowKit
open XatM
set_option linter.unusedVariables false

/-- An element is two strings. -/
structure IsTwo (E : Elt Xa) : Prop where
  k : E.k = 2
  enc : ∀ a, E.enc a = [.string (strOf a.1), .string (strOf a.2)]
def xatE : Elt Xa where
  t := 41
  st := 25
  k := 2
  z := .agg #[.string ⟨#[]⟩, .string ⟨#[]⟩]
  bytes := 32
  enc a := [.string (strOf a.1), .string (strOf a.2)]
  len _ := rfl
  one _ u h := by simp at h; rcases h with rfl | rfl <;> rfl
  pos := by decide
  und := Try.underlying25
  inf := by kernel_rfl
  zk := rfl
  small := by decide
theorem xat_two : IsTwo xatE := ⟨rfl, fun _ => rfl⟩
/-- An element's cells at a place. -/
def TwoAt (w : World) (g o : Nat) (a : Xa) : Prop := w.cell? ⟨g, o, none⟩ = some (.string (strOf a.1)) ∧ w.cell? ⟨g, o + 1, none⟩ = some (.string (strOf a.2))
theorem TwoAt.kept {w w1 : World} {g o : Nat} {a : Xa} (h : TwoAt w g o a) (hb : Below w.heap.size w w1) : TwoAt w1 g o a := ⟨cell_kept hb h.1, cell_kept hb h.2⟩
theorem two_open {E : Elt Xa} (hE : IsTwo E) {v : Value} {l : List Xa} {w : World} (h : At E v l w) (hl : l ≠ []) :
    ∃ g off cap, v = .slice (some ⟨g, off, none⟩) l.length cap ∧ l.length ≤ cap ∧ g < w.heap.size ∧ ∀ j (h : j < l.length), TwoAt w g (off + j * 2) l[j] := by
  obtain ⟨g, off, cap, h1, h2, h3, h4⟩ := h.open hl
  refine ⟨g, off, cap, h1, h2, h3, fun j hj => ?_⟩
  have e : ∀ i, off + (j * E.k + i) = off + j * 2 + i := by intro i; rw [hE.k]; omega
  have a0 := h4 j hj 0 _ (by rw [hE.enc]; rfl)
  have a1 := h4 j hj 1 _ (by rw [hE.enc]; rfl)
  rw [e] at a0 a1
  exact ⟨a0, a1⟩
/-- Whatever it holds: its shape, and its cells. -/
theorem two_look {E : Elt Xa} (hE : IsTwo E) {v : Value} {l : List Xa} {w : World} (h : At E v l w) :
    ∃ p cap, v = .slice p l.length cap ∧ l.length ≤ cap ∧ ∀ j (h : j < l.length), ∃ g off, p = some ⟨g, off, none⟩ ∧ g < w.heap.size ∧ TwoAt w g (off + j * 2) l[j] := by
  by_cases hl : l = []
  · obtain ⟨p, cap, h1, h2⟩ := h.shape
    exact ⟨p, cap, h1, h2, fun j hj => by subst hl; simp at hj⟩
  · obtain ⟨g, off, cap, h1, h2, h3, h4⟩ := two_open hE h hl
    exact ⟨_, cap, h1, h2, fun j hj => ⟨g, off, rfl, h3, h4 j hj⟩⟩
/-- Known cells as a list that can be read. -/
theorem two_at {E : Elt Xa} (hE : IsTwo E) {w : World} {g off cap n : Nat} {l : List Xa} (hn : n = l.length) (hc : l.length ≤ cap) (hg : g < w.heap.size) (h : ∀ j (h : j < l.length), TwoAt w g (off + j * 2) l[j]) : At E (.slice (some ⟨g, off, none⟩) n cap) l w := by
  subst hn
  refine .inr ⟨g, off, cap, rfl, hc, hg, fun j hj i u hu => ?_⟩
  have e : off + (j * E.k + i) = off + j * 2 + i := by rw [hE.k]; omega
  rw [e]
  rw [hE.enc] at hu
  obtain ⟨a0, a1⟩ := h j hj
  have hi : i < 2 := (List.getElem?_eq_some_iff.1 hu).1
  have : i = 0 ∨ i = 1 := by omega
  rcases this with rfl | rfl <;> (cases hu; assumption)
/-- By value. -/
def twoV (a : Xa) : Value := .agg #[.string (strOf a.1), .string (strOf a.2)]
theorem one_xat (w : World) (a : Xa) (B : Nat) (hB : B ≤ w.heap.size) : Row xatE B (.slice (some ⟨w.heap.size, 0, none⟩) 1 1) [a] (w.alloc (.cells #[.string (strOf a.1), .string (strOf a.2)] 41)) :=
  lit_row (E := xatE) w [a] _ B 1 rfl hB (by simp) rfl
/-- From a place on; up to a place. -/
theorem slice_from {v : Value} {l : List Xa} {w : World} (h : At xatE v l w) {k : Nat} (hk : k ≤ l.length) :
    ∃ v', (∀ W, (Instr.sliceAt 25 v (some (.int .i64 (k : Int))) none none).run Try.prog W = .ok v' W) ∧ (∀ W, At xatE v l W → At xatE v' (l.drop k) W) ∧ v'.ownBlock = v.ownBlock := by
  rcases h with ⟨rfl, rfl | ⟨ad, cap, rfl⟩⟩ | ⟨g, off, cap, rfl, hc, hg, hj⟩
  · simp at hk
    subst hk
    exact ⟨.slice none 0 0, fun W => by simp [go_sem], fun W h => .inl ⟨by simp, .inl rfl⟩, rfl⟩
  · simp at hk
    subst hk
    exact ⟨.slice (some ad) 0 cap, fun W => by simp [go_sem], fun W h => .inl ⟨by simp, .inr ⟨_, _, rfl⟩⟩, rfl⟩
  · refine ⟨.slice (if cap = k then some ⟨g, off, none⟩ else some ⟨g, off + k * 2, none⟩) (l.length - k) (cap - k), fun W => by simp [go_sem, hk], fun W h => ?_, ?_⟩
    · by_cases he : k = l.length
      · refine .inl ⟨by simp [he], .inr ?_⟩
        split
        · exact ⟨_, _, by rw [he, Nat.sub_self]⟩
        · exact ⟨_, _, by rw [he, Nat.sub_self]⟩
      · rw [if_neg (by omega)]
        obtain ⟨g', off', cap', e, _, hg', hj'⟩ := two_open xat_two h (by intro e; rw [e] at hk he; simp at hk he; omega)
        cases e
        refine two_at xat_two (by simp) (by simp; omega) hg' ?_
        intro j hj
        have hj2 : k + j < l.length := by simp at hj; omega
        have := hj' (k + j) hj2
        rw [show off + (k + j) * 2 = off + k * 2 + j * 2 by omega] at this
        rw [List.getElem_drop]
        exact this
    · split <;> rfl
theorem slice_upto {v : Value} {l : List Xa} {w : World} (h : At xatE v l w) {k : Nat} (hk : k ≤ l.length) :
    ∃ v', (∀ W, (Instr.sliceAt 25 v none (some (.int .i64 (k : Int))) none).run Try.prog W = .ok v' W) ∧ (∀ W, At xatE v l W → At xatE v' (l.take k) W) ∧ v'.ownBlock = v.ownBlock := by
  rcases h with ⟨rfl, rfl | ⟨ad, cap, rfl⟩⟩ | ⟨g, off, cap, rfl, hc, hg, hj⟩
  · simp at hk
    subst hk
    exact ⟨.slice none 0 0, fun W => by simp [go_sem], fun W h => .inl ⟨by simp, .inl rfl⟩, rfl⟩
  · simp at hk
    subst hk
    exact ⟨.slice (some ad) 0 cap, fun W => by simp [go_sem], fun W h => .inl ⟨by simp, .inr ⟨_, _, rfl⟩⟩, rfl⟩
  · refine ⟨.slice (some ⟨g, off, none⟩) k cap, fun W => by simp [go_sem, show k ≤ cap by omega], fun W h => ?_, rfl⟩
    by_cases h0 : k = 0
    · exact .inl ⟨by simp [h0], .inr ⟨_, _, by rw [h0]⟩⟩
    · obtain ⟨g', off', cap', e, _, hg', hj'⟩ := two_open xat_two h (by intro e; rw [e] at hk; simp at hk; omega)
      cases e
      refine two_at xat_two (by rw [List.length_take]; omega) (by rw [List.length_take]; omega) hg' ?_
      intro j hj
      rw [List.length_take] at hj
      have := hj' j (by omega)
      rw [List.getElem_take]
      exact this
end Go.Proofs.Ytajjhndpdjfcpaa.XatW
