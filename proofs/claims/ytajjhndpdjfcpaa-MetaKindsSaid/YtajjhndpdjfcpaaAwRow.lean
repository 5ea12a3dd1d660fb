/- Access lists in memory. -/
import Derived.Test.YtajjhndpdjfcpaaElt
import Derived.Test.YtajjhndpdjfcpaaAclMath
namespace Go.Proofs.Ytajjhndpdjfcpaa.AclW
open Go.RowKit
open AclM
set_option linter.unusedVariables false

def aceE : Elt Ace where
  t := 62
  st := 24
  k := 3
  z := .agg #[.int .i64 0, .int .i64 0, .int .i64 0]
  bytes := 24
  enc a := [.int .i64 a.1, .int .i64 a.2.1, .int .i64 a.2.2]
  len _ := rfl
  one _ u h := by simp at h; rcases h with rfl | rfl | rfl <;> rfl
  pos := by decide
  und := Try.underlying24
  inf := by kernel_rfl
  zk := rfl
  small := by decide
theorem ace_open {v : Value} {l : List Ace} {w : World} (h : At aceE v l w) (hl : l ≠ []) :
    ∃ g off cap, v = .slice (some ⟨g, off, none⟩) l.length cap ∧ l.length ≤ cap ∧ g < w.heap.size ∧ ∀ j (h : j < l.length), w.cell? ⟨g, off + j * 3, none⟩ = some (.int .i64 l[j].1) ∧ w.cell? ⟨g, off + j * 3 + 1, none⟩ = some (.int .i64 l[j].2.1) ∧ w.cell? ⟨g, off + j * 3 + 2, none⟩ = some (.int .i64 l[j].2.2) := by
  obtain ⟨g, off, cap, h1, h2, h3, h4⟩ := h.open hl
  refine ⟨g, off, cap, h1, h2, h3, fun j hj => ?_⟩
  have e : ∀ i, off + (j * aceE.k + i) = off + j * 3 + i := by intro i; show off + (j * 3 + i) = _; omega
  have a0 := h4 j hj 0 _ rfl
  have a1 := h4 j hj 1 _ rfl
  have a2 := h4 j hj 2 _ rfl
  rw [e] at a0 a1 a2
  exact ⟨a0, a1, a2⟩
/-- Known cells as a list that can be read. -/
theorem ace_at {w : World} {g off cap n : Nat} {l : List Ace} (hn : n = l.length) (hc : l.length ≤ cap) (hg : g < w.heap.size)
    (h : ∀ j (h : j < l.length), w.cell? ⟨g, off + j * 3, none⟩ = some (.int .i64 l[j].1) ∧ w.cell? ⟨g, off + j * 3 + 1, none⟩ = some (.int .i64 l[j].2.1) ∧ w.cell? ⟨g, off + j * 3 + 2, none⟩ = some (.int .i64 l[j].2.2)) : At aceE (.slice (some ⟨g, off, none⟩) n cap) l w := by
  subst hn
  refine .inr ⟨g, off, cap, rfl, hc, hg, fun j hj i u hu => ?_⟩
  have e : off + (j * aceE.k + i) = off + j * 3 + i := by show off + (j * 3 + i) = _; omega
  rw [e]
  obtain ⟨a0, a1, a2⟩ := h j hj
  have hi : i < 3 := (List.getElem?_eq_some_iff.1 hu).1
  have : i = 0 ∨ i = 1 ∨ i = 2 := by omega
  rcases this with rfl | rfl | rfl <;> (cases hu; assumption)
/-- The ints of a list are ints. -/
def Ints (l : List Ace) : Prop := ∀ a ∈ l, -9223372036854775808 ≤ a.1 ∧ a.1 ≤ 9223372036854775807 ∧ -9223372036854775808 ≤ a.2.1 ∧ a.2.1 ≤ 9223372036854775807 ∧ -9223372036854775808 ≤ a.2.2 ∧ a.2.2 ≤ 9223372036854775807
/-- Aces as cells. -/
theorem one_ace (w : World) (a : Ace) (B : Nat) (hB : B ≤ w.heap.size) : Row aceE B (.slice (some ⟨w.heap.size, 0, none⟩) 1 1) [a] (w.alloc (.cells #[.int .i64 a.1, .int .i64 a.2.1, .int .i64 a.2.2] 62)) :=
  lit_row (E := aceE) w [a] _ B 1 rfl hB (by simp) rfl
end Go.Proofs.Ytajjhndpdjfcpaa.AclW
