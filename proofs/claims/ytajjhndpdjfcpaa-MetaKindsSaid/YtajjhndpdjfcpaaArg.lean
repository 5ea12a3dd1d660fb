/- A slice of integers that came in: what it reads as, at every place, and in every later world. -/
import Derived.Test.YtajjhndpdjfcpaaKit
import Derived.OpenShut
namespace Go.Proofs.Ytajjhndpdjfcpaa
open Go.RowKit

/-- The slice (a, len, cap) lies in w and holds the numbers zs, up to its capacity. -/
def IsRow (k : IntKind) (w : World) (a : Option Addr) (len cap : Nat) (zs : List Int) : Prop :=
  (a = none ∧ len = 0 ∧ cap = 0 ∧ zs = []) ∨
  ∃ x, a = some x ∧ len ≤ cap ∧ cap ≤ maxLen ∧ zs.length = cap ∧ (∀ i, i < zs.length → w.cell? (x.add i) = some (.int k (zs.getD i 0))) ∧ (∀ n ∈ zs, (Lit.int k n).wf = true)
/-- Where it holds something. -/
theorem IsRow.open {k : IntKind} {w : World} {a : Option Addr} {len cap : Nat} {zs : List Int} (h : IsRow k w a len cap zs) (hp : 0 < len) :
    ∃ b off, a = some ⟨b, off, none⟩ ∧ b < w.heap.size ∧ len ≤ cap ∧ (∀ j, j < len → w.cell? ⟨b, off + j, none⟩ = some (.int k (zs.getD j 0)) ∧ (Lit.int k (zs.getD j 0)).wf = true) := by
  rcases h with ⟨_, h, _⟩ | ⟨x, rfl, hl, hm, hz, hc, hw⟩
  · omega
  · obtain ⟨b, off, rfl, hat⟩ := ints_at hc (by omega)
    refine ⟨b, off, rfl, block_lt (hat 0 (by omega)), hl, fun j hj => ⟨hat j (by omega), hw _ ?_⟩⟩
    have : j < zs.length := by omega
    simp [List.getD, List.getElem?_eq_getElem this]
end Go.Proofs.Ytajjhndpdjfcpaa
