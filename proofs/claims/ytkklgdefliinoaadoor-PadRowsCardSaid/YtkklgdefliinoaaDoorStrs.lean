/- A slice of strings that came in (StrsAt). -/
import Derived.Test.YtkklgdefliinoaaDoorKit
namespace Go.Proofs.YtkklgdefliinoaaDoor
open Go.RowKit
set_option linter.unusedVariables false

/-- The slice (a, len, cap) reads as the strings l, each no longer than memory goes. -/
def StrsAt (w : World) (a : Option Addr) (len cap : Nat) (l : List ByteArray) : Prop :=
  l.length = len ∧ (∀ s ∈ l, s.size ≤ 140737488351232) ∧ (len = 0 ∨ ∃ b off, a = some ⟨b, off, none⟩ ∧ len ≤ cap ∧ b < w.heap.size ∧ ∀ j (h : j < l.length), w.cell? ⟨b, off + j, none⟩ = some (.string l[j]))
theorem StrsAt.call {w w1 : World} {a : Option Addr} {len cap : Nat} {l : List ByteArray} (h : StrsAt w a len cap l) (hb : Below w.heap.size w w1) : StrsAt w1 a len cap l := by
  obtain ⟨h1, h2, h3⟩ := h
  refine ⟨h1, h2, ?_⟩
  rcases h3 with h3 | ⟨b, off, h4, h5, h6, h7⟩
  · exact .inl h3
  · exact .inr ⟨b, off, h4, h5, Nat.lt_of_lt_of_le h6 hb.size, fun j h => cell_kept hb (h7 j h)⟩
end Go.Proofs.YtkklgdefliinoaaDoor
