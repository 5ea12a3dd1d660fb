/- Slices of records: append in a region that draws its order; slices of strings that came in. -/
import Derived.Test.YtbjklpodkopgiaaDoorRecRow
import Derived.Test.YtbjklpodkopgiaaDoorByteRow
import Derived.OneCell
namespace Go.Proofs.YtbjklpodkopgiaaDoor
open Go.RowKit
set_option linter.unusedVariables false

theorem RecRow.other {B : Nat} {v : Value} {l : List (List UInt8 × List UInt8)} {w : World} (h : RecRow B v l w) {a : Addr} (ha : v.ownBlock ≠ some a.block) (u : Value) : RecRow B v l (w.setCell a u) := ownsRow_setCell_other h ha u
theorem RecRow.kept {B : Nat} {v : Value} {l : List (List UInt8 × List UInt8)} {w w1 : World} (h : RecRow B v l w) (hb : Below w.heap.size w w1) : RecRow B v l w1 := h.call hb
/-- append(v, r) as a step of a region that draws its order, r laid in block g of the world. -/
theorem step_append_rec {ops : Array Oper} {o : Oper} {a : Act} {w : World} {K : Act → World → Prop} {Q : Exit → Act → World → Prop} {E : Prop} (hgd : o.guard = none) (s x : Operand)
    (ho : o.op = .call { callee := .builtin .append, args := #[s, x], argTypes := #[31, 31] })
    (B : Nat) (v : Value) (l : List (List UInt8 × List UInt8)) (r : List UInt8 × List UInt8)
    (hs : a.eval s = v) (hrow : RecRow B v l w) (g : Nat) (hblk : w.heap[g]? = some (.cells #[.string (strOf r.1), .string (strOf r.2)] 23 (0, 0))) (hx : a.eval x = .slice (some ⟨g, 0, none⟩) 1 1)
    (hlen : l.length + 1 ≤ 1000000) (hB : B ≤ w.heap.size) (w0 : World) (hb0 : Below B w0 w)
    (h : ∀ v' w', RecRow B v' (l ++ [r]) w' → Below B w0 w' → K (a.put o.dst v') w') :
    if Region.wanted o (yielded ops a.tmps) = true then Oper.wp Tryd.prog o a w K Q else E := by
  obtain ⟨i0, hi, hz0, hz1, hz2⟩ := info_parts (show (Tryd.prog.info? 23).map (fun i => (i.zero, i.size, i.bytes)) = some (some (.agg #[.string ⟨#[]⟩, .string ⟨#[]⟩]), 2, 32) by kernel_rfl)
  refine step_append_lies w hgd s x 31 ho B 23 i0 (.agg #[.string ⟨#[]⟩, .string ⟨#[]⟩]) 2 32 Tryd.underlying31 hi hz0 hz1 hz2 rfl (by decide) v l.length (recCells l) hs hrow ⟨g, 0, none⟩ 1 1 (recCells [r]) hx (by rw [recCells_length]; rfl) ?_ ?_ (by decide) (by unfold maxLen; omega) (by omega) hB w.heap.size rfl ?_
  · exact World.news_of_block hblk
  · intro u hu
    simp [recCells] at hu
    rcases hu with rfl | rfl <;> rfl
  · intro g' cap w' h1 h2 _ _
    refine h _ w' ?_ ?_
    · unfold RecRow
      rw [recCells_append, List.length_append]
      exact h1
    · exact hb0.grown h2 hB (fun k hk => (World.ownsRow.lt hrow k hk).1)

/-- The slice (a, len, cap) reads as the strings l, each no longer than memory goes. -/
def StrsAt (w : World) (a : Option Addr) (len cap : Nat) (l : List ByteArray) : Prop :=
  l.length = len ∧ (∀ s ∈ l, s.size ≤ 140737488351232) ∧ (len = 0 ∨ ∃ b off, a = some ⟨b, off, none⟩ ∧ len ≤ cap ∧ b < w.heap.size ∧ ∀ j (h : j < l.length), w.cell? ⟨b, off + j, none⟩ = some (.string l[j]))
theorem StrsAt.call {w w1 : World} {a : Option Addr} {len cap : Nat} {l : List ByteArray} (h : StrsAt w a len cap l) (hb : Below w.heap.size w w1) : StrsAt w1 a len cap l := by
  obtain ⟨h1, h2, h3⟩ := h
  refine ⟨h1, h2, ?_⟩
  rcases h3 with h3 | ⟨b, off, h4, h5, h6, h7⟩
  · exact .inl h3
  · exact .inr ⟨b, off, h4, h5, Nat.lt_of_lt_of_le h6 hb.size, fun j h => cell_kept hb (h7 j h)⟩
end Go.Proofs.YtbjklpodkopgiaaDoor
