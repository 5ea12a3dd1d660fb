/- Slices of records: one that a call makes by appending; one that can be read. -/
import Derived.Test.YtbjklpodkopgiaaDoorRecKit
import Derived.OwnWalk
import Derived.Deep.AppendLies
namespace Go.Proofs.YtbjklpodkopgiaaDoor
open Go.RowKit
set_option linter.unusedVariables false

/-- Records as cells, two each. -/
def recCells : List (List UInt8 × List UInt8) → List Value
  | [] => []
  | r :: l => .string (strOf r.1) :: .string (strOf r.2) :: recCells l
theorem recCells_append (a b : List (List UInt8 × List UInt8)) : recCells (a ++ b) = recCells a ++ recCells b := by
  induction a with
  | nil => rfl
  | cons r a ih => simp [recCells, ih]
theorem recCells_length (l : List (List UInt8 × List UInt8)) : (recCells l).length = l.length * 2 := by
  induction l with
  | nil => rfl
  | cons r l ih => simp only [recCells, List.length_cons, ih]; omega
theorem recCells_at (l : List (List UInt8 × List UInt8)) : ∀ (j : Nat) (h : j < l.length), (recCells l)[2 * j]? = some (.string (strOf l[j].1)) ∧ (recCells l)[2 * j + 1]? = some (.string (strOf l[j].2)) := by
  induction l with
  | nil => intro j h; simp at h
  | cons r l ih =>
    intro j h
    cases j with
    | zero => exact ⟨rfl, rfl⟩
    | succ j =>
      have := ih j (by simpa using h)
      simp only [recCells, show 2 * (j + 1) = 2 * j + 1 + 1 by omega, List.getElem?_cons_succ, List.getElem_cons_succ]
      exact this

/-- v is a slice of the call's own (its block lies from B on), or nil, that holds the records l. -/
def RecRow (B : Nat) (v : Value) (l : List (List UInt8 × List UInt8)) (w : World) : Prop := w.ownsRow B 23 2 v l.length (recCells l)
theorem RecRow.nil (w : World) (B : Nat) : RecRow B (.slice none 0 0) [] w := World.ownsRow_nil w B _ _
theorem RecRow.drew {B : Nat} {v : Value} {l : List (List UInt8 × List UInt8)} {w : World} (h : RecRow B v l w) : RecRow B v l w.drew := World.ownsRow.drew h
theorem RecRow.alloc {B : Nat} {v : Value} {l : List (List UInt8 × List UInt8)} {w : World} (h : RecRow B v l w) (o : Obj) : RecRow B v l (w.alloc o) := World.ownsRow.alloc h o
theorem RecRow.call {B : Nat} {v : Value} {l : List (List UInt8 × List UInt8)} {w w1 : World} (h : RecRow B v l w) (hb : Below w.heap.size w w1) : RecRow B v l w1 := by
  refine World.ownsRow.kept h (row := none) ⟨hb.os, hb.tape, hb.output, hb.size, fun k hk _ => hb.block k hk⟩ ?_
  cases hv : v.ownBlock with
  | none => exact Or.inl rfl
  | some k => exact Or.inr (by simp)
theorem RecRow.lt {B : Nat} {v : Value} {l : List (List UInt8 × List UInt8)} {w : World} (h : RecRow B v l w) : ∀ k, v.ownBlock = some k → k < w.heap.size := fun k hk => (World.ownsRow.lt h k hk).2

/-- v is a slice that reads as the records l. -/
def RecAt (v : Value) (l : List (List UInt8 × List UInt8)) (w : World) : Prop :=
  (l = [] ∧ ∃ p cap, v = .slice p 0 cap) ∨
  ∃ g cap, v = .slice (some ⟨g, 0, none⟩) l.length cap ∧ l.length ≤ cap ∧ g < w.heap.size ∧ ∀ j (h : j < l.length), w.cell? ⟨g, 2 * j, none⟩ = some (.string (strOf l[j].1)) ∧ w.cell? ⟨g, 2 * j + 1, none⟩ = some (.string (strOf l[j].2))
theorem RecRow.at {B : Nat} {v : Value} {l : List (List UInt8 × List UInt8)} {w : World} (h : RecRow B v l w) : RecAt v l w := by
  have h' := h
  rcases h.2 with ⟨hv, h0⟩ | ⟨g, cap, cur, hv, hB, hg, hc1, hc2, hcs, ht⟩
  · exact .inl ⟨List.eq_nil_of_length_eq_zero h0, none, 0, hv⟩
  · subst hv
    refine .inr ⟨g, cap, rfl, hc1, (Array.getElem?_eq_some_iff.1 hg).1, fun j hj => ?_⟩
    have h2 := recCells_at l j hj
    have e1 := World.ownsRow.cells h' rfl _ _ h2.1
    have e2 := World.ownsRow.cells h' rfl _ _ h2.2
    rw [addr_zero_add] at e1 e2
    exact ⟨e1, e2⟩
theorem RecAt.call {v : Value} {l : List (List UInt8 × List UInt8)} {w w1 : World} (h : RecAt v l w) (hb : Below w.heap.size w w1) : RecAt v l w1 := by
  rcases h with h | ⟨g, cap, hv, hc, hg, hj⟩
  · exact .inl h
  · exact .inr ⟨g, cap, hv, hc, Nat.lt_of_lt_of_le hg hb.size, fun j h => ⟨cell_kept hb (hj j h).1, cell_kept hb (hj j h).2⟩⟩
theorem RecAt.shape {v : Value} {l : List (List UInt8 × List UInt8)} {w : World} (h : RecAt v l w) : ∃ p cap, v = .slice p l.length cap := by
  rcases h with ⟨rfl, p, cap, hv⟩ | ⟨g, cap, hv, _⟩
  · exact ⟨p, cap, hv⟩
  · exact ⟨_, _, hv⟩
/-- Where it holds something: its cells, at every place. -/
theorem RecAt.open {v : Value} {l : List (List UInt8 × List UInt8)} {w : World} (h : RecAt v l w) (hl : l ≠ []) :
    ∃ g cap, v = .slice (some ⟨g, 0, none⟩) l.length cap ∧ l.length ≤ cap ∧ g < w.heap.size ∧ ∀ j (h : j < l.length), w.cell? ⟨g, 2 * j, none⟩ = some (.string (strOf l[j].1)) ∧ w.cell? ⟨g, 2 * j + 1, none⟩ = some (.string (strOf l[j].2)) := by
  rcases h with ⟨h, _⟩ | h
  · exact absurd h hl
  · exact h

/-- append(v, r), r just laid in a block of its own. -/
theorem wp_append_rec {ops : Array Oper} {rest : List Oper} {o : Oper} {a : Act} {Q : Exit → Act → World → Prop} (hgd : o.guard = none) (s x : Operand)
    (ho : o.op = .call { callee := .builtin .append, args := #[s, x], argTypes := #[31, 31] })
    (B : Nat) (v : Value) (l : List (List UInt8 × List UInt8)) (w : World) (r : List UInt8 × List UInt8)
    (hs : a.eval s = v) (hrow : RecRow B v l w) (hx : a.eval x = .slice (some ⟨w.heap.size, 0, none⟩) 1 1)
    (hlen : l.length + 1 ≤ 1000000) (hB : B ≤ w.heap.size)
    (h : ∀ v' w', RecRow B v' (l ++ [r]) w' → Below B w w' → (∀ p : Addr, p.block < w.heap.size → some p.block ≠ v.ownBlock → w'.cell? p = w.cell? p) → wpList Tryd.prog ops Q rest (a.put o.dst v') w') :
    wpList Tryd.prog ops Q (o :: rest) a (w.alloc (.cells #[.string (strOf r.1), .string (strOf r.2)] 23)) := by
  obtain ⟨i0, hi, hz0, hz1, hz2⟩ := info_parts (show (Tryd.prog.info? 23).map (fun i => (i.zero, i.size, i.bytes)) = some (some (.agg #[.string ⟨#[]⟩, .string ⟨#[]⟩]), 2, 32) by kernel_rfl)
  refine wpList_append_own _ hgd s x 31 ho B 23 i0 (.agg #[.string ⟨#[]⟩, .string ⟨#[]⟩]) 2 32 Tryd.underlying31 hi hz0 hz1 hz2 rfl (by decide) v l.length (recCells l) hs (World.ownsRow.alloc hrow _) ⟨w.heap.size, 0, none⟩ 1 1 (recCells [r]) hx (by rw [recCells_length]; rfl) ?_ ?_ (by unfold maxLen; omega) (by omega) (by simp; omega) ?_
  · intro j u hj
    rw [addr_zero_add, World.cell?_alloc_new]
    simpa [recCells] using hj
  · intro u hu
    simp [recCells] at hu
    rcases hu with rfl | rfl <;> rfl
  · intro v' w' h1 h2 _
    refine h v' w' ?_ ?_ ?_
    · unfold RecRow
      rw [recCells_append, List.length_append]
      exact h1
    · exact ((Below.refl B w).alloc hB _).grown h2 (by simp; omega) (fun k hk => (World.ownsRow.lt hrow k hk).1)
    · intro p hp hne
      rw [World.grownBy.cell_far h2 p (by simp; omega) hne]
      exact World.cell?_alloc_lt _ _ _ hp
end Go.Proofs.YtbjklpodkopgiaaDoor
