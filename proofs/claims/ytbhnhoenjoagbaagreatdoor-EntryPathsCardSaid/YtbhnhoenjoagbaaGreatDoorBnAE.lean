/- Bundle of 2 texts. -/
import Derived.Test.YtbhnhoenjoagbaaGreatDoorRows
import Derived.Test.YtbhnhoenjoagbaaGreatDoorChecked
import Derived.Test.YtbhnhoenjoagbaaGreatDoorKit
import Derived.OwnWalk
import Derived.Lib.Strings
import Derived.Lib.Builder
import Derived.Deep.RegionHeld3
import Derived.Deep.AppendLies
import Derived.Laws.MakeOwn
/- A []byte that a call makes by appending, one or more bytes at a time: what it holds, and its string. -/
namespace Go.Proofs.YtbhnhoenjoagbaaGreatDoor
open Go.RowKit
set_option linter.unusedVariables false

/-- v is a slice of the call's own (its block lies from B on), or nil, that holds the bytes l. -/
def BRow (B : Nat) (v : Value) (l : List UInt8) (w : World) : Prop := w.ownsRow B 5 1 v l.length (Lib.byteCells l)

theorem BRow.nil (w : World) (B : Nat) : BRow B (.slice none 0 0) [] w := World.ownsRow_nil w B _ _
theorem BRow.drew {B : Nat} {v : Value} {l : List UInt8} {w : World} (h : BRow B v l w) : BRow B v l w.drew := World.ownsRow.drew h
theorem BRow.drewN {B : Nat} {v : Value} {l : List UInt8} {w : World} (h : BRow B v l w) (n : Nat) : BRow B v l (w.drewN n) := h
theorem BRow.alloc {B : Nat} {v : Value} {l : List UInt8} {w : World} (h : BRow B v l w) (o : Obj) : BRow B v l (w.alloc o) := World.ownsRow.alloc h o
theorem BRow.call {B : Nat} {v : Value} {l : List UInt8} {w w1 : World} (h : BRow B v l w) (hb : Below w.heap.size w w1) : BRow B v l w1 := by
  refine World.ownsRow.kept h (row := none) ⟨hb.os, hb.tape, hb.output, hb.size, fun k hk _ => hb.block k hk⟩ ?_
  cases hv : v.ownBlock with
  | none => exact Or.inl rfl
  | some k => exact Or.inr (by simp)
theorem BRow.shape {B : Nat} {v : Value} {l : List UInt8} {w : World} (h : BRow B v l w) : ∃ p cap, v = .slice p l.length cap := by
  rcases h.2 with ⟨hv, h0⟩ | ⟨g, cap, cur, hv, _⟩
  · exact ⟨none, 0, by rw [hv, h0]⟩
  · exact ⟨_, _, hv⟩
theorem BRow.str {B : Nat} {v : Value} {l : List UInt8} {w : World} (h : BRow B v l w) : (convert 49 9 v).run Tryz.prog w = .ok (.string ⟨l.toArray⟩) w := by
  have h' := h
  rcases h.2 with ⟨hv, h0⟩ | ⟨g, cap, cur, hv, hB, hg, hc1, hc2, hcs, ht⟩
  · obtain rfl : l = [] := List.eq_nil_of_length_eq_zero h0
    subst hv
    simp [go_sem, convert, Tryz.underlying49, Tryz.underlying9, Tryz.underlying5]
    rfl
  · subst hv
    refine run_convert_bytes_back w 49 9 5 ⟨g, 0, none⟩ cap l Tryz.underlying49 Tryz.underlying5 Tryz.underlying9 (fun j hj => ?_)
    refine World.ownsRow.cells h' rfl j _ ?_
    simp [Lib.byteCells, List.getElem?_eq_getElem hj]

/-- append(v, c ..), c .. just laid in a block of their own. -/
theorem wp_append {ops : Array Oper} {rest : List Oper} {o : Oper} {a : Act} {Q : Exit → Act → World → Prop} (hgd : o.guard = none) (s x : Operand)
    (ho : o.op = .call { callee := .builtin .append, args := #[s, x], argTypes := #[49, 49] })
    (B : Nat) (v : Value) (l : List UInt8) (w : World) (cs : List UInt8) (arr : Array Value) (harr : arr.toList = Lib.byteCells cs)
    (hs : a.eval s = v) (hrow : BRow B v l w) (hx : a.eval x = .slice (some ⟨w.heap.size, 0, none⟩) cs.length cs.length)
    (hlen : l.length + cs.length ≤ 1000000) (hB : B ≤ w.heap.size)
    (h : ∀ v' w', BRow B v' (l ++ cs) w' → Below B w w' → wpList Tryz.prog ops Q rest (a.put o.dst v') w') :
    wpList Tryz.prog ops Q (o :: rest) a (w.alloc (.cells arr 5)) := by
  obtain ⟨i0, hi, hz0, hz1, hz2⟩ := info_parts (show (Tryz.prog.info? 5).map (fun i => (i.zero, i.size, i.bytes)) = some (some (.int .u8 0), 1, 1) by kernel_rfl)
  refine wpList_append_own _ hgd s x 49 ho B 5 i0 (.int .u8 0) 1 1 Tryz.underlying49 hi hz0 hz1 hz2 rfl (by decide) v l.length (Lib.byteCells l) hs (World.ownsRow.alloc hrow _) ⟨w.heap.size, 0, none⟩ cs.length cs.length (Lib.byteCells cs) hx (by rw [Lib.byteCells_length]; omega) ?_ ?_ (by unfold maxLen; omega) (by omega) (by simp; omega) ?_
  · intro j u hj
    rw [addr_zero_add, World.cell?_alloc_new]
    rw [← harr] at hj
    simpa using hj
  · intro u hu
    simp [Lib.byteCells] at hu
    obtain ⟨b, _, rfl⟩ := hu
    rfl
  · intro v' w' h1 h2 _
    refine h v' w' ?_ ?_
    · unfold BRow
      rw [Lib.byteCells_append, List.length_append]
      exact h1
    · exact ((Below.refl B w).alloc hB _).grown h2 (by simp; omega) (fun k hk => (World.ownsRow.lt hrow k hk).1)

/-- append(v, c ..) as a step of a region that draws its order, c .. laid in block g of the world. -/
theorem step_append_b {ops : Array Oper} {o : Oper} {a : Act} {w : World} {K : Act → World → Prop} {Q : Exit → Act → World → Prop} {E : Prop} (hgd : o.guard = none) (s x : Operand)
    (ho : o.op = .call { callee := .builtin .append, args := #[s, x], argTypes := #[49, 49] })
    (B : Nat) (v : Value) (l : List UInt8) (cs : List UInt8) (arr : Array Value) (harr : arr.toList = Lib.byteCells cs)
    (hs : a.eval s = v) (hrow : BRow B v l w) (g : Nat) (hblk : w.heap[g]? = some (.cells arr 5 (0, 0))) (hx : a.eval x = .slice (some ⟨g, 0, none⟩) cs.length cs.length)
    (hcs : 0 < cs.length) (hlen : l.length + cs.length ≤ 1000000) (hB : B ≤ w.heap.size) (w0 : World) (hb0 : Below B w0 w)
    (h : ∀ v' w', BRow B v' (l ++ cs) w' → Below B w0 w' → K (a.put o.dst v') w') :
    if Region.wanted o (yielded ops a.tmps) = true then Oper.wp Tryz.prog o a w K Q else E := by
  obtain ⟨i0, hi, hz0, hz1, hz2⟩ := info_parts (show (Tryz.prog.info? 5).map (fun i => (i.zero, i.size, i.bytes)) = some (some (.int .u8 0), 1, 1) by kernel_rfl)
  refine step_append_lies w hgd s x 49 ho B 5 i0 (.int .u8 0) 1 1 Tryz.underlying49 hi hz0 hz1 hz2 rfl (by decide) v l.length (Lib.byteCells l) hs hrow ⟨g, 0, none⟩ cs.length cs.length (Lib.byteCells cs) hx (by rw [Lib.byteCells_length]; omega) ?_ ?_ hcs (by unfold maxLen; omega) (by omega) hB w.heap.size rfl ?_
  · rw [← harr]
    exact World.news_of_block hblk
  · intro u hu
    simp [Lib.byteCells] at hu
    obtain ⟨b, _, rfl⟩ := hu
    rfl
  · intro g' cap w' h1 h2 _ _
    refine h _ w' ?_ ?_
    · unfold BRow
      rw [Lib.byteCells_append, List.length_append]
      exact h1
    · exact hb0.grown h2 hB (fun k hk => (World.ownsRow.lt hrow k hk).1)
end Go.Proofs.YtbhnhoenjoagbaaGreatDoor

/- make([]byte, n): n noughts, and their string. -/
namespace Go.Proofs.YtbhnhoenjoagbaaGreatDoor
open Go.RowKit
set_option linter.unusedVariables false

theorem made_zeros (n : Nat) : (madeCells (Value.int .u8 0).cells (n * 1)).toList = Lib.byteCells (List.replicate n 0) := by
  rw [Nat.mul_one]
  apply List.ext_getElem?
  intro i
  by_cases hi : i < n
  · simp [madeCells, Lib.byteCells, Value.cells, hi, Nat.mod_one]
  · simp [madeCells, Lib.byteCells, hi]
/-- make([]byte, n). -/
theorem wp_make {ops : Array Oper} {rest : List Oper} {o : Oper} {a : Act} {Q : Exit → Act → World → Prop} (hg : o.guard = none) (l c : Operand) (hop : o.op = Op.makeSlice 49 l c)
    (w : World) (n : Nat) (L C : Int) (hl : a.eval l = .int .i64 L) (hc : a.eval c = .int .i64 C) (hL : L = (n : Int)) (hC : C = (n : Int)) (hn : n ≤ 1000000)
    (h : ∀ w', BRow w.heap.size (.slice (some ⟨w.heap.size, 0, none⟩) n n) (List.replicate n 0) w' → Below w.heap.size w w' →
      (convert 49 9 (.slice (some ⟨w.heap.size, 0, none⟩) n n)).run Tryz.prog w' = .ok (.string ⟨(List.replicate n (0 : UInt8)).toArray⟩) w' →
      wpList Tryz.prog ops Q rest (a.put o.dst (.slice (some ⟨w.heap.size, 0, none⟩) n n)) w') :
    wpList Tryz.prog ops Q (o :: rest) a w := by
  obtain ⟨i0, hi, hz0, hz1, hz2⟩ := info_parts (show (Tryz.prog.info? 5).map (fun i => (i.zero, i.size, i.bytes)) = some (some (.int .u8 0), 1, 1) by kernel_rfl)
  refine wpList_make_full w hg l c 49 hop w.heap.size 5 i0 (.int .u8 0) 1 Tryz.underlying49 hi hz0 hz1 .i64 .i64 L C n hl hc hL hC (by rw [hz2]; omega) (by unfold maxLen; omega) (Nat.le_refl _) ?_
  intro w' h1 h2
  have hrow : BRow w.heap.size (.slice (some ⟨w.heap.size, 0, none⟩) n n) (List.replicate n 0) w' := by
    unfold BRow
    rw [made_zeros] at h1
    rw [List.length_replicate]
    exact h1
  exact h w' hrow ((Below.refl _ w).grown h2 (Nat.le_refl _) (fun k hk => by simp at hk)) hrow.str
end Go.Proofs.YtbhnhoenjoagbaaGreatDoor
