/- Bundle of 3 texts. -/
import Derived.Test.YtajjhndpdjfcpaaRows
import Derived.Test.YtajjhndpdjfcpaaChecked
import Derived.Test.YtajjhndpdjfcpaaKit
import Derived.OwnWalk
import Derived.Lib.Strings
import Derived.Lib.Builder
import Derived.Deep.RegionHeld3
import Derived.Deep.AppendLies
import Derived.Lib.ConvBytes
import Derived.Laws.MakeOwn
/- A []byte that a call makes by appending, one or more bytes at a time: what it holds, and its string. -/
namespace Go.Proofs.Ytajjhndpdjfcpaa
open Go.RowKit
set_option linter.unusedVariables false

/-- v is a slice of the call's own (its block lies from B on), or nil, that holds the bytes l. -/
def BRow (B : Nat) (v : Value) (l : List UInt8) (w : World) : Prop := w.ownsRow B 5 1 v l.length (Lib.byteCells l)

theorem BRow.nil (w : World) (B : Nat) : BRow B (.slice none 0 0) [] w := World.ownsRow_nil w B _ _
theorem BRow.drew {B : Nat} {v : Value} {l : List UInt8} {w : World} (h : BRow B v l w) : BRow B v l w.drew := World.ownsRow.drew h
theorem BRow.drewN {B : Nat} {v : Value} {l : List UInt8} {w : World} (h : BRow B v l w) (n : Nat) : BRow B v l (w.drewN n) := h
theorem BRow.alloc {B : Nat} {v : Value} {l : List UInt8} {w : World} (h : BRow B v l w) (o : Obj) : BRow B v l (w.alloc o) := World.ownsRow.alloc h o
theorem BRow.call {B : Nat} {v : Value} {l : List UInt8} {w w1 : World} (h : BRow B v l w) (hb : Below w.heap.size w w1) : BRow B v l w1 := by
  refine World.ownsRow.kept h (row := none) ⟨hb.os, hb.tape, hb.output, hb.size, fun k hk _ => hb.block k hk⟩ ?_
  cases hv : v.ownBlock with
  | none => exact Or.inl rfl
  | some k => exact Or.inr (by simp)
theorem BRow.shape {B : Nat} {v : Value} {l : List UInt8} {w : World} (h : BRow B v l w) : ∃ p cap, v = .slice p l.length cap := by
  rcases h.2 with ⟨hv, h0⟩ | ⟨g, cap, cur, hv, _⟩
  · exact ⟨none, 0, by rw [hv, h0]⟩
  · exact ⟨_, _, hv⟩
theorem BRow.str {B : Nat} {v : Value} {l : List UInt8} {w : World} (h : BRow B v l w) : (convert 37 9 v).run Try.prog w = .ok (.string ⟨l.toArray⟩) w := by
  have h' := h
  rcases h.2 with ⟨hv, h0⟩ | ⟨g, cap, cur, hv, hB, hg, hc1, hc2, hcs, ht⟩
  · obtain rfl : l = [] := List.eq_nil_of_length_eq_zero h0
    subst hv
    simp [go_sem, convert, Try.underlying37, Try.underlying9, Try.underlying5]
    rfl
  · subst hv
    refine run_convert_bytes_back w 37 9 5 ⟨g, 0, none⟩ cap l Try.underlying37 Try.underlying5 Try.underlying9 (fun j hj => ?_)
    refine World.ownsRow.cells h' rfl j _ ?_
    simp [Lib.byteCells, List.getElem?_eq_getElem hj]

/-- append(v, c ..), c .. just laid in a block of their own. -/
theorem wp_append {ops : Array Oper} {rest : List Oper} {o : Oper} {a : Act} {Q : Exit → Act → World → Prop} (hgd : o.guard = none) (s x : Operand)
    (ho : o.op = .call { callee := .builtin .append, args := #[s, x], argTypes := #[37, 37] })
    (B : Nat) (v : Value) (l : List UInt8) (w : World) (cs : List UInt8) (arr : Array Value) (harr : arr.toList = Lib.byteCells cs)
    (hs : a.eval s = v) (hrow : BRow B v l w) (hx : a.eval x = .slice (some ⟨w.heap.size, 0, none⟩) cs.length cs.length)
    (hlen : l.length + cs.length ≤ 1000000) (hB : B ≤ w.heap.size)
    (h : ∀ v' w', BRow B v' (l ++ cs) w' → Below B w w' → wpList Try.prog ops Q rest (a.put o.dst v') w') :
    wpList Try.prog ops Q (o :: rest) a (w.alloc (.cells arr 5)) := by
  obtain ⟨i0, hi, hz0, hz1, hz2⟩ := info_parts (show (Try.prog.info? 5).map (fun i => (i.zero, i.size, i.bytes)) = some (some (.int .u8 0), 1, 1) by kernel_rfl)
  refine wpList_append_own _ hgd s x 37 ho B 5 i0 (.int .u8 0) 1 1 Try.underlying37 hi hz0 hz1 hz2 rfl (by decide) v l.length (Lib.byteCells l) hs (World.ownsRow.alloc hrow _) ⟨w.heap.size, 0, none⟩ cs.length cs.length (Lib.byteCells cs) hx (by rw [Lib.byteCells_length]; omega) ?_ ?_ (by unfold maxLen; omega) (by omega) (by simp; omega) ?_
  · intro j u hj
    rw [addr_zero_add, World.cell?_alloc_new]
    rw [← harr] at hj
    simpa using hj
  · intro u hu
    simp [Lib.byteCells] at hu
    obtain ⟨b, _, rfl⟩ := hu
    rfl
  · intro v' w' h1 h2 _
    refine h v' w' ?_ ?_
    · unfold BRow
      rw [Lib.byteCells_append, List.length_append]
      exact h1
    · exact ((Below.refl B w).alloc hB _).grown h2 (by simp; omega) (fun k hk => (World.ownsRow.lt hrow k hk).1)

/-- append(v, c ..) as a step of a region that draws its order, c .. laid in block g of the world. -/
theorem step_append_b {ops : Array Oper} {o : Oper} {a : Act} {w : World} {K : Act → World → Prop} {Q : Exit → Act → World → Prop} {E : Prop} (hgd : o.guard = none) (s x : Operand)
    (ho : o.op = .call { callee := .builtin .append, args := #[s, x], argTypes := #[37, 37] })
    (B : Nat) (v : Value) (l : List UInt8) (cs : List UInt8) (arr : Array Value) (harr : arr.toList = Lib.byteCells cs)
    (hs : a.eval s = v) (hrow : BRow B v l w) (g : Nat) (hblk : w.heap[g]? = some (.cells arr 5 (0, 0))) (hx : a.eval x = .slice (some ⟨g, 0, none⟩) cs.length cs.length)
    (hcs : 0 < cs.length) (hlen : l.length + cs.length ≤ 1000000) (hB : B ≤ w.heap.size) (w0 : World) (hb0 : Below B w0 w)
    (h : ∀ v' w', BRow B v' (l ++ cs) w' → Below B w0 w' → K (a.put o.dst v') w') :
    if Region.wanted o (yielded ops a.tmps) = true then Oper.wp Try.prog o a w K Q else E := by
  obtain ⟨i0, hi, hz0, hz1, hz2⟩ := info_parts (show (Try.prog.info? 5).map (fun i => (i.zero, i.size, i.bytes)) = some (some (.int .u8 0), 1, 1) by kernel_rfl)
  refine step_append_lies w hgd s x 37 ho B 5 i0 (.int .u8 0) 1 1 Try.underlying37 hi hz0 hz1 hz2 rfl (by decide) v l.length (Lib.byteCells l) hs hrow ⟨g, 0, none⟩ cs.length cs.length (Lib.byteCells cs) hx (by rw [Lib.byteCells_length]; omega) ?_ ?_ hcs (by unfold maxLen; omega) (by omega) hB w.heap.size rfl ?_
  · rw [← harr]
    exact World.news_of_block hblk
  · intro u hu
    simp [Lib.byteCells] at hu
    obtain ⟨b, _, rfl⟩ := hu
    rfl
  · intro g' cap w' h1 h2 _ _
    refine h _ w' ?_ ?_
    · unfold BRow
      rw [Lib.byteCells_append, List.length_append]
      exact h1
    · exact hb0.grown h2 hB (fun k hk => (World.ownsRow.lt hrow k hk).1)
end Go.Proofs.Ytajjhndpdjfcpaa

/- []byte(s): a block whose first cells are the bytes; its mark lies behind them. -/
namespace Go.Proofs.Ytajjhndpdjfcpaa
open Go.RowKit

/-- Block g begins with the bytes l (more may stand behind); none of these is frozen. -/
def RowIs (w : World) (g : Nat) (t : TypeId) (l : List UInt8) : Prop :=
  ∃ (cs : Array Value) (fr : Nat × Nat), w.heap[g]? = some (.cells cs t fr) ∧ (fr = (0, 0) ∨ l.length ≤ fr.1) ∧ ∀ i (h : i < l.length), cs[i]? = some (.int .u8 (l[i].toNat : Int))

theorem RowIs.cell {w : World} {g : Nat} {t : TypeId} {l : List UInt8} (h : RowIs w g t l) (i : Nat) (hi : i < l.length) : w.cell? ⟨g, i, none⟩ = some (.int .u8 (l[i].toNat : Int)) := by
  obtain ⟨cs, fr, h1, _, h3⟩ := h
  rw [cell_of_row w g i cs t fr h1, h3 i hi]
theorem RowIs.free {w : World} {g : Nat} {t : TypeId} {l : List UInt8} (h : RowIs w g t l) (i : Nat) (hi : i < l.length) : w.frozen? ⟨g, i, none⟩ = false := by
  obtain ⟨cs, fr, h1, h2, h3⟩ := h
  simp [World.frozen?, h1]
  rcases h2 with rfl | h2
  · simp
  · omega
theorem RowIs.put {w : World} {g : Nat} {t : TypeId} {l : List UInt8} (h : RowIs w g t l) (i : Nat) (b : UInt8) : RowIs (w.setCell ⟨g, i, none⟩ (.int .u8 (b.toNat : Int))) g t (l.set i b) := by
  obtain ⟨cs, fr, h1, h2, h3⟩ := h
  refine ⟨cs.setIfInBounds i (.int .u8 (b.toNat : Int)), fr, by simp [World.setCell, Array.getElem?_modify, h1], by simpa using h2, ?_⟩
  intro j hj
  have hj' : j < l.length := by simpa using hj
  have h4 := h3 j hj'
  have hjc : j < cs.size := (Array.getElem?_eq_some_iff.1 h4).1
  rw [List.getElem_set]
  by_cases e : i = j
  · subst e
    simp [hjc]
  · rw [if_neg e, Array.getElem?_setIfInBounds_ne e]
    exact h4
theorem RowIs.size {w : World} {g : Nat} {t : TypeId} {l : List UInt8} (h : RowIs w g t l) : g < w.heap.size := by
  obtain ⟨cs, fr, h1, _⟩ := h
  exact (Array.getElem?_eq_some_iff.1 h1).1
theorem RowIs.kept {w w' : World} {g : Nat} {t : TypeId} {l : List UInt8} {B : Nat} (h : RowIs w g t l) (hb : Below B w w') (hg : g < B) : RowIs w' g t l := by
  obtain ⟨cs, fr, h1, h2, h3⟩ := h
  exact ⟨cs, fr, (hb.block g hg).trans h1, h2, h3⟩
theorem RowIs.alloc {w : World} {g : Nat} {t : TypeId} {l : List UInt8} (h : RowIs w g t l) (o : Obj) : RowIs (w.alloc o) g t l := by
  have hs := h.size
  obtain ⟨cs, fr, h1, h2, h3⟩ := h
  exact ⟨cs, fr, (Below.heap_alloc w o g hs).trans h1, h2, h3⟩
theorem RowIs.of (w : World) (t : TypeId) (s : ByteArray) : RowIs (Lib.bytesWorld w t s) w.heap.size t s.data.toList := by
  refine ⟨_, _, Lib.bytesWorld_at_new w t s, .inr ?_, ?_⟩
  · simp [Lib.bytesCells]
  · intro i hi
    have hi' : i < s.size := by simpa using hi
    have h := Lib.bytesWorld_cell w t s i hi'
    rw [World.cell?] at h
    simp [Lib.bytesWorld_at_new] at h
    rw [h]
    simp [hi']
theorem RowIs.back {P : Program} {w : World} {g : Nat} {t src dst : TypeId} {l : List UInt8} (cap : Nat) (h : RowIs w g t l) (hs : P.underlying src = some (.slice t)) (he : P.underlying t = some (.int .u8)) (hd : P.underlying dst = some .string) :
    (convert src dst (.slice (some ⟨g, 0, none⟩) l.length cap)).run P w = .ok (.string ⟨l.toArray⟩) w :=
  run_convert_bytes_back w src dst t ⟨g, 0, none⟩ cap l hs he hd (fun j hj => by rw [addr_zero_add]; exact h.cell j hj)
theorem below_bytesWorld {B : Nat} {a w : World} (h : Below B a w) (hB : B ≤ w.heap.size) (t : TypeId) (s : ByteArray) : Below B a (Lib.bytesWorld w t s) :=
  h.trans ⟨rfl, rfl, rfl, by rw [Lib.bytesWorld_size]; omega, fun k hk => Lib.bytesWorld_at_old w t s k (by omega)⟩
end Go.Proofs.Ytajjhndpdjfcpaa

/- make([]byte, n): n noughts, and their string. -/
namespace Go.Proofs.Ytajjhndpdjfcpaa
open Go.RowKit
set_option linter.unusedVariables false

theorem made_zeros (n : Nat) : (madeCells (Value.int .u8 0).cells (n * 1)).toList = Lib.byteCells (List.replicate n 0) := by
  rw [Nat.mul_one]
  apply List.ext_getElem?
  intro i
  by_cases hi : i < n
  · simp [madeCells, Lib.byteCells, Value.cells, hi, Nat.mod_one]
  · simp [madeCells, Lib.byteCells, hi]
/-- make([]byte, n). -/
theorem wp_make {ops : Array Oper} {rest : List Oper} {o : Oper} {a : Act} {Q : Exit → Act → World → Prop} (hg : o.guard = none) (l c : Operand) (hop : o.op = Op.makeSlice 37 l c)
    (w : World) (n : Nat) (L C : Int) (hl : a.eval l = .int .i64 L) (hc : a.eval c = .int .i64 C) (hL : L = (n : Int)) (hC : C = (n : Int)) (hn : n ≤ 1000000)
    (h : ∀ w', BRow w.heap.size (.slice (some ⟨w.heap.size, 0, none⟩) n n) (List.replicate n 0) w' → Below w.heap.size w w' →
      (convert 37 9 (.slice (some ⟨w.heap.size, 0, none⟩) n n)).run Try.prog w' = .ok (.string ⟨(List.replicate n (0 : UInt8)).toArray⟩) w' →
      wpList Try.prog ops Q rest (a.put o.dst (.slice (some ⟨w.heap.size, 0, none⟩) n n)) w') :
    wpList Try.prog ops Q (o :: rest) a w := by
  obtain ⟨i0, hi, hz0, hz1, hz2⟩ := info_parts (show (Try.prog.info? 5).map (fun i => (i.zero, i.size, i.bytes)) = some (some (.int .u8 0), 1, 1) by kernel_rfl)
  refine wpList_make_full w hg l c 37 hop w.heap.size 5 i0 (.int .u8 0) 1 Try.underlying37 hi hz0 hz1 .i64 .i64 L C n hl hc hL hC (by rw [hz2]; omega) (by unfold maxLen; omega) (Nat.le_refl _) ?_
  intro w' h1 h2
  have hrow : BRow w.heap.size (.slice (some ⟨w.heap.size, 0, none⟩) n n) (List.replicate n 0) w' := by
    unfold BRow
    rw [made_zeros] at h1
    rw [List.length_replicate]
    exact h1
  exact h w' hrow ((Below.refl _ w).grown h2 (Nat.le_refl _) (fun k hk => by simp at hk)) hrow.str
end Go.Proofs.Ytajjhndpdjfcpaa
