/- Bundle of 5 texts. -/
import Derived.Test.YtpfidbcnefnhcaaKit
import Derived.Test.YtpfidbcnefnhcaaPk04
import Derived.Test.YtpfidbcnefnhcaaPk02
import Derived.Laws.Tables
import Derived.Lib.ConvBytes
import Derived.Test.YtpfidbcnefnhcaaPk09
import Derived.Laws.MakeOwn
import Derived.Test.YtpfidbcnefnhcaaXwAdd
import Derived.Test.YtpfidbcnefnhcaaPk03
/- A cell below a bound stays. -/
namespace Go.Proofs.Ytpfidbcnefnhcaa
open Go.RowKit
theorem cell_below {B : Nat} {w w' : World} (hb : Below B w w') {a : Addr} {v : Value} (ha : a.block < B) (hc : w.cell? a = some v) : w'.cell? a = some v := by
  rw [World.cell?_of_block (hb.block a.block ha)]; exact hc
end Go.Proofs.Ytpfidbcnefnhcaa

/- A name with a value, built. -/
namespace Go.Proofs.Ytpfidbcnefnhcaa.XatW
open Go.RowKit
open XatM
theorem build_xat (a b : ByteArray) (w : World) : (Instr.build 71 #[(0, .string a), (1, .string b)]).run Try.prog w = .ok (.agg #[.string a, .string b]) w :=
  run_build w _ _ _ (by kernel_rfl)
end Go.Proofs.Ytpfidbcnefnhcaa.XatW

/- []byte(s): a block whose first cells are the bytes; its mark lies behind them. -/
namespace Go.Proofs.Ytpfidbcnefnhcaa
open Go.RowKit

def RowIs (w : World) (g : Nat) (t : TypeId) (l : List UInt8) : Prop :=
  ∃ (cs : Array Value) (fr : Nat × Nat), w.heap[g]? = some (.cells cs t fr) ∧ (fr = (0, 0) ∨ l.length ≤ fr.1) ∧ ∀ i (h : i < l.length), cs[i]? = some (.int .u8 (l[i].toNat : Int))

theorem RowIs.cell {w : World} {g : Nat} {t : TypeId} {l : List UInt8} (h : RowIs w g t l) (i : Nat) (hi : i < l.length) : w.cell? ⟨g, i, none⟩ = some (.int .u8 (l[i].toNat : Int)) := by
  obtain ⟨cs, fr, h1, _, h3⟩ := h
  rw [cell_of_row w g i cs t fr h1, h3 i hi]
theorem RowIs.free {w : World} {g : Nat} {t : TypeId} {l : List UInt8} (h : RowIs w g t l) (i : Nat) (hi : i < l.length) : w.frozen? ⟨g, i, none⟩ = false := by
  obtain ⟨cs, fr, h1, h2, h3⟩ := h
  simp [World.frozen?, h1]
  rcases h2 with rfl | h2
  · simp
  · omega
theorem RowIs.put {w : World} {g : Nat} {t : TypeId} {l : List UInt8} (h : RowIs w g t l) (i : Nat) (b : UInt8) : RowIs (w.setCell ⟨g, i, none⟩ (.int .u8 (b.toNat : Int))) g t (l.set i b) := by
  obtain ⟨cs, fr, h1, h2, h3⟩ := h
  refine ⟨cs.setIfInBounds i (.int .u8 (b.toNat : Int)), fr, by simp [World.setCell, Array.getElem?_modify, h1], by simpa using h2, ?_⟩
  intro j hj
  have hj' : j < l.length := by simpa using hj
  have h4 := h3 j hj'
  have hjc : j < cs.size := (Array.getElem?_eq_some_iff.1 h4).1
  rw [List.getElem_set]
  by_cases e : i = j
  · subst e
    simp [hjc]
  · rw [if_neg e, Array.getElem?_setIfInBounds_ne e]
    exact h4
theorem RowIs.size {w : World} {g : Nat} {t : TypeId} {l : List UInt8} (h : RowIs w g t l) : g < w.heap.size := by
  obtain ⟨cs, fr, h1, _⟩ := h
  exact (Array.getElem?_eq_some_iff.1 h1).1
theorem RowIs.kept {w w' : World} {g : Nat} {t : TypeId} {l : List UInt8} {B : Nat} (h : RowIs w g t l) (hb : Below B w w') (hg : g < B) : RowIs w' g t l := by
  obtain ⟨cs, fr, h1, h2, h3⟩ := h
  exact ⟨cs, fr, (hb.block g hg).trans h1, h2, h3⟩
theorem RowIs.alloc {w : World} {g : Nat} {t : TypeId} {l : List UInt8} (h : RowIs w g t l) (o : Obj) : RowIs (w.alloc o) g t l := by
  have hs := h.size
  obtain ⟨cs, fr, h1, h2, h3⟩ := h
  exact ⟨cs, fr, (Below.heap_alloc w o g hs).trans h1, h2, h3⟩
theorem RowIs.of (w : World) (t : TypeId) (s : ByteArray) : RowIs (Lib.bytesWorld w t s) w.heap.size t s.data.toList := by
  refine ⟨_, _, Lib.bytesWorld_at_new w t s, .inr ?_, ?_⟩
  · simp [Lib.bytesCells]
  · intro i hi
    have hi' : i < s.size := by simpa using hi
    have h := Lib.bytesWorld_cell w t s i hi'
    rw [World.cell?] at h
    simp [Lib.bytesWorld_at_new] at h
    rw [h]
    simp [hi']
theorem RowIs.back {P : Program} {w : World} {g : Nat} {t src dst : TypeId} {l : List UInt8} (cap : Nat) (h : RowIs w g t l) (hs : P.underlying src = some (.slice t)) (he : P.underlying t = some (.int .u8)) (hd : P.underlying dst = some .string) :
    (convert src dst (.slice (some ⟨g, 0, none⟩) l.length cap)).run P w = .ok (.string ⟨l.toArray⟩) w :=
  run_convert_bytes_back w src dst t ⟨g, 0, none⟩ cap l hs he hd (fun j hj => by rw [addr_zero_add]; exact h.cell j hj)
end Go.Proofs.Ytpfidbcnefnhcaa

/- make([]byte, n): n noughts, and their string. -/
namespace Go.Proofs.Ytpfidbcnefnhcaa
open Go.RowKit
set_option linter.unusedVariables false

theorem made_zeros (n : Nat) : (madeCells (Value.int .u8 0).cells (n * 1)).toList = Lib.byteCells (List.replicate n 0) := by
  rw [Nat.mul_one]
  apply List.ext_getElem?
  intro i
  by_cases hi : i < n
  · simp [madeCells, Lib.byteCells, Value.cells, hi, Nat.mod_one]
  · simp [madeCells, Lib.byteCells, hi]
theorem wp_make {ops : Array Oper} {rest : List Oper} {o : Oper} {a : Act} {Q : Exit → Act → World → Prop} (hg : o.guard = none) (l c : Operand) (hop : o.op = Op.makeSlice 41 l c)
    (w : World) (n : Nat) (L C : Int) (hl : a.eval l = .int .i64 L) (hc : a.eval c = .int .i64 C) (hL : L = (n : Int)) (hC : C = (n : Int)) (hn : n ≤ 1000000)
    (h : ∀ w', BRow w.heap.size (.slice (some ⟨w.heap.size, 0, none⟩) n n) (List.replicate n 0) w' → Below w.heap.size w w' →
      (convert 41 9 (.slice (some ⟨w.heap.size, 0, none⟩) n n)).run Try.prog w' = .ok (.string ⟨(List.replicate n (0 : UInt8)).toArray⟩) w' →
      wpList Try.prog ops Q rest (a.put o.dst (.slice (some ⟨w.heap.size, 0, none⟩) n n)) w') :
    wpList Try.prog ops Q (o :: rest) a w := by
  obtain ⟨i0, hi, hz0, hz1, hz2⟩ := info_parts (show (Try.prog.info? 5).map (fun i => (i.zero, i.size, i.bytes)) = some (some (.int .u8 0), 1, 1) by kernel_rfl)
  refine wpList_make_full w hg l c 41 hop w.heap.size 5 i0 (.int .u8 0) 1 Try.underlying41 hi hz0 hz1 .i64 .i64 L C n hl hc hL hC (by rw [hz2]; omega) (by unfold maxLen; omega) (Nat.le_refl _) ?_
  intro w' h1 h2
  have hrow : BRow w.heap.size (.slice (some ⟨w.heap.size, 0, none⟩) n n) (List.replicate n 0) w' := by
    unfold BRow
    rw [made_zeros] at h1
    rw [List.length_replicate]
    exact h1
  exact h w' hrow ((Below.refl _ w).grown h2 (Nat.le_refl _) (fun k hk => by simp at hk)) hrow.str
end Go.Proofs.Ytpfidbcnefnhcaa

/- Lists by numbers: Make, walked. -/
namespace Go.Proofs.Ytpfidbcnefnhcaa.XatW
open Go.RowKit
open XatM
set_option linter.unusedVariables false

structure Good (l : List Xa) : Prop where
  pw : PW l
  all : ∀ x ∈ l, okX x = true ∧ x.1.length ≠ 6 ∧ x.2.length ≤ 19
theorem Good.nil : Good [] := ⟨List.Pairwise.nil, by simp⟩
theorem Good.put {l : List Xa} {a : Xa} (h : Good l) (h1 : okX a = true) (h2 : a.1.length ≠ 6) (h3 : a.2.length ≤ 19) : Good (putX l a) :=
  ⟨put_pw h.pw, fun x hx => (put_mem hx).elim (fun e => by rw [e]; exact ⟨h1, h2, h3⟩) (fun hx => h.all x hx)⟩
theorem Good.may {l : List Xa} (h : Good l) (hl : l.length ≤ 32) : mayL l = true := by
  unfold mayL
  rw [decide_eq_true hl, asc_pw.2 h.pw, Bool.and_true, Bool.true_and, List.all_eq_true]
  exact fun x hx => (h.all x hx).1
theorem pre_ok : ∀ P ∈ [[117, 115, 101, 114, 46], [116, 114, 117, 115, 116, 101, 100, 46], [115, 101, 99, 117, 114, 105, 116, 121, 46], [120, 61], ([255] : List UInt8)], P ≠ [] ∧ P.contains 0 = false ∧ P.length ≤ 9 ∧ P.length ≠ 4 := by decide
theorem name_ok {P : List UInt8} {u1 u2 : UInt8} {V : List UInt8} (h : P ≠ [] ∧ P.contains 0 = false ∧ P.length ≤ 9 ∧ P.length ≠ 4) (h1 : u1 ≠ 0) (h2 : u2 ≠ 0) (hV : V.length ≤ 19) : okX (P ++ [u1, u2], V) = true ∧ (P ++ [u1, u2]).length ≠ 6 := by
  obtain ⟨h3, h4, h5, h6⟩ := h
  have hl : (P ++ [u1, u2]).length = P.length + 2 := by simp
  refine ⟨?_, by omega⟩
  have hp := EscM.put_len (P ++ [u1, u2])
  unfold okX
  simp only
  rw [decide_eq_true (show P ++ [u1, u2] ≠ [] by simp), decide_eq_true (show (EscM.put (P ++ [u1, u2])).length ≤ 238 by omega), decide_eq_true (show V.length ≤ 4096 by omega)]
  have : (P ++ [u1, u2]).contains 0 = false := by
    rw [Bool.eq_false_iff]
    intro hc
    rw [List.contains_iff_mem] at hc
    rcases List.mem_append.1 hc with hm | hm
    · rw [← List.contains_iff_mem, h4] at hm; cases hm
    · simp at hm
      rcases hm with e | e
      · exact h1 e.symm
      · exact h2 e.symm
  rw [this]
  rfl
theorem row_is {B G n : Nat} {l : List UInt8} {w : World} (h : BRow B (.slice (some ⟨G, 0, none⟩) n n) l w) : RowIs w G 5 l ∧ l.length = n := by
  rcases h.2 with ⟨hv, h0⟩ | ⟨g, cap, cur, hv, hB, hg, hc1, hc2, hcs, ht⟩
  · cases hv
  · cases hv
    refine ⟨⟨_, (0, 0), hg, .inl rfl, fun i hi => ?_⟩, rfl⟩
    have h1 := World.ownsRow.cells h rfl i (.int .u8 (l[i].toNat : Int)) (by simp [Lib.byteCells, List.getElem?_eq_getElem hi])
    rw [addr_zero_add, World.cell?, hg] at h1
    simpa using h1
theorem row_far {E : Elt Xa} {B G : Nat} {v : Value} {l : List Xa} {w w1 : World} (h : Row E B v l w) (hb : Below G w w1) (hv : ∀ k, v.ownBlock = some k → k < G) : Row E B v l w1 := by
  refine ⟨h.1, ?_⟩
  rcases h.2 with hn | ⟨g, cap, cur, rfl, hb0, hgg, rest⟩
  · exact .inl hn
  · exact .inr ⟨g, cap, cur, rfl, hb0, (hb.block g (hv g rfl)).trans hgg, rest⟩
attribute [local irreducible] Row At BRow

end Go.Proofs.Ytpfidbcnefnhcaa.XatW
