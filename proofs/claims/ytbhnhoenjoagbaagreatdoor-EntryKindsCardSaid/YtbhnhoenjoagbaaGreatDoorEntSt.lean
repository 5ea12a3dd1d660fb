/- Structs stored whole: into a block, or into a part of one; what stays as it was. -/
import Derived.Test.YtbhnhoenjoagbaaGreatDoorPk26
import Derived.Test.YtbhnhoenjoagbaaGreatDoorPk16
import Derived.Deep.MidRow
namespace Go.Proofs.YtbhnhoenjoagbaaGreatDoor
open Go.RowKit
set_option linter.unusedVariables false

structure Only (w w' : World) (g : Nat) : Prop where
  os : w'.os = w.os
  tape : w'.tape = w.tape
  output : w'.output = w.output
  size : w'.heap.size = w.heap.size
  block : ∀ b, b ≠ g → w'.heap[b]? = w.heap[b]?
theorem Only.refl (w : World) (g : Nat) : Only w w g := ⟨rfl, rfl, rfl, rfl, fun _ _ => rfl⟩
theorem Only.trans {w w1 w2 : World} {g : Nat} (h : Only w w1 g) (h2 : Only w1 w2 g) : Only w w2 g := ⟨h2.os.trans h.os, h2.tape.trans h.tape, h2.output.trans h.output, h2.size.trans h.size, fun b hb => (h2.block b hb).trans (h.block b hb)⟩
theorem Only.set (w : World) (g i : Nat) (v : Value) : Only w (w.setCell ⟨g, i, none⟩ v) g := by
  refine ⟨?_, ?_, ?_, by simp, fun b hb => Below.heap_setCell w ⟨g, i, none⟩ v b hb⟩ <;> (unfold World.setCell; split <;> rfl)
theorem Only.below {a w w' : World} {g : Nat} (h : Only w w' g) (hb : Below a.heap.size a w) (hg : a.heap.size ≤ g) : Below a.heap.size a w' :=
  ⟨h.os.trans hb.os, h.tape.trans hb.tape, h.output.trans hb.output, by rw [h.size]; exact hb.size, fun k hk => (h.block k (by omega)).trans (hb.block k hk)⟩
theorem Only.blk {w w' : World} {g b : Nat} {t : TypeId} {cs : Array Value} (h : Only w w' g) (hb : BlkIs w b t cs) (hn : b ≠ g) : BlkIs w' b t cs := (h.block b hn).trans hb
theorem Only.grown {w w' : World} {g : Nat} (h : Only w w' g) : w.grownBy w' (some g) := ⟨h.os, h.tape, h.output, Nat.le_of_eq h.size.symm, fun b _ hn => h.block b (fun e => hn (by rw [e]))⟩
theorem wpList_storeB {ops : Array Oper} {rest : List Oper} {o : Oper} {a : Act} {w : World} {Q : Exit → Act → World → Prop} (hgd : o.guard = none) (ty : TypeId) (x y : Operand) (ho : o.op = .store ty x y)
    (g : Nat) (cells : Array Value) (hx : a.eval x = .pointer (some ⟨g, 0, none⟩)) (hy : a.eval y = .agg cells) (t : TypeId) (old : Array Value) (hg : BlkIs w g t old)
    (hi : (Tryz.prog.info? ty).map (·.size) = some cells.size) (hold : old.size = cells.size) (h1 : cells.all (·.oneCell') = true)
    (h : ∀ W', BlkIs W' g t cells → Only w W' g → wpList Tryz.prog ops Q rest (a.put o.dst undef) W') : wpList Tryz.prog ops Q (o :: rest) a w := by
  refine wpList_store_row hgd ty x y ho g cells hx hy t old hg hi hold h1 (h _ (setRow_heap w g old cells t (0, 0) hg) ⟨rfl, rfl, rfl, by simp [World.setRow], fun b hb => ?_⟩)
  simp only [World.setRow]
  rw [Array.getElem?_modify]
  simp [Ne.symm hb]
def setL (cs : Array Value) : Nat → List Value → Array Value
  | _, [] => cs
  | o, v :: r => setL (cs.setIfInBounds o v) (o + 1) r
theorem setCells_is {g : Nat} {t : TypeId} : ∀ (l : List Value) (o : Nat) (cs : Array Value) (w : World), BlkIs w g t cs → BlkIs (w.setCells g o l) g t (setL cs o l) ∧ Only w (w.setCells g o l) g
  | [], _, _, w, h => ⟨h, Only.refl w g⟩
  | v :: r, o, cs, w, h => by
    have h1 := setCells_is r (o + 1) (cs.setIfInBounds o v) (w.setCell ⟨g, o, none⟩ v) (h.put o v)
    exact ⟨h1.1, (Only.set w g o v).trans h1.2⟩
theorem wpList_storeP {ops : Array Oper} {rest : List Oper} {o : Oper} {a : Act} {w : World} {Q : Exit → Act → World → Prop} (hgd : o.guard = none) (ty : TypeId) (x y : Operand) (ho : o.op = .store ty x y)
    (g k : Nat) (cells : Array Value) (hx : a.eval x = .pointer (some ⟨g, k, none⟩)) (hy : a.eval y = .agg cells) (t : TypeId) (old new : Array Value) (hg : BlkIs w g t old)
    (hi : (Tryz.prog.info? ty).map (·.size) = some cells.size) (hk : k + cells.size ≤ old.size) (h1 : cells.all (·.oneCell') = true) (hn : setL old k cells.toList = new)
    (h : ∀ W', BlkIs W' g t new → Only w W' g → wpList Tryz.prog ops Q rest (a.put o.dst undef) W') : wpList Tryz.prog ops Q (o :: rest) a w := by
  subst hn
  obtain ⟨h2, h3⟩ := setCells_is cells.toList k old w hg
  exact wpList_store_mid hgd ty x y ho g k cells hx hy (fun j hj => by
    have hj2 : k + j < old.size := by omega
    exact ⟨by rw [hg.cell]; simp [hj2], hg.free _⟩) hi h1 (h _ h2 h3)
end Go.Proofs.YtbhnhoenjoagbaaGreatDoor
