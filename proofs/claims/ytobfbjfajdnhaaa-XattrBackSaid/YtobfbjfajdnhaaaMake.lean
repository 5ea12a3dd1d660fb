/- make([]byte, n): n noughts, and their string. -/
import Derived.Test.YtobfbjfajdnhaaaBytes
import Derived.Laws.MakeOwn
namespace Go.Proofs.Ytobfbjfajdnhaaa
open Go.RowKit
set_option linter.unusedVariables false

theorem made_zeros (n : Nat) : (madeCells (Value.int .u8 0).cells (n * 1)).toList = Lib.byteCells (List.replicate n 0) := by
  rw [Nat.mul_one]
  apply List.ext_getElem?
  intro i
  by_cases hi : i < n
  · simp [madeCells, Lib.byteCells, Value.cells, hi, Nat.mod_one]
  · simp [madeCells, Lib.byteCells, hi]
/-- make([]byte, n). -/
theorem wp_make {ops : Array Oper} {rest : List Oper} {o : Oper} {a : Act} {Q : Exit → Act → World → Prop} (hg : o.guard = none) (l c : Operand) (hop : o.op = Op.makeSlice 39 l c)
    (w : World) (n : Nat) (L C : Int) (hl : a.eval l = .int .i64 L) (hc : a.eval c = .int .i64 C) (hL : L = (n : Int)) (hC : C = (n : Int)) (hn : n ≤ 1000000)
    (h : ∀ w', BRow w.heap.size (.slice (some ⟨w.heap.size, 0, none⟩) n n) (List.replicate n 0) w' → Below w.heap.size w w' →
      (convert 39 9 (.slice (some ⟨w.heap.size, 0, none⟩) n n)).run Try.prog w' = .ok (.string ⟨(List.replicate n (0 : UInt8)).toArray⟩) w' →
      wpList Try.prog ops Q rest (a.put o.dst (.slice (some ⟨w.heap.size, 0, none⟩) n n)) w') :
    wpList Try.prog ops Q (o :: rest) a w := by
  obtain ⟨i0, hi, hz0, hz1, hz2⟩ := info_parts (show (Try.prog.info? 5).map (fun i => (i.zero, i.size, i.bytes)) = some (some (.int .u8 0), 1, 1) by kernel_rfl)
  refine wpList_make_full w hg l c 39 hop w.heap.size 5 i0 (.int .u8 0) 1 Try.underlying39 hi hz0 hz1 .i64 .i64 L C n hl hc hL hC (by rw [hz2]; omega) (by unfold maxLen; omega) (Nat.le_refl _) ?_
  intro w' h1 h2
  have hrow : BRow w.heap.size (.slice (some ⟨w.heap.size, 0, none⟩) n n) (List.replicate n 0) w' := by
    unfold BRow
    rw [made_zeros] at h1
    rw [List.length_replicate]
    exact h1
  exact h w' hrow ((Below.refl _ w).grown h2 (Nat.le_refl _) (fun k hk => by simp at hk)) hrow.str
end Go.Proofs.Ytobfbjfajdnhaaa
