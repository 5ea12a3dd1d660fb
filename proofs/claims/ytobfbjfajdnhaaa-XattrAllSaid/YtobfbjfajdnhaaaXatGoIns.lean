/- slices.Insert of one more name with a value, into a list of the call's own. -/
import Derived.Test.YtobfbjfajdnhaaaIns
import Derived.Test.YtobfbjfajdnhaaaXatRow
import Derived.Test.YtobfbjfajdnhaaaChecked
import Derived.Shelf.Spec.SlicesInsertGrow
import Derived.Laws.Externs
import Derived.Deep.QuietTactic
import Derived.BigQuiet
import Derived.Outline
namespace Go.Proofs.Ytobfbjfajdnhaaa
open Go.RowKit
open XatM
set_option linter.unusedVariables false

def xaC (a : Xa) : List Value := [.string (strOf a.1), .string (strOf a.2)]
/-- One element in a block of its own. -/
def One (w : World) (gb : Nat) (a : Xa) : Prop := ∃ tb, w.heap[gb]? = some (.cells (xaC a).toArray tb (0, 0))
theorem One.at {w : World} {gb : Nat} {a : Xa} (h : One w gb a) : At xatE (.slice (some ⟨gb, 0, none⟩) 1 1) [a] w := by
  obtain ⟨tb, hb⟩ := h
  refine two_at xat_two rfl (by simp) (Array.getElem?_eq_some_iff.1 hb).1 ?_
  intro j hj
  have : j = 0 := by simpa using hj
  subst this
  exact ⟨by simp [World.cell?, hb, xaC], by simp [World.cell?, hb, xaC]⟩
theorem shape_row {w : World} {g : Nat} {cur : Array Value} {t : TypeId} (h : w.heap[g]? = some (.cells cur t (0, 0))) : w.shape? g = some (t, cur.size) := by simp [World.shape?, h]
theorem frozen_row {w : World} {g j : Nat} {cur : Array Value} {t : TypeId} (h : w.heap[g]? = some (.cells cur t (0, 0))) : w.frozen? ⟨g, j, none⟩ = false := frozen_of_row w g j cur t h
attribute [local irreducible] Row At

set_option maxHeartbeats 3200000 in
set_option maxRecDepth 100000 in
/-- At the end. -/
theorem insert_end (B : Nat) (v : Value) (l : List Xa) (a : Xa) (gb : Nat) (w : World) (hrow : Row xatE B v l w) (hl : l.length ≤ 1000) (hB : B ≤ w.heap.size) (hone : One w gb a) :
    Calls Try.prog 54 #[v, .int .i64 (l.length : Nat), .slice (some ⟨gb, 0, none⟩) 1 1] w fun e w' => (∃ v', e = .returned v' ∧ Row xatE B v' (l ++ [a]) w') ∧ Below B w w' := by
  have hat1 := hone.at
  have hla : l.length + [a].length ≤ 1000000 := by simp; omega
  obtain ⟨sv, hs1, _, _⟩ := slice_from hrow.at (Nat.le_refl l.length)
  obtain ⟨n, hn⟩ : ∃ n, l.length = n := ⟨_, rfl⟩
  obtain ⟨p, cap, rfl, hcap⟩ := hrow.at.shape
  rw [hn] at hs1 hcap hl hrow ⊢
  have Hn := Lib.hid hn
  clear hn hone
  go_enter Try.func54, Try.ntmps54
  go_wp2_with (at_builtin; refine wp_append_at xatE rfl _ _ rfl B (.slice p n cap) (.slice (some ⟨gb, 0, none⟩) 1 1) l [a] w rfl (by exact hrow) (by rfl) (by exact hat1) hla hB ?_)
  intro v6 w6 hR6 hb6 _ _
  go_wp2_with fail
  go_ret
  exact ⟨⟨_, rfl, hR6⟩, hb6⟩

set_option maxHeartbeats 3200000 in
set_option maxRecDepth 100000 in
/-- Before the end, where there is room. -/
theorem insert_room (B g cap i : Nat) (l : List Xa) (a : Xa) (gb : Nat) (w : World) (hrow : Row xatE B (.slice (some ⟨g, 0, none⟩) l.length cap) l w) (hi : i < l.length) (hc : l.length + 1 ≤ cap) (hB : B ≤ w.heap.size) (hone : One w gb a) (hne : gb ≠ g) :
    Calls Try.prog 54 #[.slice (some ⟨g, 0, none⟩) l.length cap, .int .i64 (i : Nat), .slice (some ⟨gb, 0, none⟩) 1 1] w fun e w' => (∃ v', e = .returned v' ∧ Row xatE B v' (l.take i ++ [a] ++ l.drop i) w') ∧ Below B w w' := by
  obtain ⟨_, hBg, _, hcm, cur, hg, hcs, ht⟩ := hrow.block
  obtain ⟨tb, hgb⟩ := hone
  have hk2 : (xatE).k = 2 := rfl
  rw [hk2] at hcs ht
  obtain ⟨n, hn⟩ : ∃ n, l.length = n := ⟨_, rfl⟩
  have hcl : (cellsE xatE l).length = n * 2 := by rw [cellsE_length, hn, hk2]
  have hdl : (cellsE xatE (l.drop i)).length = (n - i) * 2 := by rw [cellsE_length, List.length_drop, hn, hk2]
  rw [hn] at hi hc ht ⊢
  have hcap63 : cap ≤ 9223372036854775807 := by unfold maxLen at hcm; omega
  have hsz : (Try.prog.info? 42).map (·.size) = some 2 := by kernel_rfl
  have huu : Try.prog.underlying 22 = some (.slice 42) := Try.underlying22
  have hov : ∀ lb cb, (callFunc 64 #[.slice (some ⟨gb, 0, none⟩) 1 1, .slice (some ⟨g, (i + 1) * 2, none⟩) lb cb]).run Try.prog w = .ok (.value (.bool false)) w := fun lb cb => by
    rw [run_callFunc_extern Try.func64 (by kernel_rfl) (by kernel_rfl) (by kernel_rfl) (e := Extern.SlicesOverlaps.overlaps #[22, 22] #[4]) (by kernel_rfl),
      Lib.run_overlaps_apart w 22 4 42 huu 2 (fun w => by kernel_rfl) ⟨gb, 0, none⟩ ⟨g, (i + 1) * 2, none⟩ 1 1 lb cb hne tb 42 2 cur.size (shape_row hgb) (shape_row hg) (by omega) (frozen_row hgb) (frozen_row hgb)]
    rfl
  obtain ⟨X1, hX1⟩ : ∃ X1, (splice cur.toList ((i + 1) * 2) (cellsE xatE (l.drop i))).toArray = X1 := ⟨_, rfl⟩
  obtain ⟨X2, hX2⟩ : ∃ X2, (splice X1.toList (i * 2) (xaC a)).toArray = X2 := ⟨_, rfl⟩
  have hX1s : X1.size = cur.size := by rw [← hX1]; simp only [List.size_toArray]; rw [length_splice _ _ _ (by rw [hdl, Array.length_toList, hcs]; omega)]; simp
  have hX2s : X2.size = cur.size := by rw [← hX2]; simp only [List.size_toArray]; rw [length_splice _ _ _ (by simp [xaC]; omega)]; simp [hX1s]
  have hcp1 : ∀ ty dc sc, (Builtin.copy_ #[22, 22] ty #[.slice (some ⟨g, (i + 1) * 2, none⟩) (n - i) dc, .slice (some ⟨g, i * 2, none⟩) (n + 1 - i) sc]).run Try.prog w.drew = .ok (goInt (n - i : Nat)) (w.drew.setRow g X1) := fun ty dc sc => by
    rw [← hX1]
    refine run_copy_elts w.drew _ _ ty 42 2 (n - i) g ((i + 1) * 2) (n - i) dc ⟨g, i * 2, none⟩ (n + 1 - i) sc cur 42 (cellsE xatE (l.drop i)) huu hsz hg (by simp only [Nat.min_def]; split <;> omega) hdl ?_ (by rw [hdl, hcs]; omega) (cellsE_one _)
    intro j v hj
    rw [addr_off_add]
    have e : (cellsE xatE l)[i * 2 + j]? = some v := by rw [← cellsE_drop (E := xatE), List.getElem?_drop] at hj; exact hj
    rw [← ht, List.getElem?_take] at e
    split at e
    · exact (show w.cell? ⟨g, i * 2 + j, none⟩ = some v by simp [World.cell?, hg] at e ⊢; exact e)
    · cases e
  have hcp2 : ∀ (W : World), W.heap[g]? = some (.cells X1 42 (0, 0)) → W.heap[gb]? = some (.cells (xaC a).toArray tb (0, 0)) → ∀ ty dc, (Builtin.copy_ #[22, 22] ty #[.slice (some ⟨g, i * 2, none⟩) (n + 1 - i) dc, .slice (some ⟨gb, 0, none⟩) 1 1]).run Try.prog W = .ok (goInt (1 : Nat)) (W.setRow g X2) := fun W hW1 hW2 ty dc => by
    rw [← hX2]
    refine run_copy_elts W _ _ ty 42 2 1 g (i * 2) (n + 1 - i) dc ⟨gb, 0, none⟩ 1 1 X1 42 (xaC a) huu hsz hW1 (by simp only [Nat.min_def]; split <;> omega) rfl ?_ (by rw [hX1s, hcs]; simp [xaC]; omega) (xatE.one a)
    intro j v hj
    rw [addr_off_add, Nat.zero_add]
    simp [World.cell?, hW2]
    exact hj
  have hq1 : (w.drew.setRow g X1).heap[g]? = some (.cells X1 42 (0, 0)) := setRow_heap _ g cur X1 _ _ hg
  have hq2 : (w.drew.setRow g X1).heap[gb]? = some (.cells (xaC a).toArray tb (0, 0)) := by rw [setRow_other _ _ _ _ hne]; exact hgb
  have HR : Hid (Row xatE B (.slice (some ⟨g, 0, none⟩) (n + 1) cap) (l.take i ++ [a] ++ l.drop i) ((w.drew.setRow g X1).setRow g X2) ∧ Below B w ((w.drew.setRow g X1).setRow g X2)) := Lib.hid ⟨by
      refine Row.of_block (by simp; omega) hBg (setRow_heap _ g X1 X2 _ _ hq1) hc hcm (by rw [hX2s, hcs, hk2]) ?_
      rw [← hX2, hk2, ← hX1]
      simp only
      rw [show (i + 1) * 2 = i * 2 + (xaC a).length by simp [xaC]; omega, splice_two cur.toList (xaC a) (cellsE xatE (l.drop i)) (i * 2) ((n + 1) * 2) (by rw [hdl]; simp [xaC]; omega) (by simp; omega)]
      rw [cellsE_append, cellsE_append, ← cellsE_take (E := xatE), hk2, ← ht, List.take_take, Nat.min_eq_left (by omega)]
      rfl,
    below_setRow (below_setRow (Below.refl B w).drew hBg _) hBg _⟩
  have mixed : Try.prog.follows .mixedOrders = true := by kernel_rfl
  have hw1 : IntKind.i64.wrap ((i : Int) + 1) = (i : Int) + 1 := by rw [IntKind.wrap_i64]; omega
  have hb1 : (0 : Int) ≤ (i : Int) + 1 := by omega
  have hin : i ≤ n := by omega
  have htn : ((i : Int) + 1).toNat = i + 1 := by omega
  have hb2 : ¬ (cap = i + 1) := by omega
  have hb3 : (i : Int) ≤ (n : Int) + 1 := by omega
  have hb4 : ¬ (cap = i) := by omega
  have hb5 : ¬ ((i : Int) = (n : Int)) := by omega
  have hb6 : ¬ ((cap : Int) < (n : Int) + 1) := by omega
  have hb7 : i ≤ n + 1 := by omega
  have htn2 : ((n : Int) + 1).toNat = n + 1 := by omega
  clear hrow hn hcl hdl ht hX1 hX2 hX1s hX2s hcs hg hgb
  go_enter Try.func54, Try.ntmps54
  go_wp2_with (simp only [hov])
  go_region_law_o (refine step_copy_runI rfl _ _ 22 22 rfl _ _ (by simp [Act.eval, Act.put]) (by simp [Act.eval, Act.put]) (hcp1 _ _ _) ?_)
  go_wp2_with (at_builtin; refine wpList_copy_runI _ rfl _ _ 22 22 rfl _ _ rfl rfl (hcp2 _ hq1 hq2 _ _) ?_)
  go_ret
  exact ⟨⟨_, rfl, HR.out.1⟩, HR.out.2⟩
end Go.Proofs.Ytobfbjfajdnhaaa
