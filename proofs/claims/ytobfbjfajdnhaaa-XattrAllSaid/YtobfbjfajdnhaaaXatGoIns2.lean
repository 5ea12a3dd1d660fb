/- slices.Insert of one more name with a value, where there is no room; all roads together. -/
import Derived.Test.YtobfbjfajdnhaaaXatGoIns
namespace Go.Proofs.Ytobfbjfajdnhaaa
open Go.RowKit
open XatM
set_option linter.unusedVariables false
attribute [local irreducible] Row At

set_option maxHeartbeats 3200000 in
set_option maxRecDepth 100000 in
/-- Before the end, where there is no room. -/
theorem insert_grow (B g cap i : Nat) (l : List Xa) (a : Xa) (gb : Nat) (w : World) (hrow : Row xatE B (.slice (some ⟨g, 0, none⟩) l.length cap) l w) (hi : i < l.length) (hl : l.length ≤ 1000) (hc : cap < l.length + 1) (hB : B ≤ w.heap.size) (hone : One w gb a) :
    Calls Try.prog 54 #[.slice (some ⟨g, 0, none⟩) l.length cap, .int .i64 (i : Nat), .slice (some ⟨gb, 0, none⟩) 1 1] w fun e w' => (∃ v', e = .returned v' ∧ Row xatE B v' (l.take i ++ [a] ++ l.drop i) w') ∧ Below B w w' := by
  obtain ⟨_, hBg, hnc, hcm, cur, hg, hcs, ht⟩ := hrow.block
  obtain ⟨tb, hgb⟩ := hone
  have hk2 : (xatE).k = 2 := rfl
  rw [hk2] at hcs ht
  obtain ⟨n, hn⟩ : ∃ n, l.length = n := ⟨_, rfl⟩
  have hdl : (cellsE xatE (l.drop i)).length = (n - i) * 2 := by rw [cellsE_length, List.length_drop, hn, hk2]
  have htl : (cellsE xatE (l.take i)).length = i * 2 := by rw [cellsE_length, List.length_take, hk2, Nat.min_eq_left (by omega)]
  rw [hn] at hi hc ht hl hnc ⊢
  have hsz : (Try.prog.info? 42).map (·.size) = some 2 := by kernel_rfl
  have huu : Try.prog.underlying 22 = some (.slice 42) := Try.underlying22
  have hui : Try.prog.underlying 3 = some (.int .i64) := Try.underlying3
  obtain ⟨i0, hi0, hz0, hz1, hz2⟩ := info_parts (xatE).inf
  have hgw : g < w.heap.size := (Array.getElem?_eq_some_iff.1 hg).1
  have hgbw : gb < w.heap.size := (Array.getElem?_eq_some_iff.1 hgb).1
  have hsrc : ∀ j v, (cellsE xatE l)[j]? = some v → w.cell? ⟨g, j, none⟩ = some v := fun j v e => by
    rw [← ht, List.getElem?_take] at e
    split at e
    · simp [World.cell?, hg] at e ⊢; exact e
    · cases e
  have hold : (Builtin.firstCells i0.size i (.slice (some ⟨g, 0, none⟩) i cap)).run Try.prog w.drew = .ok (cellsE xatE (l.take i)).toArray w.drew := by
    rw [hz1]
    refine run_firstCells_some w.drew 2 i ⟨g, 0, none⟩ i cap (cellsE xatE (l.take i)) htl (fun j v hj => ?_)
    rw [addr_off_add, Nat.zero_add]
    refine (show w.cell? ⟨g, j, none⟩ = some v from hsrc j v ?_)
    rw [← cellsE_take (E := xatE), List.getElem?_take] at hj
    split at hj
    · exact hj
    · cases hj
  obtain ⟨G, hG⟩ : ∃ G, grownCap w (n + 1) cap 42 = G := ⟨_, rfl⟩
  obtain ⟨N, hN⟩ : ∃ N, w.heap.size = N := ⟨_, rfl⟩
  have hGn : n + 1 ≤ G := by rw [← hG]; exact grownCap_ge w _ _ _
  have hGm : G ≤ maxLen := by rw [← hG]; exact grownCap_le_maxLen w _ _ _ (by unfold maxLen; omega)
  obtain ⟨ROW, hROW⟩ : ∃ ROW, (cellsE xatE (l.take i)).toArray ++ Builtin.zeroCells (xatE).z.cells (n + 1 - i) ++ Builtin.zeroCells (xatE).z.cells (G - (n + 1)) = ROW := ⟨_, rfl⟩
  have hRs : ROW.size = G * 2 := by
    rw [← hROW]
    simp only [Array.size_append, zeroCells_size, (xatE).zk, hk2, List.size_toArray, htl]
    omega
  have hRt : ROW.toList.take (i * 2) = cellsE xatE (l.take i) := by
    rw [← hROW]
    simp only [Array.toList_append, List.append_assoc]
    exact List.take_left' htl
  obtain ⟨W1, hW1⟩ : ∃ W1, w.drew.alloc (.cells ROW 42) = W1 := ⟨_, rfl⟩
  have hkk : (n : Int) + 1 - (i : Int) = ((n + 1 - i : Nat) : Int) := by omega
  have hik : i + (n + 1 - i) = n + 1 := by omega
  have hrz : ∀ ty, (Builtin.append_ #[22, 3] ty #[.slice (some ⟨g, 0, none⟩) i cap, .int .i64 ((n : Int) + 1 - (i : Int))]).run Try.prog w = .ok (.slice (some ⟨N, 0, none⟩) (n + 1) G) W1 := fun ty => by
    have h := Lib.run_append_grow_zeros w 22 3 ty 42 i0 _ .i64 .i64 huu hui hi0 hz0 (some ⟨g, 0, none⟩) i cap (cellsE xatE (l.take i)) hold (n + 1 - i) (by omega) (by rw [hz1]; decide) (by omega) (by omega) (by rw [hz2]; show _ * 32 ≤ _; omega) (by rw [hz2, hik]; exact growslice_fits (by omega) (by show _ * 32 ≤ _; omega))
    rw [hik, hG, hROW, hW1, hN] at h
    rw [hkk]
    exact h
  have hN1 : W1.heap[N]? = some (.cells ROW 42 (0, 0)) := by rw [← hW1, ← hN]; exact (show (w.heap.push (Obj.cells ROW 42 (0, 0)))[w.heap.size]? = _ from Array.getElem?_push_size)
  have hO : ∀ k, k < N → W1.heap[k]? = w.heap[k]? := fun k hk => by
    rw [← hW1]
    refine (show (w.heap.push (Obj.cells ROW 42 (0, 0)))[k]? = _ from ?_)
    rw [Array.getElem?_push, if_neg (by omega)]
  rw [hN] at hgw hgbw hB
  have hg1 : W1.heap[g]? = some (.cells cur 42 (0, 0)) := by rw [hO g hgw]; exact hg
  have hgb1 : W1.heap[gb]? = some (.cells (xaC a).toArray tb (0, 0)) := by rw [hO gb hgbw]; exact hgb
  obtain ⟨X1, hX1⟩ : ∃ X1, (splice ROW.toList (i * 2) (xaC a)).toArray = X1 := ⟨_, rfl⟩
  obtain ⟨X2, hX2⟩ : ∃ X2, (splice X1.toList ((i + 1) * 2) (cellsE xatE (l.drop i))).toArray = X2 := ⟨_, rfl⟩
  have hX1s : X1.size = G * 2 := by rw [← hX1]; simp only [List.size_toArray]; rw [length_splice _ _ _ (by simp [xaC]; omega)]; simp [hRs]
  have hX2s : X2.size = G * 2 := by rw [← hX2]; simp only [List.size_toArray]; rw [length_splice _ _ _ (by rw [hdl, Array.length_toList, hX1s]; omega)]; simp [hX1s]
  have hcpA : ∀ ty dc, (Builtin.copy_ #[22, 22] ty #[.slice (some ⟨N, i * 2, none⟩) (n + 1 - i) dc, .slice (some ⟨gb, 0, none⟩) 1 1]).run Try.prog W1 = .ok (goInt (1 : Nat)) (W1.setRow N X1) := fun ty dc => by
    rw [← hX1]
    refine run_copy_elts W1 _ _ ty 42 2 1 N (i * 2) (n + 1 - i) dc ⟨gb, 0, none⟩ 1 1 ROW 42 (xaC a) huu hsz hN1 (by simp only [Nat.min_def]; split <;> omega) rfl ?_ (by rw [hRs]; simp [xaC]; omega) (xatE.one a)
    intro j v hj
    rw [addr_off_add, Nat.zero_add]
    simp [World.cell?, hgb1]
    exact hj
  obtain ⟨W2, hW2⟩ : ∃ W2, W1.setRow N X1 = W2 := ⟨_, rfl⟩
  have hN2 : W2.heap[N]? = some (.cells X1 42 (0, 0)) := by rw [← hW2]; exact setRow_heap _ N ROW X1 _ _ hN1
  have hg2 : W2.heap[g]? = some (.cells cur 42 (0, 0)) := by rw [← hW2, setRow_other _ _ _ _ (by omega)]; exact hg1
  have hcpB : ∀ ty dc sc, (Builtin.copy_ #[22, 22] ty #[.slice (some ⟨N, (i + 1) * 2, none⟩) (n - i) dc, .slice (some ⟨g, i * 2, none⟩) (n - i) sc]).run Try.prog W2.drew = .ok (goInt (n - i : Nat)) (W2.drew.setRow N X2) := fun ty dc sc => by
    rw [← hX2]
    refine run_copy_elts W2.drew _ _ ty 42 2 (n - i) N ((i + 1) * 2) (n - i) dc ⟨g, i * 2, none⟩ (n - i) sc X1 42 (cellsE xatE (l.drop i)) huu hsz hN2 (by simp only [Nat.min_def]; split <;> omega) hdl ?_ (by rw [hdl, hX1s]; omega) (cellsE_one _)
    intro j v hj
    rw [addr_off_add]
    rw [← cellsE_drop (E := xatE), List.getElem?_drop] at hj
    have e := hsrc _ v hj
    refine (show W2.cell? ⟨g, i * 2 + j, none⟩ = some v from ?_)
    simp [World.cell?, hg] at e
    simp [World.cell?, hg2]
    exact e
  have hb1w : Below B w W1 := by rw [← hW1]; exact (Below.refl B w).drew.alloc (by rw [show w.drew.heap.size = w.heap.size from rfl, hN]; exact hB) _
  have HR : Hid (Row xatE B (.slice (some ⟨N, 0, none⟩) (n + 1) G) (l.take i ++ [a] ++ l.drop i) (W2.drew.setRow N X2) ∧ Below B w (W2.drew.setRow N X2)) := Lib.hid ⟨by
      refine Row.of_block (by simp; omega) hB (setRow_heap W2.drew N X1 X2 _ _ hN2) hGn hGm (by rw [hX2s, hk2]) ?_
      rw [← hX2, hk2, ← hX1]
      simp only
      rw [show (i + 1) * 2 = i * 2 + (xaC a).length by simp [xaC]; omega, splice_seq ROW.toList (xaC a) (cellsE xatE (l.drop i)) (i * 2) ((n + 1) * 2) (by rw [hdl]; simp [xaC]; omega) (by simp; omega)]
      rw [cellsE_append, cellsE_append, hRt]
      rfl,
    below_setRow (by rw [← hW2]; exact (below_setRow hb1w hB _).drew) hB _⟩
  subst hW2
  have mixed : Try.prog.follows .mixedOrders = true := by kernel_rfl
  have hw1 : IntKind.i64.wrap ((i : Int) + 1) = (i : Int) + 1 := by rw [IntKind.wrap_i64]; omega
  have hb1 : (0 : Int) ≤ (i : Int) + 1 := by omega
  have hin : i ≤ n := by omega
  have htn : ((i : Int) + 1).toNat = i + 1 := by omega
  have hb4 : ¬ (cap = i) := by omega
  have hb5 : ¬ ((i : Int) = (n : Int)) := by omega
  have hb6 : (cap : Int) < (n : Int) + 1 := by omega
  have hGi : ¬ (G = i) := by omega
  have hGim : ¬ (G = i + 1) := by omega
  have hG63 : G ≤ 9223372036854775807 := by unfold maxLen at hGm; omega
  have hc63 : cap ≤ 9223372036854775807 := by unfold maxLen at hcm; omega
  have hb7 : i ≤ n + 1 := by omega
  have hb3 : (i : Int) ≤ (n : Int) := by omega
  clear hrow hn hdl htl ht hX1 hX2 hX1s hX2s hcs hg hgb hold hi0 hz0 hz1 hz2 hsrc hG hN hROW hRs hRt hW1 hO hN1 hN2 hg1 hg2 hgb1 hkk hik hb1w
  go_enter Try.func54, Try.ntmps54
  go_wp2_with (first
    | (at_builtin; refine Lib.wpList_append_run _ rfl _ _ _ _ rfl _ _ rfl rfl _ _ (hrz _) ?_)
    | (at_builtin; refine wpList_copy_runI _ rfl _ _ 22 22 rfl _ _ rfl rfl (hcpA _ _) ?_))
  go_region_law_o (refine step_copy_runI rfl _ _ 22 22 rfl _ _ (by simp [Act.eval, Act.put]) (by simp [Act.eval, Act.put]) (hcpB _ _ _) ?_)
  go_wp2_with fail
  go_ret
  exact ⟨⟨_, rfl, HR.out.1⟩, HR.out.2⟩
theorem insert_any (B : Nat) (v : Value) (l : List Xa) (i : Nat) (a : Xa) (gb : Nat) (w : World) (hrow : Row xatE B v l w) (hi : i ≤ l.length) (hl : l.length ≤ 1000) (hB : B ≤ w.heap.size) (hone : One w gb a) (hne : v.ownBlock ≠ some gb) :
    Calls Try.prog 54 #[v, .int .i64 (i : Nat), .slice (some ⟨gb, 0, none⟩) 1 1] w fun e w' => (∃ v', e = .returned v' ∧ Row xatE B v' (l.take i ++ [a] ++ l.drop i) w') ∧ Below B w w' := by
  by_cases he : i = l.length
  · have e : l.take i ++ [a] ++ l.drop i = l ++ [a] := by rw [he]; simp
    rw [e, he]
    exact insert_end B v l a gb w hrow hl hB hone
  · rcases hrow.kinds with ⟨rfl, rfl⟩ | ⟨g, cap, rfl⟩
    · simp at hi he; omega
    · by_cases hc : l.length + 1 ≤ cap
      · exact insert_room B g cap i l a gb w hrow (by omega) hc hB hone (fun h => hne (by rw [h]; rfl))
      · exact insert_grow B g cap i l a gb w hrow (by omega) hl (by omega) hB hone
end Go.Proofs.Ytobfbjfajdnhaaa
