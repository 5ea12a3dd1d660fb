/- Bundle of 3 texts. -/
import Derived.Test.YtobfbjfajdnhaaaElt
import Derived.Laws.CopyRow
import Derived.Laws.CopyOwn
import Derived.Test.YtobfbjfajdnhaaaXatRow
import Derived.Test.YtobfbjfajdnhaaaChecked
import Derived.Shelf.Spec.SlicesInsertGrow
import Derived.Laws.Externs
import Derived.Deep.QuietTactic
import Derived.BigQuiet
import Derived.Outline
/- copy between slices of elements of any number of cells, into a row known whole; a slice of the call's own as its block. -/
namespace Go.Proofs.Ytobfbjfajdnhaaa
open Go.RowKit
set_option linter.unusedVariables false
variable {α : Type} {E : Elt α}

theorem run_copy_elts {P : Program} (w : World) (dT sT ty elem : TypeId) (k n g o dLen dCap : Nat) (a : Addr) (sLen sCap : Nat) (cur : Array Value) (t : TypeId) (cs : List Value)
    (hu : P.underlying dT = some (.slice elem)) (hs : (P.info? elem).map (·.size) = some k)
    (hg : w.heap[g]? = some (.cells cur t (0, 0))) (hn : n = Nat.min sLen dLen) (hcs : cs.length = n * k)
    (hsrc : ∀ j v, cs[j]? = some v → w.cell? (a.add j) = some v) (hfit : o + cs.length ≤ cur.size) (h1 : ∀ v ∈ cs, v.oneCell' = true) :
    (Builtin.copy_ #[dT, sT] ty #[.slice (some ⟨g, o, none⟩) dLen dCap, .slice (some a) sLen sCap]).run P w =
      .ok (goInt n) (w.setRow g (splice cur.toList o cs).toArray) := by
  have hl := run_loadCells_list (P := P) w a cs hsrc
  have hst := run_storeCells_at P g o t cs 0 cur w hg (by simpa using hfit) h1
  rw [hcs] at hl
  cases hq : P.info? elem with
  | none => simp [hq] at hs
  | some i =>
    have hi : i.size = k := by simpa [hq] using hs
    simp [Builtin.copy_, run_underlying hu, Builtin.lenOf, Builtin.firstCells, sizeOf, typeInfo, hq, hi, ← hn, hl, hst, splice]
/-- A slice of the call's own that is not nil: its block. -/
theorem Row.block {B g n cap : Nat} {l : List α} {w : World} (h : Row E B (.slice (some ⟨g, 0, none⟩) n cap) l w) :
    n = l.length ∧ B ≤ g ∧ n ≤ cap ∧ cap ≤ maxLen ∧ ∃ cur, w.heap[g]? = some (.cells cur E.t (0, 0)) ∧ cur.size = cap * E.k ∧ cur.toList.take (n * E.k) = cellsE E l := by
  obtain ⟨h1, h2⟩ := h
  rcases h2 with ⟨h', _⟩ | ⟨g', cap', cur, h', hb, hg, hnc, hcm, hcs, ht⟩
  · simp at h'
  · simp only [Value.slice.injEq, Option.some.injEq, Addr.mk.injEq, and_true, true_and] at h'
    obtain ⟨rfl, rfl, rfl⟩ := h'
    exact ⟨rfl, hb, hnc, hcm, cur, hg, hcs, ht⟩
theorem Row.of_block {B g n cap : Nat} {l : List α} {w : World} {cur : Array Value} (hn : n = l.length) (hB : B ≤ g) (hg : w.heap[g]? = some (.cells cur E.t (0, 0))) (hc : n ≤ cap) (hm : cap ≤ maxLen) (hs : cur.size = cap * E.k) (ht : cur.toList.take (n * E.k) = cellsE E l) :
    Row E B (.slice (some ⟨g, 0, none⟩) n cap) l w := by
  subst hn
  exact ⟨cellsE_length l, .inr ⟨g, cap, cur, rfl, hB, hg, hc, hm, hs, ht⟩⟩
theorem Row.kinds {B : Nat} {v : Value} {l : List α} {w : World} (h : Row E B v l w) : (v = .slice none 0 0 ∧ l = []) ∨ ∃ g cap, v = .slice (some ⟨g, 0, none⟩) l.length cap := by
  rcases h.2 with ⟨hv, h0⟩ | ⟨g, cap, cur, hv, _⟩
  · exact .inl ⟨hv, List.eq_nil_of_length_eq_zero h0⟩
  · exact .inr ⟨g, cap, hv⟩
theorem cellsE_drop (l : List α) (i : Nat) : (cellsE E l).drop (i * E.k) = cellsE E (l.drop i) := by
  by_cases h : i ≤ l.length
  · have e : cellsE E l = cellsE E (l.take i) ++ cellsE E (l.drop i) := by rw [← cellsE_append, List.take_append_drop]
    rw [e]
    exact List.drop_left' (by rw [cellsE_length, List.length_take, Nat.min_eq_left h])
  · have h2 : l.length ≤ i := by omega
    rw [List.drop_eq_nil_of_le h2, List.drop_eq_nil_of_le (by rw [cellsE_length]; exact Nat.mul_le_mul_right _ h2)]
    rfl
theorem cellsE_take (l : List α) (i : Nat) : (cellsE E l).take (i * E.k) = cellsE E (l.take i) := by
  by_cases h : i ≤ l.length
  · have e : cellsE E l = cellsE E (l.take i) ++ cellsE E (l.drop i) := by rw [← cellsE_append, List.take_append_drop]
    rw [e]
    exact List.take_left' (by rw [cellsE_length, List.length_take, Nat.min_eq_left h])
  · have h2 : l.length ≤ i := by omega
    rw [List.take_of_length_le h2, List.take_of_length_le (by rw [cellsE_length]; exact Nat.mul_le_mul_right _ h2)]
/-- What stands behind two copies: from a place on one further, then one at the place. -/
theorem splice_take {β : Type} (L cs : List β) (o n : Nat) (h : o + cs.length = n) (h2 : n ≤ L.length) : (splice L o cs).take n = L.take o ++ cs := by
  unfold splice
  rw [← List.append_assoc]
  exact List.take_left' (by rw [List.length_append, List.length_take]; omega)
theorem splice_two {β : Type} (L one rest : List β) (o n : Nat) (hn : o + one.length + rest.length = n) (hL : n ≤ L.length) :
    (splice (splice L (o + one.length) rest) o one).take n = L.take o ++ one ++ rest := by
  have e1 : (splice L (o + one.length) rest).take n = L.take (o + one.length) ++ rest := splice_take L rest _ n hn hL
  have e2 : (splice (splice L (o + one.length) rest) o one).take n = ((splice L (o + one.length) rest).take n).take o ++ one ++ ((splice L (o + one.length) rest).take n).drop (o + one.length) := by
    unfold splice
    generalize hM : L.take (o + one.length) ++ (rest ++ L.drop (o + one.length + rest.length)) = M
    have hMl : n ≤ M.length := by rw [← hM]; simp; omega
    apply List.ext_getElem?
    intro j
    simp only [List.getElem?_take, List.getElem?_append, List.getElem?_drop, List.length_append, List.length_take]
    have h1 : min o M.length = o := by omega
    have h2 : min o (min n M.length) = o := by omega
    rw [h1, h2]
    by_cases hj : j < n
    · simp only [hj, if_true]
      by_cases h3 : j < o
      · have h4 : j < o + one.length := by omega
        simp [h3, h4]
      · by_cases h4 : j < o + one.length
        · have h5 : j - o < one.length := by omega
          simp [h3, h4, h5]
        · have h5 : ¬ j - o < one.length := by omega
          have h6 : o + one.length + (j - o - one.length) = j := by omega
          have h7 : o + one.length + (j - (o + one.length)) = j := by omega
          simp [h3, h4, h5, h6, h7, hj]
    · have h3 : ¬ j < o := by omega
      have h4 : ¬ j < o + one.length := by omega
      have h7 : o + one.length + (j - (o + one.length)) = j := by omega
      simp [hj, h3, h4, h7]
  rw [e2, e1]
  congr 1
  · congr 1
    rw [List.take_append_of_le_length (by rw [List.length_take]; omega), List.take_take, Nat.min_eq_left (by omega)]
  · exact List.drop_left' (by rw [List.length_take]; omega)
theorem splice_seq {β : Type} (L one rest : List β) (o n : Nat) (hn : o + one.length + rest.length = n) (hL : n ≤ L.length) :
    (splice (splice L o one) (o + one.length) rest).take n = L.take o ++ one ++ rest := by
  have hl : (splice L o one).length = L.length := length_splice L o one (by omega)
  rw [splice_take _ rest _ n hn (by omega), splice_take L one o (o + one.length) rfl (by omega)]
theorem zeroCells_size (z : Array Value) (n : Nat) : (Builtin.zeroCells z n).size = n * z.size := by
  simp [Builtin.zeroCells, Nat.mul_comm]
end Go.Proofs.Ytobfbjfajdnhaaa

/- slices.Insert of one more name with a value, into a list of the call's own. -/
namespace Go.Proofs.Ytobfbjfajdnhaaa
open Go.RowKit
open XatM
set_option linter.unusedVariables false

def xaC (a : Xa) : List Value := [.string (strOf a.1), .string (strOf a.2)]
/-- One element in a block of its own. -/
def One (w : World) (gb : Nat) (a : Xa) : Prop := ∃ tb, w.heap[gb]? = some (.cells (xaC a).toArray tb (0, 0))
theorem One.at {w : World} {gb : Nat} {a : Xa} (h : One w gb a) : At xatE (.slice (some ⟨gb, 0, none⟩) 1 1) [a] w := by
  obtain ⟨tb, hb⟩ := h
  refine two_at xat_two rfl (by simp) (Array.getElem?_eq_some_iff.1 hb).1 ?_
  intro j hj
  have : j = 0 := by simpa using hj
  subst this
  exact ⟨by simp [World.cell?, hb, xaC], by simp [World.cell?, hb, xaC]⟩
theorem shape_row {w : World} {g : Nat} {cur : Array Value} {t : TypeId} (h : w.heap[g]? = some (.cells cur t (0, 0))) : w.shape? g = some (t, cur.size) := by simp [World.shape?, h]
theorem frozen_row {w : World} {g j : Nat} {cur : Array Value} {t : TypeId} (h : w.heap[g]? = some (.cells cur t (0, 0))) : w.frozen? ⟨g, j, none⟩ = false := frozen_of_row w g j cur t h
attribute [local irreducible] Row At

set_option maxHeartbeats 3200000 in
set_option maxRecDepth 100000 in
/-- At the end. -/
theorem insert_end (B : Nat) (v : Value) (l : List Xa) (a : Xa) (gb : Nat) (w : World) (hrow : Row xatE B v l w) (hl : l.length ≤ 1000) (hB : B ≤ w.heap.size) (hone : One w gb a) :
    Calls Try.prog 54 #[v, .int .i64 (l.length : Nat), .slice (some ⟨gb, 0, none⟩) 1 1] w fun e w' => (∃ v', e = .returned v' ∧ Row xatE B v' (l ++ [a]) w') ∧ Below B w w' := by
  have hat1 := hone.at
  have hla : l.length + [a].length ≤ 1000000 := by simp; omega
  obtain ⟨sv, hs1, _, _⟩ := slice_from hrow.at (Nat.le_refl l.length)
  obtain ⟨n, hn⟩ : ∃ n, l.length = n := ⟨_, rfl⟩
  obtain ⟨p, cap, rfl, hcap⟩ := hrow.at.shape
  rw [hn] at hs1 hcap hl hrow ⊢
  have Hn := Lib.hid hn
  clear hn hone
  go_enter Try.func54, Try.ntmps54
  go_wp2_with (at_builtin; refine wp_append_at xatE rfl _ _ rfl B (.slice p n cap) (.slice (some ⟨gb, 0, none⟩) 1 1) l [a] w rfl (by exact hrow) (by rfl) (by exact hat1) hla hB ?_)
  intro v6 w6 hR6 hb6 _ _
  go_wp2_with fail
  go_ret
  exact ⟨⟨_, rfl, hR6⟩, hb6⟩

set_option maxHeartbeats 3200000 in
set_option maxRecDepth 100000 in
/-- Before the end, where there is room. -/
theorem insert_room (B g cap i : Nat) (l : List Xa) (a : Xa) (gb : Nat) (w : World) (hrow : Row xatE B (.slice (some ⟨g, 0, none⟩) l.length cap) l w) (hi : i < l.length) (hc : l.length + 1 ≤ cap) (hB : B ≤ w.heap.size) (hone : One w gb a) (hne : gb ≠ g) :
    Calls Try.prog 54 #[.slice (some ⟨g, 0, none⟩) l.length cap, .int .i64 (i : Nat), .slice (some ⟨gb, 0, none⟩) 1 1] w fun e w' => (∃ v', e = .returned v' ∧ Row xatE B v' (l.take i ++ [a] ++ l.drop i) w') ∧ Below B w w' := by
  obtain ⟨_, hBg, _, hcm, cur, hg, hcs, ht⟩ := hrow.block
  obtain ⟨tb, hgb⟩ := hone
  have hk2 : (xatE).k = 2 := rfl
  rw [hk2] at hcs ht
  obtain ⟨n, hn⟩ : ∃ n, l.length = n := ⟨_, rfl⟩
  have hcl : (cellsE xatE l).length = n * 2 := by rw [cellsE_length, hn, hk2]
  have hdl : (cellsE xatE (l.drop i)).length = (n - i) * 2 := by rw [cellsE_length, List.length_drop, hn, hk2]
  rw [hn] at hi hc ht ⊢
  have hcap63 : cap ≤ 9223372036854775807 := by unfold maxLen at hcm; omega
  have hsz : (Try.prog.info? 42).map (·.size) = some 2 := by kernel_rfl
  have huu : Try.prog.underlying 22 = some (.slice 42) := Try.underlying22
  have hov : ∀ lb cb, (callFunc 64 #[.slice (some ⟨gb, 0, none⟩) 1 1, .slice (some ⟨g, (i + 1) * 2, none⟩) lb cb]).run Try.prog w = .ok (.value (.bool false)) w := fun lb cb => by
    rw [run_callFunc_extern Try.func64 (by kernel_rfl) (by kernel_rfl) (by kernel_rfl) (e := Extern.SlicesOverlaps.overlaps #[22, 22] #[4]) (by kernel_rfl),
      Lib.run_overlaps_apart w 22 4 42 huu 2 (fun w => by kernel_rfl) ⟨gb, 0, none⟩ ⟨g, (i + 1) * 2, none⟩ 1 1 lb cb hne tb 42 2 cur.size (shape_row hgb) (shape_row hg) (by omega) (frozen_row hgb) (frozen_row hgb)]
    rfl
  obtain ⟨X1, hX1⟩ : ∃ X1, (splice cur.toList ((i + 1) * 2) (cellsE xatE (l.drop i))).toArray = X1 := ⟨_, rfl⟩
  obtain ⟨X2, hX2⟩ : ∃ X2, (splice X1.toList (i * 2) (xaC a)).toArray = X2 := ⟨_, rfl⟩
  have hX1s : X1.size = cur.size := by rw [← hX1]; simp only [List.size_toArray]; rw [length_splice _ _ _ (by rw [hdl, Array.length_toList, hcs]; omega)]; simp
  have hX2s : X2.size = cur.size := by rw [← hX2]; simp only [List.size_toArray]; rw [length_splice _ _ _ (by simp [xaC]; omega)]; simp [hX1s]
  have hcp1 : ∀ ty dc sc, (Builtin.copy_ #[22, 22] ty #[.slice (some ⟨g, (i + 1) * 2, none⟩) (n - i) dc, .slice (some ⟨g, i * 2, none⟩) (n + 1 - i) sc]).run Try.prog w.drew = .ok (goInt (n - i : Nat)) (w.drew.setRow g X1) := fun ty dc sc => by
    rw [← hX1]
    refine run_copy_elts w.drew _ _ ty 42 2 (n - i) g ((i + 1) * 2) (n - i) dc ⟨g, i * 2, none⟩ (n + 1 - i) sc cur 42 (cellsE xatE (l.drop i)) huu hsz hg (by simp only [Nat.min_def]; split <;> omega) hdl ?_ (by rw [hdl, hcs]; omega) (cellsE_one _)
    intro j v hj
    rw [addr_off_add]
    have e : (cellsE xatE l)[i * 2 + j]? = some v := by rw [← cellsE_drop (E := xatE), List.getElem?_drop] at hj; exact hj
    rw [← ht, List.getElem?_take] at e
    split at e
    · exact (show w.cell? ⟨g, i * 2 + j, none⟩ = some v by simp [World.cell?, hg] at e ⊢; exact e)
    · cases e
  have hcp2 : ∀ (W : World), W.heap[g]? = some (.cells X1 42 (0, 0)) → W.heap[gb]? = some (.cells (xaC a).toArray tb (0, 0)) → ∀ ty dc, (Builtin.copy_ #[22, 22] ty #[.slice (some ⟨g, i * 2, none⟩) (n + 1 - i) dc, .slice (some ⟨gb, 0, none⟩) 1 1]).run Try.prog W = .ok (goInt (1 : Nat)) (W.setRow g X2) := fun W hW1 hW2 ty dc => by
    rw [← hX2]
    refine run_copy_elts W _ _ ty 42 2 1 g (i * 2) (n + 1 - i) dc ⟨gb, 0, none⟩ 1 1 X1 42 (xaC a) huu hsz hW1 (by simp only [Nat.min_def]; split <;> omega) rfl ?_ (by rw [hX1s, hcs]; simp [xaC]; omega) (xatE.one a)
    intro j v hj
    rw [addr_off_add, Nat.zero_add]
    simp [World.cell?, hW2]
    exact hj
  have hq1 : (w.drew.setRow g X1).heap[g]? = some (.cells X1 42 (0, 0)) := setRow_heap _ g cur X1 _ _ hg
  have hq2 : (w.drew.setRow g X1).heap[gb]? = some (.cells (xaC a).toArray tb (0, 0)) := by rw [setRow_other _ _ _ _ hne]; exact hgb
  have HR : Hid (Row xatE B (.slice (some ⟨g, 0, none⟩) (n + 1) cap) (l.take i ++ [a] ++ l.drop i) ((w.drew.setRow g X1).setRow g X2) ∧ Below B w ((w.drew.setRow g X1).setRow g X2)) := Lib.hid ⟨by
      refine Row.of_block (by simp; omega) hBg (setRow_heap _ g X1 X2 _ _ hq1) hc hcm (by rw [hX2s, hcs, hk2]) ?_
      rw [← hX2, hk2, ← hX1]
      simp only
      rw [show (i + 1) * 2 = i * 2 + (xaC a).length by simp [xaC]; omega, splice_two cur.toList (xaC a) (cellsE xatE (l.drop i)) (i * 2) ((n + 1) * 2) (by rw [hdl]; simp [xaC]; omega) (by simp; omega)]
      rw [cellsE_append, cellsE_append, ← cellsE_take (E := xatE), hk2, ← ht, List.take_take, Nat.min_eq_left (by omega)]
      rfl,
    below_setRow (below_setRow (Below.refl B w).drew hBg _) hBg _⟩
  have mixed : Try.prog.follows .mixedOrders = true := by kernel_rfl
  have hw1 : IntKind.i64.wrap ((i : Int) + 1) = (i : Int) + 1 := by rw [IntKind.wrap_i64]; omega
  have hb1 : (0 : Int) ≤ (i : Int) + 1 := by omega
  have hin : i ≤ n := by omega
  have htn : ((i : Int) + 1).toNat = i + 1 := by omega
  have hb2 : ¬ (cap = i + 1) := by omega
  have hb3 : (i : Int) ≤ (n : Int) + 1 := by omega
  have hb4 : ¬ (cap = i) := by omega
  have hb5 : ¬ ((i : Int) = (n : Int)) := by omega
  have hb6 : ¬ ((cap : Int) < (n : Int) + 1) := by omega
  have hb7 : i ≤ n + 1 := by omega
  have htn2 : ((n : Int) + 1).toNat = n + 1 := by omega
  clear hrow hn hcl hdl ht hX1 hX2 hX1s hX2s hcs hg hgb
  go_enter Try.func54, Try.ntmps54
  go_wp2_with (simp only [hov])
  go_region_law_o (refine step_copy_runI rfl _ _ 22 22 rfl _ _ (by simp [Act.eval, Act.put]) (by simp [Act.eval, Act.put]) (hcp1 _ _ _) ?_)
  go_wp2_with (at_builtin; refine wpList_copy_runI _ rfl _ _ 22 22 rfl _ _ rfl rfl (hcp2 _ hq1 hq2 _ _) ?_)
  go_ret
  exact ⟨⟨_, rfl, HR.out.1⟩, HR.out.2⟩
end Go.Proofs.Ytobfbjfajdnhaaa

/- slices.Insert of one more name with a value, where there is no room; all roads together. -/
namespace Go.Proofs.Ytobfbjfajdnhaaa
open Go.RowKit
open XatM
set_option linter.unusedVariables false
attribute [local irreducible] Row At

set_option maxHeartbeats 3200000 in
set_option maxRecDepth 100000 in
/-- Before the end, where there is no room. -/
theorem insert_grow (B g cap i : Nat) (l : List Xa) (a : Xa) (gb : Nat) (w : World) (hrow : Row xatE B (.slice (some ⟨g, 0, none⟩) l.length cap) l w) (hi : i < l.length) (hl : l.length ≤ 1000) (hc : cap < l.length + 1) (hB : B ≤ w.heap.size) (hone : One w gb a) :
    Calls Try.prog 54 #[.slice (some ⟨g, 0, none⟩) l.length cap, .int .i64 (i : Nat), .slice (some ⟨gb, 0, none⟩) 1 1] w fun e w' => (∃ v', e = .returned v' ∧ Row xatE B v' (l.take i ++ [a] ++ l.drop i) w') ∧ Below B w w' := by
  obtain ⟨_, hBg, hnc, hcm, cur, hg, hcs, ht⟩ := hrow.block
  obtain ⟨tb, hgb⟩ := hone
  have hk2 : (xatE).k = 2 := rfl
  rw [hk2] at hcs ht
  obtain ⟨n, hn⟩ : ∃ n, l.length = n := ⟨_, rfl⟩
  have hdl : (cellsE xatE (l.drop i)).length = (n - i) * 2 := by rw [cellsE_length, List.length_drop, hn, hk2]
  have htl : (cellsE xatE (l.take i)).length = i * 2 := by rw [cellsE_length, List.length_take, hk2, Nat.min_eq_left (by omega)]
  rw [hn] at hi hc ht hl hnc ⊢
  have hsz : (Try.prog.info? 42).map (·.size) = some 2 := by kernel_rfl
  have huu : Try.prog.underlying 22 = some (.slice 42) := Try.underlying22
  have hui : Try.prog.underlying 3 = some (.int .i64) := Try.underlying3
  obtain ⟨i0, hi0, hz0, hz1, hz2⟩ := info_parts (xatE).inf
  have hgw : g < w.heap.size := (Array.getElem?_eq_some_iff.1 hg).1
  have hgbw : gb < w.heap.size := (Array.getElem?_eq_some_iff.1 hgb).1
  have hsrc : ∀ j v, (cellsE xatE l)[j]? = some v → w.cell? ⟨g, j, none⟩ = some v := fun j v e => by
    rw [← ht, List.getElem?_take] at e
    split at e
    · simp [World.cell?, hg] at e ⊢; exact e
    · cases e
  have hold : (Builtin.firstCells i0.size i (.slice (some ⟨g, 0, none⟩) i cap)).run Try.prog w.drew = .ok (cellsE xatE (l.take i)).toArray w.drew := by
    rw [hz1]
    refine run_firstCells_some w.drew 2 i ⟨g, 0, none⟩ i cap (cellsE xatE (l.take i)) htl (fun j v hj => ?_)
    rw [addr_off_add, Nat.zero_add]
    refine (show w.cell? ⟨g, j, none⟩ = some v from hsrc j v ?_)
    rw [← cellsE_take (E := xatE), List.getElem?_take] at hj
    split at hj
    · exact hj
    · cases hj
  obtain ⟨G, hG⟩ : ∃ G, grownCap w (n + 1) cap 42 = G := ⟨_, rfl⟩
  obtain ⟨N, hN⟩ : ∃ N, w.heap.size = N := ⟨_, rfl⟩
  have hGn : n + 1 ≤ G := by rw [← hG]; exact grownCap_ge w _ _ _
  have hGm : G ≤ maxLen := by rw [← hG]; exact grownCap_le_maxLen w _ _ _ (by unfold maxLen; omega)
  obtain ⟨ROW, hROW⟩ : ∃ ROW, (cellsE xatE (l.take i)).toArray ++ Builtin.zeroCells (xatE).z.cells (n + 1 - i) ++ Builtin.zeroCells (xatE).z.cells (G - (n + 1)) = ROW := ⟨_, rfl⟩
  have hRs : ROW.size = G * 2 := by
    rw [← hROW]
    simp only [Array.size_append, zeroCells_size, (xatE).zk, hk2, List.size_toArray, htl]
    omega
  have hRt : ROW.toList.take (i * 2) = cellsE xatE (l.take i) := by
    rw [← hROW]
    simp only [Array.toList_append, List.append_assoc]
    exact List.take_left' htl
  obtain ⟨W1, hW1⟩ : ∃ W1, w.drew.alloc (.cells ROW 42) = W1 := ⟨_, rfl⟩
  have hkk : (n : Int) + 1 - (i : Int) = ((n + 1 - i : Nat) : Int) := by omega
  have hik : i + (n + 1 - i) = n + 1 := by omega
  have hrz : ∀ ty, (Builtin.append_ #[22, 3] ty #[.slice (some ⟨g, 0, none⟩) i cap, .int .i64 ((n : Int) + 1 - (i : Int))]).run Try.prog w = .ok (.slice (some ⟨N, 0, none⟩) (n + 1) G) W1 := fun ty => by
    have h := Lib.run_append_grow_zeros w 22 3 ty 42 i0 _ .i64 .i64 huu hui hi0 hz0 (some ⟨g, 0, none⟩) i cap (cellsE xatE (l.take i)) hold (n + 1 - i) (by omega) (by rw [hz1]; decide) (by omega) (by omega) (by rw [hz2]; show _ * 32 ≤ _; omega) (by rw [hz2, hik]; exact growslice_fits (by omega) (by show _ * 32 ≤ _; omega))
    rw [hik, hG, hROW, hW1, hN] at h
    rw [hkk]
    exact h
  have hN1 : W1.heap[N]? = some (.cells ROW 42 (0, 0)) := by rw [← hW1, ← hN]; exact (show (w.heap.push (Obj.cells ROW 42 (0, 0)))[w.heap.size]? = _ from Array.getElem?_push_size)
  have hO : ∀ k, k < N → W1.heap[k]? = w.heap[k]? := fun k hk => by
    rw [← hW1]
    refine (show (w.heap.push (Obj.cells ROW 42 (0, 0)))[k]? = _ from ?_)
    rw [Array.getElem?_push, if_neg (by omega)]
  rw [hN] at hgw hgbw hB
  have hg1 : W1.heap[g]? = some (.cells cur 42 (0, 0)) := by rw [hO g hgw]; exact hg
  have hgb1 : W1.heap[gb]? = some (.cells (xaC a).toArray tb (0, 0)) := by rw [hO gb hgbw]; exact hgb
  obtain ⟨X1, hX1⟩ : ∃ X1, (splice ROW.toList (i * 2) (xaC a)).toArray = X1 := ⟨_, rfl⟩
  obtain ⟨X2, hX2⟩ : ∃ X2, (splice X1.toList ((i + 1) * 2) (cellsE xatE (l.drop i))).toArray = X2 := ⟨_, rfl⟩
  have hX1s : X1.size = G * 2 := by rw [← hX1]; simp only [List.size_toArray]; rw [length_splice _ _ _ (by simp [xaC]; omega)]; simp [hRs]
  have hX2s : X2.size = G * 2 := by rw [← hX2]; simp only [List.size_toArray]; rw [length_splice _ _ _ (by rw [hdl, Array.length_toList, hX1s]; omega)]; simp [hX1s]
  have hcpA : ∀ ty dc, (Builtin.copy_ #[22, 22] ty #[.slice (some ⟨N, i * 2, none⟩) (n + 1 - i) dc, .slice (some ⟨gb, 0, none⟩) 1 1]).run Try.prog W1 = .ok (goInt (1 : Nat)) (W1.setRow N X1) := fun ty dc => by
    rw [← hX1]
    refine run_copy_elts W1 _ _ ty 42 2 1 N (i * 2) (n + 1 - i) dc ⟨gb, 0, none⟩ 1 1 ROW 42 (xaC a) huu hsz hN1 (by simp only [Nat.min_def]; split <;> omega) rfl ?_ (by rw [hRs]; simp [xaC]; omega) (xatE.one a)
    intro j v hj
    rw [addr_off_add, Nat.zero_add]
    simp [World.cell?, hgb1]
    exact hj
  obtain ⟨W2, hW2⟩ : ∃ W2, W1.setRow N X1 = W2 := ⟨_, rfl⟩
  have hN2 : W2.heap[N]? = some (.cells X1 42 (0, 0)) := by rw [← hW2]; exact setRow_heap _ N ROW X1 _ _ hN1
  have hg2 : W2.heap[g]? = some (.cells cur 42 (0, 0)) := by rw [← hW2, setRow_other _ _ _ _ (by omega)]; exact hg1
  have hcpB : ∀ ty dc sc, (Builtin.copy_ #[22, 22] ty #[.slice (some ⟨N, (i + 1) * 2, none⟩) (n - i) dc, .slice (some ⟨g, i * 2, none⟩) (n - i) sc]).run Try.prog W2.drew = .ok (goInt (n - i : Nat)) (W2.drew.setRow N X2) := fun ty dc sc => by
    rw [← hX2]
    refine run_copy_elts W2.drew _ _ ty 42 2 (n - i) N ((i + 1) * 2) (n - i) dc ⟨g, i * 2, none⟩ (n - i) sc X1 42 (cellsE xatE (l.drop i)) huu hsz hN2 (by simp only [Nat.min_def]; split <;> omega) hdl ?_ (by rw [hdl, hX1s]; omega) (cellsE_one _)
    intro j v hj
    rw [addr_off_add]
    rw [← cellsE_drop (E := xatE), List.getElem?_drop] at hj
    have e := hsrc _ v hj
    refine (show W2.cell? ⟨g, i * 2 + j, none⟩ = some v from ?_)
    simp [World.cell?, hg] at e
    simp [World.cell?, hg2]
    exact e
  have hb1w : Below B w W1 := by rw [← hW1]; exact (Below.refl B w).drew.alloc (by rw [show w.drew.heap.size = w.heap.size from rfl, hN]; exact hB) _
  have HR : Hid (Row xatE B (.slice (some ⟨N, 0, none⟩) (n + 1) G) (l.take i ++ [a] ++ l.drop i) (W2.drew.setRow N X2) ∧ Below B w (W2.drew.setRow N X2)) := Lib.hid ⟨by
      refine Row.of_block (by simp; omega) hB (setRow_heap W2.drew N X1 X2 _ _ hN2) hGn hGm (by rw [hX2s, hk2]) ?_
      rw [← hX2, hk2, ← hX1]
      simp only
      rw [show (i + 1) * 2 = i * 2 + (xaC a).length by simp [xaC]; omega, splice_seq ROW.toList (xaC a) (cellsE xatE (l.drop i)) (i * 2) ((n + 1) * 2) (by rw [hdl]; simp [xaC]; omega) (by simp; omega)]
      rw [cellsE_append, cellsE_append, hRt]
      rfl,
    below_setRow (by rw [← hW2]; exact (below_setRow hb1w hB _).drew) hB _⟩
  subst hW2
  have mixed : Try.prog.follows .mixedOrders = true := by kernel_rfl
  have hw1 : IntKind.i64.wrap ((i : Int) + 1) = (i : Int) + 1 := by rw [IntKind.wrap_i64]; omega
  have hb1 : (0 : Int) ≤ (i : Int) + 1 := by omega
  have hin : i ≤ n := by omega
  have htn : ((i : Int) + 1).toNat = i + 1 := by omega
  have hb4 : ¬ (cap = i) := by omega
  have hb5 : ¬ ((i : Int) = (n : Int)) := by omega
  have hb6 : (cap : Int) < (n : Int) + 1 := by omega
  have hGi : ¬ (G = i) := by omega
  have hGim : ¬ (G = i + 1) := by omega
  have hG63 : G ≤ 9223372036854775807 := by unfold maxLen at hGm; omega
  have hc63 : cap ≤ 9223372036854775807 := by unfold maxLen at hcm; omega
  have hb7 : i ≤ n + 1 := by omega
  have hb3 : (i : Int) ≤ (n : Int) := by omega
  clear hrow hn hdl htl ht hX1 hX2 hX1s hX2s hcs hg hgb hold hi0 hz0 hz1 hz2 hsrc hG hN hROW hRs hRt hW1 hO hN1 hN2 hg1 hg2 hgb1 hkk hik hb1w
  go_enter Try.func54, Try.ntmps54
  go_wp2_with (first
    | (at_builtin; refine Lib.wpList_append_run _ rfl _ _ _ _ rfl _ _ rfl rfl _ _ (hrz _) ?_)
    | (at_builtin; refine wpList_copy_runI _ rfl _ _ 22 22 rfl _ _ rfl rfl (hcpA _ _) ?_))
  go_region_law_o (refine step_copy_runI rfl _ _ 22 22 rfl _ _ (by simp [Act.eval, Act.put]) (by simp [Act.eval, Act.put]) (hcpB _ _ _) ?_)
  go_wp2_with fail
  go_ret
  exact ⟨⟨_, rfl, HR.out.1⟩, HR.out.2⟩
theorem insert_any (B : Nat) (v : Value) (l : List Xa) (i : Nat) (a : Xa) (gb : Nat) (w : World) (hrow : Row xatE B v l w) (hi : i ≤ l.length) (hl : l.length ≤ 1000) (hB : B ≤ w.heap.size) (hone : One w gb a) (hne : v.ownBlock ≠ some gb) :
    Calls Try.prog 54 #[v, .int .i64 (i : Nat), .slice (some ⟨gb, 0, none⟩) 1 1] w fun e w' => (∃ v', e = .returned v' ∧ Row xatE B v' (l.take i ++ [a] ++ l.drop i) w') ∧ Below B w w' := by
  by_cases he : i = l.length
  · have e : l.take i ++ [a] ++ l.drop i = l ++ [a] := by rw [he]; simp
    rw [e, he]
    exact insert_end B v l a gb w hrow hl hB hone
  · rcases hrow.kinds with ⟨rfl, rfl⟩ | ⟨g, cap, rfl⟩
    · simp at hi he; omega
    · by_cases hc : l.length + 1 ≤ cap
      · exact insert_room B g cap i l a gb w hrow (by omega) hc hB hone (fun h => hne (by rw [h]; rfl))
      · exact insert_grow B g cap i l a gb w hrow (by omega) hl (by omega) hB hone
end Go.Proofs.Ytobfbjfajdnhaaa
