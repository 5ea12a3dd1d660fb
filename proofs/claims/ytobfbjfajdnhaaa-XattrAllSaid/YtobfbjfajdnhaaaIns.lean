/- copy between slices of elements of any number of cells, into a row known whole; a slice of the call's own as its block. -/
import Derived.Test.YtobfbjfajdnhaaaElt
import Derived.Laws.CopyRow
import Derived.Laws.CopyOwn
namespace Go.Proofs.Ytobfbjfajdnhaaa
open Go.RowKit
set_option linter.unusedVariables false
variable {α : Type} {E : Elt α}

theorem run_copy_elts {P : Program} (w : World) (dT sT ty elem : TypeId) (k n g o dLen dCap : Nat) (a : Addr) (sLen sCap : Nat) (cur : Array Value) (t : TypeId) (cs : List Value)
    (hu : P.underlying dT = some (.slice elem)) (hs : (P.info? elem).map (·.size) = some k)
    (hg : w.heap[g]? = some (.cells cur t (0, 0))) (hn : n = Nat.min sLen dLen) (hcs : cs.length = n * k)
    (hsrc : ∀ j v, cs[j]? = some v → w.cell? (a.add j) = some v) (hfit : o + cs.length ≤ cur.size) (h1 : ∀ v ∈ cs, v.oneCell' = true) :
    (Builtin.copy_ #[dT, sT] ty #[.slice (some ⟨g, o, none⟩) dLen dCap, .slice (some a) sLen sCap]).run P w =
      .ok (goInt n) (w.setRow g (splice cur.toList o cs).toArray) := by
  have hl := run_loadCells_list (P := P) w a cs hsrc
  have hst := run_storeCells_at P g o t cs 0 cur w hg (by simpa using hfit) h1
  rw [hcs] at hl
  cases hq : P.info? elem with
  | none => simp [hq] at hs
  | some i =>
    have hi : i.size = k := by simpa [hq] using hs
    simp [Builtin.copy_, run_underlying hu, Builtin.lenOf, Builtin.firstCells, sizeOf, typeInfo, hq, hi, ← hn, hl, hst, splice]
/-- A slice of the call's own that is not nil: its block. -/
theorem Row.block {B g n cap : Nat} {l : List α} {w : World} (h : Row E B (.slice (some ⟨g, 0, none⟩) n cap) l w) :
    n = l.length ∧ B ≤ g ∧ n ≤ cap ∧ cap ≤ maxLen ∧ ∃ cur, w.heap[g]? = some (.cells cur E.t (0, 0)) ∧ cur.size = cap * E.k ∧ cur.toList.take (n * E.k) = cellsE E l := by
  obtain ⟨h1, h2⟩ := h
  rcases h2 with ⟨h', _⟩ | ⟨g', cap', cur, h', hb, hg, hnc, hcm, hcs, ht⟩
  · simp at h'
  · simp only [Value.slice.injEq, Option.some.injEq, Addr.mk.injEq, and_true, true_and] at h'
    obtain ⟨rfl, rfl, rfl⟩ := h'
    exact ⟨rfl, hb, hnc, hcm, cur, hg, hcs, ht⟩
theorem Row.of_block {B g n cap : Nat} {l : List α} {w : World} {cur : Array Value} (hn : n = l.length) (hB : B ≤ g) (hg : w.heap[g]? = some (.cells cur E.t (0, 0))) (hc : n ≤ cap) (hm : cap ≤ maxLen) (hs : cur.size = cap * E.k) (ht : cur.toList.take (n * E.k) = cellsE E l) :
    Row E B (.slice (some ⟨g, 0, none⟩) n cap) l w := by
  subst hn
  exact ⟨cellsE_length l, .inr ⟨g, cap, cur, rfl, hB, hg, hc, hm, hs, ht⟩⟩
theorem Row.kinds {B : Nat} {v : Value} {l : List α} {w : World} (h : Row E B v l w) : (v = .slice none 0 0 ∧ l = []) ∨ ∃ g cap, v = .slice (some ⟨g, 0, none⟩) l.length cap := by
  rcases h.2 with ⟨hv, h0⟩ | ⟨g, cap, cur, hv, _⟩
  · exact .inl ⟨hv, List.eq_nil_of_length_eq_zero h0⟩
  · exact .inr ⟨g, cap, hv⟩
theorem cellsE_drop (l : List α) (i : Nat) : (cellsE E l).drop (i * E.k) = cellsE E (l.drop i) := by
  by_cases h : i ≤ l.length
  · have e : cellsE E l = cellsE E (l.take i) ++ cellsE E (l.drop i) := by rw [← cellsE_append, List.take_append_drop]
    rw [e]
    exact List.drop_left' (by rw [cellsE_length, List.length_take, Nat.min_eq_left h])
  · have h2 : l.length ≤ i := by omega
    rw [List.drop_eq_nil_of_le h2, List.drop_eq_nil_of_le (by rw [cellsE_length]; exact Nat.mul_le_mul_right _ h2)]
    rfl
theorem cellsE_take (l : List α) (i : Nat) : (cellsE E l).take (i * E.k) = cellsE E (l.take i) := by
  by_cases h : i ≤ l.length
  · have e : cellsE E l = cellsE E (l.take i) ++ cellsE E (l.drop i) := by rw [← cellsE_append, List.take_append_drop]
    rw [e]
    exact List.take_left' (by rw [cellsE_length, List.length_take, Nat.min_eq_left h])
  · have h2 : l.length ≤ i := by omega
    rw [List.take_of_length_le h2, List.take_of_length_le (by rw [cellsE_length]; exact Nat.mul_le_mul_right _ h2)]
/-- What stands behind two copies: from a place on one further, then one at the place. -/
theorem splice_take {β : Type} (L cs : List β) (o n : Nat) (h : o + cs.length = n) (h2 : n ≤ L.length) : (splice L o cs).take n = L.take o ++ cs := by
  unfold splice
  rw [← List.append_assoc]
  exact List.take_left' (by rw [List.length_append, List.length_take]; omega)
theorem splice_two {β : Type} (L one rest : List β) (o n : Nat) (hn : o + one.length + rest.length = n) (hL : n ≤ L.length) :
    (splice (splice L (o + one.length) rest) o one).take n = L.take o ++ one ++ rest := by
  have e1 : (splice L (o + one.length) rest).take n = L.take (o + one.length) ++ rest := splice_take L rest _ n hn hL
  have e2 : (splice (splice L (o + one.length) rest) o one).take n = ((splice L (o + one.length) rest).take n).take o ++ one ++ ((splice L (o + one.length) rest).take n).drop (o + one.length) := by
    unfold splice
    generalize hM : L.take (o + one.length) ++ (rest ++ L.drop (o + one.length + rest.length)) = M
    have hMl : n ≤ M.length := by rw [← hM]; simp; omega
    apply List.ext_getElem?
    intro j
    simp only [List.getElem?_take, List.getElem?_append, List.getElem?_drop, List.length_append, List.length_take]
    have h1 : min o M.length = o := by omega
    have h2 : min o (min n M.length) = o := by omega
    rw [h1, h2]
    by_cases hj : j < n
    · simp only [hj, if_true]
      by_cases h3 : j < o
      · have h4 : j < o + one.length := by omega
        simp [h3, h4]
      · by_cases h4 : j < o + one.length
        · have h5 : j - o < one.length := by omega
          simp [h3, h4, h5]
        · have h5 : ¬ j - o < one.length := by omega
          have h6 : o + one.length + (j - o - one.length) = j := by omega
          have h7 : o + one.length + (j - (o + one.length)) = j := by omega
          simp [h3, h4, h5, h6, h7, hj]
    · have h3 : ¬ j < o := by omega
      have h4 : ¬ j < o + one.length := by omega
      have h7 : o + one.length + (j - (o + one.length)) = j := by omega
      simp [hj, h3, h4, h7]
  rw [e2, e1]
  congr 1
  · congr 1
    rw [List.take_append_of_le_length (by rw [List.length_take]; omega), List.take_take, Nat.min_eq_left (by omega)]
  · exact List.drop_left' (by rw [List.length_take]; omega)
theorem splice_seq {β : Type} (L one rest : List β) (o n : Nat) (hn : o + one.length + rest.length = n) (hL : n ≤ L.length) :
    (splice (splice L o one) (o + one.length) rest).take n = L.take o ++ one ++ rest := by
  have hl : (splice L o one).length = L.length := length_splice L o one (by omega)
  rw [splice_take _ rest _ n hn (by omega), splice_take L one o (o + one.length) rfl (by omega)]
theorem zeroCells_size (z : Array Value) (n : Nat) : (Builtin.zeroCells z n).size = n * z.size := by
  simp [Builtin.zeroCells, Nat.mul_comm]
end Go.Proofs.Ytobfbjfajdnhaaa
