/- A region that draws its order, all operations alike, some behind a guard that is met, with calls that make memory or end in a panic: one step an operation. -/
import Derived.Test.YtikdpoekjfbpaaaDoorRegionQ
namespace Go.Proofs.YtikdpoekjfbpaaaDoor
open Go Go.RowKit

section
variable {P : Program} {Q : Exit → Act → World → Prop}

theorem rg_anyL {l : List Oper} {S : World → Prop} {V : Nat → World → Value → Prop} {a0 : Act}
    (hg : goodOpsG l a0.tmps.size = true) (hga : goodAfter l = true) (hpers : ∀ i w w' v, Below w.heap.size w w' → V i w v → V i w' v)
    (hsteps : StepsOkQ P Q l S V a0 l 0)
    (hend : ∀ (a : Act) (w : World), (∃ vals : Nat → Value, S w ∧ (∀ i, i < l.length → V i w (vals i)) ∧ a.defers = a0.defers ∧ a.tmps.size = a0.tmps.size ∧ ∀ k, a.tmps[k]? = match findDst l k with | some i => some (vals i) | none => a0.tmps[k]?) → Q .normal a w) :
    ∀ (fuel : Nat) (listed : Array Bool) (a : Act) (w : World), listed.size = l.length → listed.toList.count false ≤ fuel → (∃ vals, FrameIs l V S a0 vals listed a w) → wpAny P .any l.toArray Q fuel listed a w := by
  have done : ∀ (listed : Array Bool) (a : Act) (w : World), listed.size = l.length → Region.ready .any l.toArray listed = [] → (∃ vals, FrameIs l V S a0 vals listed a w) → Q .normal a w := by
    intro listed a w hs hr ⟨vals, F⟩
    have hall := ready_nil' hga hs hr
    refine hend a w ⟨vals, F.hS, fun i hi => F.hv i (hall i hi), F.hd, F.hz, fun k => ?_⟩
    rw [F.ht k]
    cases hf : findDst l k with
    | none => rfl
    | some i =>
      have hi : i < l.length := by
        unfold findDst at hf
        exact (List.findIdx?_eq_some_iff_getElem.1 hf).1
      simp only [hall i hi, if_true]
  intro fuel
  induction fuel with
  | zero =>
    intro listed a w hs hc hF
    have hr : Region.ready .any l.toArray listed = [] := by
      rw [List.eq_nil_iff_forall_not_mem]
      intro i hi
      obtain ⟨o, ho, hl, _⟩ := ready_spec hi
      have hc0 : listed.toList.count false = 0 := by omega
      rw [List.count_eq_zero] at hc0
      have hi' : i < listed.size := by
        have : i < l.toArray.size := (Array.getElem?_eq_some_iff.1 ho).1
        simp at this; omega
      have : listed[i] = false := by simpa [hi'] using hl
      exact hc0 (by rw [← this]; simp)
    exact ⟨hr, done listed a w hs hr hF⟩
  | succ fuel ih =>
    intro listed a w hs hc hF
    refine ⟨fun hr => done listed a w hs hr hF, fun i hi => ?_⟩
    obtain ⟨vals, F⟩ := hF
    obtain ⟨o, ho, hl, hdeps⟩ := ready_spec hi
    have hil : i < l.length := by
      have := (Array.getElem?_eq_some_iff.1 ho).1
      simpa using this
    have hol : l[i]? = some o := by simpa using ho
    have hgi := List.all_eq_true.1 hg i (by simpa using hil)
    rw [hol] at hgi
    simp only [Bool.and_eq_true, decide_eq_true_eq, beq_iff_eq] at hgi
    obtain ⟨⟨⟨⟨g1, g2⟩, g3⟩, g4⟩, _⟩ := hgi
    obtain ⟨d, hd⟩ := Option.isSome_iff_exists.1 g2
    have hdi : dstOf l i = d := by simp [dstOf, hol, hd]
    rw [hdi] at g3 g4
    have hif : listed[i]? = some false := by
      have hi' : i < listed.size := by omega
      have : listed[i] = false := by simpa [hi'] using hl
      simp [hi', this]
    have hcs : (listed.setIfInBounds i true).toList.count false ≤ fuel := by
      have := count_set (b := listed.toList) (i := i) (by simpa using hif)
      rw [Array.toList_setIfInBounds]
      omega
    refine wpOp_step ho (fun K' hK => ?_)
    have hst0 := steps_atQ hsteps hol
    rw [Nat.zero_add] at hst0
    have hw : Region.wanted o (yielded l.toArray a.tmps) = true := by
      unfold Region.wanted
      cases hgd : o.guard with
      | none => rfl
      | some x =>
        obtain ⟨j, b⟩ := x
        rw [hgd] at g1
        simp only [Bool.and_eq_true, decide_eq_true_eq] at g1
        obtain ⟨e, he, h2⟩ := Array.any_eq_true'.1 g1.2
        simp only [Bool.and_eq_true, beq_iff_eq] at h2
        have hlj := hdeps e he h2.2
        rw [h2.1] at hlj
        have hjl : j < l.length := by omega
        have hvj := hst0.1 j b hgd w (vals j) (F.hv j hlj)
        have hgj := List.all_eq_true.1 hg j (by simpa using hjl)
        rw [List.getElem?_eq_getElem hjl] at hgj
        simp only [Bool.and_eq_true, decide_eq_true_eq, beq_iff_eq] at hgj
        have ht := F.ht (dstOf l j)
        rw [hgj.1.2] at ht
        simp only [hlj, if_true] at ht
        obtain ⟨dj, hdj⟩ := Option.isSome_iff_exists.1 hgj.1.1.1.2
        have hdd : dstOf l j = dj := by simp [dstOf, hjl, hdj]
        rw [hdd] at ht
        have hy : yielded l.toArray a.tmps j = some b := by
          unfold yielded
          have e1 : l.toArray[j]? = some l[j] := by simp [hjl]
          rw [e1, Option.bind_some, hdj, Option.bind_some, ht, hvj]
        simp [hy]
    rw [if_pos hw]
    have hst := hst0.2
    have hval : ∀ j, j < l.length → listed.getD j false = true → valOf l a j = vals j := by
      intro j hj hlj
      have hgj := List.all_eq_true.1 hg j (by simpa using hj)
      rw [List.getElem?_eq_getElem hj] at hgj
      simp only [Bool.and_eq_true, decide_eq_true_eq, beq_iff_eq] at hgj
      have := F.ht (dstOf l j)
      rw [hgj.1.2] at this
      simp only [hlj, if_true] at this
      unfold valOf
      rw [Array.getD_eq_getD_getElem?, this]
      rfl
    refine hst a w K' F.hS ?_ F.hd ?_ ?_
    · intro e he hb
      have hle := hdeps e he hb
      have hlt : e.on < l.length := by
        have hsz : e.on < listed.size := by
          rcases Nat.lt_or_ge e.on listed.size with h | h
          · exact h
          · simp [Array.getD_eq_getD_getElem?, Array.getElem?_eq_none h] at hle
        omega
      rw [hval e.on hlt hle]
      exact F.hv e.on hle
    · intro k hk
      have := F.ht k
      rw [hk] at this
      rw [Array.getD_eq_getD_getElem?, Array.getD_eq_getD_getElem?, this]
    · intro v w' hB hS' hV
      refine hK _ _ (ih _ _ _ (by simpa using hs) hcs ?_)
      refine ⟨fun j => if j = i then v else vals j, hS', ?_, ?_, ?_, ?_⟩
      · rw [hd]; exact F.hd
      · rw [hd]; simpa [Act.put] using F.hz
      · intro j hj
        by_cases e : j = i
        · subst e; simpa using hV
        · simp only [e, if_false]
          refine hpers j w w' _ hB (F.hv j ?_)
          rw [Array.getD_eq_getD_getElem?, Array.getElem?_setIfInBounds_ne (fun h => e h.symm)] at hj
          rw [Array.getD_eq_getD_getElem?]; exact hj
      · intro k
        have hk0 := F.ht k
        have hlen : listed.getD i false = false := by rw [Array.getD_eq_getD_getElem?, hif]; rfl
        have hset : ∀ j, (listed.setIfInBounds i true).getD j false = if j = i then true else listed.getD j false := by
          intro j
          by_cases e : j = i
          · subst e
            have : j < listed.size := by omega
            simp [this]
          · rw [Array.getD_eq_getD_getElem?, Array.getElem?_setIfInBounds_ne (fun h => e h.symm)]
            simp [e]
        rw [hd]
        by_cases e : d = k
        · subst e
          rw [g4]
          have hdz : d < a.tmps.size := by rw [F.hz]; exact g3
          simp [Act.put, hdz, hset]
        · have hne : ∀ j, findDst l k = some j → j ≠ i := by
            intro j hj hji
            subst hji
            unfold findDst at hj
            have := (List.findIdx?_eq_some_iff_getElem.1 hj).2.1
            have h5 : l[j] = o := by
              have := hol
              rw [List.getElem?_eq_getElem hil] at this
              exact Option.some.inj this
            simp [h5, hd, e] at this
          simp only [Act.put]
          rw [Array.getElem?_setIfInBounds_ne e, hk0]
          cases hf : findDst l k with
          | none => rfl
          | some j =>
            have := hne j hf
            simp [hset, this]

/-- The region, from one step an operation: what it leaves, slot by slot. -/
theorem region_anyL {id : Nat} {l : List Oper} {S : World → Prop} {V : Nat → World → Value → Prop} {a0 : Act} {w0 : World} (hm : P.follows .mixedOrders = true)
    (hg : goodOpsG l a0.tmps.size = true) (hga : goodAfter l = true) (hu : uniq l = true) (hS : S w0.drew) (hpers : ∀ i w w' v, Below w.heap.size w w' → V i w v → V i w' v)
    (hsteps : StepsOkQ P Q l S V a0 l 0)
    (hend : ∀ (vals : Nat → Value) (w : World), S w → (∀ i, i < l.length → V i w (vals i)) → Q .normal ⟨setAll l vals 0 a0.tmps, a0.defers⟩ w) : (Code.region id l.toArray true).wp P Q a0 w0 := by
  refine wp_region_any hm ?_
  refine rg_anyL hg hga hpers hsteps ?_ _ _ _ _ (by simp) (by simp) ⟨fun _ => undef, hS, rfl, rfl, ?_, ?_⟩
  · intro a w ⟨vals, h1, h2, h3, h4, h5⟩
    have : a = ⟨setAll l vals 0 a0.tmps, a0.defers⟩ := by
      obtain ⟨ta, da⟩ := a
      simp only at h3 h4 h5
      subst h3
      congr 1
      apply Array.ext_getElem?
      intro k
      rw [h5 k]
      rcases Nat.lt_or_ge k a0.tmps.size with hk | hk
      · rw [setAll_at l vals 0 a0.tmps k hu hk]
        cases findDst l k <;> simp
      · have e2 : (setAll l vals 0 a0.tmps)[k]? = none := by rw [Array.getElem?_eq_none]; rw [setAll_size]; exact hk
        rw [e2, ← h5 k, Array.getElem?_eq_none]; omega
    rw [this]
    exact hend vals w h1 h2
  · intro i hi
    simp [Array.getD_eq_getD_getElem?, Array.getElem?_replicate] at hi
    split at hi <;> simp_all
  · intro k
    cases findDst l k with
    | none => rfl
    | some i =>
      have : (Array.replicate l.toArray.size false).getD i false = false := by
        simp only [Array.getD_eq_getD_getElem?, Array.getElem?_replicate]
        split <;> rfl
      show a0.tmps[k]? = if (Array.replicate l.toArray.size false).getD i false = true then some undef else a0.tmps[k]?
      rw [this]
      simp
/-- The region, each value's fact in a list, the last goal behind Later. -/
theorem region_listL {id n : Nat} {l : List Oper} {S : World → Prop} (Vs : List (World → Value → Prop)) {a0 : Act} {w0 : World} (hn : l.length = n) (hm : P.follows .mixedOrders = true)
    (hg : goodOpsG l a0.tmps.size = true) (hga : goodAfter l = true) (hu : uniq l = true) (hS : S w0.drew) (hpers : PersAll Vs)
    (hsteps : StepsOkQ P Q l S (fun i => Vs.getD i (fun _ _ => True)) a0 l 0)
    (hend : ∀ (vals : Nat → Value) (w : World), S w → (∀ i, i < n → Vs.getD i (fun _ _ => True) w (vals i)) → Later (Q .normal ⟨setN n l vals 0 a0.tmps, a0.defers⟩ w)) : (Code.region id l.toArray true).wp P Q a0 w0 :=
  region_anyL hm hg hga hu hS (pers_at hpers) hsteps (fun vals w h1 h2 => by
    have := (hend vals w h1 (fun i hi => h2 i (by omega))).out
    rw [← setN_eq, List.take_of_length_le (by omega)] at this
    exact this)
end
end Go.Proofs.YtikdpoekjfbpaaaDoor
