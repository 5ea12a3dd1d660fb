/- Bundle of 5 texts. -/
import Derived.Test.YtpfidbcnefnhcaaPk04
import Derived.Test.YtpfidbcnefnhcaaPk03
import Derived.Deep.CutBlock
import Derived.Test.YtpfidbcnefnhcaaPk02
/- A region that draws its order, whose guards are met or not, whose calls may end in a panic; one last operation, or two, behind all others. -/
namespace Go.Proofs.Ytpfidbcnefnhcaa
open Go Go.RowKit

section
variable {P : Program} {Q : Exit → Act → World → Prop}

def StepOkU (P : Program) (Q : Exit → Act → World → Prop) (l : List Oper) (A : Nat → Bool) (S : World → Prop) (V : Nat → World → Value → Prop) (a0 : Act) (i : Nat) (o : Oper) : Prop :=
  ∀ (a : Act) (w : World) (K : Act → World → Prop), S w →
    (∀ e ∈ o.after, Region.binds .any e = true → V e.on w (valOf l a e.on)) →
    a.defers = a0.defers → (∀ k, findDst l k = none → a.tmps.getD k undef = a0.tmps.getD k undef) →
    (∀ v w', Below w.heap.size w w' → S w' → V i w' v → (A i = true → ∀ j u, j ≠ i → A j = true → V j w u → v ≠ u) → K (a.put o.dst v) w') → Oper.wp P o a w K Q
def UnmetOk (l : List Oper) (A : Nat → Bool) (V : Nat → World → Value → Prop) (a0 : Act) (i : Nat) (o : Oper) : Prop :=
  (∃ j b, o.guard = some (j, b) ∧ ∀ w v, V j w v → v = .bool (!b) ∨ v = undef) ∧ A i = false ∧ ∀ w, V i w undef
def StepsOkU (P : Program) (Q : Exit → Act → World → Prop) (l : List Oper) (A : Nat → Bool) (S : World → Prop) (V : Nat → World → Value → Prop) (a0 : Act) : List Oper → Nat → Prop
  | [], _ => True
  | o :: r, i => ((MetOk V o ∧ StepOkU P Q l A S V a0 i o) ∨ UnmetOk l A V a0 i o) ∧ StepsOkU P Q l A S V a0 r (i + 1)
theorem steps_atU {l : List Oper} {A : Nat → Bool} {S : World → Prop} {V : Nat → World → Value → Prop} {a0 : Act} : ∀ {r : List Oper} {n : Nat}, StepsOkU P Q l A S V a0 r n → ∀ {j : Nat} {o : Oper}, r[j]? = some o → (MetOk V o ∧ StepOkU P Q l A S V a0 (n + j) o) ∨ UnmetOk l A V a0 (n + j) o
  | [], _, _, j, o, h => by simp at h
  | x :: r, n, hs, 0, o, h => by
    simp at h
    subst h
    exact hs.1
  | x :: r, n, hs, j + 1, o, h => by
    have := steps_atU (n := n + 1) hs.2 (j := j) (o := o) (by simpa using h)
    rw [show n + (j + 1) = n + 1 + j by omega]
    exact this
theorem rglu_any {l tl : List Oper} {A : Nat → Bool} {S : World → Prop} {V : Nat → World → Value → Prop} {a0 : Act}
    (hg : goodOpsG l a0.tmps.size = true) (hu : uniq l = true) (hga : goodAfter (l ++ tl) = true) (htl : 0 < tl.length)
    (hcov : ∀ (i : Nat) (o : Oper), tl[i]? = some o → ((List.range l.length).all fun j => (reach l l.length (bound o)).contains j) = true)
    (hpers : ∀ i w w' v, Below w.heap.size w w' → V i w v → V i w' v)
    (hsteps : StepsOkU P Q l A S V a0 l 0)
    (htail : ∀ (vals : Nat → Value) (fuel : Nat) (listed : Array Bool) (w : World), S w → (∀ i, i < l.length → V i w (vals i)) → (∀ i j, i < l.length → j < l.length → i ≠ j → A i = true → A j = true → vals i ≠ vals j) → listed.size = (l ++ tl).length → (∀ j, j < l.length → listed.getD j false = true) → (∀ j, l.length ≤ j → j < (l ++ tl).length → listed[j]? = some false) → listed.toList.count false ≤ fuel → wpAny P .any (l ++ tl).toArray Q fuel listed ⟨setAll l vals 0 a0.tmps, a0.defers⟩ w) :
    ∀ (fuel : Nat) (listed : Array Bool) (a : Act) (w : World), listed.size = (l ++ tl).length → (∀ j, l.length ≤ j → j < (l ++ tl).length → listed[j]? = some false) → listed.toList.count false ≤ fuel → (∃ vals, FrameIs l V S a0 vals listed a w ∧ Differ A listed vals ∧ Down l listed) → wpAny P .any (l ++ tl).toArray Q fuel listed a w := by
  have hlen : l.length < (l ++ tl).length := by simp; omega
  intro fuel
  induction fuel with
  | zero =>
    intro listed a w hs hzf hc hF
    have hc0 : listed.toList.count false = 0 := by omega
    rw [List.count_eq_zero] at hc0
    exact absurd (List.mem_of_getElem? (by simpa using hzf l.length (Nat.le_refl _) hlen)) hc0
  | succ fuel ih =>
    intro listed a w hs hzf hc hF
    have hsz := hs
    have hzd : listed.getD l.length false = false := by rw [Array.getD_eq_getD_getElem?, hzf l.length (Nat.le_refl _) hlen]; rfl
    by_cases hdone : ∀ j, j < l.length → listed.getD j false = true
    · obtain ⟨vals, F, hD, hdn⟩ := hF
      have ha := frame_full hu F hdone
      subst ha
      exact htail vals (fuel + 1) listed w F.hS (fun i hi => F.hv i (hdone i hi)) (fun i j hi hj => hD i j (hdone i hi) (hdone j hj)) hs hdone hzf hc
    refine ⟨fun hr => ?_, fun i hi => ?_⟩
    · have := ready_nil' hga hsz hr l.length hlen
      rw [hzd] at this; cases this
    obtain ⟨vals, F, hD, hdn⟩ := hF
    obtain ⟨o, ho, hl, hdeps⟩ := ready_spec hi
    have hil : i < (l ++ tl).length := by
      have := (Array.getElem?_eq_some_iff.1 ho).1
      simpa using this
    have hol' : (l ++ tl)[i]? = some o := by simpa using ho
    have hif : listed[i]? = some false := by
      have hi' : i < listed.size := by omega
      have : listed[i] = false := by simpa [hi'] using hl
      simp [hi', this]
    have hcs : (listed.setIfInBounds i true).toList.count false ≤ fuel := by
      have := count_set (b := listed.toList) (i := i) (by simpa using hif)
      rw [Array.toList_setIfInBounds]
      omega
    refine wpOp_step ho (fun K' hK => ?_)
    rcases Nat.lt_or_ge i l.length with hlt | hge
    · have hol : l[i]? = some o := by rw [List.getElem?_append_left hlt] at hol'; exact hol'
      have hgi := List.all_eq_true.1 hg i (by simpa using hlt)
      rw [hol] at hgi
      simp only [Bool.and_eq_true, decide_eq_true_eq, beq_iff_eq] at hgi
      obtain ⟨⟨⟨⟨g1, g2⟩, g3⟩, g4⟩, g5⟩ := hgi
      have hst0 := steps_atU hsteps hol
      rw [Nat.zero_add] at hst0
      rcases hst0 with hst0 | hun
      case inr =>
        obtain ⟨⟨j, b, hgd, hvv⟩, hAi, hVi⟩ := hun
        obtain ⟨d, hd⟩ := Option.isSome_iff_exists.1 g2
        have hdi : dstOf l i = d := by simp [dstOf, hol, hd]
        rw [hdi] at g3 g4
        have hlf : listed.getD i false = false := by rw [Array.getD_eq_getD_getElem?, hif]; rfl
        have hset : ∀ j, (listed.setIfInBounds i true).getD j false = if j = i then true else listed.getD j false := by
          intro j
          by_cases e : j = i
          · subst e
            have : j < listed.size := by omega
            simp [this]
          · rw [Array.getD_eq_getD_getElem?, Array.getElem?_setIfInBounds_ne (fun h => e h.symm)]
            simp [e]
        have hw : Region.wanted o (yielded (l ++ tl).toArray a.tmps) = false := by
          rw [hgd] at g1
          simp only [Bool.and_eq_true, decide_eq_true_eq] at g1
          obtain ⟨e, he, h2⟩ := Array.any_eq_true'.1 g1.2
          simp only [Bool.and_eq_true, beq_iff_eq] at h2
          have hlj := hdeps e he h2.2
          rw [h2.1] at hlj
          have hjl : j < l.length := by omega
          have hvj := hvv w (vals j) (F.hv j hlj)
          have hgj := List.all_eq_true.1 hg j (by simpa using hjl)
          rw [List.getElem?_eq_getElem hjl] at hgj
          simp only [Bool.and_eq_true, decide_eq_true_eq, beq_iff_eq] at hgj
          have ht := F.ht (dstOf l j)
          rw [hgj.1.2] at ht
          simp only [hlj, if_true] at ht
          obtain ⟨dj, hdj⟩ := Option.isSome_iff_exists.1 hgj.1.1.1.2
          have hdd : dstOf l j = dj := by simp [dstOf, hjl, hdj]
          rw [hdd] at ht
          have e1 : (l ++ tl).toArray[j]? = some l[j] := by simp [List.getElem?_append_left hjl, hjl]
          rcases hvj with hvj | hvj
          · have hy : yielded (l ++ tl).toArray a.tmps j = some (!b) := by
              unfold yielded
              rw [e1, Option.bind_some, hdj, Option.bind_some, ht, hvj]
            unfold Region.wanted
            rw [hgd]
            simp [hy]
          · have hy : yielded (l ++ tl).toArray a.tmps j = none := by
              unfold yielded
              rw [e1, Option.bind_some, hdj, Option.bind_some, ht, hvj]
              rfl
            unfold Region.wanted
            rw [hgd]
            simp [hy]
        rw [if_neg (by rw [hw]; simp)]
        refine hK _ _ (ih _ _ _ (by simpa using hs) ?_ hcs ?_)
        · intro j hj1 hj2
          rw [Array.getElem?_setIfInBounds_ne (by omega)]; exact hzf j hj1 hj2
        refine ⟨fun j => if j = i then undef else vals j, ⟨F.hS, ?_, ?_, ?_, ?_⟩, ?_, ?_⟩
        · rw [hd]; exact F.hd
        · rw [hd]; simpa [Act.put] using F.hz
        · intro j hj
          by_cases e : j = i
          · subst e; simpa using hVi w
          · simp only [e, if_false]
            rw [hset, if_neg e] at hj
            exact F.hv j hj
        · intro k
          have hk0 := F.ht k
          rw [hd]
          by_cases e : d = k
          · subst e
            rw [g4]
            have hdz : d < a.tmps.size := by rw [F.hz]; exact g3
            simp [Act.put, hdz, hset]
          · have hne : ∀ j, findDst l k = some j → j ≠ i := by
              intro j hj hji
              subst hji
              unfold findDst at hj
              have := (List.findIdx?_eq_some_iff_getElem.1 hj).2.1
              have h5 : l[j] = o := by
                have := hol
                rw [List.getElem?_eq_getElem hlt] at this
                exact Option.some.inj this
              simp [h5, hd, e] at this
            simp only [Act.put]
            rw [Array.getElem?_setIfInBounds_ne e, hk0]
            cases hf : findDst l k with
            | none => rfl
            | some j =>
              have := hne j hf
              simp [hset, this]
        · intro p q hp hq hpq hAp hAq
          by_cases e1 : p = i
          · rw [e1, hAi] at hAp; cases hAp
          · by_cases e2 : q = i
            · rw [e2, hAi] at hAq; cases hAq
            · simp only [e1, e2, if_false]
              rw [hset, if_neg e1] at hp
              rw [hset, if_neg e2] at hq
              exact hD p q hp hq hpq hAp hAq
        · intro j oj hoj hlj k hk
          rw [hset]
          by_cases e3 : k = i
          · rw [if_pos e3]
          rw [if_neg e3]
          by_cases e : j = i
          · subst e
            rw [hol] at hoj
            obtain rfl := Option.some.inj hoj
            obtain ⟨e, he, h2, h3⟩ := bound_mem hk
            have := hdeps e he h2
            rw [h3] at this
            exact this
          · rw [hset, if_neg e] at hlj
            exact hdn j oj hoj hlj k hk
      have g5 := Array.all_eq_true_iff_forall_mem.1 g5
      obtain ⟨d, hd⟩ := Option.isSome_iff_exists.1 g2
      have hdi : dstOf l i = d := by simp [dstOf, hol, hd]
      rw [hdi] at g3 g4
      have hw : Region.wanted o (yielded (l ++ tl).toArray a.tmps) = true := by
        unfold Region.wanted
        cases hgd : o.guard with
        | none => rfl
        | some x =>
          obtain ⟨j, b⟩ := x
          rw [hgd] at g1
          simp only [Bool.and_eq_true, decide_eq_true_eq] at g1
          obtain ⟨e, he, h2⟩ := Array.any_eq_true'.1 g1.2
          simp only [Bool.and_eq_true, beq_iff_eq] at h2
          have hlj := hdeps e he h2.2
          rw [h2.1] at hlj
          have hjl : j < l.length := by omega
          have hvj := hst0.1 j b hgd w (vals j) (F.hv j hlj)
          have hgj := List.all_eq_true.1 hg j (by simpa using hjl)
          rw [List.getElem?_eq_getElem hjl] at hgj
          simp only [Bool.and_eq_true, decide_eq_true_eq, beq_iff_eq] at hgj
          have ht := F.ht (dstOf l j)
          rw [hgj.1.2] at ht
          simp only [hlj, if_true] at ht
          obtain ⟨dj, hdj⟩ := Option.isSome_iff_exists.1 hgj.1.1.1.2
          have hdd : dstOf l j = dj := by simp [dstOf, hjl, hdj]
          rw [hdd] at ht
          have hy : yielded (l ++ tl).toArray a.tmps j = some b := by
            unfold yielded
            have e1 : (l ++ tl).toArray[j]? = some l[j] := by simp [List.getElem?_append_left hjl, hjl]
            rw [e1, Option.bind_some, hdj, Option.bind_some, ht, hvj]
          simp [hy]
      rw [if_pos hw]
      have hst := hst0.2
      have hval : ∀ j, j < l.length → listed.getD j false = true → valOf l a j = vals j := by
        intro j hj hlj
        have hgj := List.all_eq_true.1 hg j (by simpa using hj)
        rw [List.getElem?_eq_getElem hj] at hgj
        simp only [Bool.and_eq_true, decide_eq_true_eq, beq_iff_eq] at hgj
        have := F.ht (dstOf l j)
        rw [hgj.1.2] at this
        simp only [hlj, if_true] at this
        unfold valOf
        rw [Array.getD_eq_getD_getElem?, this]
        rfl
      refine hst a w K' F.hS ?_ F.hd ?_ ?_
      · intro e he hb
        have hle := hdeps e he hb
        have hlt2 : e.on < l.length := by
          have := of_decide_eq_true (g5 e he)
          omega
        rw [hval e.on hlt2 hle]
        exact F.hv e.on hle
      · intro k hk
        have := F.ht k
        rw [hk] at this
        rw [Array.getD_eq_getD_getElem?, Array.getD_eq_getD_getElem?, this]
      · intro v w' hB hS' hV hN
        refine hK _ _ (ih _ _ _ (by simpa using hs) ?_ hcs ?_)
        · intro j hj1 hj2
          rw [Array.getElem?_setIfInBounds_ne (by omega)]; exact hzf j hj1 hj2
        refine ⟨fun j => if j = i then v else vals j, ⟨hS', ?_, ?_, ?_, ?_⟩, ?_, ?_⟩
        · rw [hd]; exact F.hd
        · rw [hd]; simpa [Act.put] using F.hz
        · intro j hj
          by_cases e : j = i
          · subst e; simpa using hV
          · simp only [e, if_false]
            refine hpers j w w' _ hB (F.hv j ?_)
            rw [Array.getD_eq_getD_getElem?, Array.getElem?_setIfInBounds_ne (fun h => e h.symm)] at hj
            rw [Array.getD_eq_getD_getElem?]; exact hj
        · intro k
          have hk0 := F.ht k
          have hset : ∀ j, (listed.setIfInBounds i true).getD j false = if j = i then true else listed.getD j false := by
            intro j
            by_cases e : j = i
            · subst e
              have : j < listed.size := by omega
              simp [this]
            · rw [Array.getD_eq_getD_getElem?, Array.getElem?_setIfInBounds_ne (fun h => e h.symm)]
              simp [e]
          rw [hd]
          by_cases e : d = k
          · subst e
            rw [g4]
            have hdz : d < a.tmps.size := by rw [F.hz]; exact g3
            simp [Act.put, hdz, hset]
          · have hne : ∀ j, findDst l k = some j → j ≠ i := by
              intro j hj hji
              subst hji
              unfold findDst at hj
              have := (List.findIdx?_eq_some_iff_getElem.1 hj).2.1
              have h5 : l[j] = o := by
                have := hol
                rw [List.getElem?_eq_getElem hlt] at this
                exact Option.some.inj this
              simp [h5, hd, e] at this
            simp only [Act.put]
            rw [Array.getElem?_setIfInBounds_ne e, hk0]
            cases hf : findDst l k with
            | none => rfl
            | some j =>
              have := hne j hf
              simp [hset, this]
        · intro p q hp hq hpq hAp hAq
          have hset : ∀ j, j ≠ i → (listed.setIfInBounds i true).getD j false = true → listed.getD j false = true := by
            intro j e hj
            rw [Array.getD_eq_getD_getElem?, Array.getElem?_setIfInBounds_ne (fun h => e h.symm)] at hj
            rw [Array.getD_eq_getD_getElem?]; exact hj
          by_cases e1 : p = i
          · by_cases e2 : q = i
            · exact absurd (e1.trans e2.symm) hpq
            · simp only [e1, e2, if_true, if_false]
              exact hN (e1 ▸ hAp) q _ e2 hAq (F.hv q (hset q e2 hq))
          · by_cases e2 : q = i
            · simp only [e1, e2, if_true, if_false]
              exact fun h => hN (e2 ▸ hAq) p _ e1 hAp (F.hv p (hset p e1 hp)) h.symm
            · simp only [e1, e2, if_false]
              exact hD p q (hset p e1 hp) (hset q e2 hq) hpq hAp hAq
        · intro j oj hoj hlj k hk
          have hset : ∀ j, listed.getD j false = true → (listed.setIfInBounds i true).getD j false = true := by
            intro j hj
            by_cases e : j = i
            · subst e
              have : j < listed.size := by omega
              simp [this]
            · rw [Array.getD_eq_getD_getElem?, Array.getElem?_setIfInBounds_ne (fun h => e h.symm)]
              rw [Array.getD_eq_getD_getElem?] at hj; exact hj
          apply hset
          by_cases e : j = i
          · subst e
            rw [hol] at hoj
            obtain rfl := Option.some.inj hoj
            obtain ⟨e, he, h2, h3⟩ := bound_mem hk
            have := hdeps e he h2
            rw [h3] at this
            exact this
          · refine hdn j oj hoj ?_ k hk
            rw [Array.getD_eq_getD_getElem?, Array.getElem?_setIfInBounds_ne (fun h => e h.symm)] at hlj
            rw [Array.getD_eq_getD_getElem?]; exact hlj
    · exfalso
      apply hdone
      have htz : tl[i - l.length]? = some o := by rw [List.getElem?_append_right hge] at hol'; exact hol'
      intro j hj
      have h1 := List.all_eq_true.1 (hcov _ _ htz) j (by simpa using hj)
      rw [List.contains_iff_mem] at h1
      refine reach_listed hdn l.length (bound o) (fun k hk => ?_) j h1
      obtain ⟨e, he, h2, h3⟩ := bound_mem hk
      have := hdeps e he h2
      rw [h3] at this
      exact this

theorem tail_oneU {l : List Oper} {z : Oper} (hga : goodAfter (l ++ [z]) = true) (hzg : z.guard = none) {listed : Array Bool} (hsz : listed.size = (l ++ [z]).length)
    (hall : ∀ j, j < l.length → listed.getD j false = true) (hf : listed[l.length]? = some false) {a : Act} {w : World} (h : ∀ K : Act → World → Prop, (∀ a' w', Q .normal a' w' → K a' w') → Oper.wp P z a w K Q) :
    ∀ fuel, listed.toList.count false ≤ fuel → wpAny P .any (l ++ [z]).toArray Q fuel listed a w := by
  intro fuel hc
  cases fuel with
  | zero =>
    have hc0 : listed.toList.count false = 0 := by omega
    rw [List.count_eq_zero] at hc0
    exact absurd (List.mem_of_getElem? (by simpa using hf)) hc0
  | succ fuel =>
    refine ⟨fun hr => ?_, fun i hi => ?_⟩
    · have := ready_nil' hga hsz hr l.length (by simp)
      rw [Array.getD_eq_getD_getElem?, hf] at this; cases this
    obtain ⟨o, ho, hl, hdeps⟩ := ready_spec hi
    have hil : i < (l ++ [z]).length := by
      have := (Array.getElem?_eq_some_iff.1 ho).1
      simpa using this
    have hol' : (l ++ [z])[i]? = some o := by simpa using ho
    obtain rfl : i = l.length := by
      rcases Nat.lt_or_ge i l.length with h3 | h3
      · exfalso
        have h4 := hall i h3
        have hi' : i < listed.size := by omega
        simp [hi'] at hl h4
        rw [hl] at h4; cases h4
      · simp at hil; omega
    have hoz : o = z := by
      rw [List.getElem?_append_right (Nat.le_refl _)] at hol'
      simpa using hol'.symm
    subst hoz
    refine wpOp_step ho (fun K' hK => ?_)
    have hw : Region.wanted o (yielded (l ++ [o]).toArray a.tmps) = true := by
      unfold Region.wanted
      rw [hzg]
    rw [if_pos hw]
    refine h K' (fun a' w' hQ => hK a' w' (all_done (by simpa using hsz) ?_ hQ fuel))
    intro j hj
    by_cases e : j = l.length
    · subst e
      have : l.length < listed.size := by omega
      simp [this]
    · have hj' : j < l.length := by simp at hj; omega
      have := hall j hj'
      rw [Array.getD_eq_getD_getElem?, Array.getElem?_setIfInBounds_ne (fun h => e h.symm)]
      rw [Array.getD_eq_getD_getElem?] at this
      exact this
theorem region_oneUL {id : Nat} {full : List Oper} {z : Oper} {S : World → Prop} (n : Nat) (Vs : List (World → Value → Prop)) {a0 : Act} {w0 : World} (hz : full.drop n = [z]) (hm : P.follows .mixedOrders = true)
    (hg : goodOpsG (full.take n) a0.tmps.size = true) (hu : uniq (full.take n) = true) (hga : goodAfter (full.take n ++ [z]) = true) (hzg : z.guard = none)
    (hcz : ((List.range (full.take n).length).all fun j => (reach (full.take n) (full.take n).length (bound z)).contains j) = true) (hS : S w0.drew) (hpers : PersAll Vs)
    (hsteps : StepsOkU P Q (full.take n) (fun _ => false) S (fun i => Vs.getD i (fun _ _ => True)) a0 (full.take n) 0)
    (hlast : ∀ (vals : Nat → Value) (w : World) (K : Act → World → Prop), S w → (∀ i, i < n → Vs.getD i (fun _ _ => True) w (vals i)) → (∀ a' w', Q .normal a' w' → K a' w') → Later (Oper.wp P z ⟨setN n full vals 0 a0.tmps, a0.defers⟩ w K Q)) : (Code.region id full.toArray true).wp P Q a0 w0 := by
  have hops : full.toArray = (full.take n ++ [z]).toArray := by rw [← hz, List.take_append_drop]
  have hl := congrArg List.length hz
  simp only [List.length_drop, List.length_cons, List.length_nil] at hl
  have hn : (full.take n).length = n := by rw [List.length_take]; omega
  rw [hops]
  refine wp_region_any hm ?_
  refine rglu_any hg hu hga (by simp) ?_ (pers_at hpers) hsteps ?_ _ _ _ _ (by simp) ?_ (by simp) ⟨fun _ => undef, ⟨hS, rfl, rfl, ?_, ?_⟩, ?_, ?_⟩
  · intro i o ho
    match i, ho with
    | 0, ho => rw [List.getElem?_cons_zero] at ho; rw [← Option.some.inj ho]; exact hcz
    | k + 1, ho => simp at ho
  · intro vals fuel listed w hS' hv hdf hsz hall hf hc
    refine tail_oneU hga hzg hsz hall (hf _ (Nat.le_refl _) (by simp)) ?_ fuel hc
    intro K hK
    rw [setN_eq]
    exact (hlast vals w K hS' (fun i hi => hv i (by omega)) hK).out
  · intro j h1 h2
    simp only [List.size_toArray, Array.getElem?_replicate]
    rw [if_pos h2]
  · intro i hi
    exfalso
    rw [Array.getD_eq_getD_getElem?, Array.getElem?_replicate] at hi
    split at hi <;> cases hi
  · intro k
    cases findDst (full.take n) k with
    | none => rfl
    | some i =>
      have : (Array.replicate (full.take n ++ [z]).toArray.size false).getD i false = false := by
        simp only [Array.getD_eq_getD_getElem?, Array.getElem?_replicate]
        split <;> rfl
      show a0.tmps[k]? = if (Array.replicate (full.take n ++ [z]).toArray.size false).getD i false = true then some undef else a0.tmps[k]?
      rw [this]
      simp
  · intro i j hi
    exfalso
    rw [Array.getD_eq_getD_getElem?, Array.getElem?_replicate] at hi
    split at hi <;> cases hi
  · intro j o _ hlj
    exfalso
    rw [Array.getD_eq_getD_getElem?, Array.getElem?_replicate] at hlj
    split at hlj <;> cases hlj
end
end Go.Proofs.Ytpfidbcnefnhcaa

/- The document's answer: the lesser mode. -/
namespace Go.Proofs.Ytpfidbcnefnhcaa
open Go.RowKit
open MetaM RightM AclM
set_option linter.unusedVariables false
theorem and8 (a b : Nat) (ha : a < 8) (hb : b < 8) : bits .and .i64 (a : Int) (b : Int) = ((a &&& b : Nat) : Int) := by
  have h : ∀ x y : Fin 8, bits .and .i64 (x.val : Int) (y.val : Int) = ((x.val &&& y.val : Nat) : Int) := by decide +kernel
  exact h ⟨a, ha⟩ ⟨b, hb⟩
theorem and_lt8 {a : Nat} (b : Nat) (ha : a < 8) : a &&& b < 8 := Nat.lt_of_le_of_lt Nat.and_le_left ha
attribute [local irreducible] Row At

end Go.Proofs.Ytpfidbcnefnhcaa

/- The document's answer: owners, lists, who can. -/
namespace Go.Proofs.Ytpfidbcnefnhcaa
open Go.RowKit
open MetaM RightM AclM
set_option linter.unusedVariables false
theorem from_row (m : Int) (w : World) : Row AclW.aceE w.heap.size (.slice (some ⟨w.heap.size, 0, none⟩) 3 3) (fromL m) (w.alloc (.cells #[.int .i64 1, .int .i64 0, .int .i64 (bits .and .i64 (m / 64) 7), .int .i64 3, .int .i64 0, .int .i64 (bits .and .i64 (m / 8) 7), .int .i64 6, .int .i64 0, .int .i64 (bits .and .i64 m 7)] 51)) := by
  rw [AclW.and7, AclW.and7, AclW.and7]
  exact lit_row (E := AclW.aceE) w (fromL m) _ w.heap.size 3 rfl (Nat.le_refl _) (by simp [fromL]) rfl
def InRange (n : Int) : Prop := -9223372036854775808 ≤ n ∧ n ≤ 9223372036854775807
structure LOk (l : List Ace) : Prop where
  len : l.length ≤ 32
  perm : ∀ a ∈ l, 0 ≤ a.2.2 ∧ a.2.2 ≤ 7
  own : has l 1 = true
  oth : has l 6 = true
theorem LOk.of_may {l : List Ace} (h : may l = true) : LOk l :=
  ⟨(may_parts h).2.1, fun a ha => by have := okPart_iff ((may_parts h).1 a ha); omega, (may_has h).1, (may_has h).2.2⟩
theorem LOk.of_mode (n : Int) : LOk (fromL n) := by
  refine ⟨by simp [fromL], fun a ha => ?_, by simp [fromL, has, findN], by simp [fromL, has, findN]⟩
  unfold fromL at ha
  simp only [List.mem_cons, List.not_mem_nil, or_false] at ha
  rcases ha with rfl | rfl | rfl <;> (simp only; omega)
theorem LOk.of {m : Mt} (h : okL m) : LOk (listM m) := by
  unfold listM
  rcases h with h | h
  · rw [if_pos h]; exact LOk.of_mode _
  · rw [if_neg (may_ne h)]; exact LOk.of_may h
theorem LOk.nat {l : List Ace} (h : LOk l) {t : Int} (ht : has l t = true) : AclW.permR l t = (permM l t : Int) ∧ permM l t < 8 := by
  obtain ⟨a, h1, _, h3⟩ := permR_mem ht
  have := h.perm a h1
  unfold permM
  omega
theorem LOk.mask {l : List Ace} (h : LOk l) : ((AclW.permR l 5 < 0 ∧ maskM l = 7) ∨ (¬ AclW.permR l 5 < 0 ∧ AclW.permR l 5 = (maskM l : Int))) ∧ maskM l < 8 := by
  by_cases hn : AclW.permR l 5 < 0
  · have e : maskM l = 7 := if_pos hn
    exact ⟨.inl ⟨hn, e⟩, by omega⟩
  · have ht : has l 5 = true := by
      by_cases hb : has l 5 = true
      · exact hb
      · exfalso; apply hn; unfold AclW.permR; rw [if_neg hb]; decide
    have e : maskM l = permM l 5 := if_neg hn
    rw [e]
    exact ⟨.inr ⟨hn, (h.nat ht).1⟩, (h.nat ht).2⟩
attribute [local irreducible] Row At
end Go.Proofs.Ytpfidbcnefnhcaa

/- The document's answer: who can, walked. -/
namespace Go.Proofs.Ytpfidbcnefnhcaa
open Go.RowKit
open MetaM RightM AclM
set_option linter.unusedVariables false
structure CanSt (w : World) (B : Nat) (mu mg cu cg : Int) (gv : Value) (pw : Int) (W : World) : Prop where
  below : Below w.heap.size w W
  k1 : W.cell? ⟨B, 1, none⟩ = some (.int .i64 mu)
  k2 : W.cell? ⟨B, 2, none⟩ = some (.int .i64 mg)
  c0 : W.cell? ⟨B + 1, 0, none⟩ = some (.int .i64 cu)
  c1 : W.cell? ⟨B + 1, 1, none⟩ = some (.int .i64 cg)
  c2 : W.cell? ⟨B + 1, 2, none⟩ = some gv
  c3 : W.cell? ⟨B + 1, 3, none⟩ = some (.int .i64 pw)
theorem CanSt.call {w : World} {B : Nat} {mu mg cu cg : Int} {gv : Value} {pw : Int} {W W' : World} (h : CanSt w B mu mg cu cg gv pw W) (hb : Below W.heap.size W W') : CanSt w B mu mg cu cg gv pw W' :=
  ⟨gr_call h.below hb, cell_kept hb h.k1, cell_kept hb h.k2, cell_kept hb h.c0, cell_kept hb h.c1, cell_kept hb h.c2, cell_kept hb h.c3⟩
theorem user_drop {l : List Ace} {k : Nat} (h : k < l.length) (u : Int) : userM (l.drop k) u = if l[k].1 = 2 ∧ l[k].2.1 = u then some l[k] else userM (l.drop (k + 1)) u := by
  unfold userM
  rw [List.drop_eq_getElem_cons h, List.find?_cons]
  by_cases h1 : l[k].1 = 2 ∧ l[k].2.1 = u
  · rw [if_pos h1, decide_eq_true h1.1, decide_eq_true h1.2]; rfl
  · rw [if_neg h1]
    have : (decide (l[k].1 = 2) && decide (l[k].2.1 = u)) = false := by
      rw [Bool.and_eq_false_iff, decide_eq_false_iff_not, decide_eq_false_iff_not]
      by_cases h2 : l[k].1 = 2
      · exact .inr fun h3 => h1 ⟨h2, h3⟩
      · exact .inl h2
    rw [this]
theorem user_end {l : List Ace} {k : Nat} (h : l.length ≤ k) (u : Int) : userM (l.drop k) u = none := by rw [List.drop_eq_nil_of_le h]; rfl
def leftG (G : Ace → Bool) (l : List Ace) (w : Nat) (km ko : Bool) (b : Bool) (k : Nat) : Bool :=
  if (b || (l.drop k).any G) = true then ((l.drop k).any fun a => G a && gr a.2.2.toNat w) && km else ko
theorem gr_cmp (p n : Nat) : gr p n = (((p &&& n : Nat) : Int) == (n : Int)) := by
  unfold gr
  rw [← int_beq]
  by_cases h : p &&& n = n
  · rw [decide_eq_true h, decide_eq_true (by omega)]
  · rw [decide_eq_false h, decide_eq_false (by omega)]
attribute [local irreducible] Row At

end Go.Proofs.Ytpfidbcnefnhcaa

/- Who may what, as the program asks it: the parts of the groups, the lesser mode in its own order. -/
namespace Go.Proofs.Ytpfidbcnefnhcaa
open MetaM RightM AclM AclW
set_option linter.unusedVariables false
def idxP {α : Type} (p : α → Bool) : List α → Nat → Int
  | [], _ => -1
  | a :: l, i => if p a = true then (i : Int) else idxP p l (i + 1)
theorem idxP_any {α : Type} (p : α → Bool) : ∀ (l : List α) (i : Nat), decide (0 ≤ idxP p l i) = l.any p
  | [], i => rfl
  | a :: l, i => by
    unfold idxP
    rw [List.any_cons]
    by_cases h : p a = true
    · rw [if_pos h, h, Bool.true_or]; exact decide_eq_true (by omega)
    · rw [if_neg h, idxP_any p l (i + 1), Bool.eq_false_iff.2 h, Bool.false_or]
theorem idxP_drop {α : Type} {p : α → Bool} {l : List α} {i : Nat} (h : i < l.length) : idxP p (l.drop i) i = if p l[i] = true then (i : Int) else idxP p (l.drop (i + 1)) (i + 1) := by
  rw [List.drop_eq_getElem_cons h]; rfl
theorem idxP_end {α : Type} {p : α → Bool} {l : List α} {i : Nat} (h : l.length ≤ i) : idxP p (l.drop i) i = -1 := by
  rw [List.drop_eq_nil_of_le h]; rfl
structure LGo (l : List Ace) : Prop where
  ok : LOk l
  grp : has l 3 = true
  uniq : ∀ a ∈ l, (a.1 = 3 ∨ a.1 = 5) → a.2.2 = permR l a.1
  msk : has l 5 = (has l 2 || has l 4)
theorem perm_uniq {l : List Ace} (h : may l = true) {a : Ace} (ha : a ∈ l) (ht : a.1 = 3 ∨ a.1 = 5) : a.2.2 = permR l a.1 := by
  obtain ⟨b, h1, h2, h3⟩ := permR_mem (has_iff.2 ⟨a, ha, rfl⟩)
  rw [h3]
  have hp := order_pw.1 (may_parts h).2.2.1
  have oa := okPart_iff ((may_parts h).1 a ha)
  have ob := okPart_iff ((may_parts h).1 b h1)
  have hid : hasId a.1 = false := by rcases ht with e | e <;> rw [e] <;> rfl
  have ia := oa.2.2.2.2.2.2 hid
  have ib := ob.2.2.2.2.2.2 (by rw [h2]; exact hid)
  obtain ⟨i, hi, rfl⟩ := List.getElem_of_mem ha
  obtain ⟨j, hj, rfl⟩ := List.getElem_of_mem h1
  rcases Nat.lt_trichotomy i j with hlt | heq | hlt
  · have := (lt_iff _ _).1 (List.pairwise_iff_getElem.1 hp i j hi hj hlt)
    omega
  · subst heq; rfl
  · have := (lt_iff _ _).1 (List.pairwise_iff_getElem.1 hp j i hj hi hlt)
    omega
theorem LGo.of_may {l : List Ace} (h : may l = true) : LGo l := by
  refine ⟨LOk.of_may h, (may_has h).2.1, fun a ha ht => perm_uniq h ha ht, ?_⟩
  have h4 := (may_parts h).2.2.2
  unfold tags at h4
  simp only [Bool.and_eq_true, beq_iff_eq] at h4
  exact h4.2
theorem LGo.of_mode (n : Int) : LGo (fromL n) := by
  refine ⟨LOk.of_mode n, by simp [fromL, has, findN], fun a ha ht => ?_, by simp [fromL, has, findN]⟩
  unfold fromL at ha
  simp only [List.mem_cons, List.not_mem_nil, or_false] at ha
  rcases ha with rfl | rfl | rfl
  · simp at ht
  · rfl
  · simp at ht
theorem LGo.of {m : Mt} (h : okL m) : LGo (listM m) := by
  unfold listM
  rcases h with h | h
  · rw [if_pos h]; exact LGo.of_mode _
  · rw [if_neg (may_ne h)]; exact LGo.of_may h
theorem LGo.user {l : List Ace} (h : LGo l) {u : Int} {a : Ace} (ha : userM l u = some a) : has l 5 = true := by
  have h1 := List.mem_of_find?_eq_some ha
  have h2 := List.find?_some ha
  simp only [Bool.and_eq_true, decide_eq_true_eq] at h2
  rw [h.msk, Bool.or_eq_true]
  exact .inl (has_iff.2 ⟨a, h1, h2.1⟩)
theorem mask_of {l : List Ace} (h : LOk l) (h5 : has l 5 = true) : permR l 5 = (maskM l : Int) := by
  have hn := (h.nat h5).1
  have h0 : ¬ permR l 5 < 0 := by omega
  unfold maskM
  rw [if_neg h0]
  omega
def partsG (l : List Ace) (m : Mt) (c : Cr) : List Int :=
  (if inM c m.gid = true then [permR l 3] else []) ++ (l.filter fun a => decide (a.1 = 4) && inM c a.2.1).map fun a => a.2.2
def namedG (l : List Ace) (c : Cr) : List Int := (l.filter fun a => decide (a.1 = 4) && inM c a.2.1).map fun a => a.2.2
theorem named_drop {l : List Ace} {c : Cr} {k : Nat} (h : k < l.length) : namedG (l.drop k) c = (if (decide (l[k].1 = 4) && inM c l[k].2.1) = true then [l[k].2.2] else []) ++ namedG (l.drop (k + 1)) c := by
  unfold namedG
  rw [List.drop_eq_getElem_cons h, List.filter_cons]
  by_cases h2 : (decide (l[k].1 = 4) && inM c l[k].2.1) = true
  · rw [if_pos h2, if_pos h2]; rfl
  · rw [if_neg h2, if_neg h2]; rfl
theorem named_end {l : List Ace} {c : Cr} {k : Nat} (h : l.length ≤ k) : namedG (l.drop k) c = [] := by rw [List.drop_eq_nil_of_le h]; rfl
theorem parts_rights {l : List Ace} (h : LGo l) {m : Mt} {c : Cr} : ∀ p ∈ partsG l m c, 0 ≤ p ∧ p ≤ 7 := by
  intro p hp
  unfold partsG at hp
  rcases List.mem_append.1 hp with hp | hp
  · by_cases hi : inM c m.gid = true
    · rw [if_pos hi] at hp
      obtain rfl := List.mem_singleton.1 hp
      have := h.ok.nat h.grp
      omega
    · rw [if_neg hi] at hp
      exact absurd hp List.not_mem_nil
  · obtain ⟨a, h1, rfl⟩ := List.mem_map.1 hp
    exact h.ok.perm a (List.mem_filter.1 h1).1
theorem parts_len {l : List Ace} {m : Mt} {c : Cr} : (partsG l m c).length ≤ l.length + 1 := by
  unfold partsG
  rw [List.length_append, List.length_map]
  have := List.length_filter_le (fun a : Ace => decide (a.1 = 4) && inM c a.2.1) l
  split <;> simp <;> omega
theorem parts_any {l : List Ace} (h : LGo l) {m : Mt} {c : Cr} (f : Int → Bool) : (partsG l m c).any f = l.any fun a => grpM m c a && f a.2.2 := by
  rw [Bool.eq_iff_iff, List.any_eq_true, List.any_eq_true]
  unfold partsG
  constructor
  · rintro ⟨p, hp, hf⟩
    rcases List.mem_append.1 hp with hp | hp
    · by_cases hi : inM c m.gid = true
      · rw [if_pos hi] at hp
        obtain rfl := List.mem_singleton.1 hp
        obtain ⟨a, h1, h2, h3⟩ := permR_mem h.grp
        refine ⟨a, h1, ?_⟩
        rw [← h3, hf, Bool.and_true]
        unfold grpM
        rw [decide_eq_true h2, hi]; rfl
      · rw [if_neg hi] at hp
        exact absurd hp List.not_mem_nil
    · obtain ⟨a, h1, rfl⟩ := List.mem_map.1 hp
      obtain ⟨h2, h3⟩ := List.mem_filter.1 h1
      refine ⟨a, h2, ?_⟩
      rw [hf, Bool.and_true]
      unfold grpM
      rw [h3, Bool.or_true]
  · rintro ⟨a, ha, hf⟩
    rw [Bool.and_eq_true] at hf
    obtain ⟨hg, hf⟩ := hf
    unfold grpM at hg
    rw [Bool.or_eq_true] at hg
    rcases hg with hg | hg
    · rw [Bool.and_eq_true, decide_eq_true_eq] at hg
      refine ⟨permR l 3, List.mem_append.2 (.inl ?_), ?_⟩
      · rw [if_pos hg.2]; exact List.mem_singleton.2 rfl
      · have := h.uniq a ha (.inl hg.1)
        rw [hg.1] at this
        rw [← this]; exact hf
    · exact ⟨a.2.2, List.mem_append.2 (.inr (List.mem_map.2 ⟨a, List.mem_filter.2 ⟨ha, hg⟩, rfl⟩)), hf⟩
theorem parts_nil {l : List Ace} (h : LGo l) {m : Mt} {c : Cr} : decide (0 < (partsG l m c).length) = l.any (grpM m c) := by
  have e := parts_any h (m := m) (c := c) (fun _ => true)
  simp only [Bool.and_true] at e
  rw [← show (l.any fun a => grpM m c a) = l.any (grpM m c) from rfl, ← e]
  cases partsG l m c with
  | nil => rfl
  | cons a r => simp
def grantG (k w : Nat) (p : Int) : Bool := gr (p.toNat &&& k) w
theorem any_and {α : Type} (l : List α) (p q : α → Bool) (b : Bool) : (l.any fun a => p a && (q a && b)) = ((l.any fun a => p a && q a) && b) := by
  cases b
  · simp
  · simp
theorem grant_any {l : List Ace} (h : LGo l) {m : Mt} {c : Cr} {k w : Nat} : (partsG l m c).any (grantG k w) = ((l.any fun a => grpM m c a && gr a.2.2.toNat w) && gr k w) := by
  rw [parts_any h, ← any_and]
  unfold grantG
  simp only [gr_and]
theorem rest_go {l : List Ace} (h : LGo l) (m : Mt) (c : Cr) (w : Nat) (hu : userM l c.uid = none) :
    restM l m c w = if decide (0 < (partsG l m c).length) = true then (partsG l m c).any (grantG (maskM l) w) else gr (permM l 6) w := by
  unfold restM
  rw [hu, parts_nil h, grant_any h]
def gG (l : List Ace) (x : Nat) : Nat := l.foldl (fun x a => if a.1 = 5 ∨ a.1 = 2 then x &&& a.2.2.toNat else x) x
def oG (l : List Ace) (x : Nat) : Nat := l.foldl (fun x a => if (a.1 = 5 ∨ a.1 = 2) ∨ a.1 = 4 then x &&& a.2.2.toNat else x) x
end Go.Proofs.Ytpfidbcnefnhcaa
