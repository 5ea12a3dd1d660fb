/- A region that draws its order, whose guards are met or not, whose calls may end in a panic; one last operation, or two, behind all others. -/
import Derived.Test.YtpfidbcnefnhcaaPk03
namespace Go.Proofs.Ytpfidbcnefnhcaa
open Go Go.RowKit

section
variable {P : Program} {Q : Exit → Act → World → Prop}

def StepOkU (P : Program) (Q : Exit → Act → World → Prop) (l : List Oper) (A : Nat → Bool) (S : World → Prop) (V : Nat → World → Value → Prop) (a0 : Act) (i : Nat) (o : Oper) : Prop :=
  ∀ (a : Act) (w : World) (K : Act → World → Prop), S w →
    (∀ e ∈ o.after, Region.binds .any e = true → V e.on w (valOf l a e.on)) →
    a.defers = a0.defers → (∀ k, findDst l k = none → a.tmps.getD k undef = a0.tmps.getD k undef) →
    (∀ v w', Below w.heap.size w w' → S w' → V i w' v → (A i = true → ∀ j u, j ≠ i → A j = true → V j w u → v ≠ u) → K (a.put o.dst v) w') → Oper.wp P o a w K Q
def UnmetOk (l : List Oper) (A : Nat → Bool) (V : Nat → World → Value → Prop) (a0 : Act) (i : Nat) (o : Oper) : Prop :=
  (∃ j b, o.guard = some (j, b) ∧ ∀ w v, V j w v → v = .bool (!b) ∨ v = undef) ∧ A i = false ∧ ∀ w, V i w undef
def StepsOkU (P : Program) (Q : Exit → Act → World → Prop) (l : List Oper) (A : Nat → Bool) (S : World → Prop) (V : Nat → World → Value → Prop) (a0 : Act) : List Oper → Nat → Prop
  | [], _ => True
  | o :: r, i => ((MetOk V o ∧ StepOkU P Q l A S V a0 i o) ∨ UnmetOk l A V a0 i o) ∧ StepsOkU P Q l A S V a0 r (i + 1)
theorem steps_atU {l : List Oper} {A : Nat → Bool} {S : World → Prop} {V : Nat → World → Value → Prop} {a0 : Act} : ∀ {r : List Oper} {n : Nat}, StepsOkU P Q l A S V a0 r n → ∀ {j : Nat} {o : Oper}, r[j]? = some o → (MetOk V o ∧ StepOkU P Q l A S V a0 (n + j) o) ∨ UnmetOk l A V a0 (n + j) o
  | [], _, _, j, o, h => by simp at h
  | x :: r, n, hs, 0, o, h => by
    simp at h
    subst h
    exact hs.1
  | x :: r, n, hs, j + 1, o, h => by
    have := steps_atU (n := n + 1) hs.2 (j := j) (o := o) (by simpa using h)
    rw [show n + (j + 1) = n + 1 + j by omega]
    exact this
theorem rglu_any {l tl : List Oper} {A : Nat → Bool} {S : World → Prop} {V : Nat → World → Value → Prop} {a0 : Act}
    (hg : goodOpsG l a0.tmps.size = true) (hu : uniq l = true) (hga : goodAfter (l ++ tl) = true) (htl : 0 < tl.length)
    (hcov : ∀ (i : Nat) (o : Oper), tl[i]? = some o → ((List.range l.length).all fun j => (reach l l.length (bound o)).contains j) = true)
    (hpers : ∀ i w w' v, Below w.heap.size w w' → V i w v → V i w' v)
    (hsteps : StepsOkU P Q l A S V a0 l 0)
    (htail : ∀ (vals : Nat → Value) (fuel : Nat) (listed : Array Bool) (w : World), S w → (∀ i, i < l.length → V i w (vals i)) → (∀ i j, i < l.length → j < l.length → i ≠ j → A i = true → A j = true → vals i ≠ vals j) → listed.size = (l ++ tl).length → (∀ j, j < l.length → listed.getD j false = true) → (∀ j, l.length ≤ j → j < (l ++ tl).length → listed[j]? = some false) → listed.toList.count false ≤ fuel → wpAny P .any (l ++ tl).toArray Q fuel listed ⟨setAll l vals 0 a0.tmps, a0.defers⟩ w) :
    ∀ (fuel : Nat) (listed : Array Bool) (a : Act) (w : World), listed.size = (l ++ tl).length → (∀ j, l.length ≤ j → j < (l ++ tl).length → listed[j]? = some false) → listed.toList.count false ≤ fuel → (∃ vals, FrameIs l V S a0 vals listed a w ∧ Differ A listed vals ∧ Down l listed) → wpAny P .any (l ++ tl).toArray Q fuel listed a w := by
  have hlen : l.length < (l ++ tl).length := by simp; omega
  intro fuel
  induction fuel with
  | zero =>
    intro listed a w hs hzf hc hF
    have hc0 : listed.toList.count false = 0 := by omega
    rw [List.count_eq_zero] at hc0
    exact absurd (List.mem_of_getElem? (by simpa using hzf l.length (Nat.le_refl _) hlen)) hc0
  | succ fuel ih =>
    intro listed a w hs hzf hc hF
    have hsz := hs
    have hzd : listed.getD l.length false = false := by rw [Array.getD_eq_getD_getElem?, hzf l.length (Nat.le_refl _) hlen]; rfl
    by_cases hdone : ∀ j, j < l.length → listed.getD j false = true
    · obtain ⟨vals, F, hD, hdn⟩ := hF
      have ha := frame_full hu F hdone
      subst ha
      exact htail vals (fuel + 1) listed w F.hS (fun i hi => F.hv i (hdone i hi)) (fun i j hi hj => hD i j (hdone i hi) (hdone j hj)) hs hdone hzf hc
    refine ⟨fun hr => ?_, fun i hi => ?_⟩
    · have := ready_nil' hga hsz hr l.length hlen
      rw [hzd] at this; cases this
    obtain ⟨vals, F, hD, hdn⟩ := hF
    obtain ⟨o, ho, hl, hdeps⟩ := ready_spec hi
    have hil : i < (l ++ tl).length := by
      have := (Array.getElem?_eq_some_iff.1 ho).1
      simpa using this
    have hol' : (l ++ tl)[i]? = some o := by simpa using ho
    have hif : listed[i]? = some false := by
      have hi' : i < listed.size := by omega
      have : listed[i] = false := by simpa [hi'] using hl
      simp [hi', this]
    have hcs : (listed.setIfInBounds i true).toList.count false ≤ fuel := by
      have := count_set (b := listed.toList) (i := i) (by simpa using hif)
      rw [Array.toList_setIfInBounds]
      omega
    refine wpOp_step ho (fun K' hK => ?_)
    rcases Nat.lt_or_ge i l.length with hlt | hge
    · have hol : l[i]? = some o := by rw [List.getElem?_append_left hlt] at hol'; exact hol'
      have hgi := List.all_eq_true.1 hg i (by simpa using hlt)
      rw [hol] at hgi
      simp only [Bool.and_eq_true, decide_eq_true_eq, beq_iff_eq] at hgi
      obtain ⟨⟨⟨⟨g1, g2⟩, g3⟩, g4⟩, g5⟩ := hgi
      have hst0 := steps_atU hsteps hol
      rw [Nat.zero_add] at hst0
      rcases hst0 with hst0 | hun
      case inr =>
        obtain ⟨⟨j, b, hgd, hvv⟩, hAi, hVi⟩ := hun
        obtain ⟨d, hd⟩ := Option.isSome_iff_exists.1 g2
        have hdi : dstOf l i = d := by simp [dstOf, hol, hd]
        rw [hdi] at g3 g4
        have hlf : listed.getD i false = false := by rw [Array.getD_eq_getD_getElem?, hif]; rfl
        have hset : ∀ j, (listed.setIfInBounds i true).getD j false = if j = i then true else listed.getD j false := by
          intro j
          by_cases e : j = i
          · subst e
            have : j < listed.size := by omega
            simp [this]
          · rw [Array.getD_eq_getD_getElem?, Array.getElem?_setIfInBounds_ne (fun h => e h.symm)]
            simp [e]
        have hw : Region.wanted o (yielded (l ++ tl).toArray a.tmps) = false := by
          rw [hgd] at g1
          simp only [Bool.and_eq_true, decide_eq_true_eq] at g1
          obtain ⟨e, he, h2⟩ := Array.any_eq_true'.1 g1.2
          simp only [Bool.and_eq_true, beq_iff_eq] at h2
          have hlj := hdeps e he h2.2
          rw [h2.1] at hlj
          have hjl : j < l.length := by omega
          have hvj := hvv w (vals j) (F.hv j hlj)
          have hgj := List.all_eq_true.1 hg j (by simpa using hjl)
          rw [List.getElem?_eq_getElem hjl] at hgj
          simp only [Bool.and_eq_true, decide_eq_true_eq, beq_iff_eq] at hgj
          have ht := F.ht (dstOf l j)
          rw [hgj.1.2] at ht
          simp only [hlj, if_true] at ht
          obtain ⟨dj, hdj⟩ := Option.isSome_iff_exists.1 hgj.1.1.1.2
          have hdd : dstOf l j = dj := by simp [dstOf, hjl, hdj]
          rw [hdd] at ht
          have e1 : (l ++ tl).toArray[j]? = some l[j] := by simp [List.getElem?_append_left hjl, hjl]
          rcases hvj with hvj | hvj
          · have hy : yielded (l ++ tl).toArray a.tmps j = some (!b) := by
              unfold yielded
              rw [e1, Option.bind_some, hdj, Option.bind_some, ht, hvj]
            unfold Region.wanted
            rw [hgd]
            simp [hy]
          · have hy : yielded (l ++ tl).toArray a.tmps j = none := by
              unfold yielded
              rw [e1, Option.bind_some, hdj, Option.bind_some, ht, hvj]
              rfl
            unfold Region.wanted
            rw [hgd]
            simp [hy]
        rw [if_neg (by rw [hw]; simp)]
        refine hK _ _ (ih _ _ _ (by simpa using hs) ?_ hcs ?_)
        · intro j hj1 hj2
          rw [Array.getElem?_setIfInBounds_ne (by omega)]; exact hzf j hj1 hj2
        refine ⟨fun j => if j = i then undef else vals j, ⟨F.hS, ?_, ?_, ?_, ?_⟩, ?_, ?_⟩
        · rw [hd]; exact F.hd
        · rw [hd]; simpa [Act.put] using F.hz
        · intro j hj
          by_cases e : j = i
          · subst e; simpa using hVi w
          · simp only [e, if_false]
            rw [hset, if_neg e] at hj
            exact F.hv j hj
        · intro k
          have hk0 := F.ht k
          rw [hd]
          by_cases e : d = k
          · subst e
            rw [g4]
            have hdz : d < a.tmps.size := by rw [F.hz]; exact g3
            simp [Act.put, hdz, hset]
          · have hne : ∀ j, findDst l k = some j → j ≠ i := by
              intro j hj hji
              subst hji
              unfold findDst at hj
              have := (List.findIdx?_eq_some_iff_getElem.1 hj).2.1
              have h5 : l[j] = o := by
                have := hol
                rw [List.getElem?_eq_getElem hlt] at this
                exact Option.some.inj this
              simp [h5, hd, e] at this
            simp only [Act.put]
            rw [Array.getElem?_setIfInBounds_ne e, hk0]
            cases hf : findDst l k with
            | none => rfl
            | some j =>
              have := hne j hf
              simp [hset, this]
        · intro p q hp hq hpq hAp hAq
          by_cases e1 : p = i
          · rw [e1, hAi] at hAp; cases hAp
          · by_cases e2 : q = i
            · rw [e2, hAi] at hAq; cases hAq
            · simp only [e1, e2, if_false]
              rw [hset, if_neg e1] at hp
              rw [hset, if_neg e2] at hq
              exact hD p q hp hq hpq hAp hAq
        · intro j oj hoj hlj k hk
          rw [hset]
          by_cases e3 : k = i
          · rw [if_pos e3]
          rw [if_neg e3]
          by_cases e : j = i
          · subst e
            rw [hol] at hoj
            obtain rfl := Option.some.inj hoj
            obtain ⟨e, he, h2, h3⟩ := bound_mem hk
            have := hdeps e he h2
            rw [h3] at this
            exact this
          · rw [hset, if_neg e] at hlj
            exact hdn j oj hoj hlj k hk
      have g5 := Array.all_eq_true_iff_forall_mem.1 g5
      obtain ⟨d, hd⟩ := Option.isSome_iff_exists.1 g2
      have hdi : dstOf l i = d := by simp [dstOf, hol, hd]
      rw [hdi] at g3 g4
      have hw : Region.wanted o (yielded (l ++ tl).toArray a.tmps) = true := by
        unfold Region.wanted
        cases hgd : o.guard with
        | none => rfl
        | some x =>
          obtain ⟨j, b⟩ := x
          rw [hgd] at g1
          simp only [Bool.and_eq_true, decide_eq_true_eq] at g1
          obtain ⟨e, he, h2⟩ := Array.any_eq_true'.1 g1.2
          simp only [Bool.and_eq_true, beq_iff_eq] at h2
          have hlj := hdeps e he h2.2
          rw [h2.1] at hlj
          have hjl : j < l.length := by omega
          have hvj := hst0.1 j b hgd w (vals j) (F.hv j hlj)
          have hgj := List.all_eq_true.1 hg j (by simpa using hjl)
          rw [List.getElem?_eq_getElem hjl] at hgj
          simp only [Bool.and_eq_true, decide_eq_true_eq, beq_iff_eq] at hgj
          have ht := F.ht (dstOf l j)
          rw [hgj.1.2] at ht
          simp only [hlj, if_true] at ht
          obtain ⟨dj, hdj⟩ := Option.isSome_iff_exists.1 hgj.1.1.1.2
          have hdd : dstOf l j = dj := by simp [dstOf, hjl, hdj]
          rw [hdd] at ht
          have hy : yielded (l ++ tl).toArray a.tmps j = some b := by
            unfold yielded
            have e1 : (l ++ tl).toArray[j]? = some l[j] := by simp [List.getElem?_append_left hjl, hjl]
            rw [e1, Option.bind_some, hdj, Option.bind_some, ht, hvj]
          simp [hy]
      rw [if_pos hw]
      have hst := hst0.2
      have hval : ∀ j, j < l.length → listed.getD j false = true → valOf l a j = vals j := by
        intro j hj hlj
        have hgj := List.all_eq_true.1 hg j (by simpa using hj)
        rw [List.getElem?_eq_getElem hj] at hgj
        simp only [Bool.and_eq_true, decide_eq_true_eq, beq_iff_eq] at hgj
        have := F.ht (dstOf l j)
        rw [hgj.1.2] at this
        simp only [hlj, if_true] at this
        unfold valOf
        rw [Array.getD_eq_getD_getElem?, this]
        rfl
      refine hst a w K' F.hS ?_ F.hd ?_ ?_
      · intro e he hb
        have hle := hdeps e he hb
        have hlt2 : e.on < l.length := by
          have := of_decide_eq_true (g5 e he)
          omega
        rw [hval e.on hlt2 hle]
        exact F.hv e.on hle
      · intro k hk
        have := F.ht k
        rw [hk] at this
        rw [Array.getD_eq_getD_getElem?, Array.getD_eq_getD_getElem?, this]
      · intro v w' hB hS' hV hN
        refine hK _ _ (ih _ _ _ (by simpa using hs) ?_ hcs ?_)
        · intro j hj1 hj2
          rw [Array.getElem?_setIfInBounds_ne (by omega)]; exact hzf j hj1 hj2
        refine ⟨fun j => if j = i then v else vals j, ⟨hS', ?_, ?_, ?_, ?_⟩, ?_, ?_⟩
        · rw [hd]; exact F.hd
        · rw [hd]; simpa [Act.put] using F.hz
        · intro j hj
          by_cases e : j = i
          · subst e; simpa using hV
          · simp only [e, if_false]
            refine hpers j w w' _ hB (F.hv j ?_)
            rw [Array.getD_eq_getD_getElem?, Array.getElem?_setIfInBounds_ne (fun h => e h.symm)] at hj
            rw [Array.getD_eq_getD_getElem?]; exact hj
        · intro k
          have hk0 := F.ht k
          have hset : ∀ j, (listed.setIfInBounds i true).getD j false = if j = i then true else listed.getD j false := by
            intro j
            by_cases e : j = i
            · subst e
              have : j < listed.size := by omega
              simp [this]
            · rw [Array.getD_eq_getD_getElem?, Array.getElem?_setIfInBounds_ne (fun h => e h.symm)]
              simp [e]
          rw [hd]
          by_cases e : d = k
          · subst e
            rw [g4]
            have hdz : d < a.tmps.size := by rw [F.hz]; exact g3
            simp [Act.put, hdz, hset]
          · have hne : ∀ j, findDst l k = some j → j ≠ i := by
              intro j hj hji
              subst hji
              unfold findDst at hj
              have := (List.findIdx?_eq_some_iff_getElem.1 hj).2.1
              have h5 : l[j] = o := by
                have := hol
                rw [List.getElem?_eq_getElem hlt] at this
                exact Option.some.inj this
              simp [h5, hd, e] at this
            simp only [Act.put]
            rw [Array.getElem?_setIfInBounds_ne e, hk0]
            cases hf : findDst l k with
            | none => rfl
            | some j =>
              have := hne j hf
              simp [hset, this]
        · intro p q hp hq hpq hAp hAq
          have hset : ∀ j, j ≠ i → (listed.setIfInBounds i true).getD j false = true → listed.getD j false = true := by
            intro j e hj
            rw [Array.getD_eq_getD_getElem?, Array.getElem?_setIfInBounds_ne (fun h => e h.symm)] at hj
            rw [Array.getD_eq_getD_getElem?]; exact hj
          by_cases e1 : p = i
          · by_cases e2 : q = i
            · exact absurd (e1.trans e2.symm) hpq
            · simp only [e1, e2, if_true, if_false]
              exact hN (e1 ▸ hAp) q _ e2 hAq (F.hv q (hset q e2 hq))
          · by_cases e2 : q = i
            · simp only [e1, e2, if_true, if_false]
              exact fun h => hN (e2 ▸ hAq) p _ e1 hAp (F.hv p (hset p e1 hp)) h.symm
            · simp only [e1, e2, if_false]
              exact hD p q (hset p e1 hp) (hset q e2 hq) hpq hAp hAq
        · intro j oj hoj hlj k hk
          have hset : ∀ j, listed.getD j false = true → (listed.setIfInBounds i true).getD j false = true := by
            intro j hj
            by_cases e : j = i
            · subst e
              have : j < listed.size := by omega
              simp [this]
            · rw [Array.getD_eq_getD_getElem?, Array.getElem?_setIfInBounds_ne (fun h => e h.symm)]
              rw [Array.getD_eq_getD_getElem?] at hj; exact hj
          apply hset
          by_cases e : j = i
          · subst e
            rw [hol] at hoj
            obtain rfl := Option.some.inj hoj
            obtain ⟨e, he, h2, h3⟩ := bound_mem hk
            have := hdeps e he h2
            rw [h3] at this
            exact this
          · refine hdn j oj hoj ?_ k hk
            rw [Array.getD_eq_getD_getElem?, Array.getElem?_setIfInBounds_ne (fun h => e h.symm)] at hlj
            rw [Array.getD_eq_getD_getElem?]; exact hlj
    · exfalso
      apply hdone
      have htz : tl[i - l.length]? = some o := by rw [List.getElem?_append_right hge] at hol'; exact hol'
      intro j hj
      have h1 := List.all_eq_true.1 (hcov _ _ htz) j (by simpa using hj)
      rw [List.contains_iff_mem] at h1
      refine reach_listed hdn l.length (bound o) (fun k hk => ?_) j h1
      obtain ⟨e, he, h2, h3⟩ := bound_mem hk
      have := hdeps e he h2
      rw [h3] at this
      exact this

theorem tail_oneU {l : List Oper} {z : Oper} (hga : goodAfter (l ++ [z]) = true) (hzg : z.guard = none) {listed : Array Bool} (hsz : listed.size = (l ++ [z]).length)
    (hall : ∀ j, j < l.length → listed.getD j false = true) (hf : listed[l.length]? = some false) {a : Act} {w : World} (h : ∀ K : Act → World → Prop, (∀ a' w', Q .normal a' w' → K a' w') → Oper.wp P z a w K Q) :
    ∀ fuel, listed.toList.count false ≤ fuel → wpAny P .any (l ++ [z]).toArray Q fuel listed a w := by
  intro fuel hc
  cases fuel with
  | zero =>
    have hc0 : listed.toList.count false = 0 := by omega
    rw [List.count_eq_zero] at hc0
    exact absurd (List.mem_of_getElem? (by simpa using hf)) hc0
  | succ fuel =>
    refine ⟨fun hr => ?_, fun i hi => ?_⟩
    · have := ready_nil' hga hsz hr l.length (by simp)
      rw [Array.getD_eq_getD_getElem?, hf] at this; cases this
    obtain ⟨o, ho, hl, hdeps⟩ := ready_spec hi
    have hil : i < (l ++ [z]).length := by
      have := (Array.getElem?_eq_some_iff.1 ho).1
      simpa using this
    have hol' : (l ++ [z])[i]? = some o := by simpa using ho
    obtain rfl : i = l.length := by
      rcases Nat.lt_or_ge i l.length with h3 | h3
      · exfalso
        have h4 := hall i h3
        have hi' : i < listed.size := by omega
        simp [hi'] at hl h4
        rw [hl] at h4; cases h4
      · simp at hil; omega
    have hoz : o = z := by
      rw [List.getElem?_append_right (Nat.le_refl _)] at hol'
      simpa using hol'.symm
    subst hoz
    refine wpOp_step ho (fun K' hK => ?_)
    have hw : Region.wanted o (yielded (l ++ [o]).toArray a.tmps) = true := by
      unfold Region.wanted
      rw [hzg]
    rw [if_pos hw]
    refine h K' (fun a' w' hQ => hK a' w' (all_done (by simpa using hsz) ?_ hQ fuel))
    intro j hj
    by_cases e : j = l.length
    · subst e
      have : l.length < listed.size := by omega
      simp [this]
    · have hj' : j < l.length := by simp at hj; omega
      have := hall j hj'
      rw [Array.getD_eq_getD_getElem?, Array.getElem?_setIfInBounds_ne (fun h => e h.symm)]
      rw [Array.getD_eq_getD_getElem?] at this
      exact this
theorem region_oneUL {id : Nat} {full : List Oper} {z : Oper} {S : World → Prop} (n : Nat) (Vs : List (World → Value → Prop)) {a0 : Act} {w0 : World} (hz : full.drop n = [z]) (hm : P.follows .mixedOrders = true)
    (hg : goodOpsG (full.take n) a0.tmps.size = true) (hu : uniq (full.take n) = true) (hga : goodAfter (full.take n ++ [z]) = true) (hzg : z.guard = none)
    (hcz : ((List.range (full.take n).length).all fun j => (reach (full.take n) (full.take n).length (bound z)).contains j) = true) (hS : S w0.drew) (hpers : PersAll Vs)
    (hsteps : StepsOkU P Q (full.take n) (fun _ => false) S (fun i => Vs.getD i (fun _ _ => True)) a0 (full.take n) 0)
    (hlast : ∀ (vals : Nat → Value) (w : World) (K : Act → World → Prop), S w → (∀ i, i < n → Vs.getD i (fun _ _ => True) w (vals i)) → (∀ a' w', Q .normal a' w' → K a' w') → Later (Oper.wp P z ⟨setN n full vals 0 a0.tmps, a0.defers⟩ w K Q)) : (Code.region id full.toArray true).wp P Q a0 w0 := by
  have hops : full.toArray = (full.take n ++ [z]).toArray := by rw [← hz, List.take_append_drop]
  have hl := congrArg List.length hz
  simp only [List.length_drop, List.length_cons, List.length_nil] at hl
  have hn : (full.take n).length = n := by rw [List.length_take]; omega
  rw [hops]
  refine wp_region_any hm ?_
  refine rglu_any hg hu hga (by simp) ?_ (pers_at hpers) hsteps ?_ _ _ _ _ (by simp) ?_ (by simp) ⟨fun _ => undef, ⟨hS, rfl, rfl, ?_, ?_⟩, ?_, ?_⟩
  · intro i o ho
    match i, ho with
    | 0, ho => rw [List.getElem?_cons_zero] at ho; rw [← Option.some.inj ho]; exact hcz
    | k + 1, ho => simp at ho
  · intro vals fuel listed w hS' hv hdf hsz hall hf hc
    refine tail_oneU hga hzg hsz hall (hf _ (Nat.le_refl _) (by simp)) ?_ fuel hc
    intro K hK
    rw [setN_eq]
    exact (hlast vals w K hS' (fun i hi => hv i (by omega)) hK).out
  · intro j h1 h2
    simp only [List.size_toArray, Array.getElem?_replicate]
    rw [if_pos h2]
  · intro i hi
    exfalso
    rw [Array.getD_eq_getD_getElem?, Array.getElem?_replicate] at hi
    split at hi <;> cases hi
  · intro k
    cases findDst (full.take n) k with
    | none => rfl
    | some i =>
      have : (Array.replicate (full.take n ++ [z]).toArray.size false).getD i false = false := by
        simp only [Array.getD_eq_getD_getElem?, Array.getElem?_replicate]
        split <;> rfl
      show a0.tmps[k]? = if (Array.replicate (full.take n ++ [z]).toArray.size false).getD i false = true then some undef else a0.tmps[k]?
      rw [this]
      simp
  · intro i j hi
    exfalso
    rw [Array.getD_eq_getD_getElem?, Array.getElem?_replicate] at hi
    split at hi <;> cases hi
  · intro j o _ hlj
    exfalso
    rw [Array.getD_eq_getD_getElem?, Array.getElem?_replicate] at hlj
    split at hlj <;> cases hlj
end
end Go.Proofs.Ytpfidbcnefnhcaa
