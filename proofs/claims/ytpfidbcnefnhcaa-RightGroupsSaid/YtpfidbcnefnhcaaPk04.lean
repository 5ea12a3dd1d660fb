/- Bundle of 4 texts. -/
import Derived.Test.YtpfidbcnefnhcaaPk03
/- A region that draws its order, whose operations make memory beside calls, some of them behind a guard that is met: one step an operation, whatever the order. -/
namespace Go.Proofs.Ytpfidbcnefnhcaa
open Go Go.RowKit

section
variable {P : Program} {Q : Exit → Act → World → Prop}

def goodOpsG (l : List Oper) (n : Nat) : Bool :=
  (List.range l.length).all fun i => match l[i]? with
    | none => false
    | some o => (match o.guard with | none => true | some (j, _) => decide (j < i) && (o.after.any fun e => e.on == j && Region.binds .any e)) && o.dst.isSome && decide (dstOf l i < n) && (findDst l (dstOf l i) == some i) && (o.after.all fun e => decide (e.on < i))
def MetOk (V : Nat → World → Value → Prop) (o : Oper) : Prop := ∀ j b, o.guard = some (j, b) → ∀ w v, V j w v → v = .bool b
def StepsOkG (P : Program) (Q : Exit → Act → World → Prop) (l : List Oper) (S : World → Prop) (V : Nat → World → Value → Prop) (a0 : Act) : List Oper → Nat → Prop
  | [], _ => True
  | o :: r, i => (MetOk V o ∧ StepOk P Q l S V a0 i o) ∧ StepsOkG P Q l S V a0 r (i + 1)
theorem steps_atG {l : List Oper} {S : World → Prop} {V : Nat → World → Value → Prop} {a0 : Act} : ∀ {r : List Oper} {n : Nat}, StepsOkG P Q l S V a0 r n → ∀ {j : Nat} {o : Oper}, r[j]? = some o → MetOk V o ∧ StepOk P Q l S V a0 (n + j) o
  | [], _, _, j, o, h => by simp at h
  | x :: r, n, hs, 0, o, h => by
    simp at h
    subst h
    exact hs.1
  | x :: r, n, hs, j + 1, o, h => by
    have := steps_atG (n := n + 1) hs.2 (j := j) (o := o) (by simpa using h)
    rw [show n + (j + 1) = n + 1 + j by omega]
    exact this
theorem met_none {V : Nat → World → Value → Prop} {o : Oper} (h : o.guard = none) : MetOk V o := fun j b hg => by rw [h] at hg; cases hg
theorem met_some {V : Nat → World → Value → Prop} {o : Oper} (j : Nat) (b : Bool) (h : o.guard = some (j, b)) (hv : ∀ w v, V j w v → v = .bool b) : MetOk V o := fun j' b' hg => by
  rw [h] at hg
  obtain ⟨rfl, rfl⟩ := Prod.mk.inj (Option.some.inj hg)
  exact hv
theorem rglg_any {l : List Oper} {z : Oper} {S : World → Prop} {V : Nat → World → Value → Prop} {a0 : Act}
    (hg : goodOpsG l a0.tmps.size = true) (hu : uniq l = true) (hga : goodAfter (l ++ [z]) = true) (hzg : z.guard = none)
    (hcov : ((List.range l.length).all fun j => z.after.any fun e => e.on == j && Region.binds .any e) = true)
    (hpers : ∀ i w w' v, Below w.heap.size w w' → V i w v → V i w' v)
    (hsteps : StepsOkG P Q l S V a0 l 0)
    (hlast : ∀ (vals : Nat → Value) (w : World) (K : Act → World → Prop), S w → (∀ i, i < l.length → V i w (vals i)) → (∀ a' w', Q .normal a' w' → K a' w') → Oper.wp P z ⟨setAll l vals 0 a0.tmps, a0.defers⟩ w K Q) :
    ∀ (fuel : Nat) (listed : Array Bool) (a : Act) (w : World), listed.size = l.length + 1 → listed[l.length]? = some false → listed.toList.count false ≤ fuel → (∃ vals, FrameIs l V S a0 vals listed a w) → wpAny P .any (l ++ [z]).toArray Q fuel listed a w := by
  intro fuel
  induction fuel with
  | zero =>
    intro listed a w hs hzf hc hF
    have hc0 : listed.toList.count false = 0 := by omega
    rw [List.count_eq_zero] at hc0
    exact absurd (List.mem_of_getElem? (by simpa using hzf)) hc0
  | succ fuel ih =>
    intro listed a w hs hzf hc hF
    have hsz : listed.size = (l ++ [z]).length := by simpa using hs
    have hzd : listed.getD l.length false = false := by rw [Array.getD_eq_getD_getElem?, hzf]; rfl
    refine ⟨fun hr => ?_, fun i hi => ?_⟩
    · have := ready_nil' hga hsz hr l.length (by simp)
      rw [hzd] at this; cases this
    obtain ⟨vals, F⟩ := hF
    obtain ⟨o, ho, hl, hdeps⟩ := ready_spec hi
    have hil : i < (l ++ [z]).length := by
      have := (Array.getElem?_eq_some_iff.1 ho).1
      simpa using this
    have hol' : (l ++ [z])[i]? = some o := by simpa using ho
    have hif : listed[i]? = some false := by
      have hi' : i < listed.size := by omega
      have : listed[i] = false := by simpa [hi'] using hl
      simp [hi', this]
    have hcs : (listed.setIfInBounds i true).toList.count false ≤ fuel := by
      have := count_set (b := listed.toList) (i := i) (by simpa using hif)
      rw [Array.toList_setIfInBounds]
      omega
    refine wpOp_step ho (fun K' hK => ?_)
    rcases Nat.lt_or_ge i l.length with hlt | hge
    · have hol : l[i]? = some o := by rw [List.getElem?_append_left hlt] at hol'; exact hol'
      have hgi := List.all_eq_true.1 hg i (by simpa using hlt)
      rw [hol] at hgi
      simp only [Bool.and_eq_true, decide_eq_true_eq, beq_iff_eq] at hgi
      obtain ⟨⟨⟨⟨g1, g2⟩, g3⟩, g4⟩, g5⟩ := hgi
      have hst0 := steps_atG hsteps hol
      rw [Nat.zero_add] at hst0
      have g5 := Array.all_eq_true_iff_forall_mem.1 g5
      obtain ⟨d, hd⟩ := Option.isSome_iff_exists.1 g2
      have hdi : dstOf l i = d := by simp [dstOf, hol, hd]
      rw [hdi] at g3 g4
      have hw : Region.wanted o (yielded (l ++ [z]).toArray a.tmps) = true := by
        unfold Region.wanted
        cases hgd : o.guard with
        | none => rfl
        | some x =>
          obtain ⟨j, b⟩ := x
          rw [hgd] at g1
          simp only [Bool.and_eq_true, decide_eq_true_eq] at g1
          obtain ⟨e, he, h2⟩ := Array.any_eq_true'.1 g1.2
          simp only [Bool.and_eq_true, beq_iff_eq] at h2
          have hlj := hdeps e he h2.2
          rw [h2.1] at hlj
          have hjl : j < l.length := by omega
          have hvj := hst0.1 j b hgd w (vals j) (F.hv j hlj)
          have hgj := List.all_eq_true.1 hg j (by simpa using hjl)
          rw [List.getElem?_eq_getElem hjl] at hgj
          simp only [Bool.and_eq_true, decide_eq_true_eq, beq_iff_eq] at hgj
          have ht := F.ht (dstOf l j)
          rw [hgj.1.2] at ht
          simp only [hlj, if_true] at ht
          obtain ⟨dj, hdj⟩ := Option.isSome_iff_exists.1 hgj.1.1.1.2
          have hdd : dstOf l j = dj := by simp [dstOf, hjl, hdj]
          rw [hdd] at ht
          have hy : yielded (l ++ [z]).toArray a.tmps j = some b := by
            unfold yielded
            have e1 : (l ++ [z]).toArray[j]? = some l[j] := by simp [List.getElem?_append_left hjl, hjl]
            rw [e1, Option.bind_some, hdj, Option.bind_some, ht, hvj]
          simp [hy]
      rw [if_pos hw]
      have hst := hst0.2
      have hval : ∀ j, j < l.length → listed.getD j false = true → valOf l a j = vals j := by
        intro j hj hlj
        have hgj := List.all_eq_true.1 hg j (by simpa using hj)
        rw [List.getElem?_eq_getElem hj] at hgj
        simp only [Bool.and_eq_true, decide_eq_true_eq, beq_iff_eq] at hgj
        have := F.ht (dstOf l j)
        rw [hgj.1.2] at this
        simp only [hlj, if_true] at this
        unfold valOf
        rw [Array.getD_eq_getD_getElem?, this]
        rfl
      refine hst a w K' F.hS ?_ ?_ ?_
      · intro e he hb
        have hle := hdeps e he hb
        have hlt2 : e.on < l.length := by
          have := of_decide_eq_true (g5 e he)
          omega
        rw [hval e.on hlt2 hle]
        exact F.hv e.on hle
      · intro k hk
        have := F.ht k
        rw [hk] at this
        rw [Array.getD_eq_getD_getElem?, Array.getD_eq_getD_getElem?, this]
      · intro v w' hB hS' hV
        refine hK _ _ (ih _ _ _ (by simpa using hs) ?_ hcs ?_)
        · rw [Array.getElem?_setIfInBounds_ne (by omega)]; exact hzf
        refine ⟨fun j => if j = i then v else vals j, hS', ?_, ?_, ?_, ?_⟩
        · rw [hd]; exact F.hd
        · rw [hd]; simpa [Act.put] using F.hz
        · intro j hj
          by_cases e : j = i
          · subst e; simpa using hV
          · simp only [e, if_false]
            refine hpers j w w' _ hB (F.hv j ?_)
            rw [Array.getD_eq_getD_getElem?, Array.getElem?_setIfInBounds_ne (fun h => e h.symm)] at hj
            rw [Array.getD_eq_getD_getElem?]; exact hj
        · intro k
          have hk0 := F.ht k
          have hset : ∀ j, (listed.setIfInBounds i true).getD j false = if j = i then true else listed.getD j false := by
            intro j
            by_cases e : j = i
            · subst e
              have : j < listed.size := by omega
              simp [this]
            · rw [Array.getD_eq_getD_getElem?, Array.getElem?_setIfInBounds_ne (fun h => e h.symm)]
              simp [e]
          rw [hd]
          by_cases e : d = k
          · subst e
            rw [g4]
            have hdz : d < a.tmps.size := by rw [F.hz]; exact g3
            simp [Act.put, hdz, hset]
          · have hne : ∀ j, findDst l k = some j → j ≠ i := by
              intro j hj hji
              subst hji
              unfold findDst at hj
              have := (List.findIdx?_eq_some_iff_getElem.1 hj).2.1
              have h5 : l[j] = o := by
                have := hol
                rw [List.getElem?_eq_getElem hlt] at this
                exact Option.some.inj this
              simp [h5, hd, e] at this
            simp only [Act.put]
            rw [Array.getElem?_setIfInBounds_ne e, hk0]
            cases hf : findDst l k with
            | none => rfl
            | some j =>
              have := hne j hf
              simp [hset, this]
    · obtain rfl : i = l.length := by simp at hil; omega
      have hoz : o = z := by
        rw [List.getElem?_append_right (Nat.le_refl _)] at hol'
        simpa using hol'.symm
      subst hoz
      have hw : Region.wanted o (yielded (l ++ [o]).toArray a.tmps) = true := by
        unfold Region.wanted
        rw [hzg]
      rw [if_pos hw]
      have hall : ∀ j, j < l.length → listed.getD j false = true := by
        intro j hj
        have h1 := List.all_eq_true.1 hcov j (by simpa using hj)
        obtain ⟨e, he, h2⟩ := Array.any_eq_true'.1 h1
        simp only [Bool.and_eq_true, beq_iff_eq] at h2
        have := hdeps e he h2.2
        rw [h2.1] at this
        exact this
      have ha := frame_full hu F hall
      subst ha
      refine hlast vals w K' F.hS (fun i hi => F.hv i (hall i hi)) (fun a' w' hQ => hK a' w' (all_done (by simpa using hsz) ?_ hQ fuel))
      intro j hj
      by_cases e : j = l.length
      · subst e
        have : l.length < listed.size := by omega
        simp [this]
      · have hj' : j < l.length := by simp at hj; omega
        have := hall j hj'
        rw [Array.getD_eq_getD_getElem?, Array.getElem?_setIfInBounds_ne (fun h => e h.symm)]
        rw [Array.getD_eq_getD_getElem?] at this
        exact this

theorem region_lastg {id : Nat} {l : List Oper} {z : Oper} {S : World → Prop} (Vs : List (World → Value → Prop)) {a0 : Act} {w0 : World} {ops : Array Oper} (hops : ops = (l ++ [z]).toArray) (hm : P.follows .mixedOrders = true)
    (hg : goodOpsG l a0.tmps.size = true) (hu : uniq l = true) (hga : goodAfter (l ++ [z]) = true) (hzg : z.guard = none)
    (hcov : ((List.range l.length).all fun j => z.after.any fun e => e.on == j && Region.binds .any e) = true) (hS : S w0.drew) (hpers : PersAll Vs)
    (hsteps : StepsOkG P Q l S (fun i => Vs.getD i (fun _ _ => True)) a0 l 0)
    (hlast : ∀ (vals : Nat → Value) (w : World) (K : Act → World → Prop), S w → (∀ i, i < l.length → Vs.getD i (fun _ _ => True) w (vals i)) → (∀ a' w', Q .normal a' w' → K a' w') → Oper.wp P z ⟨setAll l vals 0 a0.tmps, a0.defers⟩ w K Q) : (Code.region id ops true).wp P Q a0 w0 := by
  subst hops
  refine wp_region_any hm ?_
  refine rglg_any hg hu hga hzg hcov (pers_at hpers) hsteps hlast _ _ _ _ (by simp) (by simp [Array.getElem?_replicate]) (by simp) ⟨fun _ => undef, hS, rfl, rfl, ?_, ?_⟩
  · intro i hi
    simp [Array.getD_eq_getD_getElem?, Array.getElem?_replicate] at hi
    split at hi <;> simp_all
  · intro k
    cases findDst l k with
    | none => rfl
    | some i =>
      have : (Array.replicate (l ++ [z]).toArray.size false).getD i false = false := by
        simp only [Array.getD_eq_getD_getElem?, Array.getElem?_replicate]
        split <;> rfl
      show a0.tmps[k]? = if (Array.replicate (l ++ [z]).toArray.size false).getD i false = true then some undef else a0.tmps[k]?
      rw [this]
      simp
theorem region_lastng {id : Nat} {full : List Oper} {z : Oper} {S : World → Prop} (n : Nat) (Vs : List (World → Value → Prop)) {a0 : Act} {w0 : World} (hz : full.drop n = [z]) (hm : P.follows .mixedOrders = true)
    (hg : goodOpsG (full.take n) a0.tmps.size = true) (hu : uniq (full.take n) = true) (hga : goodAfter (full.take n ++ [z]) = true) (hzg : z.guard = none)
    (hcov : ((List.range (full.take n).length).all fun j => z.after.any fun e => e.on == j && Region.binds .any e) = true) (hS : S w0.drew) (hpers : PersAll Vs)
    (hsteps : StepsOkG P Q (full.take n) S (fun i => Vs.getD i (fun _ _ => True)) a0 (full.take n) 0)
    (hlast : ∀ (vals : Nat → Value) (w : World) (K : Act → World → Prop), S w → (∀ i, i < (full.take n).length → Vs.getD i (fun _ _ => True) w (vals i)) → (∀ a' w', Q .normal a' w' → K a' w') → Oper.wp P z ⟨setAll (full.take n) vals 0 a0.tmps, a0.defers⟩ w K Q) : (Code.region id full.toArray true).wp P Q a0 w0 :=
  region_lastg Vs (by rw [← hz, List.take_append_drop]) hm hg hu hga hzg hcov hS hpers hsteps hlast
theorem region_lastqg {id : Nat} {full : List Oper} {z : Oper} {S : World → Prop} (n : Nat) (Vs : List (World → Value → Prop)) {a0 : Act} {w0 : World} (hz : full.drop n = [z]) (hm : P.follows .mixedOrders = true)
    (hg : goodOpsG (full.take n) a0.tmps.size = true) (hu : uniq (full.take n) = true) (hga : goodAfter (full.take n ++ [z]) = true) (hzg : z.guard = none)
    (hcov : ((List.range (full.take n).length).all fun j => z.after.any fun e => e.on == j && Region.binds .any e) = true) (hS : S w0.drew) (hpers : PersAll Vs)
    (hsteps : StepsOkG P Q (full.take n) S (fun i => Vs.getD i (fun _ _ => True)) a0 (full.take n) 0)
    (hlast : ∀ (vals : Nat → Value) (w : World) (K : Act → World → Prop), S w → (∀ i, i < n → Vs.getD i (fun _ _ => True) w (vals i)) → (∀ a' w', Q .normal a' w' → K a' w') → Oper.wp P z ⟨setN n full vals 0 a0.tmps, a0.defers⟩ w K Q) : (Code.region id full.toArray true).wp P Q a0 w0 :=
  region_lastng n Vs hz hm hg hu hga hzg hcov hS hpers hsteps (fun vals w K h1 h2 h3 => by
    rw [setN_eq]
    refine hlast vals w K h1 (fun i hi => h2 i ?_) h3
    have hl := congrArg List.length hz
    rw [List.length_drop, List.length_singleton] at hl
    rw [List.length_take]
    omega)
end
end Go.Proofs.Ytpfidbcnefnhcaa

/- A region that draws its order, with a tail of stores behind all others: one step an operation, whatever the order. -/
namespace Go.Proofs.Ytpfidbcnefnhcaa
open Go Go.RowKit

section
variable {P : Program} {Q : Exit → Act → World → Prop}

def StepOkA (P : Program) (Q : Exit → Act → World → Prop) (l : List Oper) (A : Nat → Bool) (S : World → Prop) (V : Nat → World → Value → Prop) (a0 : Act) (i : Nat) (o : Oper) : Prop :=
  ∀ (a : Act) (w : World) (K : Act → World → Prop), S w →
    (∀ e ∈ o.after, Region.binds .any e = true → V e.on w (valOf l a e.on)) →
    (∀ k, findDst l k = none → a.tmps.getD k undef = a0.tmps.getD k undef) →
    (∀ v w', Below w.heap.size w w' → S w' → V i w' v → (A i = true → ∀ j u, j ≠ i → A j = true → V j w u → v ≠ u) → K (a.put o.dst v) w') → Oper.wp P o a w K Q
def StepsOkA (P : Program) (Q : Exit → Act → World → Prop) (l : List Oper) (A : Nat → Bool) (S : World → Prop) (V : Nat → World → Value → Prop) (a0 : Act) : List Oper → Nat → Prop
  | [], _ => True
  | o :: r, i => (MetOk V o ∧ StepOkA P Q l A S V a0 i o) ∧ StepsOkA P Q l A S V a0 r (i + 1)
def Differ (A : Nat → Bool) (listed : Array Bool) (vals : Nat → Value) : Prop := ∀ i j, listed.getD i false = true → listed.getD j false = true → i ≠ j → A i = true → A j = true → vals i ≠ vals j

def bound (o : Oper) : List Nat := (o.after.toList.filter (Region.binds .any)).map (·.on)
def clos (l : List Oper) : Nat → List Nat → List Nat
  | 0, s => s
  | n + 1, s => clos l n (s ++ s.flatMap fun k => match l[k]? with | some o => bound o | none => [])
def Down (l : List Oper) (listed : Array Bool) : Prop := ∀ j o, l[j]? = some o → listed.getD j false = true → ∀ k ∈ bound o, listed.getD k false = true
theorem bound_mem {o : Oper} {k : Nat} (h : k ∈ bound o) : ∃ e ∈ o.after, Region.binds .any e = true ∧ e.on = k := by
  obtain ⟨e, he, h1⟩ := List.mem_map.1 h
  obtain ⟨h2, h3⟩ := List.mem_filter.1 he
  exact ⟨e, by simpa using h2, h3, h1⟩

end
end Go.Proofs.Ytpfidbcnefnhcaa

/- The regions' laws with a goal behind a structure, so that no tactic opens it on the way. -/
namespace Go.Proofs.Ytpfidbcnefnhcaa
open Go Go.RowKit
structure Later (p : Prop) : Prop where
  out : p

section
variable {P : Program} {Q : Exit → Act → World → Prop}

theorem region_lastqgL {id : Nat} {full : List Oper} {z : Oper} {S : World → Prop} (n : Nat) (Vs : List (World → Value → Prop)) {a0 : Act} {w0 : World} (hz : full.drop n = [z]) (hm : P.follows .mixedOrders = true)
    (hg : goodOpsG (full.take n) a0.tmps.size = true) (hu : uniq (full.take n) = true) (hga : goodAfter (full.take n ++ [z]) = true) (hzg : z.guard = none)
    (hcov : ((List.range (full.take n).length).all fun j => z.after.any fun e => e.on == j && Region.binds .any e) = true) (hS : S w0.drew) (hpers : PersAll Vs)
    (hsteps : StepsOkG P Q (full.take n) S (fun i => Vs.getD i (fun _ _ => True)) a0 (full.take n) 0)
    (hlast : ∀ (vals : Nat → Value) (w : World) (K : Act → World → Prop), S w → (∀ i, i < n → Vs.getD i (fun _ _ => True) w (vals i)) → (∀ a' w', Q .normal a' w' → K a' w') → Later (Oper.wp P z ⟨setN n full vals 0 a0.tmps, a0.defers⟩ w K Q)) : (Code.region id full.toArray true).wp P Q a0 w0 :=
  region_lastqg n Vs hz hm hg hu hga hzg hcov hS hpers hsteps (fun vals w K h1 h2 h3 => (hlast vals w K h1 h2 h3).out)
end
end Go.Proofs.Ytpfidbcnefnhcaa

/- A region that draws its order, whose last two operations come behind all others through any number of steps: an append, say, and its assignment. -/
namespace Go.Proofs.Ytpfidbcnefnhcaa
open Go Go.RowKit

section
variable {P : Program} {Q : Exit → Act → World → Prop}

def reach (l : List Oper) : Nat → List Nat → List Nat
  | 0, s => s
  | n + 1, s => reach l n (if s.contains n = true then s ++ (match l[n]? with | some o => bound o | none => []) else s)
theorem reach_listed {l : List Oper} {listed : Array Bool} (hd : Down l listed) : ∀ (n : Nat) (s : List Nat), (∀ k ∈ s, listed.getD k false = true) → ∀ k ∈ reach l n s, listed.getD k false = true
  | 0, s, h => h
  | n + 1, s, h => reach_listed hd n _ (fun k hk => by
    split at hk
    · rename_i hn
      rcases List.mem_append.1 hk with h1 | h1
      · exact h k h1
      · cases hl : l[n]? with
        | none => rw [hl] at h1; cases h1
        | some o => rw [hl] at h1; exact hd n o hl (h n (List.contains_iff_mem.1 hn)) k h1
    · exact h k hk)
end
end Go.Proofs.Ytpfidbcnefnhcaa
