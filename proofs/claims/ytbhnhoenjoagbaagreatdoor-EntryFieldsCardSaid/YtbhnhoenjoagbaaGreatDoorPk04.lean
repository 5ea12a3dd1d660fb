/- Bundle of 3 texts. -/
import Derived.RegionTactic
import Derived.Below
import Derived.WalkKit
import Derived.Test.YtbhnhoenjoagbaaGreatDoorRows
import Derived.Test.YtbhnhoenjoagbaaGreatDoorChecked
import Derived.Test.YtbhnhoenjoagbaaGreatDoorKit
import Derived.OwnWalk
import Derived.Lib.Strings
import Derived.Lib.Builder
import Derived.Deep.RegionHeld3
import Derived.Deep.AppendLies
import Derived.Laws.MakeOwn
/- A region that draws its order, whose operations make memory beside calls: one step an operation, whatever the order. -/
namespace Go.Proofs.YtbhnhoenjoagbaaGreatDoor
open Go Go.RowKit

section
variable {P : Program} {Q : Exit → Act → World → Prop}

def dstOf (l : List Oper) (j : Nat) : Nat := ((l[j]?).bind (·.dst)).getD 0
def valOf (l : List Oper) (a : Act) (j : Nat) : Value := a.tmps.getD (dstOf l j) undef
def findDst (l : List Oper) (k : Nat) : Option Nat := l.findIdx? (fun o => o.dst == some k)
def goodOps (l : List Oper) (n : Nat) : Bool :=
  (List.range l.length).all fun i => match l[i]? with
    | none => false
    | some o => o.guard.isNone && o.dst.isSome && decide (dstOf l i < n) && (findDst l (dstOf l i) == some i) && (o.after.all fun e => decide (e.on < i))
def setAll : List Oper → (Nat → Value) → Nat → Array Value → Array Value
  | [], _, _, t => t
  | o :: l, vals, i, t => setAll l vals (i + 1) (match o.dst with | some d => t.setIfInBounds d (vals i) | none => t)

def StepOk (P : Program) (Q : Exit → Act → World → Prop) (l : List Oper) (S : World → Prop) (V : Nat → World → Value → Prop) (a0 : Act) (i : Nat) (o : Oper) : Prop :=
  ∀ (a : Act) (w : World) (K : Act → World → Prop), S w →
    (∀ e ∈ o.after, Region.binds .any e = true → V e.on w (valOf l a e.on)) →
    (∀ k, findDst l k = none → a.tmps.getD k undef = a0.tmps.getD k undef) →
    (∀ v w', Below w.heap.size w w' → S w' → V i w' v → K (a.put o.dst v) w') → Oper.wp P o a w K Q
def StepsOk (P : Program) (Q : Exit → Act → World → Prop) (l : List Oper) (S : World → Prop) (V : Nat → World → Value → Prop) (a0 : Act) : List Oper → Nat → Prop
  | [], _ => True
  | o :: r, i => StepOk P Q l S V a0 i o ∧ StepsOk P Q l S V a0 r (i + 1)

theorem steps_at {l : List Oper} {S : World → Prop} {V : Nat → World → Value → Prop} {a0 : Act} : ∀ {r : List Oper} {n : Nat}, StepsOk P Q l S V a0 r n → ∀ {j : Nat} {o : Oper}, r[j]? = some o → StepOk P Q l S V a0 (n + j) o
  | [], _, _, j, o, h => by simp at h
  | x :: r, n, hs, 0, o, h => by
    simp at h
    subst h
    exact hs.1
  | x :: r, n, hs, j + 1, o, h => by
    have := steps_at (n := n + 1) hs.2 (j := j) (o := o) (by simpa using h)
    rw [show n + (j + 1) = n + 1 + j by omega]
    exact this

structure FrameIs (l : List Oper) (V : Nat → World → Value → Prop) (S : World → Prop) (a0 : Act) (vals : Nat → Value) (listed : Array Bool) (a : Act) (w : World) : Prop where
  hS : S w
  hd : a.defers = a0.defers
  hz : a.tmps.size = a0.tmps.size
  hv : ∀ i, listed.getD i false = true → V i w (vals i)
  ht : ∀ k, a.tmps[k]? = match findDst l k with
    | some i => if listed.getD i false = true then some (vals i) else a0.tmps[k]?
    | none => a0.tmps[k]?

theorem ready_spec {ops : Array Oper} {listed : Array Bool} {i : Nat} (h : i ∈ Region.ready .any ops listed) :
    ∃ o, ops[i]? = some o ∧ listed.getD i true = false ∧ ∀ e ∈ o.after, Region.binds .any e = true → listed.getD e.on false = true := by
  unfold Region.ready at h
  rw [List.mem_filter] at h
  obtain ⟨h1, h2⟩ := h
  rw [List.mem_range] at h1
  refine ⟨ops[i], by simp [h1], ?_, ?_⟩
  · simp at h2; simpa using h2.1
  · intro e he hb
    simp only [Bool.and_eq_true, Array.getElem?_eq_getElem h1, Option.map_some, Option.getD_some, Array.all_eq_true_iff_forall_mem] at h2
    have := h2.2 e he
    simpa [hb] using this
theorem ready_nil {l : List Oper} {listed : Array Bool} {n : Nat} (hg : goodOps l n = true) (hs : listed.size = l.length) (h : Region.ready .any l.toArray listed = []) :
    ∀ j, j < l.length → listed.getD j false = true := by
  intro j
  induction j using Nat.strongRecOn with
  | _ j ih =>
    intro hj
    have h1 : j ∉ Region.ready .any l.toArray listed := by rw [h]; simp
    unfold Region.ready at h1
    rw [List.mem_filter] at h1
    have h2 : j ∈ List.range l.toArray.size := by simpa using hj
    have h3 := fun hp => h1 ⟨h2, hp⟩
    have hgj := List.all_eq_true.1 hg j (by simpa using hj)
    rw [List.getElem?_eq_getElem hj] at hgj
    simp only [Bool.and_eq_true] at hgj
    have hlt := Array.all_eq_true_iff_forall_mem.1 hgj.2
    have hall : l[j].after.all (fun e => !Region.binds .any e || listed.getD e.on false) = true := by
      rw [Array.all_eq_true_iff_forall_mem]
      intro e he
      have hlt := of_decide_eq_true (hlt e he)
      rw [ih e.on hlt (by omega)]
      simp
    have hjs : j < listed.size := by omega
    cases hb : listed[j] with
    | true => simp [hjs, hb]
    | false =>
      exfalso
      refine h3 ?_
      have e1 : listed.getD j true = false := by simp [hjs, hb]
      have e2 : l.toArray[j]? = some l[j] := by simp [hj]
      rw [e1, e2, Option.map_some, Option.getD_some, hall]
      rfl
theorem count_set {b : List Bool} : ∀ {i : Nat}, b[i]? = some false → (b.set i true).count false + 1 = b.count false := by
  induction b with
  | nil => intro i h; simp at h
  | cons x b ih =>
    intro i h
    cases i with
    | zero =>
      simp at h; subst h
      simp
    | succ i =>
      simp at h
      have := ih h
      simp only [List.set_cons_succ, List.count_cons]
      omega

theorem rg_any {l : List Oper} {S : World → Prop} {V : Nat → World → Value → Prop} {a0 : Act}
    (hg : goodOps l a0.tmps.size = true) (hpers : ∀ i w w' v, Below w.heap.size w w' → V i w v → V i w' v)
    (hsteps : StepsOk P Q l S V a0 l 0)
    (hend : ∀ (a : Act) (w : World), (∃ vals : Nat → Value, S w ∧ (∀ i, i < l.length → V i w (vals i)) ∧ a.defers = a0.defers ∧ a.tmps.size = a0.tmps.size ∧ ∀ k, a.tmps[k]? = match findDst l k with | some i => some (vals i) | none => a0.tmps[k]?) → Q .normal a w) :
    ∀ (fuel : Nat) (listed : Array Bool) (a : Act) (w : World), listed.size = l.length → listed.toList.count false ≤ fuel → (∃ vals, FrameIs l V S a0 vals listed a w) → wpAny P .any l.toArray Q fuel listed a w := by
  have done : ∀ (listed : Array Bool) (a : Act) (w : World), listed.size = l.length → Region.ready .any l.toArray listed = [] → (∃ vals, FrameIs l V S a0 vals listed a w) → Q .normal a w := by
    intro listed a w hs hr ⟨vals, F⟩
    have hall := ready_nil hg hs hr
    refine hend a w ⟨vals, F.hS, fun i hi => F.hv i (hall i hi), F.hd, F.hz, fun k => ?_⟩
    rw [F.ht k]
    cases hf : findDst l k with
    | none => rfl
    | some i =>
      have hi : i < l.length := by
        unfold findDst at hf
        exact (List.findIdx?_eq_some_iff_getElem.1 hf).1
      simp only [hall i hi, if_true]
  intro fuel
  induction fuel with
  | zero =>
    intro listed a w hs hc hF
    have hr : Region.ready .any l.toArray listed = [] := by
      rw [List.eq_nil_iff_forall_not_mem]
      intro i hi
      obtain ⟨o, ho, hl, _⟩ := ready_spec hi
      have hc0 : listed.toList.count false = 0 := by omega
      rw [List.count_eq_zero] at hc0
      have hi' : i < listed.size := by
        have : i < l.toArray.size := (Array.getElem?_eq_some_iff.1 ho).1
        simp at this; omega
      have : listed[i] = false := by simpa [hi'] using hl
      exact hc0 (by rw [← this]; simp)
    exact ⟨hr, done listed a w hs hr hF⟩
  | succ fuel ih =>
    intro listed a w hs hc hF
    refine ⟨fun hr => done listed a w hs hr hF, fun i hi => ?_⟩
    obtain ⟨vals, F⟩ := hF
    obtain ⟨o, ho, hl, hdeps⟩ := ready_spec hi
    have hil : i < l.length := by
      have := (Array.getElem?_eq_some_iff.1 ho).1
      simpa using this
    have hol : l[i]? = some o := by simpa using ho
    have hgi := List.all_eq_true.1 hg i (by simpa using hil)
    rw [hol] at hgi
    simp only [Bool.and_eq_true, decide_eq_true_eq, beq_iff_eq] at hgi
    obtain ⟨⟨⟨⟨g1, g2⟩, g3⟩, g4⟩, _⟩ := hgi
    obtain ⟨d, hd⟩ := Option.isSome_iff_exists.1 g2
    have hdi : dstOf l i = d := by simp [dstOf, hol, hd]
    rw [hdi] at g3 g4
    have hif : listed[i]? = some false := by
      have hi' : i < listed.size := by omega
      have : listed[i] = false := by simpa [hi'] using hl
      simp [hi', this]
    have hcs : (listed.setIfInBounds i true).toList.count false ≤ fuel := by
      have := count_set (b := listed.toList) (i := i) (by simpa using hif)
      rw [Array.toList_setIfInBounds]
      omega
    refine wpOp_step ho (fun K' hK => ?_)
    have hw : Region.wanted o (yielded l.toArray a.tmps) = true := by
      unfold Region.wanted
      cases hgd : o.guard with
      | none => rfl
      | some x => rw [hgd] at g1; simp at g1
    rw [if_pos hw]
    have hst := steps_at hsteps hol
    rw [Nat.zero_add] at hst
    have hval : ∀ j, j < l.length → listed.getD j false = true → valOf l a j = vals j := by
      intro j hj hlj
      have hgj := List.all_eq_true.1 hg j (by simpa using hj)
      rw [List.getElem?_eq_getElem hj] at hgj
      simp only [Bool.and_eq_true, decide_eq_true_eq, beq_iff_eq] at hgj
      have := F.ht (dstOf l j)
      rw [hgj.1.2] at this
      simp only [hlj, if_true] at this
      unfold valOf
      rw [Array.getD_eq_getD_getElem?, this]
      rfl
    refine hst a w K' F.hS ?_ ?_ ?_
    · intro e he hb
      have hle := hdeps e he hb
      have hlt : e.on < l.length := by
        have hsz : e.on < listed.size := by
          rcases Nat.lt_or_ge e.on listed.size with h | h
          · exact h
          · simp [Array.getD_eq_getD_getElem?, Array.getElem?_eq_none h] at hle
        omega
      rw [hval e.on hlt hle]
      exact F.hv e.on hle
    · intro k hk
      have := F.ht k
      rw [hk] at this
      rw [Array.getD_eq_getD_getElem?, Array.getD_eq_getD_getElem?, this]
    · intro v w' hB hS' hV
      refine hK _ _ (ih _ _ _ (by simpa using hs) hcs ?_)
      refine ⟨fun j => if j = i then v else vals j, hS', ?_, ?_, ?_, ?_⟩
      · rw [hd]; exact F.hd
      · rw [hd]; simpa [Act.put] using F.hz
      · intro j hj
        by_cases e : j = i
        · subst e; simpa using hV
        · simp only [e, if_false]
          refine hpers j w w' _ hB (F.hv j ?_)
          rw [Array.getD_eq_getD_getElem?, Array.getElem?_setIfInBounds_ne (fun h => e h.symm)] at hj
          rw [Array.getD_eq_getD_getElem?]; exact hj
      · intro k
        have hk0 := F.ht k
        have hlen : listed.getD i false = false := by rw [Array.getD_eq_getD_getElem?, hif]; rfl
        have hset : ∀ j, (listed.setIfInBounds i true).getD j false = if j = i then true else listed.getD j false := by
          intro j
          by_cases e : j = i
          · subst e
            have : j < listed.size := by omega
            simp [this]
          · rw [Array.getD_eq_getD_getElem?, Array.getElem?_setIfInBounds_ne (fun h => e h.symm)]
            simp [e]
        rw [hd]
        by_cases e : d = k
        · subst e
          rw [g4]
          have hdz : d < a.tmps.size := by rw [F.hz]; exact g3
          simp [Act.put, hdz, hset]
        · have hne : ∀ j, findDst l k = some j → j ≠ i := by
            intro j hj hji
            subst hji
            unfold findDst at hj
            have := (List.findIdx?_eq_some_iff_getElem.1 hj).2.1
            have h5 : l[j] = o := by
              have := hol
              rw [List.getElem?_eq_getElem hil] at this
              exact Option.some.inj this
            simp [h5, hd, e] at this
          simp only [Act.put]
          rw [Array.getElem?_setIfInBounds_ne e, hk0]
          cases hf : findDst l k with
          | none => rfl
          | some j =>
            have := hne j hf
            simp [hset, this]

theorem setAll_size : ∀ (l : List Oper) (vals : Nat → Value) (i : Nat) (t : Array Value), (setAll l vals i t).size = t.size
  | [], _, _, _ => rfl
  | o :: l, vals, i, t => by
    rw [setAll, setAll_size]
    cases o.dst <;> simp
theorem findDst_cons (o : Oper) (l : List Oper) (k : Nat) : findDst (o :: l) k = if o.dst = some k then some 0 else (findDst l k).map (· + 1) := by
  unfold findDst
  rw [List.findIdx?_cons]
  by_cases h : o.dst = some k
  · simp [h]
  · have : (o.dst == some k) = false := by simpa using h
    simp [this, h]
def uniq : List Oper → Bool
  | [] => true
  | o :: l => (match o.dst with | some d => (findDst l d).isNone | none => true) && uniq l
theorem setAll_at : ∀ (l : List Oper) (vals : Nat → Value) (n : Nat) (t : Array Value) (k : Nat), uniq l = true → k < t.size → (setAll l vals n t)[k]? = match findDst l k with
    | some i => some (vals (n + i))
    | none => t[k]?
  | [], _, _, _, _, _, _ => rfl
  | o :: l, vals, n, t, k, hu, hk => by
    simp only [uniq, Bool.and_eq_true] at hu
    rw [setAll, findDst_cons]
    cases hd : o.dst with
    | none =>
      rw [setAll_at l vals (n + 1) t k hu.2 hk]
      cases hf : findDst l k with
      | none => simp
      | some i => simp; congr 1; omega
    | some d =>
      rw [setAll_at l vals (n + 1) _ k hu.2 (by simpa using hk)]
      by_cases e : d = k
      · subst e
        rw [hd] at hu
        have hn : findDst l d = none := by simpa using hu.1
        simp [hn, hk]
      · cases hf : findDst l k with
        | none => simp [e, Array.getElem?_setIfInBounds_ne e]
        | some i => simp [e]; congr 1; omega

theorem region_any {id : Nat} {l : List Oper} {S : World → Prop} {V : Nat → World → Value → Prop} {a0 : Act} {w0 : World} (hm : P.follows .mixedOrders = true)
    (hg : goodOps l a0.tmps.size = true) (hu : uniq l = true) (hS : S w0.drew) (hpers : ∀ i w w' v, Below w.heap.size w w' → V i w v → V i w' v)
    (hsteps : StepsOk P Q l S V a0 l 0)
    (hend : ∀ (vals : Nat → Value) (w : World), S w → (∀ i, i < l.length → V i w (vals i)) → Q .normal ⟨setAll l vals 0 a0.tmps, a0.defers⟩ w) : (Code.region id l.toArray true).wp P Q a0 w0 := by
  refine wp_region_any hm ?_
  refine rg_any hg hpers hsteps ?_ _ _ _ _ (by simp) (by simp) ⟨fun _ => undef, hS, rfl, rfl, ?_, ?_⟩
  · intro a w ⟨vals, h1, h2, h3, h4, h5⟩
    have : a = ⟨setAll l vals 0 a0.tmps, a0.defers⟩ := by
      obtain ⟨ta, da⟩ := a
      simp only at h3 h4 h5
      subst h3
      congr 1
      apply Array.ext_getElem?
      intro k
      rw [h5 k]
      rcases Nat.lt_or_ge k a0.tmps.size with hk | hk
      · rw [setAll_at l vals 0 a0.tmps k hu hk]
        cases findDst l k <;> simp
      · have e2 : (setAll l vals 0 a0.tmps)[k]? = none := by rw [Array.getElem?_eq_none]; rw [setAll_size]; exact hk
        rw [e2, ← h5 k, Array.getElem?_eq_none]; omega
    rw [this]
    exact hend vals w h1 h2
  · intro i hi
    simp [Array.getD_eq_getD_getElem?, Array.getElem?_replicate] at hi
    split at hi <;> simp_all
  · intro k
    cases findDst l k with
    | none => rfl
    | some i =>
      have : (Array.replicate l.toArray.size false).getD i false = false := by
        simp only [Array.getD_eq_getD_getElem?, Array.getElem?_replicate]
        split <;> rfl
      show a0.tmps[k]? = if (Array.replicate l.toArray.size false).getD i false = true then some undef else a0.tmps[k]?
      rw [this]
      simp
def PersAll : List (World → Value → Prop) → Prop
  | [] => True
  | p :: l => (∀ w w' v, Below w.heap.size w w' → p w v → p w' v) ∧ PersAll l
theorem pers_at : ∀ {l : List (World → Value → Prop)}, PersAll l → ∀ i w w' v, Below w.heap.size w w' → l.getD i (fun _ _ => True) w v → l.getD i (fun _ _ => True) w' v
  | [], _, _, _, _, _, _, _ => trivial
  | p :: l, h, 0, w, w', v, hb, hv => h.1 w w' v hb hv
  | p :: l, h, i + 1, w, w', v, hb, hv => pers_at h.2 i w w' v hb hv
theorem region_list {id : Nat} {l : List Oper} {S : World → Prop} (Vs : List (World → Value → Prop)) {a0 : Act} {w0 : World} (hm : P.follows .mixedOrders = true)
    (hg : goodOps l a0.tmps.size = true) (hu : uniq l = true) (hS : S w0.drew) (hpers : PersAll Vs)
    (hsteps : StepsOk P Q l S (fun i => Vs.getD i (fun _ _ => True)) a0 l 0)
    (hend : ∀ (vals : Nat → Value) (w : World), S w → (∀ i, i < l.length → Vs.getD i (fun _ _ => True) w (vals i)) → Q .normal ⟨setAll l vals 0 a0.tmps, a0.defers⟩ w) : (Code.region id l.toArray true).wp P Q a0 w0 :=
  region_any hm hg hu hS (pers_at hpers) hsteps hend
def goodAfter (l : List Oper) : Bool := (List.range l.length).all fun i => match l[i]? with
  | none => false
  | some o => o.after.all fun e => decide (e.on < i)
theorem ready_nil' {l : List Oper} {listed : Array Bool} (hg : goodAfter l = true) (hs : listed.size = l.length) (h : Region.ready .any l.toArray listed = []) :
    ∀ j, j < l.length → listed.getD j false = true := by
  intro j
  induction j using Nat.strongRecOn with
  | _ j ih =>
    intro hj
    have h1 : j ∉ Region.ready .any l.toArray listed := by rw [h]; simp
    unfold Region.ready at h1
    rw [List.mem_filter] at h1
    have h2 : j ∈ List.range l.toArray.size := by simpa using hj
    have h3 := fun hp => h1 ⟨h2, hp⟩
    have hgj := List.all_eq_true.1 hg j (by simpa using hj)
    rw [List.getElem?_eq_getElem hj] at hgj
    have hlt := Array.all_eq_true_iff_forall_mem.1 hgj
    have hall : l[j].after.all (fun e => !Region.binds .any e || listed.getD e.on false) = true := by
      rw [Array.all_eq_true_iff_forall_mem]
      intro e he
      have hlt := of_decide_eq_true (hlt e he)
      rw [ih e.on hlt (by omega)]
      simp
    have hjs : j < listed.size := by omega
    cases hb : listed[j] with
    | true => simp [hjs, hb]
    | false =>
      exfalso
      refine h3 ?_
      have e1 : listed.getD j true = false := by simp [hjs, hb]
      have e2 : l.toArray[j]? = some l[j] := by simp [hj]
      rw [e1, e2, Option.map_some, Option.getD_some, hall]
      rfl
theorem all_done {l : List Oper} {listed : Array Bool} (hs : listed.size = l.length) (h : ∀ j, j < l.length → listed.getD j false = true) {a : Act} {w : World} (hQ : Q .normal a w) :
    ∀ fuel, wpAny P .any l.toArray Q fuel listed a w := by
  have hr : Region.ready .any l.toArray listed = [] := by
    rw [List.eq_nil_iff_forall_not_mem]
    intro i hi
    obtain ⟨o, ho, hl, _⟩ := ready_spec hi
    have hil : i < l.length := by
      have := (Array.getElem?_eq_some_iff.1 ho).1
      simpa using this
    have h1 := h i hil
    have hi' : i < listed.size := by omega
    simp [hi'] at hl h1
    rw [hl] at h1; cases h1
  intro fuel
  cases fuel with
  | zero => exact ⟨hr, hQ⟩
  | succ fuel => exact ⟨fun _ => hQ, fun i hi => by rw [hr] at hi; cases hi⟩
theorem frame_full {l : List Oper} {S : World → Prop} {V : Nat → World → Value → Prop} {a0 a : Act} {w : World} {vals : Nat → Value} {listed : Array Bool} (hu : uniq l = true)
    (F : FrameIs l V S a0 vals listed a w) (hall : ∀ j, j < l.length → listed.getD j false = true) : a = ⟨setAll l vals 0 a0.tmps, a0.defers⟩ := by
  have h5 : ∀ k, a.tmps[k]? = match findDst l k with | some i => some (vals i) | none => a0.tmps[k]? := by
    intro k
    rw [F.ht k]
    cases hf : findDst l k with
    | none => rfl
    | some i =>
      have hi : i < l.length := by
        unfold findDst at hf
        exact (List.findIdx?_eq_some_iff_getElem.1 hf).1
      simp only [hall i hi, if_true]
  have h4 := F.hz
  have h3 := F.hd
  clear F
  obtain ⟨ta, da⟩ := a
  simp only at h3 h4 h5
  subst h3
  congr 1
  apply Array.ext_getElem?
  intro k
  rw [h5 k]
  rcases Nat.lt_or_ge k a0.tmps.size with hk | hk
  · rw [setAll_at l vals 0 a0.tmps k hu hk]
    cases findDst l k <;> simp
  · have e2 : (setAll l vals 0 a0.tmps)[k]? = none := by rw [Array.getElem?_eq_none]; rw [setAll_size]; exact hk
    rw [e2, ← h5 k, Array.getElem?_eq_none]; omega

def setN : Nat → List Oper → (Nat → Value) → Nat → Array Value → Array Value
  | 0, _, _, _, t => t
  | _ + 1, [], _, _, t => t
  | n + 1, o :: l, vals, i, t => setN n l vals (i + 1) (match o.dst with | some d => t.setIfInBounds d (vals i) | none => t)
theorem setN_eq : ∀ (n : Nat) (l : List Oper) (vals : Nat → Value) (i : Nat) (t : Array Value), setAll (l.take n) vals i t = setN n l vals i t
  | 0, _, _, _, _ => rfl
  | _ + 1, [], _, _, _ => rfl
  | n + 1, o :: l, vals, i, t => by
    rw [List.take_succ_cons, setAll, setN]
    exact setN_eq n l vals (i + 1) _
end
end Go.Proofs.YtbhnhoenjoagbaaGreatDoor

/- A []byte that a call makes by appending, one or more bytes at a time: what it holds, and its string. -/
namespace Go.Proofs.YtbhnhoenjoagbaaGreatDoor
open Go.RowKit
set_option linter.unusedVariables false

def BRow (B : Nat) (v : Value) (l : List UInt8) (w : World) : Prop := w.ownsRow B 5 1 v l.length (Lib.byteCells l)

theorem BRow.nil (w : World) (B : Nat) : BRow B (.slice none 0 0) [] w := World.ownsRow_nil w B _ _
theorem BRow.drew {B : Nat} {v : Value} {l : List UInt8} {w : World} (h : BRow B v l w) : BRow B v l w.drew := World.ownsRow.drew h
theorem BRow.drewN {B : Nat} {v : Value} {l : List UInt8} {w : World} (h : BRow B v l w) (n : Nat) : BRow B v l (w.drewN n) := h
theorem BRow.alloc {B : Nat} {v : Value} {l : List UInt8} {w : World} (h : BRow B v l w) (o : Obj) : BRow B v l (w.alloc o) := World.ownsRow.alloc h o
theorem BRow.call {B : Nat} {v : Value} {l : List UInt8} {w w1 : World} (h : BRow B v l w) (hb : Below w.heap.size w w1) : BRow B v l w1 := by
  refine World.ownsRow.kept h (row := none) ⟨hb.os, hb.tape, hb.output, hb.size, fun k hk _ => hb.block k hk⟩ ?_
  cases hv : v.ownBlock with
  | none => exact Or.inl rfl
  | some k => exact Or.inr (by simp)
theorem BRow.shape {B : Nat} {v : Value} {l : List UInt8} {w : World} (h : BRow B v l w) : ∃ p cap, v = .slice p l.length cap := by
  rcases h.2 with ⟨hv, h0⟩ | ⟨g, cap, cur, hv, _⟩
  · exact ⟨none, 0, by rw [hv, h0]⟩
  · exact ⟨_, _, hv⟩
theorem BRow.str {B : Nat} {v : Value} {l : List UInt8} {w : World} (h : BRow B v l w) : (convert 49 9 v).run Tryz.prog w = .ok (.string ⟨l.toArray⟩) w := by
  have h' := h
  rcases h.2 with ⟨hv, h0⟩ | ⟨g, cap, cur, hv, hB, hg, hc1, hc2, hcs, ht⟩
  · obtain rfl : l = [] := List.eq_nil_of_length_eq_zero h0
    subst hv
    simp [go_sem, convert, Tryz.underlying49, Tryz.underlying9, Tryz.underlying5]
    rfl
  · subst hv
    refine run_convert_bytes_back w 49 9 5 ⟨g, 0, none⟩ cap l Tryz.underlying49 Tryz.underlying5 Tryz.underlying9 (fun j hj => ?_)
    refine World.ownsRow.cells h' rfl j _ ?_
    simp [Lib.byteCells, List.getElem?_eq_getElem hj]

theorem wp_append {ops : Array Oper} {rest : List Oper} {o : Oper} {a : Act} {Q : Exit → Act → World → Prop} (hgd : o.guard = none) (s x : Operand)
    (ho : o.op = .call { callee := .builtin .append, args := #[s, x], argTypes := #[49, 49] })
    (B : Nat) (v : Value) (l : List UInt8) (w : World) (cs : List UInt8) (arr : Array Value) (harr : arr.toList = Lib.byteCells cs)
    (hs : a.eval s = v) (hrow : BRow B v l w) (hx : a.eval x = .slice (some ⟨w.heap.size, 0, none⟩) cs.length cs.length)
    (hlen : l.length + cs.length ≤ 1000000) (hB : B ≤ w.heap.size)
    (h : ∀ v' w', BRow B v' (l ++ cs) w' → Below B w w' → wpList Tryz.prog ops Q rest (a.put o.dst v') w') :
    wpList Tryz.prog ops Q (o :: rest) a (w.alloc (.cells arr 5)) := by
  obtain ⟨i0, hi, hz0, hz1, hz2⟩ := info_parts (show (Tryz.prog.info? 5).map (fun i => (i.zero, i.size, i.bytes)) = some (some (.int .u8 0), 1, 1) by kernel_rfl)
  refine wpList_append_own _ hgd s x 49 ho B 5 i0 (.int .u8 0) 1 1 Tryz.underlying49 hi hz0 hz1 hz2 rfl (by decide) v l.length (Lib.byteCells l) hs (World.ownsRow.alloc hrow _) ⟨w.heap.size, 0, none⟩ cs.length cs.length (Lib.byteCells cs) hx (by rw [Lib.byteCells_length]; omega) ?_ ?_ (by unfold maxLen; omega) (by omega) (by simp; omega) ?_
  · intro j u hj
    rw [addr_zero_add, World.cell?_alloc_new]
    rw [← harr] at hj
    simpa using hj
  · intro u hu
    simp [Lib.byteCells] at hu
    obtain ⟨b, _, rfl⟩ := hu
    rfl
  · intro v' w' h1 h2 _
    refine h v' w' ?_ ?_
    · unfold BRow
      rw [Lib.byteCells_append, List.length_append]
      exact h1
    · exact ((Below.refl B w).alloc hB _).grown h2 (by simp; omega) (fun k hk => (World.ownsRow.lt hrow k hk).1)

end Go.Proofs.YtbhnhoenjoagbaaGreatDoor

/- make([]byte, n): n noughts, and their string. -/
namespace Go.Proofs.YtbhnhoenjoagbaaGreatDoor
open Go.RowKit
set_option linter.unusedVariables false

end Go.Proofs.YtbhnhoenjoagbaaGreatDoor
