/- Bundle of 2 texts. -/
import Derived.Test.YtajjhndpdjfcpaaRegionR
import Derived.Test.YtajjhndpdjfcpaaWMetaLists
/- A region that draws its order, without guards, whose stores may come up between its other operations: what holds on the way is a condition on which operations came up, their values and the world. -/
namespace Go.Proofs.Ytajjhndpdjfcpaa
open Go Go.RowKit

section
variable {P : Program} {Q : Exit → Act → World → Prop}

/-- Each operation hangs on earlier ones alone (by what binds here). -/
def goodAfterJ (l : List Oper) : Bool := (List.range l.length).all fun i => match l[i]? with
  | none => false
  | some o => o.after.all fun e => !Region.binds .any e || decide (e.on < i)
theorem ready_nilJ {l : List Oper} {listed : Array Bool} (hg : goodAfterJ l = true) (hs : listed.size = l.length) (h : Region.ready .any l.toArray listed = []) :
    ∀ j, j < l.length → listed.getD j false = true := by
  intro j
  induction j using Nat.strongRecOn with
  | _ j ih =>
    intro hj
    have h1 : j ∉ Region.ready .any l.toArray listed := by rw [h]; simp
    unfold Region.ready at h1
    rw [List.mem_filter] at h1
    have h2 : j ∈ List.range l.toArray.size := by simpa using hj
    have h3 := fun hp => h1 ⟨h2, hp⟩
    have hgj := List.all_eq_true.1 hg j (by simpa using hj)
    rw [List.getElem?_eq_getElem hj] at hgj
    have hlt := Array.all_eq_true_iff_forall_mem.1 hgj
    have hall : l[j].after.all (fun e => !Region.binds .any e || listed.getD e.on false) = true := by
      rw [Array.all_eq_true_iff_forall_mem]
      intro e he
      have hlt := hlt e he
      rw [Bool.or_eq_true] at hlt ⊢
      rcases hlt with hlt | hlt
      · exact .inl hlt
      · exact .inr (ih e.on (of_decide_eq_true hlt) (by have := of_decide_eq_true hlt; omega))
    have hjs : j < listed.size := by omega
    cases hb : listed[j] with
    | true => simp [hjs, hb]
    | false =>
      exfalso
      refine h3 ?_
      have e1 : listed.getD j true = false := by simp [hjs, hb]
      have e2 : l.toArray[j]? = some l[j] := by simp [hj]
      rw [e1, e2, Option.map_some, Option.getD_some, hall]
      rfl
def goodOpsJ (l : List Oper) (n : Nat) : Bool :=
  (List.range l.length).all fun i => match l[i]? with
    | none => false
    | some o => o.guard.isNone && (match o.dst with | some d => decide (d < n) && (findDst l d == some i) | none => true)
/-- One operation, in whatever state it comes up. -/
def StepJ (P : Program) (Q : Exit → Act → World → Prop) (l : List Oper) (J : Array Bool → (Nat → Value) → World → Prop) (a0 : Act) (i : Nat) (o : Oper) : Prop :=
  ∀ (vals : Nat → Value) (listed : Array Bool) (a : Act) (w : World) (K : Act → World → Prop), listed.size = l.length → J listed vals w → listed.getD i false = false →
    (∀ e ∈ o.after, Region.binds .any e = true → listed.getD e.on false = true) →
    (∀ j d, (l[j]?).bind (·.dst) = some d → listed.getD j false = true → a.tmps.getD d undef = vals j) →
    a.defers = a0.defers → (∀ k, findDst l k = none → a.tmps.getD k undef = a0.tmps.getD k undef) →
    (∀ v w', J (listed.setIfInBounds i true) (fun j => if j = i then v else vals j) w' → K (a.put o.dst v) w') → Oper.wp P o a w K Q
def StepsJ (P : Program) (Q : Exit → Act → World → Prop) (l : List Oper) (J : Array Bool → (Nat → Value) → World → Prop) (a0 : Act) : List Oper → Nat → Prop
  | [], _ => True
  | o :: r, i => StepJ P Q l J a0 i o ∧ StepsJ P Q l J a0 r (i + 1)
theorem steps_atJ {l : List Oper} {J : Array Bool → (Nat → Value) → World → Prop} {a0 : Act} : ∀ {r : List Oper} {n : Nat}, StepsJ P Q l J a0 r n → ∀ {j : Nat} {o : Oper}, r[j]? = some o → StepJ P Q l J a0 (n + j) o
  | [], _, _, j, o, h => by simp at h
  | x :: r, n, hs, 0, o, h => by
    simp at h
    subst h
    exact hs.1
  | x :: r, n, hs, j + 1, o, h => by
    have := steps_atJ (n := n + 1) hs.2 (j := j) (o := o) (by simpa using h)
    rw [show n + (j + 1) = n + 1 + j by omega]
    exact this
theorem rgJ_any {l : List Oper} {J : Array Bool → (Nat → Value) → World → Prop} {a0 : Act}
    (hg : goodOpsJ l a0.tmps.size = true) (hu : uniq l = true) (hga : goodAfterJ l = true)
    (hsteps : StepsJ P Q l J a0 l 0)
    (hend : ∀ (vals : Nat → Value) (listed : Array Bool) (w : World), listed.size = l.length → (∀ j, j < l.length → listed.getD j false = true) → J listed vals w → Q .normal ⟨setAll l vals 0 a0.tmps, a0.defers⟩ w) :
    ∀ (fuel : Nat) (listed : Array Bool) (a : Act) (w : World), listed.size = l.length → listed.toList.count false ≤ fuel → (∃ vals, FrameIs l (fun _ _ _ => True) (J listed vals) a0 vals listed a w) → wpAny P .any l.toArray Q fuel listed a w := by
  intro fuel
  induction fuel with
  | zero =>
    intro listed a w hs hc hF
    obtain ⟨vals, F⟩ := hF
    have hall : ∀ j, j < l.length → listed.getD j false = true := by
      intro j hj
      have hc0 : listed.toList.count false = 0 := by omega
      rw [List.count_eq_zero] at hc0
      have hjs : j < listed.size := by omega
      cases hv : listed[j] with
      | true => simp [hjs, hv]
      | false => exact absurd (List.mem_of_getElem? (i := j) (by simp [hjs, hv])) hc0
    have ha := frame_full hu F hall
    subst ha
    exact all_done hs hall (hend vals listed w hs hall F.hS) 0
  | succ fuel ih =>
    intro listed a w hs hc hF
    obtain ⟨vals, F⟩ := hF
    refine ⟨fun hr => ?_, fun i hi => ?_⟩
    · have hall := ready_nilJ hga hs hr
      have ha := frame_full hu F hall
      subst ha
      exact hend vals listed w hs hall F.hS
    obtain ⟨o, ho, hl, hdeps⟩ := ready_spec hi
    have hil : i < l.length := by
      have := (Array.getElem?_eq_some_iff.1 ho).1
      simpa using this
    have hol : l[i]? = some o := by simpa using ho
    have hif : listed[i]? = some false := by
      have hi' : i < listed.size := by omega
      have : listed[i] = false := by simpa [hi'] using hl
      simp [hi', this]
    have hcs : (listed.setIfInBounds i true).toList.count false ≤ fuel := by
      have := count_set (b := listed.toList) (i := i) (by simpa using hif)
      rw [Array.toList_setIfInBounds]
      omega
    refine wpOp_step ho (fun K' hK => ?_)
    have hgi := List.all_eq_true.1 hg i (by simpa using hil)
    rw [hol] at hgi
    simp only [Bool.and_eq_true] at hgi
    obtain ⟨g1, g2⟩ := hgi
    have hw : Region.wanted o (yielded l.toArray a.tmps) = true := by
      unfold Region.wanted
      cases hgd : o.guard with
      | none => rfl
      | some x => rw [hgd] at g1; cases g1
    rw [if_pos hw]
    have hst := steps_atJ hsteps hol
    rw [Nat.zero_add] at hst
    have hset : ∀ j, (listed.setIfInBounds i true).getD j false = if j = i then true else listed.getD j false := by
      intro j
      by_cases e : j = i
      · subst e
        have : j < listed.size := by omega
        simp [this]
      · rw [Array.getD_eq_getD_getElem?, Array.getElem?_setIfInBounds_ne (fun h => e h.symm)]
        simp [e]
    refine hst vals listed a w K' hs F.hS (by rw [Array.getD_eq_getD_getElem?, hif]; rfl) hdeps ?_ F.hd ?_ ?_
    · intro j d hjd hlj
      have hjl : j < l.length := by
        rcases Nat.lt_or_ge j l.length with h | h
        · exact h
        · rw [List.getElem?_eq_none h] at hjd; cases hjd
      have hgj := List.all_eq_true.1 hg j (by simpa using hjl)
      rw [List.getElem?_eq_getElem hjl] at hgj hjd
      simp only [Option.bind_some] at hjd
      simp only [hjd, Bool.and_eq_true, decide_eq_true_eq, beq_iff_eq] at hgj
      have := F.ht d
      rw [hgj.2.2] at this
      simp only [hlj, if_true] at this
      rw [Array.getD_eq_getD_getElem?, this]
      rfl
    · intro k hk
      have := F.ht k
      rw [hk] at this
      rw [Array.getD_eq_getD_getElem?, Array.getD_eq_getD_getElem?, this]
    · intro v w' hJ
      refine hK _ _ (ih _ _ _ (by simpa using hs) hcs ⟨fun j => if j = i then v else vals j, hJ, ?_, ?_, fun _ _ => trivial, ?_⟩)
      · cases hd : o.dst <;> exact F.hd
      · cases hd : o.dst with
        | none => exact F.hz
        | some d => simpa [Act.put] using F.hz
      · intro k
        have hk0 := F.ht k
        cases hd : o.dst with
        | none =>
          have hne : ∀ j, findDst l k = some j → j ≠ i := by
            intro j hj hji
            subst hji
            unfold findDst at hj
            have := (List.findIdx?_eq_some_iff_getElem.1 hj).2.1
            have h5 : l[j] = o := by
              have := hol
              rw [List.getElem?_eq_getElem hil] at this
              exact Option.some.inj this
            simp [h5, hd] at this
          show a.tmps[k]? = _
          rw [hk0]
          cases hf : findDst l k with
          | none => rfl
          | some j =>
            have := hne j hf
            simp [hset, this]
        | some d =>
          rw [hd] at g2
          simp only [Bool.and_eq_true, decide_eq_true_eq, beq_iff_eq] at g2
          by_cases e : d = k
          · subst e
            rw [g2.2]
            have hdz : d < a.tmps.size := by rw [F.hz]; exact g2.1
            simp [Act.put, hdz, hset]
          · have hne : ∀ j, findDst l k = some j → j ≠ i := by
              intro j hj hji
              subst hji
              unfold findDst at hj
              have := (List.findIdx?_eq_some_iff_getElem.1 hj).2.1
              have h5 : l[j] = o := by
                have := hol
                rw [List.getElem?_eq_getElem hil] at this
                exact Option.some.inj this
              simp [h5, hd, e] at this
            simp only [Act.put]
            rw [Array.getElem?_setIfInBounds_ne e, hk0]
            cases hf : findDst l k with
            | none => rfl
            | some j =>
              have := hne j hf
              simp [hset, this]
theorem region_J {id : Nat} {l : List Oper} (J : Array Bool → (Nat → Value) → World → Prop) {a0 : Act} {w0 : World} (hm : P.follows .mixedOrders = true)
    (hg : goodOpsJ l a0.tmps.size = true) (hu : uniq l = true) (hga : goodAfterJ l = true) (h0 : J (Array.replicate l.length false) (fun _ => undef) w0.drew)
    (hsteps : StepsJ P Q l J a0 l 0)
    (hend : ∀ (vals : Nat → Value) (listed : Array Bool) (w : World), listed.size = l.length → (∀ j, j < l.length → listed.getD j false = true) → J listed vals w → Q .normal ⟨setAll l vals 0 a0.tmps, a0.defers⟩ w) : (Code.region id l.toArray true).wp P Q a0 w0 := by
  refine wp_region_any hm ?_
  refine rgJ_any hg hu hga hsteps hend _ _ _ _ (by simp) (by simp) ⟨fun _ => undef, by simpa using h0, rfl, rfl, fun _ _ => trivial, ?_⟩
  intro k
  cases findDst l k with
  | none => rfl
  | some i =>
    have : (Array.replicate l.toArray.size false).getD i false = false := by
      simp only [Array.getD_eq_getD_getElem?, Array.getElem?_replicate]
      split <;> rfl
    show a0.tmps[k]? = if (Array.replicate l.toArray.size false).getD i false = true then some undef else a0.tmps[k]?
    rw [this]
    simp
theorem region_JL {id : Nat} {l : List Oper} (n : Nat) (J : Array Bool → (Nat → Value) → World → Prop) {a0 : Act} {w0 : World} (hn : l.length = n) (hm : P.follows .mixedOrders = true)
    (hg : goodOpsJ l a0.tmps.size = true) (hu : uniq l = true) (hga : goodAfterJ l = true) (h0 : J (Array.replicate n false) (fun _ => undef) w0.drew)
    (hsteps : StepsJ P Q l J a0 l 0)
    (hend : ∀ (vals : Nat → Value) (listed : Array Bool) (w : World), listed.size = n → (∀ j, j < n → listed.getD j false = true) → J listed vals w → Later (Q .normal ⟨setN n l vals 0 a0.tmps, a0.defers⟩ w)) : (Code.region id l.toArray true).wp P Q a0 w0 := by
  subst hn
  refine region_J J hm hg hu hga h0 hsteps (fun vals listed w h1 h2 h3 => ?_)
  have h := (hend vals listed w h1 h2 h3).out
  rw [← setN_eq, List.take_length] at h
  exact h
end
end Go.Proofs.Ytajjhndpdjfcpaa

/- One variable of metadata copied into four, in any order. -/
namespace Go.Proofs.Ytajjhndpdjfcpaa
open Go.RowKit
open MetaM
set_option linter.unusedVariables false

/-- Fourteen cells stored. -/
def put14 (w : World) (h : Nat) (c0 c1 c2 c3 c4 c5 c6 c7 c8 c9 c10 c11 c12 c13 : Value) : World := ((((((((((((((w.setCell ⟨h, 0, none⟩ (c0)).setCell ⟨h, 1, none⟩ (c1)).setCell ⟨h, 2, none⟩ (c2)).setCell ⟨h, 3, none⟩ (c3)).setCell ⟨h, 4, none⟩ (c4)).setCell ⟨h, 5, none⟩ (c5)).setCell ⟨h, 6, none⟩ (c6)).setCell ⟨h, 7, none⟩ (c7)).setCell ⟨h, 8, none⟩ (c8)).setCell ⟨h, 9, none⟩ (c9)).setCell ⟨h, 10, none⟩ (c10)).setCell ⟨h, 11, none⟩ (c11)).setCell ⟨h, 12, none⟩ (c12)).setCell ⟨h, 13, none⟩ (c13))
theorem list14a {cs : Array Value} (h : cs.size = 14) : ∃ c0 c1 c2 c3 c4 c5 c6 c7 c8 c9 c10 c11 c12 c13, cs = #[c0, c1, c2, c3, c4, c5, c6, c7, c8, c9, c10, c11, c12, c13] := by
  obtain ⟨l⟩ := cs
  match l, h with
  | [c0, c1, c2, c3, c4, c5, c6, c7, c8, c9, c10, c11, c12, c13], _ => exact ⟨c0, c1, c2, c3, c4, c5, c6, c7, c8, c9, c10, c11, c12, c13, rfl⟩
theorem put14_is {w : World} {h : Nat} {t : TypeId} {cs : Array Value} (hb : BlkIs w h t cs) (hs : cs.size = 14) (c0 c1 c2 c3 c4 c5 c6 c7 c8 c9 c10 c11 c12 c13 : Value) : BlkIs (put14 w h c0 c1 c2 c3 c4 c5 c6 c7 c8 c9 c10 c11 c12 c13) h t #[c0, c1, c2, c3, c4, c5, c6, c7, c8, c9, c10, c11, c12, c13] := by
  obtain ⟨d0, d1, d2, d3, d4, d5, d6, d7, d8, d9, d10, d11, d12, d13, rfl⟩ := list14a hs
  have k := (((((((((((((hb.put 0 c0).put 1 c1).put 2 c2).put 3 c3).put 4 c4).put 5 c5).put 6 c6).put 7 c7).put 8 c8).put 9 c9).put 10 c10).put 11 c11).put 12 c12).put 13 c13
  simp only [List.setIfInBounds_toArray, List.set_cons_zero, List.set_cons_succ] at k
  unfold put14
  exact k
theorem put14_other {w : World} {h g : Nat} {t : TypeId} {cs : Array Value} (hb : BlkIs w g t cs) (hn : g ≠ h) (c0 c1 c2 c3 c4 c5 c6 c7 c8 c9 c10 c11 c12 c13 : Value) : BlkIs (put14 w h c0 c1 c2 c3 c4 c5 c6 c7 c8 c9 c10 c11 c12 c13) g t cs :=
  (((((((((((((hb.other (p := ⟨h, 0, none⟩) hn c0).other (p := ⟨h, 1, none⟩) hn c1).other (p := ⟨h, 2, none⟩) hn c2).other (p := ⟨h, 3, none⟩) hn c3).other (p := ⟨h, 4, none⟩) hn c4).other (p := ⟨h, 5, none⟩) hn c5).other (p := ⟨h, 6, none⟩) hn c6).other (p := ⟨h, 7, none⟩) hn c7).other (p := ⟨h, 8, none⟩) hn c8).other (p := ⟨h, 9, none⟩) hn c9).other (p := ⟨h, 10, none⟩) hn c10).other (p := ⟨h, 11, none⟩) hn c11).other (p := ⟨h, 12, none⟩) hn c12).other (p := ⟨h, 13, none⟩) hn c13
theorem put14_below {a w : World} {h : Nat} (hb : Below a.heap.size a w) (hh : a.heap.size ≤ h) (c0 c1 c2 c3 c4 c5 c6 c7 c8 c9 c10 c11 c12 c13 : Value) : Below a.heap.size a (put14 w h c0 c1 c2 c3 c4 c5 c6 c7 c8 c9 c10 c11 c12 c13) :=
  gr_set (gr_set (gr_set (gr_set (gr_set (gr_set (gr_set (gr_set (gr_set (gr_set (gr_set (gr_set (gr_set (gr_set hb (p := ⟨h, 0, none⟩) hh c0) (p := ⟨h, 1, none⟩) hh c1) (p := ⟨h, 2, none⟩) hh c2) (p := ⟨h, 3, none⟩) hh c3) (p := ⟨h, 4, none⟩) hh c4) (p := ⟨h, 5, none⟩) hh c5) (p := ⟨h, 6, none⟩) hh c6) (p := ⟨h, 7, none⟩) hh c7) (p := ⟨h, 8, none⟩) hh c8) (p := ⟨h, 9, none⟩) hh c9) (p := ⟨h, 10, none⟩) hh c10) (p := ⟨h, 11, none⟩) hh c11) (p := ⟨h, 12, none⟩) hh c12) (p := ⟨h, 13, none⟩) hh c13

/-- A variable of its own, made; its value, if it has come. -/
def MadeAt (a : World) (t : TypeId) (C : Array Value) (w : World) (v : Value) (done : Bool) : Prop := ∃ h cs, v = .pointer (some ⟨h, 0, none⟩) ∧ a.heap.size ≤ h ∧ BlkIs w h t cs ∧ cs.size = 14 ∧ (done = true → cs = C)
/-- Four loads, four variables made, four stores. -/
structure Four (a : World) (t : TypeId) (C : Array Value) (L : Array Bool) (vals : Nat → Value) (w : World) : Prop where
  size : L.size = 12
  below : Below a.heap.size a w
  load : ∀ j, j < 4 → L.getD j false = true → vals j = .agg C
  made : ∀ j, j < 4 → L.getD (4 + j) false = true → MadeAt a t C w (vals (4 + j)) (L.getD (8 + j) false)
  differ : ∀ j k, j < 4 → k < 4 → j ≠ k → L.getD (4 + j) false = true → L.getD (4 + k) false = true → vals (4 + j) ≠ vals (4 + k)
  ahead : ∀ j, j < 4 → L.getD (8 + j) false = true → L.getD (4 + j) false = true
theorem set_getD {L : Array Bool} {i : Nat} (hi : i < L.size) (j : Nat) : (L.setIfInBounds i true).getD j false = if j = i then true else L.getD j false := by
  by_cases e : j = i
  · subst e; simp [hi]
  · rw [Array.getD_eq_getD_getElem?, Array.getElem?_setIfInBounds_ne (fun h => e h.symm)]
    simp [e]
theorem Four.loaded {a : World} {t : TypeId} {C : Array Value} {L : Array Bool} {vals : Nat → Value} {w : World} (h : Four a t C L vals w) (j : Nat) (hj : j < 4) : Four a t C (L.setIfInBounds j true) (fun k => if k = j then .agg C else vals k) w := by
  have hs := set_getD (L := L) (i := j) (by rw [h.size]; omega)
  refine ⟨by simpa using h.size, h.below, fun i hi hl => ?_, fun i hi hl => ?_, fun i k hi hk hne hl hm => ?_, fun i hi hl => ?_⟩
  · by_cases e : i = j
    · simp [e]
    · rw [hs, if_neg e] at hl
      simp only [e, if_false]
      exact h.load i hi hl
  · rw [hs, if_neg (by omega)] at hl
    have h8 : (L.setIfInBounds j true).getD (8 + i) false = L.getD (8 + i) false := by rw [hs, if_neg (by omega)]
    rw [h8]
    show MadeAt a t C w (if 4 + i = j then .agg C else vals (4 + i)) _
    rw [if_neg (by omega)]
    exact h.made i hi hl
  · rw [hs, if_neg (by omega)] at hl hm
    simp only [show ¬ 4 + i = j by omega, show ¬ 4 + k = j by omega, if_false]
    exact h.differ i k hi hk hne hl hm
  · rw [hs, if_neg (by omega)] at hl
    rw [hs, if_neg (by omega)]
    exact h.ahead i hi hl
theorem Four.alloced {a : World} {t : TypeId} {C Z : Array Value} {L : Array Bool} {vals : Nat → Value} {w : World} (h : Four a t C L vals w) (hZ : Z.size = 14) (j : Nat) (hj : j < 4) (hn : L.getD (4 + j) false = false) :
    Four a t C (L.setIfInBounds (4 + j) true) (fun k => if k = 4 + j then .pointer (some ⟨w.heap.size, 0, none⟩) else vals k) (w.alloc (.cells Z t)) := by
  have hs := set_getD (L := L) (i := 4 + j) (by rw [h.size]; omega)
  have h8 : L.getD (8 + j) false = false := by
    cases e : L.getD (8 + j) false with
    | false => rfl
    | true => rw [h.ahead j hj e] at hn; cases hn
  refine ⟨by simpa using h.size, gr_alloc h.below _, fun i hi hl => ?_, fun i hi hl => ?_, fun i k hi hk hne hl hm => ?_, fun i hi hl => ?_⟩
  · rw [hs, if_neg (by omega)] at hl
    simp only [show ¬ i = 4 + j by omega, if_false]
    exact h.load i hi hl
  · by_cases e : i = j
    · subst e
      have h9 : (L.setIfInBounds (4 + i) true).getD (8 + i) false = false := by rw [hs, if_neg (by omega), h8]
      rw [h9]
      show MadeAt a t C _ (if 4 + i = 4 + i then .pointer (some ⟨w.heap.size, 0, none⟩) else vals (4 + i)) _
      rw [if_pos rfl]
      exact ⟨_, Z, rfl, h.below.size, BlkIs.made _ _ _, hZ, fun e => by cases e⟩
    · rw [hs, if_neg (by omega)] at hl
      have h9 : (L.setIfInBounds (4 + j) true).getD (8 + i) false = L.getD (8 + i) false := by rw [hs, if_neg (by omega)]
      rw [h9]
      show MadeAt a t C _ (if 4 + i = 4 + j then .pointer (some ⟨w.heap.size, 0, none⟩) else vals (4 + i)) _
      rw [if_neg (by omega)]
      obtain ⟨g, cs, e1, e2, e3, e4, e5⟩ := h.made i hi hl
      exact ⟨g, cs, e1, e2, e3.alloc _, e4, e5⟩
  · have key : ∀ i, i < 4 → i ≠ j → L.getD (4 + i) false = true → vals (4 + i) ≠ .pointer (some ⟨w.heap.size, 0, none⟩) := by
      intro i hi hne hl e
      obtain ⟨g, cs, e1, _, e3, _⟩ := h.made i hi hl
      rw [e1] at e
      injection e with e
      injection e with e
      injection e with e
      have := e3.size
      omega
    by_cases e1 : i = j
    · have e2 : k ≠ j := fun e => hne (e1.trans e.symm)
      rw [hs, if_neg (by omega)] at hm
      simp only [e1, if_true, show ¬ 4 + k = 4 + j by omega, if_false]
      exact (key k hk e2 hm).symm
    · rw [hs, if_neg (by omega)] at hl
      by_cases e2 : k = j
      · simp only [e2, if_true, show ¬ 4 + i = 4 + j by omega, if_false]
        exact key i hi e1 hl
      · rw [hs, if_neg (by omega)] at hm
        simp only [show ¬ 4 + i = 4 + j by omega, show ¬ 4 + k = 4 + j by omega, if_false]
        exact h.differ i k hi hk hne hl hm
  · rw [hs, if_neg (by omega)] at hl
    rw [hs]
    by_cases e : i = j
    · rw [if_pos (by omega)]
    · rw [if_neg (by omega)]; exact h.ahead i hi hl
theorem Four.stored {a : World} {t : TypeId} {c0 c1 c2 c3 c4 c5 c6 c7 c8 c9 c10 c11 c12 c13 : Value} {L : Array Bool} {vals : Nat → Value} {w : World} (h : Four a t #[c0, c1, c2, c3, c4, c5, c6, c7, c8, c9, c10, c11, c12, c13] L vals w) (j g : Nat) (hj : j < 4) (hl4 : L.getD (4 + j) false = true) (hv : vals (4 + j) = .pointer (some ⟨g, 0, none⟩)) (u : Value) :
    Four a t #[c0, c1, c2, c3, c4, c5, c6, c7, c8, c9, c10, c11, c12, c13] (L.setIfInBounds (8 + j) true) (fun k => if k = 8 + j then u else vals k) (put14 w g c0 c1 c2 c3 c4 c5 c6 c7 c8 c9 c10 c11 c12 c13) := by
  have hs := set_getD (L := L) (i := 8 + j) (by rw [h.size]; omega)
  obtain ⟨g', cs, e1, e2, e3, e4, e5⟩ := h.made j hj hl4
  rw [hv] at e1
  injection e1 with e1
  injection e1 with e1
  injection e1 with e1
  subst e1
  refine ⟨by simpa using h.size, put14_below h.below e2 _ _ _ _ _ _ _ _ _ _ _ _ _ _, fun i hi hl => ?_, fun i hi hl => ?_, fun i k hi hk hne hl hm => ?_, fun i hi hl => ?_⟩
  · rw [hs, if_neg (by omega)] at hl
    simp only [show ¬ i = 8 + j by omega, if_false]
    exact h.load i hi hl
  · rw [hs, if_neg (by omega)] at hl
    show MadeAt a t _ _ (if 4 + i = 8 + j then u else vals (4 + i)) _
    rw [if_neg (by omega), hs]
    by_cases e : i = j
    · subst e
      rw [if_pos rfl]
      exact ⟨g, _, hv, e2, put14_is e3 e4 _ _ _ _ _ _ _ _ _ _ _ _ _ _, rfl, fun _ => rfl⟩
    · rw [if_neg (by omega)]
      obtain ⟨q, ds, f1, f2, f3, f4, f5⟩ := h.made i hi hl
      refine ⟨q, ds, f1, f2, put14_other f3 (fun e6 => ?_) _ _ _ _ _ _ _ _ _ _ _ _ _ _, f4, f5⟩
      subst e6
      exact h.differ i j hi hj e hl hl4 (f1.trans hv.symm)
  · rw [hs, if_neg (by omega)] at hl hm
    simp only [show ¬ 4 + i = 8 + j by omega, show ¬ 4 + k = 8 + j by omega, if_false]
    exact h.differ i k hi hk hne hl hm
  · rw [hs] at hl
    rw [hs, if_neg (by omega)]
    by_cases e : i = j
    · rw [e]; exact hl4
    · rw [if_neg (by omega)] at hl; exact h.ahead i hi hl
end Go.Proofs.Ytajjhndpdjfcpaa
