/- Bundle of 4 texts. -/
import Derived.Test.YtbhnhoenjoagbaaGreatDoorPk26
import Derived.Test.YtbhnhoenjoagbaaGreatDoorPk09
import Derived.Test.YtbhnhoenjoagbaaGreatDoorKit
import Derived.Test.YtbhnhoenjoagbaaGreatDoorChecked
import Derived.Laws.Rows
import Derived.Deep.WholeRow
import Derived.Test.YtbhnhoenjoagbaaGreatDoorEntRecs
import Derived.Test.YtbhnhoenjoagbaaGreatDoorHdPut
import Derived.Test.YtbhnhoenjoagbaaGreatDoorPk07
/- Walks over package entry: whether records may be. -/
namespace Go.Proofs.YtbhnhoenjoagbaaGreatDoor
open Go.RowKit
open MetaM PathM EntM XatW
set_option linter.unusedVariables false

theorem row_rec {B : Nat} {v : Value} {l : List Rc} {w : World} (h : Row recE B v l w) : RecW.RecRow B v l w := by
  have e : ∀ l : List Rc, cellsE recE l = RecW.recCells l := by
    intro l
    induction l with
    | nil => rfl
    | cons r l ih =>
      show recE.enc r ++ cellsE recE l = _
      rw [ih]
      rfl
  unfold Row at h
  rw [e] at h
  exact h
structure ShortR (l : List Rc) : Prop where
  each : ∀ r ∈ l, r.1.length + r.2.length ≤ 9000
  few : l.length ≤ 100
theorem all_dropR {f : Rc → Bool} {l : List Rc} {i : Nat} (hi : i < l.length) (h : l.all f = (l.drop i).all f) : l.all f = (f l[i] && (l.drop (i + 1)).all f) := by
  rw [h, List.drop_eq_getElem_cons hi, List.all_cons]
attribute [local irreducible] Row At

set_option maxHeartbeats 1600000 in
set_option maxRecDepth 100000 in
theorem mayRecs_any (B : Nat) (v : Value) (l : List Rc) (w : World) (hA : AmbB w) (hrow : Row recE B v l w) (hs : ShortR l) :
    Calls Tryz.prog 53 #[v] w fun e w' => e = .returned (.bool (recsOk l)) ∧ Below w.heap.size w w' := by
  have HJ := Lib.hid (fun W (h : Below w.heap.size w W) => show Calls Tryz.prog 120 #[v] W fun e w' => e = .returned (.string (strOf (RecW.RecM.joinF l))) ∧ Below W.heap.size W w' from RecW.join_any v l W (hA.on h) ((row_rec hrow).at.call h) hs.each hs.few)
  have HB := Lib.hid (fun W (h : Below w.heap.size w W) => hA.on h)
  have HS := Lib.hid hs
  obtain ⟨z, hz⟩ : ∃ z, l.length = z := ⟨_, rfl⟩
  obtain ⟨p, cap, rfl, hcap, hcell⟩ := two_look rec_two hrow.at
  rw [hz] at hcap HJ ⊢
  have Hcell := Lib.hid hcell
  have hz100 : z ≤ 100 := by rw [← hz]; exact hs.few
  have Hz := Lib.hid hz
  have HR := Lib.hid (show recsOk l = (l.all (fun r => RecW.RecM.mayB r.1 r.2) && decide ((RecW.RecM.joinF l).length ≤ 65536)) from rfl)
  generalize recsOk l = R at HR ⊢
  clear hcell hz hrow hs
  go_enter Tryz.func53, Tryz.ntmps53
  go_wp2_with fail
  go_loopw [7] (fun iv wr => ∃ (i : Nat), iv = .int .i64 (i : Int) ∧ i ≤ z ∧ Below w.heap.size w wr ∧ Hid (l.all (fun r => RecW.RecM.mayB r.1 r.2) = (l.drop i).all (fun r => RecW.RecM.mayB r.1 r.2))) (fun iv _ => z - (intOf iv).toNat)
  case atStart => exact ⟨0, rfl, by omega, Below.refl _ _, Lib.hid (by simp)⟩
  case round =>
    obtain ⟨i, rfl, hi, hbl, HI⟩ := hrel
    rename World => wr
    by_cases hlt : i < z
    · have hlt' : decide ((i : Int) < (z : Int)) = true := decide_eq_true (by omega)
      have hlt2 : decide (i < z) = true := decide_eq_true hlt
      have hi' : i < l.length := by rw [Hz.out]; exact hlt
      obtain ⟨g, off, rfl, hg, c0, c1⟩ := Hcell.out i hi'
      replace c0 := cell_kept hbl c0
      replace c1 := cell_kept hbl c1
      have hbl2 : ∀ C, Below w.heap.size w (wr.alloc (.cells C 28)) := fun C => gr_alloc hbl _
      have hsz := HS.out.each l[i] (List.getElem_mem hi')
      have HM := Lib.hid (fun W (h : Below w.heap.size w W) => RecW.may_any (strOf l[i].1) (strOf l[i].2) (by rw [strOf_size, strOf_size]; omega) W (HB.out W h))
      rw [strOf_list, strOf_list] at HM
      have hq := all_dropR (f := fun r : Rc => RecW.RecM.mayB r.1 r.2) hi' HI.out
      obtain ⟨K, hK⟩ : ∃ S, strOf l[i].1 = S := ⟨_, rfl⟩
      obtain ⟨V, hV⟩ : ∃ S, strOf l[i].2 = S := ⟨_, rfl⟩
      rw [hK] at c0 HM
      rw [hV] at c1 HM
      have w3 : IntKind.i64.wrap ((i : Int) + 1) = (i : Int) + 1 := by rw [IntKind.wrap_i64]; omega
      rcases hb : RecW.RecM.mayB l[i].1 l[i].2 with _ | _
      · simp only [hb] at HM hq
        have HE := Lib.hid (show R = false by rw [HR.out, hq]; rfl)
        clear hb hq HR HI hK hV hsz HJ
        go_wp2_with fail
        refine (HM.out _ (hbl2 _)).mono ?_
        rintro e w2 ⟨rfl, hb2⟩
        have hbl3 := gr_call (hbl2 _) hb2
        clear hb2
        go_wp2_with fail
        go_ret
        exact ⟨by rw [HE.out]; rfl, hbl3⟩
      · simp only [hb] at HM hq
        have HE := Lib.hid (show l.all (fun r => RecW.RecM.mayB r.1 r.2) = (l.drop (i + 1)).all (fun r => RecW.RecM.mayB r.1 r.2) by rw [hq]; rfl)
        clear hb hq HR HI hK hV hsz HJ
        go_wp2_with fail
        refine (HM.out _ (hbl2 _)).mono ?_
        rintro e w2 ⟨rfl, hb2⟩
        have hbl3 := gr_call (hbl2 _) hb2
        clear hb2
        go_wp2_with fail
        go_roundw
        case rel => exact ⟨i + 1, rfl, by omega, hbl3, HE⟩
        case measure => simp only [intOf]; omega
    · have hlt' : decide ((i : Int) < (z : Int)) = false := decide_eq_false (by omega)
      have hlt2 : decide (i < z) = false := decide_eq_false hlt
      have hq : l.all (fun r => RecW.RecM.mayB r.1 r.2) = true := by rw [HI.out, List.drop_eq_nil_of_le (by rw [Hz.out]; omega)]; rfl
      obtain ⟨J, hJ⟩ : ∃ S, strOf (RecW.RecM.joinF l) = S := ⟨_, rfl⟩
      have hJs : (RecW.RecM.joinF l).length = J.size := by rw [← hJ]; simp [strOf, ByteArray.size]
      rw [hJ] at HJ
      have HE := Lib.hid (show R = decide ((J.size : Int) ≤ 65536) by rw [HR.out, hq, hJs, Bool.true_and]; exact decide_eq_decide.2 (by omega))
      clear hq HR HI hJ hJs
      go_wp2_with fail
      refine (HJ.out _ hbl).mono ?_
      rintro e w2 ⟨rfl, hb2⟩
      have hbl3 := gr_call hbl hb2
      clear hb2
      go_wp2_with fail
      go_ret
      exact ⟨by rw [HE.out]; rfl, hbl3⟩
end Go.Proofs.YtbhnhoenjoagbaaGreatDoor

/- A struct of many cells loaded at once. -/
namespace Go.Proofs.YtbhnhoenjoagbaaGreatDoor
open Go.RowKit

theorem wp_loadB {o : Oper} {a : Act} {w : World} {K : Act → World → Prop} {Q : Exit → Act → World → Prop} (ty : TypeId) (x : Operand) (ho : o.op = .load ty x)
    (g : Nat) (hx : a.eval x = .pointer (some ⟨g, 0, none⟩)) (t : TypeId) (cs : Array Value) (hg : BlkIs w g t cs)
    (hu : (match Tryz.prog.underlying ty with | some (.struct _) => true | _ => false) = true) (hi : (Tryz.prog.info? ty).map (·.size) = some cs.size)
    (h : K (a.put o.dst (.agg cs)) w) : o.wp Tryz.prog a w K Q := by
  rcases hd : Tryz.prog.underlying ty with _ | d
  · rw [hd] at hu; cases hu
  · rw [hd] at hu
    cases d <;> first | (cases hu; done) | exact wp_load_row ty x ho g hx t cs (0, 0) _ hg hd rfl hi h
theorem wpList_loadB {ops : Array Oper} {rest : List Oper} {o : Oper} {a : Act} {w : World} {Q : Exit → Act → World → Prop} (hw : Region.wanted o (yielded ops a.tmps) = true) (ty : TypeId) (x : Operand) (ho : o.op = .load ty x)
    (g : Nat) (hx : a.eval x = .pointer (some ⟨g, 0, none⟩)) (t : TypeId) (cs : Array Value) (hg : BlkIs w g t cs)
    (hu : (match Tryz.prog.underlying ty with | some (.struct _) => true | _ => false) = true) (hi : (Tryz.prog.info? ty).map (·.size) = some cs.size)
    (h : wpList Tryz.prog ops Q rest (a.put o.dst (.agg cs)) w) : wpList Tryz.prog ops Q (o :: rest) a w := by
  unfold wpList
  rw [if_pos hw]
  exact .inl (wp_loadB ty x ho g hx t cs hg hu hi h)
theorem wp_storeN {o : Oper} {a : Act} {w : World} {K : Act → World → Prop} {Q : Exit → Act → World → Prop} (ty : TypeId) (x y : Operand) (ho : o.op = .store ty x y)
    (c c' : Array Value) (hx : a.eval x = .pointer (some ⟨w.heap.size, 0, none⟩)) (hy : a.eval y = .agg c')
    (hi : (Tryz.prog.info? ty).map (·.size) = some c'.size) (hc : c.size = c'.size) (h1 : c'.all (·.oneCell') = true)
    (h : K (a.put o.dst undef) (w.alloc (.cells c' ty))) : o.wp Tryz.prog a (w.alloc (.cells c ty)) K Q := by
  unfold Oper.wp execOp
  simp only [ho, hx, hy, Instr.storeAt, Instr.sureAddr, Sem.run_bind, Sem.run_pure, Result.andThen_ok, run_storeVar_new w ty c c' hi hc h1]
  exact h
theorem wpList_storeN {ops : Array Oper} {rest : List Oper} {o : Oper} {a : Act} {w : World} {Q : Exit → Act → World → Prop} (hgd : o.guard = none) (ty : TypeId) (x y : Operand) (ho : o.op = .store ty x y)
    (c c' : Array Value) (hx : a.eval x = .pointer (some ⟨w.heap.size, 0, none⟩)) (hy : a.eval y = .agg c')
    (hi : (Tryz.prog.info? ty).map (·.size) = some c'.size) (hc : c.size = c'.size) (h1 : c'.all (·.oneCell') = true)
    (h : wpList Tryz.prog ops Q rest (a.put o.dst undef) (w.alloc (.cells c' ty))) : wpList Tryz.prog ops Q (o :: rest) a (w.alloc (.cells c ty)) :=
  wpList_plain hgd fun _ hK => wp_storeN ty x y ho c c' hx hy hi hc h1 (hK _ _ h)
end Go.Proofs.YtbhnhoenjoagbaaGreatDoor

/- Walks over package entry: Recs with its conditions, May. -/
namespace Go.Proofs.YtbhnhoenjoagbaaGreatDoor
open Go.RowKit
open MetaM PathM EntM XatW
set_option linter.unusedVariables false

structure EntM.RecOk (e : En) : Prop where
  path : e.path.size ≤ 8000
  target : e.target.size ≤ 100000
  time : StampW.StampM.mayF e.m.sec e.m.nano = true
  uid : idOk e.m.uid = true
  gid : idOk e.m.gid = true
  fits : CapsM.Fits e.m.cap
  acl : e.m.acl.length = 0 ∨ AclM.may e.m.acl = true
  dfl : e.m.dfl.length = 0 ∨ AclM.may e.m.dfl = true
theorem one_acl {l : List AclM.Ace} (k : List UInt8) (h : l.length = 0 ∨ AclM.may l = true) : one (decide (0 < l.length)) k (AclW.textR l) = one (decide (l ≠ [])) k (AclM.textL l) := by
  have e : decide (0 < l.length) = decide (l ≠ []) := decide_eq_decide.2 (by cases l <;> simp)
  rw [e]
  rcases h with h | h
  · have : l = [] := List.eq_nil_of_length_eq_zero h
    subst this; rfl
  · unfold AclW.textR
    rw [if_pos h]
theorem recsR_eq {e : En} (h : RecOk e) : recsR e = recsE e := by
  unfold recsR recsE
  rw [one_acl _ h.acl, one_acl _ h.dfl]
  simp only [List.nil_append, List.append_assoc]
theorem recOk_of {e : En} (hp : pathOk e.path.data.toList = true) (ht : targetOk e = true) (hm : metaOk e = true) (hf : CapsM.Fits e.m.cap) : RecOk e := by
  have h1 : ∀ S : ByteArray, pathOk S.data.toList = true → S.size ≤ 4096 := by
    intro S h
    unfold pathOk at h
    simp only [Bool.and_eq_true, decide_eq_true_eq] at h
    rw [← list_sizeE]; exact h.1.1.1
  have ht2 : e.target.size ≤ 4096 := by
    unfold targetOk at ht
    split at ht
    · exact h1 _ ht
    · split at ht
      · simp only [Bool.and_eq_true, decide_eq_true_eq] at ht; exact ht.1.2
      · have := of_decide_eq_true ht; omega
  have hp2 := h1 _ hp
  have hc : (StampW.StampM.mayF e.m.sec e.m.nano = true ∧ idOk e.m.uid = true ∧ idOk e.m.gid = true) ∧ (e.m.acl.length = 0 ∨ AclM.may e.m.acl = true) ∧ (e.m.dfl.length = 0 ∨ AclM.may e.m.dfl = true) := by
    unfold metaOk at hm
    split at hm
    · unfold sameM zeroM plainM at hm
      simp only [Bool.and_eq_true, decide_eq_true_eq, AclW.sameL] at hm
      obtain ⟨⟨⟨⟨⟨⟨⟨⟨h1, h2⟩, h3⟩, h4⟩, h5⟩, h6⟩, h7⟩, h8⟩, h9⟩ := hm
      rw [h2, h3, h4.1, h4.2, h5, h6]
      exact ⟨⟨by decide, by decide, by decide⟩, .inl rfl, .inl rfl⟩
    · unfold mayM at hm
      simp only [Bool.and_eq_true] at hm
      obtain ⟨⟨⟨⟨⟨⟨⟨⟨⟨⟨_, _⟩, hu⟩, hg⟩, hs⟩, _⟩, _⟩, ha⟩, hd⟩, _⟩, _⟩ := hm
      refine ⟨⟨?_, hu, hg⟩, ?_, ?_⟩
      · unfold stampOk at hs
        simp only [Bool.and_eq_true, decide_eq_true_eq] at hs
        rw [StampW.StampM.may_iff]; omega
      · unfold aclOk at ha
        simp only [Bool.or_eq_true, Bool.and_eq_true, decide_eq_true_eq] at ha
        rcases ha with ha | ha
        · exact .inl ha
        · exact .inr ha.1
      · unfold dflOk at hd
        simp only [Bool.or_eq_true, Bool.and_eq_true, decide_eq_true_eq] at hd
        rcases hd with hd | hd
        · exact .inl hd
        · exact .inr hd.2
  exact ⟨by omega, by omega, hc.1.1, hc.1.2.1, hc.1.2.2, hf, hc.2.1, hc.2.2⟩
theorem RecsE_any (e : En) (va vd vx : Value) (w : World) (hA : Amb w) (hm : MetaAt e.m va vd vx w) (h : RecOk e) :
    Calls Tryz.prog 21 #[.agg (entC e va vd vx)] w fun r w' => (∃ v', r = .returned v' ∧ Row recE w.heap.size v' (recsE e) w') ∧ Below w.heap.size w w' := by
  rw [← recsR_eq h]
  exact RecsE_core e va vd vx w _ rfl hA hm h.path h.target h.time h.uid h.gid h.fits
def EntM.dataB (e : En) : Bool := decide (e.data.size = 0) || (decide (e.kind = 1) && decide (e.data.size ≤ 65536))
def EntM.devB (e : En) : Bool := if dev e.kind then numOk e.major && numOk e.minor else decide (e.major = 0) && decide (e.minor = 0)
theorem body_eq (e : En) : bodyOk e = (dataB e && devB e) := by
  unfold bodyOk dataB devB
  have h0 : ∀ n : Int, decide (n = 0) = true → numOk n = true := by intro n h; rw [of_decide_eq_true h]; decide
  by_cases hd : e.data.size = 0
  · rw [decide_eq_true hd, decide_eq_true (show e.data.size ≤ 65536 by omega)]
    cases dev e.kind <;> simp
    intro a b; exact ⟨h0 _ (by simpa using a), h0 _ (by simpa using b)⟩
  · rw [decide_eq_false hd]
    rcases dev e.kind with _ | _
    · by_cases h1 : e.major = 0
      · by_cases h2 : e.minor = 0
        · rw [h1, h2]; cases decide (e.kind = 1) <;> cases decide (e.data.size ≤ 65536) <;> rfl
        · rw [decide_eq_false h2]; simp
      · rw [decide_eq_false h1]; simp
    · cases decide (e.kind = 1) <;> cases decide (e.data.size ≤ 65536) <;> cases numOk e.major <;> cases numOk e.minor <;> rfl
theorem mayE_eq (e : En) : mayE e = (pathOk e.path.data.toList && targetOk e && metaOk e && dataB e && devB e && recsOk (recsE e)) := by
  unfold mayE
  rw [body_eq]
  have hk : metaOk e = true → (decide (1 ≤ e.kind) && decide (e.kind ≤ 7)) = true := by
    intro h
    unfold metaOk at h
    split at h
    · rename_i h2; rw [h2]; decide
    · unfold mayM at h
      simp only [Bool.and_eq_true] at h
      have h1 := h.1.1.1.1.1.1.1.1.1.1
      unfold kindIn at h1
      simp only [Bool.or_eq_true, Bool.and_eq_true, decide_eq_true_eq] at h1 ⊢
      omega
  cases hm : metaOk e with
  | false => simp
  | true =>
    rw [hk hm]
    cases pathOk e.path.data.toList <;> cases targetOk e <;> cases dataB e <;> cases devB e <;> simp
attribute [local irreducible] Row At
set_option maxHeartbeats 3200000 in
set_option maxRecDepth 100000 in
theorem MayE_any (e0 : En) (va vd vx : Value) (w : World) (hA : Amb w) (hma : MetaAt e0.m va vd vx w) (hP : e0.path.size ≤ 100000) (hT : e0.target.size ≤ 100000) (hf : CapsM.Fits e0.m.cap)
    (hs : pathOk e0.path.data.toList = true → targetOk e0 = true → metaOk e0 = true → ShortR (recsE e0)) :
    Calls Tryz.prog 18 #[.agg (entC e0 va vd vx)] w fun r w' => r = .returned (.bool (mayE e0)) ∧ Below w.heap.size w w' := by
  have HP := Lib.hid (fun W (h : Below w.heap.size w W) => PathE_any e0.path hP W (hA.on h))
  have HT := Lib.hid (fun W (h : Below w.heap.size w W) => mayTarget_any e0 va vd vx hT W (hA.on h))
  rw [← targetOk_eq] at HT
  have HM := Lib.hid (fun W (h : Below w.heap.size w W) => mayMeta_any e0 va vd vx W (hma.call h))
  have HD := Lib.hid (fun W (h : Below w.heap.size w W) => show Calls Tryz.prog 51 #[.agg (entC e0 va vd vx)] W fun r w' => r = .returned (.bool (dataB e0)) ∧ Below W.heap.size W w' from mayData_any e0 va vd vx W)
  have HV := Lib.hid (fun W (h : Below w.heap.size w W) => show Calls Tryz.prog 52 #[.agg (entC e0 va vd vx)] W fun r w' => r = .returned (.bool (devB e0)) ∧ Below W.heap.size W w' from mayDevice_any e0 va vd vx W)
  have HG := Lib.hid (mayE_eq e0)
  have HRR := Lib.hid (fun (h1 : pathOk e0.path.data.toList = true) (h2 : targetOk e0 = true) (h3 : metaOk e0 = true) W (h : Below w.heap.size w W) => RecsE_any e0 va vd vx W (hA.on h) (hma.call h) (recOk_of h1 h2 h3 hf))
  have HYY := Lib.hid (fun (h1 : pathOk e0.path.data.toList = true) (h2 : targetOk e0 = true) (h3 : metaOk e0 = true) B v W (h : Below w.heap.size w W) (hr : Row recE B v (recsE e0) W) => mayRecs_any B v (recsE e0) W (hA.on h).b hr (hs h1 h2 h3))
  have hb0 : Below w.heap.size w (w.alloc (.cells (entC e0 va vd vx) 39)) := gr_alloc (Below.refl _ _) _
  have hblk := box_blk e0 va vd vx w
  generalize mayE e0 = r at *
  generalize pathOk e0.path.data.toList = bp at *
  generalize targetOk e0 = bt at *
  generalize metaOk e0 = bm at *
  generalize dataB e0 = bd at *
  generalize devB e0 = bv at *
  clear hs hf hT hP hma hA
  unfold entC at *
  rcases hpq : bp with _ | _
  · rw [hpq] at HP
    have HF := Lib.hid (show r = false by rw [HG.out, hpq]; simp)
    clear HG
    as_aux_lemma =>
      go_enter Tryz.func18, Tryz.ntmps18
      go_wp2_with fail
      have hbl := hb0
      replace hq := hblk
      refine (HP.out _ hbl).mono ?_
      rintro e w1 ⟨rfl, hb1⟩
      replace hq := hq.kept hb1 hq.size
      replace hbl := gr_call hbl hb1
      clear hb1
      go_wp2_with fail
      go_ret
      exact ⟨by rw [HF.out]; rfl, hbl⟩
  · rw [hpq] at HP
    rcases htq : bt with _ | _
    · rw [htq] at HT
      have HF := Lib.hid (show r = false by rw [HG.out, htq]; simp)
      clear HG
      as_aux_lemma =>
        go_enter Tryz.func18, Tryz.ntmps18
        go_wp2_with fail
        have hbl := hb0
        replace hq := hblk
        refine (HP.out _ hbl).mono ?_
        rintro e w1 ⟨rfl, hb1⟩
        replace hq := hq.kept hb1 hq.size
        replace hbl := gr_call hbl hb1
        clear hb1
        go_wp2_with (with_reducible (show wpList _ _ _ (Oper.mk _ (Op.load 39 _) _ _ _ _ :: _) _ _); refine wpList_loadB (by simp [Region.wanted, yielded, go_sem]) 39 (.tmp 1) rfl w.heap.size (by simp [Act.eval, go_sem]) 39 _ hq (by kernel_rfl) (by kernel_rfl) ?_)
        refine (HT.out _ hbl).mono ?_
        rintro e w1 ⟨rfl, hb1⟩
        replace hq := hq.kept hb1 hq.size
        replace hbl := gr_call hbl hb1
        clear hb1
        go_wp2_with fail
        go_ret
        exact ⟨by rw [HF.out]; rfl, hbl⟩
    · rw [htq] at HT
      rcases hmq : bm with _ | _
      · rw [hmq] at HM
        have HF := Lib.hid (show r = false by rw [HG.out, hmq]; simp)
        clear HG
        as_aux_lemma =>
          go_enter Tryz.func18, Tryz.ntmps18
          go_wp2_with fail
          have hbl := hb0
          replace hq := hblk
          refine (HP.out _ hbl).mono ?_
          rintro e w1 ⟨rfl, hb1⟩
          replace hq := hq.kept hb1 hq.size
          replace hbl := gr_call hbl hb1
          clear hb1
          go_wp2_with (with_reducible (show wpList _ _ _ (Oper.mk _ (Op.load 39 _) _ _ _ _ :: _) _ _); refine wpList_loadB (by simp [Region.wanted, yielded, go_sem]) 39 (.tmp 1) rfl w.heap.size (by simp [Act.eval, go_sem]) 39 _ hq (by kernel_rfl) (by kernel_rfl) ?_)
          refine (HT.out _ hbl).mono ?_
          rintro e w1 ⟨rfl, hb1⟩
          replace hq := hq.kept hb1 hq.size
          replace hbl := gr_call hbl hb1
          clear hb1
          go_wp2_with (with_reducible (show wpList _ _ _ (Oper.mk _ (Op.load 39 _) _ _ _ _ :: _) _ _); refine wpList_loadB (by simp [Region.wanted, yielded, go_sem]) 39 (.tmp 1) rfl w.heap.size (by simp [Act.eval, go_sem]) 39 _ hq (by kernel_rfl) (by kernel_rfl) ?_)
          refine (HM.out _ hbl).mono ?_
          rintro e w1 ⟨rfl, hb1⟩
          replace hq := hq.kept hb1 hq.size
          replace hbl := gr_call hbl hb1
          clear hb1
          go_wp2_with fail
          go_ret
          exact ⟨by rw [HF.out]; rfl, hbl⟩
      · rw [hmq] at HM
        rcases hdq : bd with _ | _
        · rw [hdq] at HD
          have HF := Lib.hid (show r = false by rw [HG.out, hdq]; simp)
          clear HG
          as_aux_lemma =>
            go_enter Tryz.func18, Tryz.ntmps18
            go_wp2_with fail
            have hbl := hb0
            replace hq := hblk
            refine (HP.out _ hbl).mono ?_
            rintro e w1 ⟨rfl, hb1⟩
            replace hq := hq.kept hb1 hq.size
            replace hbl := gr_call hbl hb1
            clear hb1
            go_wp2_with (with_reducible (show wpList _ _ _ (Oper.mk _ (Op.load 39 _) _ _ _ _ :: _) _ _); refine wpList_loadB (by simp [Region.wanted, yielded, go_sem]) 39 (.tmp 1) rfl w.heap.size (by simp [Act.eval, go_sem]) 39 _ hq (by kernel_rfl) (by kernel_rfl) ?_)
            refine (HT.out _ hbl).mono ?_
            rintro e w1 ⟨rfl, hb1⟩
            replace hq := hq.kept hb1 hq.size
            replace hbl := gr_call hbl hb1
            clear hb1
            go_wp2_with (with_reducible (show wpList _ _ _ (Oper.mk _ (Op.load 39 _) _ _ _ _ :: _) _ _); refine wpList_loadB (by simp [Region.wanted, yielded, go_sem]) 39 (.tmp 1) rfl w.heap.size (by simp [Act.eval, go_sem]) 39 _ hq (by kernel_rfl) (by kernel_rfl) ?_)
            refine (HM.out _ hbl).mono ?_
            rintro e w1 ⟨rfl, hb1⟩
            replace hq := hq.kept hb1 hq.size
            replace hbl := gr_call hbl hb1
            clear hb1
            go_wp2_with (with_reducible (show wpList _ _ _ (Oper.mk _ (Op.load 39 _) _ _ _ _ :: _) _ _); refine wpList_loadB (by simp [Region.wanted, yielded, go_sem]) 39 (.tmp 1) rfl w.heap.size (by simp [Act.eval, go_sem]) 39 _ hq (by kernel_rfl) (by kernel_rfl) ?_)
            refine (HD.out _ hbl).mono ?_
            rintro e w1 ⟨rfl, hb1⟩
            replace hq := hq.kept hb1 hq.size
            replace hbl := gr_call hbl hb1
            clear hb1
            go_wp2_with fail
            go_ret
            exact ⟨by rw [HF.out]; rfl, hbl⟩
        · rw [hdq] at HD
          rcases hvq : bv with _ | _
          · rw [hvq] at HV
            have HF := Lib.hid (show r = false by rw [HG.out, hvq]; simp)
            clear HG
            as_aux_lemma =>
              go_enter Tryz.func18, Tryz.ntmps18
              go_wp2_with fail
              have hbl := hb0
              replace hq := hblk
              refine (HP.out _ hbl).mono ?_
              rintro e w1 ⟨rfl, hb1⟩
              replace hq := hq.kept hb1 hq.size
              replace hbl := gr_call hbl hb1
              clear hb1
              go_wp2_with (with_reducible (show wpList _ _ _ (Oper.mk _ (Op.load 39 _) _ _ _ _ :: _) _ _); refine wpList_loadB (by simp [Region.wanted, yielded, go_sem]) 39 (.tmp 1) rfl w.heap.size (by simp [Act.eval, go_sem]) 39 _ hq (by kernel_rfl) (by kernel_rfl) ?_)
              refine (HT.out _ hbl).mono ?_
              rintro e w1 ⟨rfl, hb1⟩
              replace hq := hq.kept hb1 hq.size
              replace hbl := gr_call hbl hb1
              clear hb1
              go_wp2_with (with_reducible (show wpList _ _ _ (Oper.mk _ (Op.load 39 _) _ _ _ _ :: _) _ _); refine wpList_loadB (by simp [Region.wanted, yielded, go_sem]) 39 (.tmp 1) rfl w.heap.size (by simp [Act.eval, go_sem]) 39 _ hq (by kernel_rfl) (by kernel_rfl) ?_)
              refine (HM.out _ hbl).mono ?_
              rintro e w1 ⟨rfl, hb1⟩
              replace hq := hq.kept hb1 hq.size
              replace hbl := gr_call hbl hb1
              clear hb1
              go_wp2_with (with_reducible (show wpList _ _ _ (Oper.mk _ (Op.load 39 _) _ _ _ _ :: _) _ _); refine wpList_loadB (by simp [Region.wanted, yielded, go_sem]) 39 (.tmp 1) rfl w.heap.size (by simp [Act.eval, go_sem]) 39 _ hq (by kernel_rfl) (by kernel_rfl) ?_)
              refine (HD.out _ hbl).mono ?_
              rintro e w1 ⟨rfl, hb1⟩
              replace hq := hq.kept hb1 hq.size
              replace hbl := gr_call hbl hb1
              clear hb1
              go_wp2_with (with_reducible (show wpList _ _ _ (Oper.mk _ (Op.load 39 _) _ _ _ _ :: _) _ _); refine wpList_loadB (by simp [Region.wanted, yielded, go_sem]) 39 (.tmp 1) rfl w.heap.size (by simp [Act.eval, go_sem]) 39 _ hq (by kernel_rfl) (by kernel_rfl) ?_)
              refine (HV.out _ hbl).mono ?_
              rintro e w1 ⟨rfl, hb1⟩
              replace hq := hq.kept hb1 hq.size
              replace hbl := gr_call hbl hb1
              clear hb1
              go_wp2_with fail
              go_ret
              exact ⟨by rw [HF.out]; rfl, hbl⟩
          · rw [hvq] at HV
            have HF := Lib.hid (show r = recsOk (recsE e0) by rw [HG.out, hpq, htq, hmq, hdq, hvq]; simp)
            have HR := Lib.hid (HRR.out hpq htq hmq)
            have HY := Lib.hid (HYY.out hpq htq hmq)
            clear HG HRR HYY
            as_aux_lemma =>
              go_enter Tryz.func18, Tryz.ntmps18
              go_wp2_with fail
              have hbl := hb0
              replace hq := hblk
              refine (HP.out _ hbl).mono ?_
              rintro e w1 ⟨rfl, hb1⟩
              replace hq := hq.kept hb1 hq.size
              replace hbl := gr_call hbl hb1
              clear hb1
              go_wp2_with (with_reducible (show wpList _ _ _ (Oper.mk _ (Op.load 39 _) _ _ _ _ :: _) _ _); refine wpList_loadB (by simp [Region.wanted, yielded, go_sem]) 39 (.tmp 1) rfl w.heap.size (by simp [Act.eval, go_sem]) 39 _ hq (by kernel_rfl) (by kernel_rfl) ?_)
              refine (HT.out _ hbl).mono ?_
              rintro e w1 ⟨rfl, hb1⟩
              replace hq := hq.kept hb1 hq.size
              replace hbl := gr_call hbl hb1
              clear hb1
              go_wp2_with (with_reducible (show wpList _ _ _ (Oper.mk _ (Op.load 39 _) _ _ _ _ :: _) _ _); refine wpList_loadB (by simp [Region.wanted, yielded, go_sem]) 39 (.tmp 1) rfl w.heap.size (by simp [Act.eval, go_sem]) 39 _ hq (by kernel_rfl) (by kernel_rfl) ?_)
              refine (HM.out _ hbl).mono ?_
              rintro e w1 ⟨rfl, hb1⟩
              replace hq := hq.kept hb1 hq.size
              replace hbl := gr_call hbl hb1
              clear hb1
              go_wp2_with (with_reducible (show wpList _ _ _ (Oper.mk _ (Op.load 39 _) _ _ _ _ :: _) _ _); refine wpList_loadB (by simp [Region.wanted, yielded, go_sem]) 39 (.tmp 1) rfl w.heap.size (by simp [Act.eval, go_sem]) 39 _ hq (by kernel_rfl) (by kernel_rfl) ?_)
              refine (HD.out _ hbl).mono ?_
              rintro e w1 ⟨rfl, hb1⟩
              replace hq := hq.kept hb1 hq.size
              replace hbl := gr_call hbl hb1
              clear hb1
              go_wp2_with (with_reducible (show wpList _ _ _ (Oper.mk _ (Op.load 39 _) _ _ _ _ :: _) _ _); refine wpList_loadB (by simp [Region.wanted, yielded, go_sem]) 39 (.tmp 1) rfl w.heap.size (by simp [Act.eval, go_sem]) 39 _ hq (by kernel_rfl) (by kernel_rfl) ?_)
              refine (HV.out _ hbl).mono ?_
              rintro e w1 ⟨rfl, hb1⟩
              replace hq := hq.kept hb1 hq.size
              replace hbl := gr_call hbl hb1
              clear hb1
              go_wp2_with (with_reducible (show wpList _ _ _ (Oper.mk _ (Op.load 39 _) _ _ _ _ :: _) _ _); refine wpList_loadB (by simp [Region.wanted, yielded, go_sem]) 39 (.tmp 1) rfl w.heap.size (by simp [Act.eval, go_sem]) 39 _ hq (by kernel_rfl) (by kernel_rfl) ?_)
              clear hq
              refine (HR.out _ hbl).mono ?_
              rintro e w1 ⟨⟨v, rfl, hrow⟩, hb1⟩
              replace hbl := gr_call hbl hb1
              clear hb1
              go_wp2_with fail
              refine (HY.out _ v _ hbl hrow).mono ?_
              rintro e w2 ⟨rfl, hb2⟩
              replace hbl := gr_call hbl hb2
              clear hb2
              go_wp2_with fail
              go_ret
              exact ⟨by rw [HF.out]; rfl, hbl⟩
end Go.Proofs.YtbhnhoenjoagbaaGreatDoor

/- Walks over package entry: the records' own block. -/
namespace Go.Proofs.YtbhnhoenjoagbaaGreatDoor
open Go.RowKit
open MetaM PathM EntM XatW
set_option linter.unusedVariables false

def EntM.xHd (n : Nat) : HeadM.Hd where
  name := ⟨#[80, 97, 120, 72, 101, 97, 100, 101, 114, 115]⟩
  mode := 420
  uid := 0
  gid := 0
  size := (n : Int)
  mtime := 0
  typ := 120
  link := ⟨#[]⟩
  uname := ⟨#[]⟩
  gname := ⟨#[]⟩
  major := 0
  minor := 0
  pre := ⟨#[]⟩
def EntM.putRecsF (l : List Rc) : List UInt8 := if l = [] then [] else HeadM.putH (xHd (RecW.RecM.joinF l).length) ++ PadW.PadM.padL (RecW.RecM.joinF l)
theorem x_build (n : Int) (W : World) : (Instr.build 23 #[(0, .string ⟨#[80, 97, 120, 72, 101, 97, 100, 101, 114, 115]⟩), (1, .int .i64 420), (6, .int .u8 120), (4, .int .i64 n)]).run Tryz.prog W = .ok (.agg #[.string ⟨#[80, 97, 120, 72, 101, 97, 100, 101, 114, 115]⟩, .int .i64 420, .int .i64 0, .int .i64 0, .int .i64 n, .int .i64 0, .int .u8 120, .string ⟨#[]⟩, .string ⟨#[]⟩, .string ⟨#[]⟩, .int .i64 0, .int .i64 0, .string ⟨#[]⟩]) W :=
  run_build W _ _ _ (by kernel_rfl)
theorem put_size (h : HeadM.Hd) : (HeadM.putH h).length ≤ 512 := by
  unfold HeadM.putH
  split
  · rename_i H; rw [HeadM.put_length H]; exact Nat.le_refl _
  · simp
attribute [local irreducible] Row At

set_option maxHeartbeats 1600000 in
set_option maxRecDepth 100000 in
theorem putRecs_any (B : Nat) (v : Value) (l : List Rc) (w : World) (hA : AmbB w) (hrow : Row recE B v l w) (hs : ShortR l) (hj : (RecW.RecM.joinF l).length ≤ 65536) :
    Calls Tryz.prog 86 #[v] w fun e w' => e = .returned (.string (strOf (putRecsF l))) ∧ Below w.heap.size w w' := by
  have HJ := Lib.hid (show Calls Tryz.prog 120 #[v] w fun e w' => e = .returned (.string (strOf (RecW.RecM.joinF l))) ∧ Below w.heap.size w w' from RecW.join_any v l w hA (row_rec hrow).at hs.each hs.few)
  obtain ⟨p, cap, rfl, hcap⟩ := hrow.at.shape
  obtain ⟨z, hz⟩ : ∃ z, l.length = z := ⟨_, rfl⟩
  rw [hz] at HJ ⊢
  by_cases h0 : z = 0
  · have hl : l = [] := List.eq_nil_of_length_eq_zero (by omega)
    have y0 : ((z : Int) == 0) = true := by rw [h0]; rfl
    have HE := Lib.hid (show putRecsF l = [] by rw [hl]; rfl)
    clear h0 hl hz HJ hrow
    go_enter Tryz.func86, Tryz.ntmps86
    go_wp2_with fail
    go_ret
    exact ⟨by rw [HE.out]; rfl, Below.refl _ _⟩
  · have hl : l ≠ [] := by intro h; rw [h] at hz; simp at hz; omega
    have y0 : ((z : Int) == 0) = false := by rw [beq_eq_false_iff_ne]; omega
    have HE := Lib.hid (show putRecsF l = HeadM.putH (xHd (RecW.RecM.joinF l).length) ++ PadW.PadM.padL (RecW.RecM.joinF l) from if_neg hl)
    obtain ⟨J, hJ⟩ : ∃ S, strOf (RecW.RecM.joinF l) = S := ⟨_, rfl⟩
    have hJs : J.size ≤ 65536 := by rw [← hJ, strOf_size]; exact hj
    have hJl : RecW.RecM.joinF l = J.data.toList := by rw [← hJ, strOf_list]
    rw [hJ] at HJ
    rw [hJl, list_sizeE] at HE
    obtain ⟨n, hn⟩ : ∃ n, J.size = n := ⟨_, rfl⟩
    have HH := Lib.hid (fun W => HeadW.put_any (xHd n) W)
    unfold xHd at HH
    simp only at HH
    have HP := Lib.hid (fun W => PadW.put_any J (by omega) W)
    obtain ⟨A, hA1⟩ : ∃ S, strOf (HeadM.putH (xHd n)) = S := ⟨_, rfl⟩
    obtain ⟨C, hC1⟩ : ∃ S, strOf (PadW.PadM.padL J.data.toList) = S := ⟨_, rfl⟩
    have hAs : A.size ≤ 512 := by rw [← hA1, strOf_size]; exact put_size _
    have hCs : C.size ≤ 70000 := by rw [← hC1, strOf_size, PadW.PadM.padL_length]; have := (PadW.PadM.more_in (n := J.data.toList.length) (by rw [list_sizeE]; omega)).2.1; rw [list_sizeE] at this ⊢; omega
    have HQ := Lib.hid (show strOf (putRecsF l) = A ++ C by
      rw [HE.out, ← hA1, ← hC1, hn]
      exact (bytes_ext (by rw [bytes_list]; simp [strOf])))
    have HH2 := Lib.hid (fun W => show Calls Tryz.prog 87 #[.agg #[.string ⟨#[80, 97, 120, 72, 101, 97, 100, 101, 114, 115]⟩, .int .i64 420, .int .i64 0, .int .i64 0, .int .i64 (n : Int), .int .i64 0, .int .u8 120, .string ⟨#[]⟩, .string ⟨#[]⟩, .string ⟨#[]⟩, .int .i64 0, .int .i64 0, .string ⟨#[]⟩]] W fun e w' => e = .returned (.string A) ∧ Below W.heap.size W w' from hA1 ▸ HH.out W)
    have HP2 := Lib.hid (fun W => show Calls Tryz.prog 88 #[.string J] W fun e w' => e = .returned (.string C) ∧ Below W.heap.size W w' from hC1 ▸ HP.out W)
    have HBD := x_build (n : Int)
    have hwrap : (J.size : Int) = (n : Int) := by rw [hn]
    clear HH HP hA1 hC1 hJ hJl hj HE hrow hz h0 hl hs hJs
    go_enter Tryz.func86, Tryz.ntmps86
    go_wp2_with fail
    refine (HJ.out).mono ?_
    rintro e w1 ⟨rfl, hb1⟩
    clear HJ
    go_wp2_with (with_reducible (show wpList _ _ _ (Oper.mk _ (Op.store 23 _ _) _ _ _ _ :: _) _ _); refine wpList_storeN rfl 23 (.tmp 4) (.tmp 12) rfl #[.string ⟨#[]⟩, .int .i64 0, .int .i64 0, .int .i64 0, .int .i64 0, .int .i64 0, .int .u8 0, .string ⟨#[]⟩, .string ⟨#[]⟩, .string ⟨#[]⟩, .int .i64 0, .int .i64 0, .string ⟨#[]⟩] #[.string ⟨#[80, 97, 120, 72, 101, 97, 100, 101, 114, 115]⟩, .int .i64 420, .int .i64 0, .int .i64 0, .int .i64 (n : Int), .int .i64 0, .int .u8 120, .string ⟨#[]⟩, .string ⟨#[]⟩, .string ⟨#[]⟩, .int .i64 0, .int .i64 0, .string ⟨#[]⟩] (by simp [Act.eval, go_sem]) (by simp [Act.eval, go_sem]) (by kernel_rfl) rfl (by rfl) ?_)
    refine (HH2.out _).mono ?_
    rintro e w2 ⟨rfl, hb2⟩
    have hbl := gr_call (gr_alloc hb1 _) hb2
    clear hb2 HH2
    go_wp2_with fail
    refine (HP2.out _).mono ?_
    rintro e w3 ⟨rfl, hb3⟩
    replace hbl := gr_call hbl hb3
    clear hb3 HP2
    go_wp2_with fail
    go_ret
    exact ⟨by rw [HQ.out]; rfl, hbl⟩
end Go.Proofs.YtbhnhoenjoagbaaGreatDoor
