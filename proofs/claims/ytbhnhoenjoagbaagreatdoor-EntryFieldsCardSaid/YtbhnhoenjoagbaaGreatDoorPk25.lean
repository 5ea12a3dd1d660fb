/- Bundle of 2 texts. -/
import Derived.Test.YtbhnhoenjoagbaaGreatDoorPk24
import Derived.Test.YtbhnhoenjoagbaaGreatDoorPk23
import Derived.Test.YtbhnhoenjoagbaaGreatDoorPk05
import Derived.Deep.CutBlock
import Derived.Test.YtbhnhoenjoagbaaGreatDoorPk21
/- Walks over package entry: the small checks. -/
namespace Go.Proofs.YtbhnhoenjoagbaaGreatDoor
open Go.RowKit
open MetaM PathM EntM
set_option linter.unusedVariables false

def entC (e : En) (va vd vx : Value) : Array Value := #[.string e.path, .int .i64 e.kind, .int .i64 e.m.mode, .int .i64 e.m.uid, .int .i64 e.m.gid, .int .i64 e.m.sec, .int .i64 e.m.nano, va, vd, vx, .int .i64 e.m.cap.v, .int .u64 (e.m.cap.p : Int), .int .u64 (e.m.cap.i : Int), .bool e.m.cap.e, .int .i64 e.m.cap.r, .int .i64 e.m.flags, .string e.data, .string e.target, .int .i64 e.major, .int .i64 e.minor]
theorem zero_at (w : World) : MetaAt zeroM nilV nilV nilV w := ⟨At.nil _, At.nil _, At.nil _, by simp [zeroM, plainM], by simp [zeroM, plainM], by simp [zeroM, plainM]⟩
theorem split_le {l p n : List UInt8} (h : HeadM.splitL l = some (p, n)) : p.length ≤ l.length ∧ n.length ≤ l.length := by
  unfold HeadM.splitL at h
  split at h
  · injection h with h; injection h with h1 h2; subst h1 h2; exact ⟨Nat.zero_le _, Nat.le_refl _⟩
  · split at h
    · cases h
    · simp only at h
      split at h
      · cases h
      · injection h with h; injection h with h1 h2; subst h1 h2
        exact ⟨by rw [List.length_take]; omega, by rw [List.length_drop]; omega⟩
theorem split_val (l : List UInt8) : ∃ p n : ByteArray, HeadM.splitV l = .tuple #[.string p, .string n, .bool (HeadM.splitL l).isSome] ∧ p.size ≤ l.length ∧ n.size ≤ l.length := by
  unfold HeadM.splitV
  rcases h : HeadM.splitL l with _ | ⟨p, n⟩
  · exact ⟨_, _, rfl, Nat.zero_le _, Nat.zero_le _⟩
  · have hl := split_le h
    exact ⟨strOf p, strOf n, rfl, Nat.le_trans (Nat.le_of_eq (strOf_size p)) hl.1, Nat.le_trans (Nat.le_of_eq (strOf_size n)) hl.2⟩
theorem longPath_any (S : ByteArray) (hS : S.size ≤ 8000) (w : World) :
    Calls Tryz.prog 60 #[.string S] w fun e w' => e = .returned (.bool (HeadM.splitL S.data.toList).isNone) ∧ Below w.heap.size w w' := by
  have hc := Lib.hid (HeadW.split_any S hS w)
  obtain ⟨p, n, hv, _, _⟩ := split_val S.data.toList
  have hL : HeadM.L S = S.data.toList := rfl
  rw [hL, hv] at hc
  have hb : (HeadM.splitL S.data.toList).isNone = !(HeadM.splitL S.data.toList).isSome := by cases HeadM.splitL S.data.toList <;> rfl
  rw [hb]
  generalize (HeadM.splitL S.data.toList).isSome = b at *
  clear hL hv hb
  go_enter Tryz.func60, Tryz.ntmps60
  go_wp2_with fail
  refine (hc.out).mono ?_
  rintro e w1 ⟨rfl, hb1⟩
  go_wp2_with fail
  go_ret
  exact ⟨rfl, hb1⟩
theorem longTarget_any (S : ByteArray) (w : World) :
    Calls Tryz.prog 61 #[.string S] w fun e w' => e = .returned (.bool (decide (100 < S.size))) ∧ w' = w := by
  have e : decide (100 < S.size) = decide ((100 : Int) < (S.size : Int)) := decide_eq_decide.2 (by omega)
  rw [e]
  go_enter Tryz.func61, Tryz.ntmps61
  go_wp2_with fail
  go_ret
  exact ⟨rfl, rfl⟩
theorem longId_any (n : Int) (w : World) :
    Calls Tryz.prog 64 #[.int .i64 n] w fun e w' => e = .returned (.bool (decide (2097151 < n))) ∧ w' = w := by
  go_enter Tryz.func64, Tryz.ntmps64
  go_wp2_with fail
  go_ret
  exact ⟨rfl, rfl⟩
theorem longTime_any (s n : Int) (w : World) :
    Calls Tryz.prog 66 #[.agg #[.int .i64 s, .int .i64 n]] w fun e w' => e = .returned (.bool (longS s n)) ∧ Below w.heap.size w w' := by
  have HL := Lib.hid (show longS s n = ((!(n == 0)) || decide (s < 0) || decide (8589934591 < s)) by
    have e0 : decide (n ≠ 0) = !(n == 0) := by by_cases h : n = 0 <;> simp [h]
    have e2 : decide (8589934592 ≤ s) = decide (8589934591 < s) := decide_eq_decide.2 (by omega)
    unfold longS
    rw [e0, e2])
  generalize longS s n = r at HL ⊢
  go_enter Tryz.func66, Tryz.ntmps66
  go_wp2_with fail
  all_goals (go_ret; refine ⟨ret_bool ?_, gr_alloc (Below.refl _ _) _⟩; rw [HL.out]; simp [*])
theorem isDevice_any (k : Int) (w : World) :
    Calls Tryz.prog 117 #[.int .i64 k] w fun e w' => e = .returned (.bool (dev k)) ∧ w' = w := by
  have e0 : dev k = ((k == 4) || (k == 5)) := rfl
  rw [e0]
  rcases h0 : (k == 4) with _ | _
  · go_enter Tryz.func117, Tryz.ntmps117
    go_wp2_with fail
    go_ret
    exact ⟨rfl, rfl⟩
  · go_enter Tryz.func117, Tryz.ntmps117
    go_wp2_with fail
    go_ret
    exact ⟨rfl, rfl⟩
theorem mayNumber_any (n : Int) (w : World) :
    Calls Tryz.prog 118 #[.int .i64 n] w fun e w' => e = .returned (.bool (numOk n)) ∧ w' = w := by
  unfold numOk
  rcases h0 : decide (0 ≤ n) with _ | _
  · go_enter Tryz.func118, Tryz.ntmps118
    go_wp2_with fail
    go_ret
    exact ⟨rfl, rfl⟩
  · go_enter Tryz.func118, Tryz.ntmps118
    go_wp2_with fail
    go_ret
    exact ⟨rfl, rfl⟩
theorem start_any (S : ByteArray) (w : World) :
    Calls Tryz.prog 84 #[.string S] w fun e w' => e = .returned (.string (firstB S 100)) ∧ w' = w := by
  have hf : firstB S 100 = S.extract 0 (min S.size 100) := by
    unfold firstB
    rw [← strOf_self (S.extract 0 (min S.size 100)), ByteArray.data_extract, Array.toList_extract, List.extract, List.drop_zero, Nat.sub_zero]
    congr 1
    rw [← list_sizeE S, List.take_eq_take_iff]
    omega
  rw [hf]
  clear hf
  by_cases h : S.size ≤ 100
  · have e1 : ((S.size : Int) ≤ 100) := by omega
    have e2 : min (S.size : Int) 100 = (S.size : Int) := by omega
    rw [Nat.min_eq_left h, show S.extract 0 S.size = S from by simp]
    clear h
    go_enter Tryz.func84, Tryz.ntmps84
    go_wp2_with fail
    all_goals (go_ret; exact ⟨rfl, rfl⟩)
  · have e1 : ¬ ((S.size : Int) ≤ 100) := by omega
    have e2 : min (S.size : Int) 100 = 100 := by omega
    have e3 : 100 ≤ S.size := by omega
    rw [Nat.min_eq_right e3]
    clear h
    go_enter Tryz.func84, Tryz.ntmps84
    go_wp2_with fail
    all_goals (go_ret; exact ⟨rfl, rfl⟩)
def EntM.targetOkG (e : En) : Bool := if e.kind = 2 then pathOk e.target.data.toList else if e.kind = 3 then textOk e.target.data.toList else decide (e.target.size = 0)
theorem targetOk_eq (e : En) : targetOk e = targetOkG e := by
  unfold targetOk targetOkG textOk
  have h : e.target.data.toList.length = e.target.size := list_sizeE _
  rw [h]
  have h1 : decide (1 ≤ e.target.size) = decide (e.target.size ≠ 0) := decide_eq_decide.2 (by omega)
  rw [h1]
theorem MetaAt.below {m : Mt} {va vd vx : Value} {w w1 : World} (h : MetaAt m va vd vx w) (hb : Below w.heap.size w w1) : MetaAt m va vd vx w1 := h.call hb
theorem box_blk (e : En) (va vd vx : Value) (w : World) : BlkIs (w.alloc (.cells (entC e va vd vx) 39)) w.heap.size 39 (entC e va vd vx) := BlkIs.made _ _ _

set_option maxRecDepth 100000 in
theorem mayTarget_any (e : En) (va vd vx : Value) (hT : e.target.size ≤ 100000) (w : World) (hA : Amb w) :
    Calls Tryz.prog 49 #[.agg (entC e va vd vx)] w fun r w' => r = .returned (.bool (targetOkG e)) ∧ Below w.heap.size w w' := by
  have H1 := Lib.hid (fun W (hb : Below w.heap.size w W) => PathE_any e.target hT W (hA.on hb))
  have H2 := Lib.hid (fun W => mayTextE_any e.target W)
  have he := empty_n e.target
  have HG := Lib.hid (show targetOkG e = if e.kind = 2 then pathOk e.target.data.toList else if e.kind = 3 then textOk e.target.data.toList else decide (e.target.size = 0) from rfl)
  rw [← he] at HG
  generalize targetOkG e = r at *
  generalize pathOk e.target.data.toList = b1 at *
  generalize textOk e.target.data.toList = b2 at *
  obtain ⟨P, k, m, D, T, mj, mn⟩ := e
  simp only at HG H1 H2 hT he
  unfold entC
  simp only
  clear he hT hA
  have hbl : ∀ C, Below w.heap.size w (w.alloc (.cells C 39)) := fun C => gr_alloc (Below.refl _ _) _
  by_cases h2 : k = 2
  · have HF := Lib.hid (show r = b1 by rw [HG.out, if_pos h2])
    have y2 : (k == 2) = true := by rw [h2]; rfl
    clear HG h2 H2
    go_enter Tryz.func49, Tryz.ntmps49
    go_wp2_with fail
    refine (H1.out _ (hbl _)).mono ?_
    rintro e w1 ⟨rfl, hb1⟩
    replace hbl := gr_call (hbl _) hb1
    go_wp2_with fail
    go_ret
    exact ⟨by rw [HF.out]; rfl, hbl⟩
  · have y2 : (k == 2) = false := beq_eq_false_iff_ne.2 h2
    by_cases h3 : k = 3
    · have HF := Lib.hid (show r = b2 by rw [HG.out, if_neg h2, if_pos h3])
      have y3 : (k == 3) = true := by rw [h3]; rfl
      clear HG h2 H1 h3
      go_enter Tryz.func49, Tryz.ntmps49
      go_wp2_with fail
      refine (H2.out _).mono ?_
      rintro e w1 ⟨rfl, rfl⟩
      go_wp2_with fail
      go_ret
      exact ⟨by rw [HF.out]; rfl, hbl _⟩
    · have HF := Lib.hid (show r = T.toList.isEmpty by rw [HG.out, if_neg h2, if_neg h3])
      have y3 : (k == 3) = false := beq_eq_false_iff_ne.2 h3
      clear HG h2 H1 h3 H2
      go_enter Tryz.func49, Tryz.ntmps49
      go_wp2_with fail
      go_ret
      exact ⟨by rw [HF.out]; rfl, hbl _⟩

set_option maxRecDepth 100000 in
theorem mayData_any (e : En) (va vd vx : Value) (w : World) :
    Calls Tryz.prog 51 #[.agg (entC e va vd vx)] w fun r w' => r = .returned (.bool (decide (e.data.size = 0) || (decide (e.kind = 1) && decide (e.data.size ≤ 65536)))) ∧ Below w.heap.size w w' := by
  have he := empty_n e.data
  have hk : decide (e.kind = 1) = (e.kind == 1) := by rw [Bool.eq_iff_iff]; simp
  have hs : decide (e.data.size ≤ 65536) = decide ((e.data.size : Int) ≤ 65536) := decide_eq_decide.2 (by omega)
  rw [← he, hk, hs]
  obtain ⟨P, k, m, D, T, mj, mn⟩ := e
  unfold entC
  simp only
  clear he hk hs
  have hbl : ∀ C, Below w.heap.size w (w.alloc (.cells C 39)) := fun C => gr_alloc (Below.refl _ _) _
  rcases h1 : D.toList.isEmpty with _ | _
  · rcases h2 : (k == 1) with _ | _
    · go_enter Tryz.func51, Tryz.ntmps51
      go_wp2_with fail
      go_ret
      exact ⟨rfl, hbl _⟩
    · go_enter Tryz.func51, Tryz.ntmps51
      go_wp2_with fail
      go_ret
      exact ⟨rfl, hbl _⟩
  · go_enter Tryz.func51, Tryz.ntmps51
    go_wp2_with fail
    go_ret
    exact ⟨rfl, hbl _⟩

set_option maxRecDepth 100000 in
theorem mayDevice_any (e : En) (va vd vx : Value) (w : World) :
    Calls Tryz.prog 52 #[.agg (entC e va vd vx)] w fun r w' => r = .returned (.bool (if dev e.kind then numOk e.major && numOk e.minor else decide (e.major = 0) && decide (e.minor = 0))) ∧ Below w.heap.size w w' := by
  have HD := Lib.hid (fun W => isDevice_any e.kind W)
  have H1 := Lib.hid (fun W => mayNumber_any e.major W)
  have H2 := Lib.hid (fun W => mayNumber_any e.minor W)
  have k1 : decide (e.major = 0) = (e.major == 0) := by rw [Bool.eq_iff_iff]; simp
  have k2 : decide (e.minor = 0) = (e.minor == 0) := by rw [Bool.eq_iff_iff]; simp
  rw [k1, k2]
  generalize dev e.kind = bd at *
  generalize numOk e.major = b1 at *
  generalize numOk e.minor = b2 at *
  obtain ⟨P, k, m, D, T, mj, mn⟩ := e
  unfold entC
  simp only at HD H1 H2 ⊢
  clear k1 k2
  have hbl : ∀ C, Below w.heap.size w (w.alloc (.cells C 39)) := fun C => gr_alloc (Below.refl _ _) _
  cases bd with
  | false =>
    rcases h1 : (mj == 0) with _ | _
    · go_enter Tryz.func52, Tryz.ntmps52
      go_wp2_with fail
      refine (HD.out _).mono ?_
      rintro e w1 ⟨rfl, rfl⟩
      go_wp2_with fail
      go_ret
      exact ⟨rfl, hbl _⟩
    · go_enter Tryz.func52, Tryz.ntmps52
      go_wp2_with fail
      refine (HD.out _).mono ?_
      rintro e w1 ⟨rfl, rfl⟩
      go_wp2_with fail
      go_ret
      exact ⟨rfl, hbl _⟩
  | true =>
    cases b1 with
    | false =>
      go_enter Tryz.func52, Tryz.ntmps52
      go_wp2_with fail
      refine (HD.out _).mono ?_
      rintro e w1 ⟨rfl, rfl⟩
      go_wp2_with fail
      refine (H1.out _).mono ?_
      rintro e w1 ⟨rfl, rfl⟩
      go_wp2_with fail
      go_ret
      exact ⟨rfl, hbl _⟩
    | true =>
      go_enter Tryz.func52, Tryz.ntmps52
      go_wp2_with fail
      refine (HD.out _).mono ?_
      rintro e w1 ⟨rfl, rfl⟩
      go_wp2_with fail
      refine (H1.out _).mono ?_
      rintro e w1 ⟨rfl, rfl⟩
      go_wp2_with fail
      refine (H2.out _).mono ?_
      rintro e w1 ⟨rfl, rfl⟩
      go_wp2_with fail
      go_ret
      exact ⟨rfl, hbl _⟩

set_option maxRecDepth 100000 in
theorem mayMeta_any (e : En) (va vd vx : Value) (w : World) (hm : MetaAt e.m va vd vx w) :
    Calls Tryz.prog 50 #[.agg (entC e va vd vx)] w fun r w' => r = .returned (.bool (metaOk e)) ∧ Below w.heap.size w w' := by
  have H1 := Lib.hid (fun W (hb : Below w.heap.size w W) => SameM_any e.m zeroM va vd vx nilV nilV nilV W (hm.call hb) (zero_at W))
  have H2 := Lib.hid (fun W (hb : Below w.heap.size w W) => MayM_any e.m va vd vx e.kind W (hm.call hb))
  have HG := Lib.hid (show metaOk e = if e.kind = 2 then sameM e.m zeroM else mayM e.m e.kind from rfl)
  generalize metaOk e = r at *
  generalize sameM e.m zeroM = b1 at *
  generalize mayM e.m e.kind = b2 at *
  obtain ⟨P, k, m, D, T, mj, mn⟩ := e
  simp only at HG H1 H2
  unfold metaC at H1 H2
  unfold entC
  simp only
  clear hm
  have hbl : ∀ C, Below w.heap.size w (w.alloc (.cells C 39)) := fun C => gr_alloc (Below.refl _ _) _
  by_cases h2 : k = 2
  · have HF := Lib.hid (show r = b1 by rw [HG.out, if_pos h2])
    have y2 : (k == 2) = true := by rw [h2]; rfl
    clear HG h2 H2
    go_enter Tryz.func50, Tryz.ntmps50
    go_wp2_with fail
    refine (H1.out _ (hbl _)).mono ?_
    rintro e w1 ⟨rfl, hb1⟩
    replace hbl := gr_call (hbl _) hb1
    go_wp2_with fail
    go_ret
    exact ⟨by rw [HF.out]; rfl, hbl⟩
  · have y2 : (k == 2) = false := beq_eq_false_iff_ne.2 h2
    have HF := Lib.hid (show r = b2 by rw [HG.out, if_neg h2])
    clear HG h2 H1
    go_enter Tryz.func50, Tryz.ntmps50
    go_wp2_with fail
    refine (H2.out _ (hbl _)).mono ?_
    rintro e w1 ⟨rfl, hb1⟩
    replace hbl := gr_call (hbl _) hb1
    go_wp2_with fail
    go_ret
    exact ⟨by rw [HF.out]; rfl, hbl⟩
end Go.Proofs.YtbhnhoenjoagbaaGreatDoor

/- Walks over package entry: a record is added to a list that a closure holds. -/
namespace Go.Proofs.YtbhnhoenjoagbaaGreatDoor
open Go.RowKit
open MetaM PathM EntM XatW
set_option linter.unusedVariables false

theorem one_rec_list (K V : ByteArray) (w : World) (B : Nat) (hB : B ≤ w.heap.size) : Row recE B (.slice (some ⟨w.heap.size, 0, none⟩) 1 1) [(K.data.toList, V.data.toList)] (w.alloc (.cells #[.string K, .string V] 28)) := by
  have h := one_rec w (K.data.toList, V.data.toList) B hB
  have e : ∀ X : ByteArray, strOf X.data.toList = X := strOf_self
  simp only [e] at h
  exact h
structure ListIn (B g : Nat) (l : List Rc) (v : Value) (w : World) : Prop where
  blk : BlkIs w g 24 #[v]
  row : Row recE B v l w
  ne : v.ownBlock ≠ some g
theorem ListIn.call {B g : Nat} {l : List Rc} {v : Value} {w w' : World} (h : ListIn B g l v w) (hb : Below w.heap.size w w') : ListIn B g l v w' := ⟨h.blk.kept hb h.blk.size, h.row.call hb, h.ne⟩
theorem BlkIs.grown {w w' : World} {h : Nat} {t : TypeId} {cs : Array Value} {row : Option Nat} (hb : BlkIs w h t cs) (hg : w.grownBy w' row) (hn : row ≠ some h) : BlkIs w' h t cs := (hg.block h hb.size (Ne.symm hn)).trans hb
attribute [local irreducible] Row At

set_option maxHeartbeats 1600000 in
set_option maxRecDepth 100000 in
theorem addE_any (B g : Nat) (l : List Rc) (b : Bool) (K V : ByteArray) (v : Value) (w : World) (hin : ListIn B g l v w) (hl : l.length ≤ 1000) (hB : B ≤ g) (a : World) (haB : a.heap.size = B) (hbl : Below B a w) :
    Calls Tryz.prog 59 #[.bool b, .string K, .string V, .pointer (some ⟨g, 0, none⟩)] w fun e w' => e = .returned (.tuple #[]) ∧ Below B a w' ∧ ∃ v', ListIn B g (l ++ one b K.data.toList V.data.toList) v' w' ∧ w.heap.size ≤ w'.heap.size ∧
      ∀ h t cs, BlkIs w h t cs → h ≠ g → v.ownBlock ≠ some h → BlkIs w' h t cs ∧ v'.ownBlock ≠ some h := by
  cases b with
  | false =>
    have e : l ++ one false K.data.toList V.data.toList = l := by simp [one]
    rw [e]
    go_enter Tryz.func59, Tryz.ntmps59
    go_wp2_with fail
    refine ⟨rfl, .tuple #[], by simp [results, Tryz.results59, go_sem], rfl, hbl, v, hin, Nat.le_refl _, fun h t cs hb _ hv => ⟨hb, hv⟩⟩
  | true =>
    have e : l ++ one true K.data.toList V.data.toList = l ++ [(K.data.toList, V.data.toList)] := by simp [one]
    rw [e]
    have hgs := hin.blk.size
    have c0 := hin.blk.cell_some 0 v rfl
    have f0 := hin.blk.free 0
    have hone := (one_rec_list K V w B (by omega)).at
    have hR3 := hin.row.alloc (.cells #[.string K, .string V] 28)
    have hl1 : l.length + [(K.data.toList, V.data.toList)].length ≤ 1000000 := by simp; omega
    have hsz : B ≤ (w.alloc (.cells #[.string K, .string V] 28)).heap.size := by simp; omega
    have Hin := Lib.hid hin
    clear hin
    go_enter Tryz.func59, Tryz.ntmps59
    go_wp2_with (at_builtin; refine wp_append_at recE rfl _ _ rfl B _ (.slice (some ⟨w.heap.size, 0, none⟩) 1 1) l [(K.data.toList, V.data.toList)] (w.alloc (.cells #[.string K, .string V] 28)) rfl (by exact hR3) (by rfl) (by exact hone) hl1 hsz ?_)
    intro v' w3 hR' hb' hgr hvb
    have hne' : v.ownBlock ≠ some g := Hin.out.ne
    have q : BlkIs w3 g 24 #[v] := (Hin.out.blk.alloc _).grown hgr hne'
    have c3 := q.cell_some 0 v rfl
    have f3 := q.free 0
    have hg3 := q.size
    have hs5 := hgr.size
    simp at hs5
    have hnv : v'.ownBlock ≠ some g := by
      rcases hvb with hvb | hvb
      · rw [hvb]; exact hne'
      · rw [hvb]; intro e; injection e with e; omega
    have HO := Lib.hid (fun h t cs (hb : BlkIs w h t cs) (hn : h ≠ g) (hv : v.ownBlock ≠ some h) => (show BlkIs (w3.setCell ⟨g, 0, none⟩ v') h t cs ∧ v'.ownBlock ≠ some h from
      ⟨((hb.alloc _).grown hgr hv).other hn v', by
        have := hb.size
        rcases hvb with hvb | hvb
        · rw [hvb]; exact hv
        · rw [hvb]; intro e; injection e with e; omega⟩))
    have HB := Lib.hid (show Below B a (w3.setCell ⟨g, 0, none⟩ v') from haB ▸ gr_set (gr_alloc (haB ▸ hbl) _ |>.trans (haB ▸ hb')) (by rw [haB]; exact hB) v')
    have HL := Lib.hid (show ListIn B g (l ++ [(K.data.toList, V.data.toList)]) v' (w3.setCell ⟨g, 0, none⟩ v') from ⟨q.put 0 v', hR'.other hnv v', hnv⟩)
    have HS := Lib.hid (show w.heap.size ≤ (w3.setCell ⟨g, 0, none⟩ v').heap.size by simp; omega)
    obtain ⟨p, n, cap, rfl⟩ : ∃ p n cap, v' = .slice p n cap := by
      obtain ⟨p, cap, h, _⟩ := hR'.at.shape
      exact ⟨p, _, cap, h⟩
    clear hR' hgr hvb hnv hb' hone hR3 hbl q
    go_wp2_with fail
    refine ⟨rfl, .tuple #[], by simp [results, Tryz.results59, go_sem], rfl, HB.out, _, HL.out, HS.out, HO.out⟩
end Go.Proofs.YtbhnhoenjoagbaaGreatDoor
