/- Bundle of 7 texts. -/
import Derived.Test.YtbhnhoenjoagbaaGreatDoorPk13
import Derived.Recover
import Derived.Test.YtbhnhoenjoagbaaGreatDoorPk06
import Derived.Test.YtbhnhoenjoagbaaGreatDoorPk22
import Derived.Test.YtbhnhoenjoagbaaGreatDoorPk21
import Derived.Test.YtbhnhoenjoagbaaGreatDoorPk16
import Derived.Test.YtbhnhoenjoagbaaGreatDoorPk02
import Derived.Test.YtbhnhoenjoagbaaGreatDoorPk05
import Derived.Deep.CutBlock
import Derived.Test.YtbhnhoenjoagbaaGreatDoorKit
import Derived.Test.YtbhnhoenjoagbaaGreatDoorChecked
import Derived.Laws.Rows
import Derived.Deep.WholeRow
/- Walks over package acl: what the pieces of a part say. -/
namespace Go.Proofs.YtbhnhoenjoagbaaGreatDoor.AclW
open Go.RowKit
open AclM DecM
set_option linter.unusedVariables false

def notList : List PanicEntry := [{ v := .iface 232 (.agg #[]), recovered := false }]
def intEnd (o : Option Int) (e : Ending) : Prop := match o with
  | some n => e = .returned (.int .i64 n)
  | none => e = .panicked notList

def hit (l id : List UInt8) (t : Int) : Prop := [letter t] = l ∧ (hasId t = true ↔ id ≠ [])
end Go.Proofs.YtbhnhoenjoagbaaGreatDoor.AclW

/- Walks over package acl: an Id and a perm in letters. -/
namespace Go.Proofs.YtbhnhoenjoagbaaGreatDoor.AclW
open Go.RowKit
open AclM DecM
set_option linter.unusedVariables false

def pu (x y z : Bool) (i : Nat) : Int := (if x = true ∧ 0 < i then 4 else 0) + (if y = true ∧ 1 < i then 2 else 0) + (if z = true ∧ 2 < i then 1 else 0)
end Go.Proofs.YtbhnhoenjoagbaaGreatDoor.AclW

/- Walks over package acl: a part's reading. -/
namespace Go.Proofs.YtbhnhoenjoagbaaGreatDoor.AclW
open Go.RowKit
open AclM DecM
set_option linter.unusedVariables false

def partEnd (o : Option Ace) (e : Ending) : Prop := match o with
  | some a => e = .returned (aceV a)
  | none => e = .panicked notList

end Go.Proofs.YtbhnhoenjoagbaaGreatDoor.AclW

/- Walks over package acl: parse, Parse. -/
namespace Go.Proofs.YtbhnhoenjoagbaaGreatDoor.AclW
open Go.RowKit
open AclM DecM
set_option linter.unusedVariables false

def parseEnd (B : Nat) (o : Option (List Ace)) (e : Ending) (w' : World) : Prop := match o with
  | some l => ∃ v, e = .returned v ∧ Row aceE B v l w'
  | none => e = .panicked notList
theorem cutAt_sum (c : UInt8) : ∀ (s : List UInt8), (cutAt c s).length ≤ s.length + 1 ∧ ∀ p ∈ cutAt c s, p.length ≤ s.length
  | [] => by simp [cutAt]
  | x :: r => by
    obtain ⟨h1, h2⟩ := cutAt_sum c r
    rw [cutAt_cons]
    by_cases hx : x = c
    · rw [if_pos hx]
      refine ⟨by simp only [List.length_cons]; omega, fun p hp => ?_⟩
      rcases List.mem_cons.1 hp with rfl | hp
      · simp
      · have := h2 p hp; simp only [List.length_cons]; omega
    · rw [if_neg hx]
      rcases hc : cutAt c r with _ | ⟨q, ps⟩
      · exact absurd hc (cutAt_ne _ _)
      · rw [hc] at h1 h2
        refine ⟨by simp only [List.length_cons] at h1 ⊢; omega, fun p hp => ?_⟩
        rcases List.mem_cons.1 hp with rfl | hp
        · have := h2 q (by simp); simp only [List.length_cons]; omega
        · have := h2 p (by simp [hp]); simp only [List.length_cons]; omega

end Go.Proofs.YtbhnhoenjoagbaaGreatDoor.AclW

/- Walks over package entry: names and paths. -/
namespace Go.Proofs.YtbhnhoenjoagbaaGreatDoor
open Go.RowKit
open PathM AclM AclW
set_option linter.unusedVariables false

theorem list_sizeE (S : ByteArray) : S.data.toList.length = S.size := by simp

def PathM.textOk (l : List UInt8) : Bool := decide (l.length ≠ 0) && decide (l.length ≤ 4096) && decide ((0 : UInt8) ∉ l)
theorem text_index (S : ByteArray) : decide (Lib.indexByte S.data.toList (0 : Int).toNat.toUInt8 < 0) = decide ((0 : UInt8) ∉ S.data.toList) := by
  refine decide_eq_decide.2 ((XatW.index_neg _ _).trans ?_)
  show S.data.toList.contains 0 = false ↔ _
  simp
theorem path_text {l : List UInt8} (h : textOk l = false) : pathOk l = false := by
  unfold textOk at h
  simp only [Bool.and_eq_false_iff, decide_eq_false_iff_not] at h
  unfold pathOk
  rcases h with (h | h) | h
  · have : l = [] := List.eq_nil_of_length_eq_zero (by omega)
    subst this; decide
  · rw [decide_eq_false h]; simp
  · rw [decide_eq_false h]; simp
theorem split47_any (s : ByteArray) (w : World) (hA : AmbB w) (hs : s.size < 4294967281) :
    Calls Tryz.prog 93 #[.string s, .string ⟨#[47]⟩] w fun e w' => (∃ v, e = .returned v ∧ At strE v (cutAt 47 s.data.toList) w') ∧ Below w.heap.size w w' := by
  obtain ⟨m, hm⟩ := hA.len
  refine (Tryz.strings_Split s ⟨#[47]⟩ m w hs hm (by decide)).mono fun _ _ ⟨he, hw⟩ => ?_
  have hd := Lib.splitB_data ⟨#[47]⟩ 0 (Lib.countB s ⟨#[47]⟩) s
  have hc : Lib.countB s ⟨#[47]⟩ = Lib.count s.data.toList [47] := rfl
  have hsp := lib_split 47 _ s.data.toList (Nat.le_refl _)
  rw [hc] at hd
  have hd2 : (Lib.splitB ⟨#[47]⟩ 0 (Lib.countB s ⟨#[47]⟩) s).map (·.data.toList) = cutAt 47 s.data.toList := by rw [hc, hd]; exact hsp
  have hlen := Lib.splitB_all ⟨#[47]⟩ (by decide) 0 _ s rfl
  generalize Lib.splitB ⟨#[47]⟩ 0 (Lib.countB s ⟨#[47]⟩) s = ps at hd2 hw hlen
  rw [← hlen] at he
  subst he hw
  refine ⟨⟨_, rfl, .inr ⟨w.heap.size, 0, ps.length, ?_, ?_, ?_, ?_⟩⟩, gr_alloc (Below.refl _ _) _⟩
  · rw [← hd2, List.length_map]
  · rw [← hd2, List.length_map]; exact Nat.le_refl _
  · simp
  · intro j hj i u hu
    have hi : i < 1 := (List.getElem?_eq_some_iff.1 hu).1
    obtain rfl : i = 0 := by omega
    cases hu
    have hj' : j < ps.length := by rw [← hd2, List.length_map] at hj; exact hj
    rw [show 0 + (j * strE.k + 0) = j by show 0 + (j * 1 + 0) = j; omega, World.cell?_alloc_new]
    have e : (cutAt 47 s.data.toList)[j] = ps[j].data.toList := by
      have := congrArg (fun q : List (List UInt8) => q[j]?) hd2
      simp only [List.getElem?_map, List.getElem?_eq_getElem hj', List.getElem?_eq_getElem hj, Option.map_some, Option.some.injEq] at this
      exact this.symm
    rw [e, strOf_self]
    simp [hj']

theorem empty_n (S : ByteArray) : S.toList.isEmpty = decide (S.size = 0) := by
  have e : S.toList = S.data.toList := Lib.toList_data S
  have h : S.data.toList.length = S.size := by simp
  rw [e, ← h]
  cases S.data.toList <;> simp
set_option maxRecDepth 100000 in
theorem mayTextE_any (S : ByteArray) (w : World) :
    Calls Tryz.prog 92 #[.string S] w fun e w' => e = .returned (.bool (textOk S.data.toList)) ∧ w' = w := by
  have hc := Lib.hid (fun w => XatW.indexByte_go S 0 w)
  have hx := text_index S
  unfold textOk
  rw [← hx]
  obtain ⟨I, hI⟩ : ∃ I, Lib.indexByte S.data.toList (0 : Int).toNat.toUInt8 = I := ⟨_, rfl⟩
  rw [hI] at hc ⊢
  clear hx hI
  have hln : S.data.toList.length = S.size := by simp
  rw [hln]
  clear hln
  have he := empty_n S
  by_cases h0 : S.size = 0
  · have h1 : S.toList.isEmpty = true := by rw [he]; exact decide_eq_true h0
    rw [decide_eq_false (show ¬ S.size ≠ 0 by omega)]
    simp only [Bool.false_and]
    clear he h0
    go_enter Tryz.func92, Tryz.ntmps92
    go_wp2_with fail
    go_ret
    exact ⟨rfl, rfl⟩
  · have h1 : S.toList.isEmpty = false := by rw [he]; exact decide_eq_false h0
    rw [decide_eq_true (show S.size ≠ 0 from h0)]
    simp only [Bool.true_and]
    clear he
    by_cases h2 : S.size ≤ 4096
    · have e2 : decide ((S.size : Int) ≤ 4096) = true := decide_eq_true (by omega)
      rw [decide_eq_true h2]
      simp only [Bool.true_and]
      clear h0 h2
      go_enter Tryz.func92, Tryz.ntmps92
      go_wp2_with fail
      refine (hc.out _).mono ?_
      rintro e w' ⟨rfl, rfl⟩
      go_wp2_with fail
      go_ret
      exact ⟨rfl, rfl⟩
    · have e2 : decide ((S.size : Int) ≤ 4096) = false := decide_eq_false (by omega)
      rw [decide_eq_false h2]
      simp only [Bool.false_and]
      clear h0 h2
      go_enter Tryz.func92, Tryz.ntmps92
      go_wp2_with fail
      go_ret
      exact ⟨rfl, rfl⟩
theorem name_parts (S : ByteArray) (hS : S.size ≠ 0) : nameOk S.data.toList = (decide (S.size ≤ 255) && (!(S.toList == [46])) && (!(S.toList == [46, 46]))) := by
  have e : ∀ X : ByteArray, X.toList = X.data.toList := fun X => Lib.toList_data X
  rw [e]
  show nameOk S.data.toList = (decide (S.size ≤ 255) && (!(S.data.toList == [46])) && (!(S.data.toList == [46, 46])))
  unfold nameOk
  have h : S.data.toList.length = S.size := by simp
  rw [h, decide_eq_true (show S.size ≠ 0 from hS)]
  generalize S.data.toList = l
  have hb : ∀ m : List UInt8, (!(l == m)) = decide (l ≠ m) := fun m => by
    by_cases hm : l = m
    · rw [hm]; simp
    · rw [decide_eq_true hm, show (l == m) = false from beq_eq_false_iff_ne.2 hm]; rfl
  rw [hb, hb]
  simp
set_option maxRecDepth 100000 in
theorem mayNameE_any (S : ByteArray) (w : World) :
    Calls Tryz.prog 94 #[.string S] w fun e w' => e = .returned (.bool (nameOk S.data.toList)) ∧ w' = w := by
  have he := empty_n S
  by_cases h0 : S.size = 0
  · have h1 : S.toList.isEmpty = true := by rw [he]; exact decide_eq_true h0
    have hn : nameOk S.data.toList = false := by
      unfold nameOk
      rw [decide_eq_false (show ¬ S.data.toList.length ≠ 0 by rw [list_sizeE]; omega)]
      rfl
    rw [hn]
    clear he h0 hn
    go_enter Tryz.func94, Tryz.ntmps94
    go_wp2_with fail
    go_ret
    exact ⟨rfl, rfl⟩
  · have h1 : S.toList.isEmpty = false := by rw [he]; exact decide_eq_false h0
    rw [name_parts S h0]
    clear he
    by_cases h2 : S.size ≤ 255
    · have e2 : decide ((S.size : Int) ≤ 255) = true := decide_eq_true (by omega)
      rw [decide_eq_true h2]
      simp only [Bool.true_and]
      clear h0 h2
      rcases e3 : (S.toList == [46]) with _ | _
      · simp only [Bool.not_false, Bool.true_and]
        rcases e4 : (S.toList == [46, 46]) with _ | _
        · go_enter Tryz.func94, Tryz.ntmps94
          go_wp2_with fail
          go_ret
          exact ⟨rfl, rfl⟩
        · go_enter Tryz.func94, Tryz.ntmps94
          go_wp2_with fail
          go_ret
          exact ⟨rfl, rfl⟩
      · go_enter Tryz.func94, Tryz.ntmps94
        go_wp2_with fail
        go_ret
        exact ⟨rfl, rfl⟩
    · have e2 : decide ((S.size : Int) ≤ 255) = false := decide_eq_false (by omega)
      rw [decide_eq_false h2]
      simp only [Bool.false_and]
      clear h0 h2
      go_enter Tryz.func94, Tryz.ntmps94
      go_wp2_with fail
      go_ret
      exact ⟨rfl, rfl⟩

theorem path_all {l : List UInt8} (h : textOk l = true) : pathOk l = (decide ((cutAt 47 l).length ≤ 64) && (cutAt 47 l).all nameOk) := by
  unfold textOk at h
  simp only [Bool.and_eq_true] at h
  unfold pathOk
  rw [h.1.2, h.2]
  simp
theorem all_drop {ps : List (List UInt8)} {i : Nat} (hi : i < ps.length) (h : ps.all nameOk = (ps.drop i).all nameOk) : ps.all nameOk = (nameOk ps[i] && (ps.drop (i + 1)).all nameOk) := by
  rw [h, drop_cons hi, List.all_cons]
set_option maxHeartbeats 1600000 in
set_option maxRecDepth 100000 in
theorem PathE_any (S : ByteArray) (hS : S.size ≤ 100000) (w : World) (hA : Amb w) :
    Calls Tryz.prog 28 #[.string S] w fun e w' => e = .returned (.bool (pathOk S.data.toList)) ∧ Below w.heap.size w w' := by
  have ht := Lib.hid (fun w => mayTextE_any S w)
  rcases hto : textOk S.data.toList with _ | _
  · rw [hto] at ht
    rw [path_text hto]
    clear hto
    go_enter Tryz.func28, Tryz.ntmps28
    go_wp2_with fail
    refine (ht.out _).mono ?_
    rintro e w' ⟨rfl, rfl⟩
    go_wp2_with fail
    go_ret
    exact ⟨rfl, Below.refl _ _⟩
  rw [hto] at ht
  rw [path_all hto]
  clear hto
  have hsp := Lib.hid (split47_any S w hA.b (by omega))
  have hne := cutAt_ne 47 S.data.toList
  have hsm := (cutAt_sum 47 S.data.toList).1
  rw [list_sizeE] at hsm
  generalize cutAt 47 S.data.toList = ps at *
  obtain ⟨z, hz⟩ : ∃ z, ps.length = z := ⟨_, rfl⟩
  rw [hz] at hsm ⊢
  have Hz := Lib.hid hz
  by_cases h64 : z ≤ 64
  · have e1 : ¬ (64 : Int) < (z : Int) := by omega
    have e2 : decide ((64 : Int) < (z : Int)) = false := decide_eq_false (by omega)
    have e3 : decide (64 < z) = false := decide_eq_false (by omega)
    rw [decide_eq_true h64]
    simp only [Bool.true_and]
    go_enter Tryz.func28, Tryz.ntmps28
    go_wp2_with fail
    refine (ht.out _).mono ?_
    rintro e w ⟨rfl, rfl⟩
    clear ht
    go_wp2_with fail
    refine (hsp.out).mono ?_
    rintro e w1 ⟨⟨v, rfl, hat⟩, hb1⟩
    obtain ⟨g, off, cap, rfl, hcap, hg, hcell⟩ := str_open hat hne
    rw [hz] at hcap
    have Hcell := Lib.hid hcell
    rw [hz]
    clear hcell hat hz hsp hne
    go_wp2_with fail
    go_loopw [16] (fun iv wr => ∃ i : Nat, iv = .int .i64 (i : Int) ∧ i ≤ z ∧ Below w.heap.size w wr ∧ Below w1.heap.size w1 wr ∧ Hid (ps.all nameOk = (ps.drop i).all nameOk)) (fun iv _ => z - (intOf iv).toNat)
    case atStart => exact ⟨0, rfl, by omega, hb1, Below.refl _ _, Lib.hid (by simp)⟩
    case round =>
      obtain ⟨i, rfl, hi, hbl, hbm, HR⟩ := hrel
      rename World => wr
      by_cases hlt : i < z
      · have hlt' : decide ((i : Int) < (z : Int)) = true := decide_eq_true (by omega)
        have hlt2 : decide (i < z) = true := decide_eq_true hlt
        have hi' : i < ps.length := by rw [Hz.out]; exact hlt
        have c0 := cell_kept hbm (Hcell.out i hi')
        have hn := Lib.hid (fun w => mayNameE_any (strOf ps[i]) w)
        have hq := all_drop hi' HR.out
        rw [strOf_list] at hn
        obtain ⟨X, hX⟩ : ∃ X, strOf ps[i] = X := ⟨_, rfl⟩
        rw [hX] at c0 hn
        have w3 : IntKind.i64.wrap ((i : Int) + 1) = (i : Int) + 1 := by rw [IntKind.wrap_i64]; omega
        rcases hb : nameOk ps[i] with _ | _
        · rw [hb] at hn hq
          have HQ := Lib.hid hq
          clear hq hb HR hX
          go_wp2_with fail
          refine (hn.out _).mono ?_
          rintro e w' ⟨rfl, rfl⟩
          go_wp2_with fail
          go_ret
          exact ⟨by rw [HQ.out]; rfl, hbl⟩
        · rw [hb] at hn hq
          have HQ := Lib.hid hq
          clear hq hb HR hX
          go_wp2_with fail
          refine (hn.out _).mono ?_
          rintro e w' ⟨rfl, rfl⟩
          go_wp2_with fail
          go_roundw
          case rel => exact ⟨i + 1, rfl, by omega, hbl, hbm, Lib.hid (by rw [HQ.out]; simp)⟩
          case measure => simp only [intOf]; omega
      · have hlt' : decide ((i : Int) < (z : Int)) = false := decide_eq_false (by omega)
        have hlt2 : decide (i < z) = false := decide_eq_false hlt
        have HE := Lib.hid (show ps.all nameOk = true by rw [HR.out, List.drop_eq_nil_of_le (by rw [Hz.out]; omega)]; rfl)
        clear HR
        go_wp2_with fail
        go_ret
        exact ⟨by rw [HE.out]; rfl, hbl⟩
  · have e1 : (64 : Int) < (z : Int) := by omega
    have e2 : decide ((64 : Int) < (z : Int)) = true := decide_eq_true (by omega)
    have e3 : decide (64 < z) = true := decide_eq_true (by omega)
    rw [decide_eq_false h64]
    simp only [Bool.false_and]
    go_enter Tryz.func28, Tryz.ntmps28
    go_wp2_with fail
    refine (ht.out _).mono ?_
    rintro e w ⟨rfl, rfl⟩
    clear ht
    go_wp2_with fail
    refine (hsp.out).mono ?_
    rintro e w1 ⟨⟨v, rfl, hat⟩, hb1⟩
    obtain ⟨g, off, cap, rfl, hcap, hg, hcell⟩ := str_open hat hne
    rw [hz] at hcap
    have Hcell := Lib.hid hcell
    rw [hz]
    clear hcell hat hz hsp hne
    go_wp2_with fail
    go_ret
    exact ⟨rfl, hb1⟩
end Go.Proofs.YtbhnhoenjoagbaaGreatDoor

/- Walks over package entry: the small checks. -/
namespace Go.Proofs.YtbhnhoenjoagbaaGreatDoor
open Go.RowKit
open MetaM PathM EntM
set_option linter.unusedVariables false

def entC (e : En) (va vd vx : Value) : Array Value := #[.string e.path, .int .i64 e.kind, .int .i64 e.m.mode, .int .i64 e.m.uid, .int .i64 e.m.gid, .int .i64 e.m.sec, .int .i64 e.m.nano, va, vd, vx, .int .i64 e.m.cap.v, .int .u64 (e.m.cap.p : Int), .int .u64 (e.m.cap.i : Int), .bool e.m.cap.e, .int .i64 e.m.cap.r, .int .i64 e.m.flags, .string e.data, .string e.target, .int .i64 e.major, .int .i64 e.minor]
theorem zero_at (w : World) : MetaAt zeroM nilV nilV nilV w := ⟨At.nil _, At.nil _, At.nil _, by simp [zeroM, plainM], by simp [zeroM, plainM], by simp [zeroM, plainM]⟩
theorem split_le {l p n : List UInt8} (h : HeadM.splitL l = some (p, n)) : p.length ≤ l.length ∧ n.length ≤ l.length := by
  unfold HeadM.splitL at h
  split at h
  · injection h with h; injection h with h1 h2; subst h1 h2; exact ⟨Nat.zero_le _, Nat.le_refl _⟩
  · split at h
    · cases h
    · simp only at h
      split at h
      · cases h
      · injection h with h; injection h with h1 h2; subst h1 h2
        exact ⟨by rw [List.length_take]; omega, by rw [List.length_drop]; omega⟩
theorem split_val (l : List UInt8) : ∃ p n : ByteArray, HeadM.splitV l = .tuple #[.string p, .string n, .bool (HeadM.splitL l).isSome] ∧ p.size ≤ l.length ∧ n.size ≤ l.length := by
  unfold HeadM.splitV
  rcases h : HeadM.splitL l with _ | ⟨p, n⟩
  · exact ⟨_, _, rfl, Nat.zero_le _, Nat.zero_le _⟩
  · have hl := split_le h
    exact ⟨strOf p, strOf n, rfl, Nat.le_trans (Nat.le_of_eq (strOf_size p)) hl.1, Nat.le_trans (Nat.le_of_eq (strOf_size n)) hl.2⟩
theorem longPath_any (S : ByteArray) (hS : S.size ≤ 8000) (w : World) :
    Calls Tryz.prog 60 #[.string S] w fun e w' => e = .returned (.bool (HeadM.splitL S.data.toList).isNone) ∧ Below w.heap.size w w' := by
  have hc := Lib.hid (HeadW.split_any S hS w)
  obtain ⟨p, n, hv, _, _⟩ := split_val S.data.toList
  have hL : HeadM.L S = S.data.toList := rfl
  rw [hL, hv] at hc
  have hb : (HeadM.splitL S.data.toList).isNone = !(HeadM.splitL S.data.toList).isSome := by cases HeadM.splitL S.data.toList <;> rfl
  rw [hb]
  generalize (HeadM.splitL S.data.toList).isSome = b at *
  clear hL hv hb
  go_enter Tryz.func60, Tryz.ntmps60
  go_wp2_with fail
  refine (hc.out).mono ?_
  rintro e w1 ⟨rfl, hb1⟩
  go_wp2_with fail
  go_ret
  exact ⟨rfl, hb1⟩
theorem longTarget_any (S : ByteArray) (w : World) :
    Calls Tryz.prog 61 #[.string S] w fun e w' => e = .returned (.bool (decide (100 < S.size))) ∧ w' = w := by
  have e : decide (100 < S.size) = decide ((100 : Int) < (S.size : Int)) := decide_eq_decide.2 (by omega)
  rw [e]
  go_enter Tryz.func61, Tryz.ntmps61
  go_wp2_with fail
  go_ret
  exact ⟨rfl, rfl⟩
theorem longId_any (n : Int) (w : World) :
    Calls Tryz.prog 64 #[.int .i64 n] w fun e w' => e = .returned (.bool (decide (2097151 < n))) ∧ w' = w := by
  go_enter Tryz.func64, Tryz.ntmps64
  go_wp2_with fail
  go_ret
  exact ⟨rfl, rfl⟩
theorem longTime_any (s n : Int) (w : World) :
    Calls Tryz.prog 66 #[.agg #[.int .i64 s, .int .i64 n]] w fun e w' => e = .returned (.bool (longS s n)) ∧ Below w.heap.size w w' := by
  have HL := Lib.hid (show longS s n = ((!(n == 0)) || decide (s < 0) || decide (8589934591 < s)) by
    have e0 : decide (n ≠ 0) = !(n == 0) := by by_cases h : n = 0 <;> simp [h]
    have e2 : decide (8589934592 ≤ s) = decide (8589934591 < s) := decide_eq_decide.2 (by omega)
    unfold longS
    rw [e0, e2])
  generalize longS s n = r at HL ⊢
  go_enter Tryz.func66, Tryz.ntmps66
  go_wp2_with fail
  all_goals (go_ret; refine ⟨ret_bool ?_, gr_alloc (Below.refl _ _) _⟩; rw [HL.out]; simp [*])
theorem isDevice_any (k : Int) (w : World) :
    Calls Tryz.prog 117 #[.int .i64 k] w fun e w' => e = .returned (.bool (dev k)) ∧ w' = w := by
  have e0 : dev k = ((k == 4) || (k == 5)) := rfl
  rw [e0]
  rcases h0 : (k == 4) with _ | _
  · go_enter Tryz.func117, Tryz.ntmps117
    go_wp2_with fail
    go_ret
    exact ⟨rfl, rfl⟩
  · go_enter Tryz.func117, Tryz.ntmps117
    go_wp2_with fail
    go_ret
    exact ⟨rfl, rfl⟩
theorem mayNumber_any (n : Int) (w : World) :
    Calls Tryz.prog 118 #[.int .i64 n] w fun e w' => e = .returned (.bool (numOk n)) ∧ w' = w := by
  unfold numOk
  rcases h0 : decide (0 ≤ n) with _ | _
  · go_enter Tryz.func118, Tryz.ntmps118
    go_wp2_with fail
    go_ret
    exact ⟨rfl, rfl⟩
  · go_enter Tryz.func118, Tryz.ntmps118
    go_wp2_with fail
    go_ret
    exact ⟨rfl, rfl⟩
theorem start_any (S : ByteArray) (w : World) :
    Calls Tryz.prog 84 #[.string S] w fun e w' => e = .returned (.string (firstB S 100)) ∧ w' = w := by
  have hf : firstB S 100 = S.extract 0 (min S.size 100) := by
    unfold firstB
    rw [← strOf_self (S.extract 0 (min S.size 100)), ByteArray.data_extract, Array.toList_extract, List.extract, List.drop_zero, Nat.sub_zero]
    congr 1
    rw [← list_sizeE S, List.take_eq_take_iff]
    omega
  rw [hf]
  clear hf
  by_cases h : S.size ≤ 100
  · have e1 : ((S.size : Int) ≤ 100) := by omega
    have e2 : min (S.size : Int) 100 = (S.size : Int) := by omega
    rw [Nat.min_eq_left h, show S.extract 0 S.size = S from by simp]
    clear h
    go_enter Tryz.func84, Tryz.ntmps84
    go_wp2_with fail
    all_goals (go_ret; exact ⟨rfl, rfl⟩)
  · have e1 : ¬ ((S.size : Int) ≤ 100) := by omega
    have e2 : min (S.size : Int) 100 = 100 := by omega
    have e3 : 100 ≤ S.size := by omega
    rw [Nat.min_eq_right e3]
    clear h
    go_enter Tryz.func84, Tryz.ntmps84
    go_wp2_with fail
    all_goals (go_ret; exact ⟨rfl, rfl⟩)
def EntM.targetOkG (e : En) : Bool := if e.kind = 2 then pathOk e.target.data.toList else if e.kind = 3 then textOk e.target.data.toList else decide (e.target.size = 0)
theorem targetOk_eq (e : En) : targetOk e = targetOkG e := by
  unfold targetOk targetOkG textOk
  have h : e.target.data.toList.length = e.target.size := list_sizeE _
  rw [h]
  have h1 : decide (1 ≤ e.target.size) = decide (e.target.size ≠ 0) := decide_eq_decide.2 (by omega)
  rw [h1]
theorem MetaAt.below {m : Mt} {va vd vx : Value} {w w1 : World} (h : MetaAt m va vd vx w) (hb : Below w.heap.size w w1) : MetaAt m va vd vx w1 := h.call hb
theorem box_blk (e : En) (va vd vx : Value) (w : World) : BlkIs (w.alloc (.cells (entC e va vd vx) 39)) w.heap.size 39 (entC e va vd vx) := BlkIs.made _ _ _

set_option maxRecDepth 100000 in
theorem mayTarget_any (e : En) (va vd vx : Value) (hT : e.target.size ≤ 100000) (w : World) (hA : Amb w) :
    Calls Tryz.prog 49 #[.agg (entC e va vd vx)] w fun r w' => r = .returned (.bool (targetOkG e)) ∧ Below w.heap.size w w' := by
  have H1 := Lib.hid (fun W (hb : Below w.heap.size w W) => PathE_any e.target hT W (hA.on hb))
  have H2 := Lib.hid (fun W => mayTextE_any e.target W)
  have he := empty_n e.target
  have HG := Lib.hid (show targetOkG e = if e.kind = 2 then pathOk e.target.data.toList else if e.kind = 3 then textOk e.target.data.toList else decide (e.target.size = 0) from rfl)
  rw [← he] at HG
  generalize targetOkG e = r at *
  generalize pathOk e.target.data.toList = b1 at *
  generalize textOk e.target.data.toList = b2 at *
  obtain ⟨P, k, m, D, T, mj, mn⟩ := e
  simp only at HG H1 H2 hT he
  unfold entC
  simp only
  clear he hT hA
  have hbl : ∀ C, Below w.heap.size w (w.alloc (.cells C 39)) := fun C => gr_alloc (Below.refl _ _) _
  by_cases h2 : k = 2
  · have HF := Lib.hid (show r = b1 by rw [HG.out, if_pos h2])
    have y2 : (k == 2) = true := by rw [h2]; rfl
    clear HG h2 H2
    go_enter Tryz.func49, Tryz.ntmps49
    go_wp2_with fail
    refine (H1.out _ (hbl _)).mono ?_
    rintro e w1 ⟨rfl, hb1⟩
    replace hbl := gr_call (hbl _) hb1
    go_wp2_with fail
    go_ret
    exact ⟨by rw [HF.out]; rfl, hbl⟩
  · have y2 : (k == 2) = false := beq_eq_false_iff_ne.2 h2
    by_cases h3 : k = 3
    · have HF := Lib.hid (show r = b2 by rw [HG.out, if_neg h2, if_pos h3])
      have y3 : (k == 3) = true := by rw [h3]; rfl
      clear HG h2 H1 h3
      go_enter Tryz.func49, Tryz.ntmps49
      go_wp2_with fail
      refine (H2.out _).mono ?_
      rintro e w1 ⟨rfl, rfl⟩
      go_wp2_with fail
      go_ret
      exact ⟨by rw [HF.out]; rfl, hbl _⟩
    · have HF := Lib.hid (show r = T.toList.isEmpty by rw [HG.out, if_neg h2, if_neg h3])
      have y3 : (k == 3) = false := beq_eq_false_iff_ne.2 h3
      clear HG h2 H1 h3 H2
      go_enter Tryz.func49, Tryz.ntmps49
      go_wp2_with fail
      go_ret
      exact ⟨by rw [HF.out]; rfl, hbl _⟩

set_option maxRecDepth 100000 in
theorem mayData_any (e : En) (va vd vx : Value) (w : World) :
    Calls Tryz.prog 51 #[.agg (entC e va vd vx)] w fun r w' => r = .returned (.bool (decide (e.data.size = 0) || (decide (e.kind = 1) && decide (e.data.size ≤ 65536)))) ∧ Below w.heap.size w w' := by
  have he := empty_n e.data
  have hk : decide (e.kind = 1) = (e.kind == 1) := by rw [Bool.eq_iff_iff]; simp
  have hs : decide (e.data.size ≤ 65536) = decide ((e.data.size : Int) ≤ 65536) := decide_eq_decide.2 (by omega)
  rw [← he, hk, hs]
  obtain ⟨P, k, m, D, T, mj, mn⟩ := e
  unfold entC
  simp only
  clear he hk hs
  have hbl : ∀ C, Below w.heap.size w (w.alloc (.cells C 39)) := fun C => gr_alloc (Below.refl _ _) _
  rcases h1 : D.toList.isEmpty with _ | _
  · rcases h2 : (k == 1) with _ | _
    · go_enter Tryz.func51, Tryz.ntmps51
      go_wp2_with fail
      go_ret
      exact ⟨rfl, hbl _⟩
    · go_enter Tryz.func51, Tryz.ntmps51
      go_wp2_with fail
      go_ret
      exact ⟨rfl, hbl _⟩
  · go_enter Tryz.func51, Tryz.ntmps51
    go_wp2_with fail
    go_ret
    exact ⟨rfl, hbl _⟩

set_option maxRecDepth 100000 in
theorem mayDevice_any (e : En) (va vd vx : Value) (w : World) :
    Calls Tryz.prog 52 #[.agg (entC e va vd vx)] w fun r w' => r = .returned (.bool (if dev e.kind then numOk e.major && numOk e.minor else decide (e.major = 0) && decide (e.minor = 0))) ∧ Below w.heap.size w w' := by
  have HD := Lib.hid (fun W => isDevice_any e.kind W)
  have H1 := Lib.hid (fun W => mayNumber_any e.major W)
  have H2 := Lib.hid (fun W => mayNumber_any e.minor W)
  have k1 : decide (e.major = 0) = (e.major == 0) := by rw [Bool.eq_iff_iff]; simp
  have k2 : decide (e.minor = 0) = (e.minor == 0) := by rw [Bool.eq_iff_iff]; simp
  rw [k1, k2]
  generalize dev e.kind = bd at *
  generalize numOk e.major = b1 at *
  generalize numOk e.minor = b2 at *
  obtain ⟨P, k, m, D, T, mj, mn⟩ := e
  unfold entC
  simp only at HD H1 H2 ⊢
  clear k1 k2
  have hbl : ∀ C, Below w.heap.size w (w.alloc (.cells C 39)) := fun C => gr_alloc (Below.refl _ _) _
  cases bd with
  | false =>
    rcases h1 : (mj == 0) with _ | _
    · go_enter Tryz.func52, Tryz.ntmps52
      go_wp2_with fail
      refine (HD.out _).mono ?_
      rintro e w1 ⟨rfl, rfl⟩
      go_wp2_with fail
      go_ret
      exact ⟨rfl, hbl _⟩
    · go_enter Tryz.func52, Tryz.ntmps52
      go_wp2_with fail
      refine (HD.out _).mono ?_
      rintro e w1 ⟨rfl, rfl⟩
      go_wp2_with fail
      go_ret
      exact ⟨rfl, hbl _⟩
  | true =>
    cases b1 with
    | false =>
      go_enter Tryz.func52, Tryz.ntmps52
      go_wp2_with fail
      refine (HD.out _).mono ?_
      rintro e w1 ⟨rfl, rfl⟩
      go_wp2_with fail
      refine (H1.out _).mono ?_
      rintro e w1 ⟨rfl, rfl⟩
      go_wp2_with fail
      go_ret
      exact ⟨rfl, hbl _⟩
    | true =>
      go_enter Tryz.func52, Tryz.ntmps52
      go_wp2_with fail
      refine (HD.out _).mono ?_
      rintro e w1 ⟨rfl, rfl⟩
      go_wp2_with fail
      refine (H1.out _).mono ?_
      rintro e w1 ⟨rfl, rfl⟩
      go_wp2_with fail
      refine (H2.out _).mono ?_
      rintro e w1 ⟨rfl, rfl⟩
      go_wp2_with fail
      go_ret
      exact ⟨rfl, hbl _⟩

set_option maxRecDepth 100000 in
theorem mayMeta_any (e : En) (va vd vx : Value) (w : World) (hm : MetaAt e.m va vd vx w) :
    Calls Tryz.prog 50 #[.agg (entC e va vd vx)] w fun r w' => r = .returned (.bool (metaOk e)) ∧ Below w.heap.size w w' := by
  have H1 := Lib.hid (fun W (hb : Below w.heap.size w W) => SameM_any e.m zeroM va vd vx nilV nilV nilV W (hm.call hb) (zero_at W))
  have H2 := Lib.hid (fun W (hb : Below w.heap.size w W) => MayM_any e.m va vd vx e.kind W (hm.call hb))
  have HG := Lib.hid (show metaOk e = if e.kind = 2 then sameM e.m zeroM else mayM e.m e.kind from rfl)
  generalize metaOk e = r at *
  generalize sameM e.m zeroM = b1 at *
  generalize mayM e.m e.kind = b2 at *
  obtain ⟨P, k, m, D, T, mj, mn⟩ := e
  simp only at HG H1 H2
  unfold metaC at H1 H2
  unfold entC
  simp only
  clear hm
  have hbl : ∀ C, Below w.heap.size w (w.alloc (.cells C 39)) := fun C => gr_alloc (Below.refl _ _) _
  by_cases h2 : k = 2
  · have HF := Lib.hid (show r = b1 by rw [HG.out, if_pos h2])
    have y2 : (k == 2) = true := by rw [h2]; rfl
    clear HG h2 H2
    go_enter Tryz.func50, Tryz.ntmps50
    go_wp2_with fail
    refine (H1.out _ (hbl _)).mono ?_
    rintro e w1 ⟨rfl, hb1⟩
    replace hbl := gr_call (hbl _) hb1
    go_wp2_with fail
    go_ret
    exact ⟨by rw [HF.out]; rfl, hbl⟩
  · have y2 : (k == 2) = false := beq_eq_false_iff_ne.2 h2
    have HF := Lib.hid (show r = b2 by rw [HG.out, if_neg h2])
    clear HG h2 H1
    go_enter Tryz.func50, Tryz.ntmps50
    go_wp2_with fail
    refine (H2.out _ (hbl _)).mono ?_
    rintro e w1 ⟨rfl, hb1⟩
    replace hbl := gr_call (hbl _) hb1
    go_wp2_with fail
    go_ret
    exact ⟨by rw [HF.out]; rfl, hbl⟩
end Go.Proofs.YtbhnhoenjoagbaaGreatDoor

/- A struct of many cells loaded at once. -/
namespace Go.Proofs.YtbhnhoenjoagbaaGreatDoor
open Go.RowKit

theorem wp_loadB {o : Oper} {a : Act} {w : World} {K : Act → World → Prop} {Q : Exit → Act → World → Prop} (ty : TypeId) (x : Operand) (ho : o.op = .load ty x)
    (g : Nat) (hx : a.eval x = .pointer (some ⟨g, 0, none⟩)) (t : TypeId) (cs : Array Value) (hg : BlkIs w g t cs)
    (hu : (match Tryz.prog.underlying ty with | some (.struct _) => true | _ => false) = true) (hi : (Tryz.prog.info? ty).map (·.size) = some cs.size)
    (h : K (a.put o.dst (.agg cs)) w) : o.wp Tryz.prog a w K Q := by
  rcases hd : Tryz.prog.underlying ty with _ | d
  · rw [hd] at hu; cases hu
  · rw [hd] at hu
    cases d <;> first | (cases hu; done) | exact wp_load_row ty x ho g hx t cs (0, 0) _ hg hd rfl hi h
theorem wpList_loadB {ops : Array Oper} {rest : List Oper} {o : Oper} {a : Act} {w : World} {Q : Exit → Act → World → Prop} (hw : Region.wanted o (yielded ops a.tmps) = true) (ty : TypeId) (x : Operand) (ho : o.op = .load ty x)
    (g : Nat) (hx : a.eval x = .pointer (some ⟨g, 0, none⟩)) (t : TypeId) (cs : Array Value) (hg : BlkIs w g t cs)
    (hu : (match Tryz.prog.underlying ty with | some (.struct _) => true | _ => false) = true) (hi : (Tryz.prog.info? ty).map (·.size) = some cs.size)
    (h : wpList Tryz.prog ops Q rest (a.put o.dst (.agg cs)) w) : wpList Tryz.prog ops Q (o :: rest) a w := by
  unfold wpList
  rw [if_pos hw]
  exact .inl (wp_loadB ty x ho g hx t cs hg hu hi h)
theorem wp_storeN {o : Oper} {a : Act} {w : World} {K : Act → World → Prop} {Q : Exit → Act → World → Prop} (ty : TypeId) (x y : Operand) (ho : o.op = .store ty x y)
    (c c' : Array Value) (hx : a.eval x = .pointer (some ⟨w.heap.size, 0, none⟩)) (hy : a.eval y = .agg c')
    (hi : (Tryz.prog.info? ty).map (·.size) = some c'.size) (hc : c.size = c'.size) (h1 : c'.all (·.oneCell') = true)
    (h : K (a.put o.dst undef) (w.alloc (.cells c' ty))) : o.wp Tryz.prog a (w.alloc (.cells c ty)) K Q := by
  unfold Oper.wp execOp
  simp only [ho, hx, hy, Instr.storeAt, Instr.sureAddr, Sem.run_bind, Sem.run_pure, Result.andThen_ok, run_storeVar_new w ty c c' hi hc h1]
  exact h
theorem wpList_storeN {ops : Array Oper} {rest : List Oper} {o : Oper} {a : Act} {w : World} {Q : Exit → Act → World → Prop} (hgd : o.guard = none) (ty : TypeId) (x y : Operand) (ho : o.op = .store ty x y)
    (c c' : Array Value) (hx : a.eval x = .pointer (some ⟨w.heap.size, 0, none⟩)) (hy : a.eval y = .agg c')
    (hi : (Tryz.prog.info? ty).map (·.size) = some c'.size) (hc : c.size = c'.size) (h1 : c'.all (·.oneCell') = true)
    (h : wpList Tryz.prog ops Q rest (a.put o.dst undef) (w.alloc (.cells c' ty))) : wpList Tryz.prog ops Q (o :: rest) a (w.alloc (.cells c ty)) :=
  wpList_plain hgd fun _ hK => wp_storeN ty x y ho c c' hx hy hi hc h1 (hK _ _ h)
end Go.Proofs.YtbhnhoenjoagbaaGreatDoor
