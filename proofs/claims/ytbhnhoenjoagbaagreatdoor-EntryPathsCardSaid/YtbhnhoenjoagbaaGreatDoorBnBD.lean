/- Bundle of 4 texts. -/
import Derived.Test.YtbhnhoenjoagbaaGreatDoorBnAM
import Derived.Test.YtbhnhoenjoagbaaGreatDoorBnBB
import Derived.Test.YtbhnhoenjoagbaaGreatDoorStpMath
import Derived.Test.YtbhnhoenjoagbaaGreatDoorBnAJ
import Derived.Test.YtbhnhoenjoagbaaGreatDoorBnAR
import Derived.Test.YtbhnhoenjoagbaaGreatDoorBnAH
import Derived.Test.YtbhnhoenjoagbaaGreatDoorBnAF
import Derived.Test.YtbhnhoenjoagbaaGreatDoorSixMath
import Derived.Test.YtbhnhoenjoagbaaGreatDoorBnAH
import Derived.Test.YtbhnhoenjoagbaaGreatDoorBnAJ
import Derived.Test.YtbhnhoenjoagbaaGreatDoorBnAR
import Derived.Test.YtbhnhoenjoagbaaGreatDoorBnAR
import Derived.Test.YtbhnhoenjoagbaaGreatDoorBnAV
import Derived.Test.YtbhnhoenjoagbaaGreatDoorBnAC
/- Paths, as plain mathematics: names with a stroke between. -/
namespace Go.Proofs.YtbhnhoenjoagbaaGreatDoor.PathM
open AclM

def nameOk (s : List UInt8) : Bool := decide (s.length ≠ 0) && decide (s.length ≤ 255) && decide (s ≠ [46]) && decide (s ≠ [46, 46])
def pathOk (s : List UInt8) : Bool := decide (s.length ≤ 4096) && decide ((0 : UInt8) ∉ s) && decide ((cutAt 47 s).length ≤ 64) && (cutAt 47 s).all nameOk
theorem cut_app (b : List UInt8) : ∀ a : List UInt8, cutAt 47 (a ++ 47 :: b) = cutAt 47 a ++ cutAt 47 b
  | [] => by simp [cutAt]
  | x :: r => by
    rw [List.cons_append, cutAt_cons, cutAt_cons (r := r), cut_app b r]
    by_cases hx : x = 47
    · rw [if_pos hx, if_pos hx]; rfl
    · rw [if_neg hx, if_neg hx]
      rcases hc : cutAt 47 r with _ | ⟨p, ps⟩
      · exact absurd hc (cutAt_ne _ _)
      · rfl
/-- A path by so many numbers. -/
structure PG (s : List UInt8) (n : Nat) : Prop where
  len : s.length ≤ 1 + 80 * n
  zero : (0 : UInt8) ∉ s
  parts : (cutAt 47 s).length = n + 1
  ok : (cutAt 47 s).all nameOk = true
/-- A name that a number makes. -/
structure NG (x : List UInt8) : Prop where
  len : x.length ≤ 70
  zero : (0 : UInt8) ∉ x
  stroke : (47 : UInt8) ∉ x
  ok : nameOk x = true
theorem PG.start : PG [112] 0 := ⟨by decide, by decide, by decide, by decide⟩
theorem PG.more {s x : List UInt8} {n : Nat} (h : PG s n) (hx : NG x) : PG (s ++ 47 :: x) (n + 1) := by
  refine ⟨?_, ?_, ?_, ?_⟩
  · have := h.len; have := hx.len; simp; omega
  · intro hm
    simp only [List.mem_append, List.mem_cons] at hm
    rcases hm with hm | hm | hm
    · exact h.zero hm
    · exact absurd hm (by decide)
    · exact hx.zero hm
  · rw [cut_app, List.length_append, h.parts, cutAt_none hx.stroke]; rfl
  · rw [cut_app, List.all_append, h.ok, cutAt_none hx.stroke]
    simp [hx.ok]
theorem pathOk_of {s : List UInt8} (h1 : s.length ≤ 4096) (h2 : (0 : UInt8) ∉ s) (h3 : (cutAt 47 s).length ≤ 64) : pathOk s = (cutAt 47 s).all nameOk := by
  unfold pathOk
  rw [decide_eq_true h1, decide_eq_true h2, decide_eq_true h3]
  simp
theorem PG.path {s : List UInt8} {n : Nat} (h : PG s n) (hn : n ≤ 8) : pathOk s = true := by
  rw [pathOk_of (by have := h.len; omega) h.zero (by have := h.parts; omega), h.ok]
theorem path_zero {s : List UInt8} (h : (0 : UInt8) ∈ s) : pathOk s = false := by
  unfold pathOk
  rw [decide_eq_false (show ¬ ((0 : UInt8) ∉ s) from fun hn => hn h)]
  simp
theorem path_behind {s x : List UInt8} {n : Nat} (h : PG s n) (hn : n ≤ 8) (hl : x.length ≤ 300) (h0 : (0 : UInt8) ∉ x) (hp : (cutAt 47 x).length ≤ 4) : pathOk (s ++ 47 :: x) = (cutAt 47 x).all nameOk := by
  rw [pathOk_of]
  · rw [cut_app, List.all_append, h.ok, Bool.true_and]
  · have := h.len; simp; omega
  · intro hm
    simp only [List.mem_append, List.mem_cons] at hm
    rcases hm with hm | hm | hm
    · exact h.zero hm
    · exact absurd hm (by decide)
    · exact h0 hm
  · rw [cut_app, List.length_append, h.parts]; omega
theorem path_ahead {s x : List UInt8} {n : Nat} (h : PG s n) (hn : n ≤ 8) (hl : x.length ≤ 300) (h0 : (0 : UInt8) ∉ x) (hp : (cutAt 47 x).length ≤ 4) : pathOk (x ++ 47 :: s) = (cutAt 47 x).all nameOk := by
  rw [pathOk_of]
  · rw [cut_app, List.all_append, h.ok, Bool.and_true]
  · have := h.len; simp; omega
  · intro hm
    simp only [List.mem_append, List.mem_cons] at hm
    rcases hm with hm | hm | hm
    · exact h0 hm
    · exact absurd hm (by decide)
    · exact h.zero hm
  · rw [cut_app, List.length_append, h.parts]; omega
/-- So many names of one letter. -/
def manyL : Nat → List UInt8
  | 0 => [97]
  | k + 1 => manyL k ++ [47, 97]
theorem many_len : ∀ k, (manyL k).length = 1 + 2 * k
  | 0 => rfl
  | k + 1 => by rw [manyL, List.length_append, many_len k]; simp; omega
theorem many_zero : ∀ k, (0 : UInt8) ∉ manyL k
  | 0 => by decide
  | k + 1 => by
    rw [manyL]
    intro hm
    rcases List.mem_append.1 hm with hm | hm
    · exact many_zero k hm
    · exact absurd hm (by decide)
theorem many_cut : ∀ k, cutAt 47 (manyL k) = List.replicate (k + 1) [97]
  | 0 => by decide
  | k + 1 => by
    rw [manyL, show manyL k ++ [47, 97] = manyL k ++ 47 :: [97] from rfl, cut_app, many_cut k]
    rw [show cutAt 47 [97] = [[97]] by decide, ← List.replicate_succ']
theorem many_path (k : Nat) (hk : k ≤ 1000) : pathOk (manyL k) = decide (k + 1 ≤ 64) := by
  unfold pathOk
  rw [decide_eq_true (show (manyL k).length ≤ 4096 by rw [many_len]; omega), decide_eq_true (many_zero k), many_cut, List.length_replicate]
  have h : (List.replicate (k + 1) ([97] : List UInt8)).all nameOk = true := by
    rw [List.all_eq_true]
    intro x hx
    rw [List.eq_of_mem_replicate hx]
    decide
  rw [h]
  simp
end Go.Proofs.YtbhnhoenjoagbaaGreatDoor.PathM

/- Entries, as plain mathematics: their records, their header, which may be. -/
namespace Go.Proofs.YtbhnhoenjoagbaaGreatDoor
open Go.RowKit
open MetaM PathM
set_option linter.unusedVariables false
namespace EntM

structure En where
  path : ByteArray
  kind : Int
  m : Mt
  data : ByteArray
  target : ByteArray
  major : Int
  minor : Int
def zeroM : Mt := plainM 0 0 0
def kPath : List UInt8 := [112, 97, 116, 104]
def kLink : List UInt8 := [108, 105, 110, 107, 112, 97, 116, 104]
def kUid : List UInt8 := [117, 105, 100]
def kGid : List UInt8 := [103, 105, 100]
def kTime : List UInt8 := [109, 116, 105, 109, 101]
def kAcl : List UInt8 := "SCHILY.acl.access".toUTF8.data.toList
def kDfl : List UInt8 := "SCHILY.acl.default".toUTF8.data.toList
def kFlags : List UInt8 := "SCHILY.fflags".toUTF8.data.toList
def kCaps : List UInt8 := "GRIPSACK.caps".toUTF8.data.toList
def kSet : List UInt8 := "hdrcharset".toUTF8.data.toList
def vSet : List UInt8 := "BINARY".toUTF8.data.toList
def validU (l : List UInt8) : Bool := (TextW.TextM.rd l).2.2
abbrev Rc := List UInt8 × List UInt8
def longP (e : En) : Bool := (HeadM.splitL e.path.data.toList).isNone
def longT (e : En) : Bool := decide (100 < e.target.size)
def longS (s n : Int) : Bool := decide (n ≠ 0) || decide (s < 0) || decide (8589934592 ≤ s)
def one (b : Bool) (k v : List UInt8) : List Rc := if b then [(k, v)] else []
/-- The records of an entry, in their order. -/
def recsE (e : En) : List Rc :=
  one ((longP e && !validU e.path.data.toList) || (longT e && !validU e.target.data.toList)) kSet vSet ++
  (one (longP e) kPath e.path.data.toList ++ (one (longT e) kLink e.target.data.toList ++
  (one (decide (2097151 < e.m.uid)) kUid (Lib.itoa e.m.uid) ++ (one (decide (2097151 < e.m.gid)) kGid (Lib.itoa e.m.gid) ++
  (one (longS e.m.sec e.m.nano) kTime (StampW.StampM.textF e.m.sec e.m.nano) ++
  (one (decide (e.m.acl ≠ [])) kAcl (AclM.textL e.m.acl) ++ (one (decide (e.m.dfl ≠ [])) kDfl (AclM.textL e.m.dfl) ++
  (one (decide (e.m.flags ≠ 0)) kFlags (FlagsW.FlagsM.textI e.m.flags) ++ (one (decide (e.m.cap.v ≠ 0)) kCaps (SixM.p3 (CapsM.putL e.m.cap)) ++
  XatM.recsL e.m.xat)))))))))
def recsOk (l : List Rc) : Bool := l.all (fun r => RecW.RecM.mayB r.1 r.2) && decide ((RecW.RecM.joinF l).length ≤ 65536)
def dev (k : Int) : Bool := decide (k = 4) || decide (k = 5)
def numOk (n : Int) : Bool := decide (0 ≤ n) && decide (n ≤ 2097151)
def bodyOk (e : En) : Bool :=
  decide (e.data.size ≤ 65536) && (decide (e.kind = 1) || decide (e.data.size = 0)) && (numOk e.major && numOk e.minor) && (dev e.kind || (decide (e.major = 0) && decide (e.minor = 0)))
def targetOk (e : En) : Bool :=
  if e.kind = 2 then pathOk e.target.data.toList
  else if e.kind = 3 then decide (1 ≤ e.target.size) && decide (e.target.size ≤ 4096) && decide ((0 : UInt8) ∉ e.target.data.toList)
  else decide (e.target.size = 0)
def metaOk (e : En) : Bool := if e.kind = 2 then sameM e.m zeroM else mayM e.m e.kind
def mayE (e : En) : Bool := pathOk e.path.data.toList && (decide (1 ≤ e.kind) && decide (e.kind ≤ 7)) && metaOk e && bodyOk e && targetOk e && recsOk (recsE e)
def sameE (a b : En) : Bool :=
  decide (a.path = b.path) && decide (a.kind = b.kind) && sameM a.m b.m && decide (a.data = b.data) && decide (a.target = b.target) && decide (a.major = b.major) && decide (a.minor = b.minor)
def firstB (s : ByteArray) (n : Nat) : ByteArray := strOf (s.data.toList.take n)
/-- The header of an entry. -/
def headE (e : En) : HeadM.Hd where
  name := match HeadM.splitL e.path.data.toList with | some (_, n) => strOf n | none => firstB e.path 100
  mode := e.m.mode
  uid := if 2097151 < e.m.uid then 0 else e.m.uid
  gid := if 2097151 < e.m.gid then 0 else e.m.gid
  size := (e.data.size : Int)
  mtime := if longS e.m.sec e.m.nano then 0 else e.m.sec
  typ := UInt8.ofNat (47 + e.kind.toNat)
  link := firstB e.target 100
  uname := ⟨#[]⟩
  gname := ⟨#[]⟩
  major := e.major
  minor := e.minor
  pre := match HeadM.splitL e.path.data.toList with | some (p, _) => strOf p | none => ⟨#[]⟩

/-- A record of a known key whose value is not long. -/
theorem one_ok {b : Bool} {k v : List UInt8} (h : b = true → RecW.RecM.keyB k = true ∧ v.length ≤ 1000) : ∀ r ∈ one b k v, RecW.RecM.mayB r.1 r.2 = true ∧ (RecW.RecM.putF r.1 r.2).length ≤ 1300 := by
  intro r hr
  unfold one at hr
  cases b with
  | false => simp at hr
  | true =>
    simp only [if_true, List.mem_singleton] at hr
    subst hr
    obtain ⟨h1, h2⟩ := h rfl
    have h3 : k.length ≤ 255 := by unfold RecW.RecM.keyB at h1; simp only [Bool.and_eq_true, decide_eq_true_eq] at h1; exact h1.1.1.2
    have h4 := (RecW.RecM.lenF_bounds (3 + k.length + v.length)).2
    have hm : RecW.RecM.mayB k v = true := by unfold RecW.RecM.mayB; rw [h1, decide_eq_true (by omega)]; rfl
    refine ⟨hm, ?_⟩
    rw [RecW.RecM.put_may hm, RecW.RecM.enc_length _ _ (by omega)]
    omega
theorem one_len (b : Bool) (k v : List UInt8) : (one b k v).length ≤ 1 := by cases b <;> simp [one]
theorem join_len {l : List Rc} {c : Nat} (h : ∀ r ∈ l, (RecW.RecM.putF r.1 r.2).length ≤ c) : (RecW.RecM.joinF l).length ≤ c * l.length := by
  induction l with
  | nil => simp [RecW.RecM.joinF]
  | cons r t ih =>
    have h1 := h r (by simp)
    have h2 := ih (fun x hx => h x (by simp [hx]))
    have e : RecW.RecM.joinF (r :: t) = RecW.RecM.putF r.1 r.2 ++ RecW.RecM.joinF t := by simp [RecW.RecM.joinF]
    rw [e, List.length_append, List.length_cons, Nat.mul_add, Nat.mul_one]
    omega
end EntM
end Go.Proofs.YtbhnhoenjoagbaaGreatDoor

/- What the walks from stage 15 on lean on in memory. -/
namespace Go.Proofs.YtbhnhoenjoagbaaGreatDoor
open Go.RowKit

structure Amb (w : World) : Prop where
  b : AmbB w
  tx : TextW.Amb w
  fl : FlagsW.Amb w
theorem Amb.on {w w' : World} (h : Amb w) (hb : Below w.heap.size w w') : Amb w' := ⟨h.b.on hb, h.tx.on hb, h.fl.on hb⟩
/-- Where numbers are read out of texts, too. -/
structure AmbO (w : World) : Prop where
  a : Amb w
  f : AmbF w
theorem AmbO.on {w w' : World} (h : AmbO w) (hb : Below w.heap.size w w') : AmbO w' := ⟨h.a.on hb, h.f.on hb⟩
end Go.Proofs.YtbhnhoenjoagbaaGreatDoor

/- Walks over package entry: names and paths. -/
namespace Go.Proofs.YtbhnhoenjoagbaaGreatDoor
open Go.RowKit
open PathM AclM AclW
set_option linter.unusedVariables false

theorem list_sizeE (S : ByteArray) : S.data.toList.length = S.size := by simp

/-- A text that may stand for a place. -/
def PathM.textOk (l : List UInt8) : Bool := decide (l.length ≠ 0) && decide (l.length ≤ 4096) && decide ((0 : UInt8) ∉ l)
theorem text_index (S : ByteArray) : decide (Lib.indexByte S.data.toList (0 : Int).toNat.toUInt8 < 0) = decide ((0 : UInt8) ∉ S.data.toList) := by
  refine decide_eq_decide.2 ((XatW.index_neg _ _).trans ?_)
  show S.data.toList.contains 0 = false ↔ _
  simp
theorem path_text {l : List UInt8} (h : textOk l = false) : pathOk l = false := by
  unfold textOk at h
  simp only [Bool.and_eq_false_iff, decide_eq_false_iff_not] at h
  unfold pathOk
  rcases h with (h | h) | h
  · have : l = [] := List.eq_nil_of_length_eq_zero (by omega)
    subst this; decide
  · rw [decide_eq_false h]; simp
  · rw [decide_eq_false h]; simp
theorem split47_any (s : ByteArray) (w : World) (hA : AmbB w) (hs : s.size < 4294967281) :
    Calls Tryz.prog 93 #[.string s, .string ⟨#[47]⟩] w fun e w' => (∃ v, e = .returned v ∧ At strE v (cutAt 47 s.data.toList) w') ∧ Below w.heap.size w w' := by
  obtain ⟨m, hm⟩ := hA.len
  refine (Tryz.strings_Split s ⟨#[47]⟩ m w hs hm (by decide)).mono fun _ _ ⟨he, hw⟩ => ?_
  have hd := Lib.splitB_data ⟨#[47]⟩ 0 (Lib.countB s ⟨#[47]⟩) s
  have hc : Lib.countB s ⟨#[47]⟩ = Lib.count s.data.toList [47] := rfl
  have hsp := lib_split 47 _ s.data.toList (Nat.le_refl _)
  rw [hc] at hd
  have hd2 : (Lib.splitB ⟨#[47]⟩ 0 (Lib.countB s ⟨#[47]⟩) s).map (·.data.toList) = cutAt 47 s.data.toList := by rw [hc, hd]; exact hsp
  have hlen := Lib.splitB_all ⟨#[47]⟩ (by decide) 0 _ s rfl
  generalize Lib.splitB ⟨#[47]⟩ 0 (Lib.countB s ⟨#[47]⟩) s = ps at hd2 hw hlen
  rw [← hlen] at he
  subst he hw
  refine ⟨⟨_, rfl, .inr ⟨w.heap.size, 0, ps.length, ?_, ?_, ?_, ?_⟩⟩, gr_alloc (Below.refl _ _) _⟩
  · rw [← hd2, List.length_map]
  · rw [← hd2, List.length_map]; exact Nat.le_refl _
  · simp
  · intro j hj i u hu
    have hi : i < 1 := (List.getElem?_eq_some_iff.1 hu).1
    obtain rfl : i = 0 := by omega
    cases hu
    have hj' : j < ps.length := by rw [← hd2, List.length_map] at hj; exact hj
    rw [show 0 + (j * strE.k + 0) = j by show 0 + (j * 1 + 0) = j; omega, World.cell?_alloc_new]
    have e : (cutAt 47 s.data.toList)[j] = ps[j].data.toList := by
      have := congrArg (fun q : List (List UInt8) => q[j]?) hd2
      simp only [List.getElem?_map, List.getElem?_eq_getElem hj', List.getElem?_eq_getElem hj, Option.map_some, Option.some.injEq] at this
      exact this.symm
    rw [e, strOf_self]
    simp [hj']

theorem empty_n (S : ByteArray) : S.toList.isEmpty = decide (S.size = 0) := by
  have e : S.toList = S.data.toList := Lib.toList_data S
  have h : S.data.toList.length = S.size := by simp
  rw [e, ← h]
  cases S.data.toList <;> simp
set_option maxRecDepth 100000 in
theorem mayTextE_any (S : ByteArray) (w : World) :
    Calls Tryz.prog 92 #[.string S] w fun e w' => e = .returned (.bool (textOk S.data.toList)) ∧ w' = w := by
  have hc := Lib.hid (fun w => XatW.indexByte_go S 0 w)
  have hx := text_index S
  unfold textOk
  rw [← hx]
  obtain ⟨I, hI⟩ : ∃ I, Lib.indexByte S.data.toList (0 : Int).toNat.toUInt8 = I := ⟨_, rfl⟩
  rw [hI] at hc ⊢
  clear hx hI
  have hln : S.data.toList.length = S.size := by simp
  rw [hln]
  clear hln
  have he := empty_n S
  by_cases h0 : S.size = 0
  · have h1 : S.toList.isEmpty = true := by rw [he]; exact decide_eq_true h0
    rw [decide_eq_false (show ¬ S.size ≠ 0 by omega)]
    simp only [Bool.false_and]
    clear he h0
    go_enter Tryz.func92, Tryz.ntmps92
    go_wp2_with fail
    go_ret
    exact ⟨rfl, rfl⟩
  · have h1 : S.toList.isEmpty = false := by rw [he]; exact decide_eq_false h0
    rw [decide_eq_true (show S.size ≠ 0 from h0)]
    simp only [Bool.true_and]
    clear he
    by_cases h2 : S.size ≤ 4096
    · have e2 : decide ((S.size : Int) ≤ 4096) = true := decide_eq_true (by omega)
      rw [decide_eq_true h2]
      simp only [Bool.true_and]
      clear h0 h2
      go_enter Tryz.func92, Tryz.ntmps92
      go_wp2_with fail
      refine (hc.out _).mono ?_
      rintro e w' ⟨rfl, rfl⟩
      go_wp2_with fail
      go_ret
      exact ⟨rfl, rfl⟩
    · have e2 : decide ((S.size : Int) ≤ 4096) = false := decide_eq_false (by omega)
      rw [decide_eq_false h2]
      simp only [Bool.false_and]
      clear h0 h2
      go_enter Tryz.func92, Tryz.ntmps92
      go_wp2_with fail
      go_ret
      exact ⟨rfl, rfl⟩
theorem name_parts (S : ByteArray) (hS : S.size ≠ 0) : nameOk S.data.toList = (decide (S.size ≤ 255) && (!(S.toList == [46])) && (!(S.toList == [46, 46]))) := by
  have e : ∀ X : ByteArray, X.toList = X.data.toList := fun X => Lib.toList_data X
  rw [e]
  show nameOk S.data.toList = (decide (S.size ≤ 255) && (!(S.data.toList == [46])) && (!(S.data.toList == [46, 46])))
  unfold nameOk
  have h : S.data.toList.length = S.size := by simp
  rw [h, decide_eq_true (show S.size ≠ 0 from hS)]
  generalize S.data.toList = l
  have hb : ∀ m : List UInt8, (!(l == m)) = decide (l ≠ m) := fun m => by
    by_cases hm : l = m
    · rw [hm]; simp
    · rw [decide_eq_true hm, show (l == m) = false from beq_eq_false_iff_ne.2 hm]; rfl
  rw [hb, hb]
  simp
set_option maxRecDepth 100000 in
theorem mayNameE_any (S : ByteArray) (w : World) :
    Calls Tryz.prog 94 #[.string S] w fun e w' => e = .returned (.bool (nameOk S.data.toList)) ∧ w' = w := by
  have he := empty_n S
  by_cases h0 : S.size = 0
  · have h1 : S.toList.isEmpty = true := by rw [he]; exact decide_eq_true h0
    have hn : nameOk S.data.toList = false := by
      unfold nameOk
      rw [decide_eq_false (show ¬ S.data.toList.length ≠ 0 by rw [list_sizeE]; omega)]
      rfl
    rw [hn]
    clear he h0 hn
    go_enter Tryz.func94, Tryz.ntmps94
    go_wp2_with fail
    go_ret
    exact ⟨rfl, rfl⟩
  · have h1 : S.toList.isEmpty = false := by rw [he]; exact decide_eq_false h0
    rw [name_parts S h0]
    clear he
    by_cases h2 : S.size ≤ 255
    · have e2 : decide ((S.size : Int) ≤ 255) = true := decide_eq_true (by omega)
      rw [decide_eq_true h2]
      simp only [Bool.true_and]
      clear h0 h2
      rcases e3 : (S.toList == [46]) with _ | _
      · simp only [Bool.not_false, Bool.true_and]
        rcases e4 : (S.toList == [46, 46]) with _ | _
        · go_enter Tryz.func94, Tryz.ntmps94
          go_wp2_with fail
          go_ret
          exact ⟨rfl, rfl⟩
        · go_enter Tryz.func94, Tryz.ntmps94
          go_wp2_with fail
          go_ret
          exact ⟨rfl, rfl⟩
      · go_enter Tryz.func94, Tryz.ntmps94
        go_wp2_with fail
        go_ret
        exact ⟨rfl, rfl⟩
    · have e2 : decide ((S.size : Int) ≤ 255) = false := decide_eq_false (by omega)
      rw [decide_eq_false h2]
      simp only [Bool.false_and]
      clear h0 h2
      go_enter Tryz.func94, Tryz.ntmps94
      go_wp2_with fail
      go_ret
      exact ⟨rfl, rfl⟩

theorem path_all {l : List UInt8} (h : textOk l = true) : pathOk l = (decide ((cutAt 47 l).length ≤ 64) && (cutAt 47 l).all nameOk) := by
  unfold textOk at h
  simp only [Bool.and_eq_true] at h
  unfold pathOk
  rw [h.1.2, h.2]
  simp
theorem all_drop {ps : List (List UInt8)} {i : Nat} (hi : i < ps.length) (h : ps.all nameOk = (ps.drop i).all nameOk) : ps.all nameOk = (nameOk ps[i] && (ps.drop (i + 1)).all nameOk) := by
  rw [h, drop_cons hi, List.all_cons]
set_option maxHeartbeats 1600000 in
set_option maxRecDepth 100000 in
theorem PathE_any (S : ByteArray) (hS : S.size ≤ 100000) (w : World) (hA : Amb w) :
    Calls Tryz.prog 28 #[.string S] w fun e w' => e = .returned (.bool (pathOk S.data.toList)) ∧ Below w.heap.size w w' := by
  have ht := Lib.hid (fun w => mayTextE_any S w)
  rcases hto : textOk S.data.toList with _ | _
  · rw [hto] at ht
    rw [path_text hto]
    clear hto
    go_enter Tryz.func28, Tryz.ntmps28
    go_wp2_with fail
    refine (ht.out _).mono ?_
    rintro e w' ⟨rfl, rfl⟩
    go_wp2_with fail
    go_ret
    exact ⟨rfl, Below.refl _ _⟩
  rw [hto] at ht
  rw [path_all hto]
  clear hto
  have hsp := Lib.hid (split47_any S w hA.b (by omega))
  have hne := cutAt_ne 47 S.data.toList
  have hsm := (cutAt_sum 47 S.data.toList).1
  rw [list_sizeE] at hsm
  generalize cutAt 47 S.data.toList = ps at *
  obtain ⟨z, hz⟩ : ∃ z, ps.length = z := ⟨_, rfl⟩
  rw [hz] at hsm ⊢
  have Hz := Lib.hid hz
  by_cases h64 : z ≤ 64
  · have e1 : ¬ (64 : Int) < (z : Int) := by omega
    have e2 : decide ((64 : Int) < (z : Int)) = false := decide_eq_false (by omega)
    have e3 : decide (64 < z) = false := decide_eq_false (by omega)
    rw [decide_eq_true h64]
    simp only [Bool.true_and]
    go_enter Tryz.func28, Tryz.ntmps28
    go_wp2_with fail
    refine (ht.out _).mono ?_
    rintro e w ⟨rfl, rfl⟩
    clear ht
    go_wp2_with fail
    refine (hsp.out).mono ?_
    rintro e w1 ⟨⟨v, rfl, hat⟩, hb1⟩
    obtain ⟨g, off, cap, rfl, hcap, hg, hcell⟩ := str_open hat hne
    rw [hz] at hcap
    have Hcell := Lib.hid hcell
    rw [hz]
    clear hcell hat hz hsp hne
    go_wp2_with fail
    go_loopw [16] (fun iv wr => ∃ i : Nat, iv = .int .i64 (i : Int) ∧ i ≤ z ∧ Below w.heap.size w wr ∧ Below w1.heap.size w1 wr ∧ Hid (ps.all nameOk = (ps.drop i).all nameOk)) (fun iv _ => z - (intOf iv).toNat)
    case atStart => exact ⟨0, rfl, by omega, hb1, Below.refl _ _, Lib.hid (by simp)⟩
    case round =>
      obtain ⟨i, rfl, hi, hbl, hbm, HR⟩ := hrel
      rename World => wr
      by_cases hlt : i < z
      · have hlt' : decide ((i : Int) < (z : Int)) = true := decide_eq_true (by omega)
        have hlt2 : decide (i < z) = true := decide_eq_true hlt
        have hi' : i < ps.length := by rw [Hz.out]; exact hlt
        have c0 := cell_kept hbm (Hcell.out i hi')
        have hn := Lib.hid (fun w => mayNameE_any (strOf ps[i]) w)
        have hq := all_drop hi' HR.out
        rw [strOf_list] at hn
        obtain ⟨X, hX⟩ : ∃ X, strOf ps[i] = X := ⟨_, rfl⟩
        rw [hX] at c0 hn
        have w3 : IntKind.i64.wrap ((i : Int) + 1) = (i : Int) + 1 := by rw [IntKind.wrap_i64]; omega
        rcases hb : nameOk ps[i] with _ | _
        · rw [hb] at hn hq
          have HQ := Lib.hid hq
          clear hq hb HR hX
          go_wp2_with fail
          refine (hn.out _).mono ?_
          rintro e w' ⟨rfl, rfl⟩
          go_wp2_with fail
          go_ret
          exact ⟨by rw [HQ.out]; rfl, hbl⟩
        · rw [hb] at hn hq
          have HQ := Lib.hid hq
          clear hq hb HR hX
          go_wp2_with fail
          refine (hn.out _).mono ?_
          rintro e w' ⟨rfl, rfl⟩
          go_wp2_with fail
          go_roundw
          case rel => exact ⟨i + 1, rfl, by omega, hbl, hbm, Lib.hid (by rw [HQ.out]; simp)⟩
          case measure => simp only [intOf]; omega
      · have hlt' : decide ((i : Int) < (z : Int)) = false := decide_eq_false (by omega)
        have hlt2 : decide (i < z) = false := decide_eq_false hlt
        have HE := Lib.hid (show ps.all nameOk = true by rw [HR.out, List.drop_eq_nil_of_le (by rw [Hz.out]; omega)]; rfl)
        clear HR
        go_wp2_with fail
        go_ret
        exact ⟨by rw [HE.out]; rfl, hbl⟩
  · have e1 : (64 : Int) < (z : Int) := by omega
    have e2 : decide ((64 : Int) < (z : Int)) = true := decide_eq_true (by omega)
    have e3 : decide (64 < z) = true := decide_eq_true (by omega)
    rw [decide_eq_false h64]
    simp only [Bool.false_and]
    go_enter Tryz.func28, Tryz.ntmps28
    go_wp2_with fail
    refine (ht.out _).mono ?_
    rintro e w ⟨rfl, rfl⟩
    clear ht
    go_wp2_with fail
    refine (hsp.out).mono ?_
    rintro e w1 ⟨⟨v, rfl, hat⟩, hb1⟩
    obtain ⟨g, off, cap, rfl, hcap, hg, hcell⟩ := str_open hat hne
    rw [hz] at hcap
    have Hcell := Lib.hid hcell
    rw [hz]
    clear hcell hat hz hsp hne
    go_wp2_with fail
    go_ret
    exact ⟨rfl, hb1⟩
end Go.Proofs.YtbhnhoenjoagbaaGreatDoor
