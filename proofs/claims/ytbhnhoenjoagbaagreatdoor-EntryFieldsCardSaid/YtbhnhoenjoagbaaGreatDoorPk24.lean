/- Bundle of 8 texts. -/
import Derived.Test.YtbhnhoenjoagbaaGreatDoorPk22
import Derived.Test.YtbhnhoenjoagbaaGreatDoorPk23
import Derived.Test.YtbhnhoenjoagbaaGreatDoorPk12
import Derived.Test.YtbhnhoenjoagbaaGreatDoorPk10
import Derived.Test.YtbhnhoenjoagbaaGreatDoorPk15
import Derived.Test.YtbhnhoenjoagbaaGreatDoorPk08
import Derived.Test.YtbhnhoenjoagbaaGreatDoorPk05
import Derived.Test.YtbhnhoenjoagbaaGreatDoorPk17
import Derived.Test.YtbhnhoenjoagbaaGreatDoorTie
import Derived.ProofKit
import Derived.OpenShut
import Derived.ShutString
import Derived.ChangeOld
import Derived.Below
import Derived.LaidMore
import Derived.Stop.Joined
import Derived.Lib.SmallJoins
import Derived.Laws.Cover2
import Derived.Shelf.Vars
import Derived.MakeChecks
import Derived.Stop.LaidErr
import Derived.SevenTiedAt
import GoSem.PinnedTables
import Derived.Recover
import Derived.Test.YtbhnhoenjoagbaaGreatDoorPk07
import Derived.Test.YtbhnhoenjoagbaaGreatDoorPk18
import Derived.Test.YtbhnhoenjoagbaaGreatDoorPk02
/- Entries, as plain mathematics: their records, their header, which may be. -/
namespace Go.Proofs.YtbhnhoenjoagbaaGreatDoor
open Go.RowKit
open MetaM PathM
set_option linter.unusedVariables false
namespace EntM

structure En where
  path : ByteArray
  kind : Int
  m : Mt
  data : ByteArray
  target : ByteArray
  major : Int
  minor : Int
def zeroM : Mt := plainM 0 0 0
def kPath : List UInt8 := [112, 97, 116, 104]
def kLink : List UInt8 := [108, 105, 110, 107, 112, 97, 116, 104]
def kUid : List UInt8 := [117, 105, 100]
def kGid : List UInt8 := [103, 105, 100]
def kTime : List UInt8 := [109, 116, 105, 109, 101]
def kAcl : List UInt8 := "SCHILY.acl.access".toUTF8.data.toList
def kDfl : List UInt8 := "SCHILY.acl.default".toUTF8.data.toList
def kFlags : List UInt8 := "SCHILY.fflags".toUTF8.data.toList
def kCaps : List UInt8 := "GRIPSACK.caps".toUTF8.data.toList
def kSet : List UInt8 := "hdrcharset".toUTF8.data.toList
def vSet : List UInt8 := "BINARY".toUTF8.data.toList
def validU (l : List UInt8) : Bool := (TextW.TextM.rd l).2.2
abbrev Rc := List UInt8 × List UInt8
def longP (e : En) : Bool := (HeadM.splitL e.path.data.toList).isNone
def longT (e : En) : Bool := decide (100 < e.target.size)
def longS (s n : Int) : Bool := decide (n ≠ 0) || decide (s < 0) || decide (8589934592 ≤ s)
def one (b : Bool) (k v : List UInt8) : List Rc := if b then [(k, v)] else []
def recsE (e : En) : List Rc :=
  one ((longP e && !validU e.path.data.toList) || (longT e && !validU e.target.data.toList)) kSet vSet ++
  (one (longP e) kPath e.path.data.toList ++ (one (longT e) kLink e.target.data.toList ++
  (one (decide (2097151 < e.m.uid)) kUid (Lib.itoa e.m.uid) ++ (one (decide (2097151 < e.m.gid)) kGid (Lib.itoa e.m.gid) ++
  (one (longS e.m.sec e.m.nano) kTime (StampW.StampM.textF e.m.sec e.m.nano) ++
  (one (decide (e.m.acl ≠ [])) kAcl (AclM.textL e.m.acl) ++ (one (decide (e.m.dfl ≠ [])) kDfl (AclM.textL e.m.dfl) ++
  (one (decide (e.m.flags ≠ 0)) kFlags (FlagsW.FlagsM.textI e.m.flags) ++ (one (decide (e.m.cap.v ≠ 0)) kCaps (SixM.p3 (CapsM.putL e.m.cap)) ++
  XatM.recsL e.m.xat)))))))))
def recsOk (l : List Rc) : Bool := l.all (fun r => RecW.RecM.mayB r.1 r.2) && decide ((RecW.RecM.joinF l).length ≤ 65536)
def dev (k : Int) : Bool := decide (k = 4) || decide (k = 5)
def numOk (n : Int) : Bool := decide (0 ≤ n) && decide (n ≤ 2097151)
def bodyOk (e : En) : Bool :=
  decide (e.data.size ≤ 65536) && (decide (e.kind = 1) || decide (e.data.size = 0)) && (numOk e.major && numOk e.minor) && (dev e.kind || (decide (e.major = 0) && decide (e.minor = 0)))
def targetOk (e : En) : Bool :=
  if e.kind = 2 then pathOk e.target.data.toList
  else if e.kind = 3 then decide (1 ≤ e.target.size) && decide (e.target.size ≤ 4096) && decide ((0 : UInt8) ∉ e.target.data.toList)
  else decide (e.target.size = 0)
def metaOk (e : En) : Bool := if e.kind = 2 then sameM e.m zeroM else mayM e.m e.kind
def mayE (e : En) : Bool := pathOk e.path.data.toList && (decide (1 ≤ e.kind) && decide (e.kind ≤ 7)) && metaOk e && bodyOk e && targetOk e && recsOk (recsE e)
def sameE (a b : En) : Bool :=
  decide (a.path = b.path) && decide (a.kind = b.kind) && sameM a.m b.m && decide (a.data = b.data) && decide (a.target = b.target) && decide (a.major = b.major) && decide (a.minor = b.minor)
def firstB (s : ByteArray) (n : Nat) : ByteArray := strOf (s.data.toList.take n)
def headE (e : En) : HeadM.Hd where
  name := match HeadM.splitL e.path.data.toList with | some (_, n) => strOf n | none => firstB e.path 100
  mode := e.m.mode
  uid := if 2097151 < e.m.uid then 0 else e.m.uid
  gid := if 2097151 < e.m.gid then 0 else e.m.gid
  size := (e.data.size : Int)
  mtime := if longS e.m.sec e.m.nano then 0 else e.m.sec
  typ := UInt8.ofNat (47 + e.kind.toNat)
  link := firstB e.target 100
  uname := ⟨#[]⟩
  gname := ⟨#[]⟩
  major := e.major
  minor := e.minor
  pre := match HeadM.splitL e.path.data.toList with | some (p, _) => strOf p | none => ⟨#[]⟩

theorem one_ok {b : Bool} {k v : List UInt8} (h : b = true → RecW.RecM.keyB k = true ∧ v.length ≤ 1000) : ∀ r ∈ one b k v, RecW.RecM.mayB r.1 r.2 = true ∧ (RecW.RecM.putF r.1 r.2).length ≤ 1300 := by
  intro r hr
  unfold one at hr
  cases b with
  | false => simp at hr
  | true =>
    simp only [if_true, List.mem_singleton] at hr
    subst hr
    obtain ⟨h1, h2⟩ := h rfl
    have h3 : k.length ≤ 255 := by unfold RecW.RecM.keyB at h1; simp only [Bool.and_eq_true, decide_eq_true_eq] at h1; exact h1.1.1.2
    have h4 := (RecW.RecM.lenF_bounds (3 + k.length + v.length)).2
    have hm : RecW.RecM.mayB k v = true := by unfold RecW.RecM.mayB; rw [h1, decide_eq_true (by omega)]; rfl
    refine ⟨hm, ?_⟩
    rw [RecW.RecM.put_may hm, RecW.RecM.enc_length _ _ (by omega)]
    omega
theorem one_len (b : Bool) (k v : List UInt8) : (one b k v).length ≤ 1 := by cases b <;> simp [one]
theorem join_len {l : List Rc} {c : Nat} (h : ∀ r ∈ l, (RecW.RecM.putF r.1 r.2).length ≤ c) : (RecW.RecM.joinF l).length ≤ c * l.length := by
  induction l with
  | nil => simp [RecW.RecM.joinF]
  | cons r t ih =>
    have h1 := h r (by simp)
    have h2 := ih (fun x hx => h x (by simp [hx]))
    have e : RecW.RecM.joinF (r :: t) = RecW.RecM.putF r.1 r.2 ++ RecW.RecM.joinF t := by simp [RecW.RecM.joinF]
    rw [e, List.length_append, List.length_cons, Nat.mul_add, Nat.mul_one]
    omega
end EntM
end Go.Proofs.YtbhnhoenjoagbaaGreatDoor

/- What the walks from stage 15 on lean on in memory. -/
namespace Go.Proofs.YtbhnhoenjoagbaaGreatDoor
open Go.RowKit

structure Amb (w : World) : Prop where
  b : AmbB w
  tx : TextW.Amb w
  fl : FlagsW.Amb w
theorem Amb.on {w w' : World} (h : Amb w) (hb : Below w.heap.size w w') : Amb w' := ⟨h.b.on hb, h.tx.on hb, h.fl.on hb⟩
structure AmbO (w : World) : Prop where
  a : Amb w
  f : AmbF w
theorem AmbO.on {w w' : World} (h : AmbO w) (hb : Below w.heap.size w w') : AmbO w' := ⟨h.a.on hb, h.f.on hb⟩
end Go.Proofs.YtbhnhoenjoagbaaGreatDoor

/- What the frames of this seat's laws share: the wrap with the listed variables and the world's shape. -/
namespace Go.Proofs.YtbhnhoenjoagbaaGreatDoor
open Go.ChangeShapes Go.WideShapes Go.ChangeAt Go.RowKit Go.Joins

theorem wrap_laid {H : Type} {enc : TypeId × Value → H} {a : Assume} {C : Checked} {os : Os} {f : FuncId} {fn : Func} {s : ChangeSpec} {conds : List PathCond} {apart fresh handsOn again : Bool} {X : World → Array Value → Prop}
    (hX : ∀ (w w' : World) (args : Array Value), w.heap = w'.heap → X w args → X w' args)
    (own : ownKnob C.prog.godebug = none) (started : os.Started) (noInit : C.prog.inits.idxOf? f = none) (hfn : C.prog.funcs[f]? = some fn)
    (witness : ∃ (w : World) (tape : Tape) (i : Input), w.os = os ∧ (w.forCall tape i).Shaped C.prog ∧ i.vars = [] ∧ Input.okWide C.prog (w.forCall tape i) .any w.heap.size f i ∧
      ((s.pre enc C.prog fn conds apart (w.forCall tape i).memory i.args ∧ X (w.forCall tape i).memory i.args) ∧ sizedMet enc C.prog fn (OpenSpec.ofChange s) apart (w.forCall tape i).memory i.args) ∧ a.holds C.prog (lone (Frame.enter C.prog f i.args .normal) [] (w.forCall tape i)))
    (contract : ∀ (W : World) (base : Nat) (args : Array Value) (ds gs : List (DataW H)) (before : List MemPlace),
      (∀ (j : Nat) t v, fn.params[j]? = some t → args[j]? = some v → Value.okWide C.prog W .any base t v) →
      DataW.Whole enc C.prog fn.params.toList s.vars apart W args.toList ds gs before →
      (DataW.weightsEach C.prog (fn.params.toList ++ s.plain.varTypes C.prog) (ds ++ gs)).all (· ≤ reachBytes) = true → X W args → W.ShapedOpen C.prog →
      Calls C.prog f args W fun e W' => ∃ v, e = .returned v ∧ s.post enc C.prog fn apart fresh handsOn again W args v W') :
    ReturnsInHanded a C os f .any (fun w args => (s.pre enc C.prog fn conds apart w args ∧ X w args) ∧ sizedMet enc C.prog fn (OpenSpec.ofChange s) apart w args) (s.post enc C.prog fn apart fresh handsOn again) := by
  refine returnsInHanded_of_calls own started noInit witness ?_
  intro w tape i _ hsh _ hok hpre _
  obtain ⟨_, _, _, fn', hfn', _, _, _, _, hval⟩ := hok
  have e : fn' = fn := Option.some.inj (hfn'.symm.trans hfn)
  subst e
  obtain ⟨⟨⟨ds, gs, before, hw, hc⟩, hx⟩, hz⟩ := hpre
  have hw' := DataW.Whole.of_heap (w' := w.forCall tape i) (by rfl) hw
  refine (contract (w.forCall tape i) w.heap.size i.args ds gs before hval hw' (hz.weights hw) (hX _ _ _ (by rfl) hx) hsh).mono fun e W' ⟨v, he, hp⟩ => ?_
  subst he
  exact ChangeSpec.post_blind hp

theorem star_err : "*" ++ "errors.errorString" = "*errors.errorString" := by decide
theorem iface_only (u : TypeId) (h : Tryz.prog.typeName? 3 u = some "*errors.errorString") : u = 283 :=
  typeName_ptr_named (nm := "errors.errorString") (by rw [star_err]; kernel_rfl) (by kernel_rfl) (by decide) u (by rw [star_err]; exact h)
theorem amb_of {W : World} {l : List (String × DataW Unit)} (hl : l = Rows.entryPathsRow.laid) (h : laidMetH Tryz.prog l W) (hsh : W.ShapedOpen Tryz.prog) : Amb W := by
  subst hl
  rw [MakeChecks.laidMetH_plain _ _ _ (by kernel_rfl)] at h
  have hb : AmbB W := by
    refine ⟨?_, ?_⟩
    · have h3 := h.tail.tail.tail
      exact Lib.tabIs_of_head (g := 2) (t := 249) (e := 33) (n := 20) (by kernel_rfl) (by kernel_rfl) Tryz.underlying249 Tryz.underlying33 (by kernel_rfl) (by kernel_rfl) h3
    · exact cell_of_shapedOpen_int (P := Tryz.prog) (g := 3) (t := 3) (zero := #[.int .i64 0]) hsh (of_decide_eq_true (by kernel_rfl)) (by kernel_rfl) rfl (by kernel_rfl) (by kernel_rfl) Tryz.underlying3
  have ha : Amb W := by
    refine ⟨hb, ?_, ?_⟩
    · have h1 := h
      have hc := TabM.cells_of_head (g := 1) (t := 246) 3 (by kernel_rfl) (by kernel_rfl) (by kernel_rfl) h1
      intro i v hv
      exact hc i v hv
    · have h1 := h.tail.tail.tail.tail.tail
      have hc := TabM.cells_of_head (g := 0) (t := 149) 3 (by kernel_rfl) (by kernel_rfl) (by kernel_rfl) h1
      intro i v hv
      exact hc i v hv
  exact ha
end Go.Proofs.YtbhnhoenjoagbaaGreatDoor

/- Walks over package acl: what the pieces of a part say. -/
namespace Go.Proofs.YtbhnhoenjoagbaaGreatDoor.AclW
open Go.RowKit
open AclM DecM
set_option linter.unusedVariables false

def notList : List PanicEntry := [{ v := .iface 232 (.agg #[]), recovered := false }]
def intEnd (o : Option Int) (e : Ending) : Prop := match o with
  | some n => e = .returned (.int .i64 n)
  | none => e = .panicked notList

def hit (l id : List UInt8) (t : Int) : Prop := [letter t] = l ∧ (hasId t = true ↔ id ≠ [])
end Go.Proofs.YtbhnhoenjoagbaaGreatDoor.AclW

/- Walks over package acl: an Id and a perm in letters. -/
namespace Go.Proofs.YtbhnhoenjoagbaaGreatDoor.AclW
open Go.RowKit
open AclM DecM
set_option linter.unusedVariables false

def pu (x y z : Bool) (i : Nat) : Int := (if x = true ∧ 0 < i then 4 else 0) + (if y = true ∧ 1 < i then 2 else 0) + (if z = true ∧ 2 < i then 1 else 0)
end Go.Proofs.YtbhnhoenjoagbaaGreatDoor.AclW

/- Walks over package acl: a part's reading. -/
namespace Go.Proofs.YtbhnhoenjoagbaaGreatDoor.AclW
open Go.RowKit
open AclM DecM
set_option linter.unusedVariables false

def partEnd (o : Option Ace) (e : Ending) : Prop := match o with
  | some a => e = .returned (aceV a)
  | none => e = .panicked notList

end Go.Proofs.YtbhnhoenjoagbaaGreatDoor.AclW

/- Walks over package acl: parse, Parse. -/
namespace Go.Proofs.YtbhnhoenjoagbaaGreatDoor.AclW
open Go.RowKit
open AclM DecM
set_option linter.unusedVariables false

def parseEnd (B : Nat) (o : Option (List Ace)) (e : Ending) (w' : World) : Prop := match o with
  | some l => ∃ v, e = .returned v ∧ Row aceE B v l w'
  | none => e = .panicked notList
theorem cutAt_sum (c : UInt8) : ∀ (s : List UInt8), (cutAt c s).length ≤ s.length + 1 ∧ ∀ p ∈ cutAt c s, p.length ≤ s.length
  | [] => by simp [cutAt]
  | x :: r => by
    obtain ⟨h1, h2⟩ := cutAt_sum c r
    rw [cutAt_cons]
    by_cases hx : x = c
    · rw [if_pos hx]
      refine ⟨by simp only [List.length_cons]; omega, fun p hp => ?_⟩
      rcases List.mem_cons.1 hp with rfl | hp
      · simp
      · have := h2 p hp; simp only [List.length_cons]; omega
    · rw [if_neg hx]
      rcases hc : cutAt c r with _ | ⟨q, ps⟩
      · exact absurd hc (cutAt_ne _ _)
      · rw [hc] at h1 h2
        refine ⟨by simp only [List.length_cons] at h1 ⊢; omega, fun p hp => ?_⟩
        rcases List.mem_cons.1 hp with rfl | hp
        · have := h2 q (by simp); simp only [List.length_cons]; omega
        · have := h2 p (by simp [hp]); simp only [List.length_cons]; omega

end Go.Proofs.YtbhnhoenjoagbaaGreatDoor.AclW

/- Walks over package entry: names and paths. -/
namespace Go.Proofs.YtbhnhoenjoagbaaGreatDoor
open Go.RowKit
open PathM AclM AclW
set_option linter.unusedVariables false

theorem list_sizeE (S : ByteArray) : S.data.toList.length = S.size := by simp

def PathM.textOk (l : List UInt8) : Bool := decide (l.length ≠ 0) && decide (l.length ≤ 4096) && decide ((0 : UInt8) ∉ l)
theorem text_index (S : ByteArray) : decide (Lib.indexByte S.data.toList (0 : Int).toNat.toUInt8 < 0) = decide ((0 : UInt8) ∉ S.data.toList) := by
  refine decide_eq_decide.2 ((XatW.index_neg _ _).trans ?_)
  show S.data.toList.contains 0 = false ↔ _
  simp
theorem path_text {l : List UInt8} (h : textOk l = false) : pathOk l = false := by
  unfold textOk at h
  simp only [Bool.and_eq_false_iff, decide_eq_false_iff_not] at h
  unfold pathOk
  rcases h with (h | h) | h
  · have : l = [] := List.eq_nil_of_length_eq_zero (by omega)
    subst this; decide
  · rw [decide_eq_false h]; simp
  · rw [decide_eq_false h]; simp
theorem split47_any (s : ByteArray) (w : World) (hA : AmbB w) (hs : s.size < 4294967281) :
    Calls Tryz.prog 93 #[.string s, .string ⟨#[47]⟩] w fun e w' => (∃ v, e = .returned v ∧ At strE v (cutAt 47 s.data.toList) w') ∧ Below w.heap.size w w' := by
  obtain ⟨m, hm⟩ := hA.len
  refine (Tryz.strings_Split s ⟨#[47]⟩ m w hs hm (by decide)).mono fun _ _ ⟨he, hw⟩ => ?_
  have hd := Lib.splitB_data ⟨#[47]⟩ 0 (Lib.countB s ⟨#[47]⟩) s
  have hc : Lib.countB s ⟨#[47]⟩ = Lib.count s.data.toList [47] := rfl
  have hsp := lib_split 47 _ s.data.toList (Nat.le_refl _)
  rw [hc] at hd
  have hd2 : (Lib.splitB ⟨#[47]⟩ 0 (Lib.countB s ⟨#[47]⟩) s).map (·.data.toList) = cutAt 47 s.data.toList := by rw [hc, hd]; exact hsp
  have hlen := Lib.splitB_all ⟨#[47]⟩ (by decide) 0 _ s rfl
  generalize Lib.splitB ⟨#[47]⟩ 0 (Lib.countB s ⟨#[47]⟩) s = ps at hd2 hw hlen
  rw [← hlen] at he
  subst he hw
  refine ⟨⟨_, rfl, .inr ⟨w.heap.size, 0, ps.length, ?_, ?_, ?_, ?_⟩⟩, gr_alloc (Below.refl _ _) _⟩
  · rw [← hd2, List.length_map]
  · rw [← hd2, List.length_map]; exact Nat.le_refl _
  · simp
  · intro j hj i u hu
    have hi : i < 1 := (List.getElem?_eq_some_iff.1 hu).1
    obtain rfl : i = 0 := by omega
    cases hu
    have hj' : j < ps.length := by rw [← hd2, List.length_map] at hj; exact hj
    rw [show 0 + (j * strE.k + 0) = j by show 0 + (j * 1 + 0) = j; omega, World.cell?_alloc_new]
    have e : (cutAt 47 s.data.toList)[j] = ps[j].data.toList := by
      have := congrArg (fun q : List (List UInt8) => q[j]?) hd2
      simp only [List.getElem?_map, List.getElem?_eq_getElem hj', List.getElem?_eq_getElem hj, Option.map_some, Option.some.injEq] at this
      exact this.symm
    rw [e, strOf_self]
    simp [hj']

theorem empty_n (S : ByteArray) : S.toList.isEmpty = decide (S.size = 0) := by
  have e : S.toList = S.data.toList := Lib.toList_data S
  have h : S.data.toList.length = S.size := by simp
  rw [e, ← h]
  cases S.data.toList <;> simp
set_option maxRecDepth 100000 in
theorem mayTextE_any (S : ByteArray) (w : World) :
    Calls Tryz.prog 92 #[.string S] w fun e w' => e = .returned (.bool (textOk S.data.toList)) ∧ w' = w := by
  have hc := Lib.hid (fun w => XatW.indexByte_go S 0 w)
  have hx := text_index S
  unfold textOk
  rw [← hx]
  obtain ⟨I, hI⟩ : ∃ I, Lib.indexByte S.data.toList (0 : Int).toNat.toUInt8 = I := ⟨_, rfl⟩
  rw [hI] at hc ⊢
  clear hx hI
  have hln : S.data.toList.length = S.size := by simp
  rw [hln]
  clear hln
  have he := empty_n S
  by_cases h0 : S.size = 0
  · have h1 : S.toList.isEmpty = true := by rw [he]; exact decide_eq_true h0
    rw [decide_eq_false (show ¬ S.size ≠ 0 by omega)]
    simp only [Bool.false_and]
    clear he h0
    go_enter Tryz.func92, Tryz.ntmps92
    go_wp2_with fail
    go_ret
    exact ⟨rfl, rfl⟩
  · have h1 : S.toList.isEmpty = false := by rw [he]; exact decide_eq_false h0
    rw [decide_eq_true (show S.size ≠ 0 from h0)]
    simp only [Bool.true_and]
    clear he
    by_cases h2 : S.size ≤ 4096
    · have e2 : decide ((S.size : Int) ≤ 4096) = true := decide_eq_true (by omega)
      rw [decide_eq_true h2]
      simp only [Bool.true_and]
      clear h0 h2
      go_enter Tryz.func92, Tryz.ntmps92
      go_wp2_with fail
      refine (hc.out _).mono ?_
      rintro e w' ⟨rfl, rfl⟩
      go_wp2_with fail
      go_ret
      exact ⟨rfl, rfl⟩
    · have e2 : decide ((S.size : Int) ≤ 4096) = false := decide_eq_false (by omega)
      rw [decide_eq_false h2]
      simp only [Bool.false_and]
      clear h0 h2
      go_enter Tryz.func92, Tryz.ntmps92
      go_wp2_with fail
      go_ret
      exact ⟨rfl, rfl⟩
theorem name_parts (S : ByteArray) (hS : S.size ≠ 0) : nameOk S.data.toList = (decide (S.size ≤ 255) && (!(S.toList == [46])) && (!(S.toList == [46, 46]))) := by
  have e : ∀ X : ByteArray, X.toList = X.data.toList := fun X => Lib.toList_data X
  rw [e]
  show nameOk S.data.toList = (decide (S.size ≤ 255) && (!(S.data.toList == [46])) && (!(S.data.toList == [46, 46])))
  unfold nameOk
  have h : S.data.toList.length = S.size := by simp
  rw [h, decide_eq_true (show S.size ≠ 0 from hS)]
  generalize S.data.toList = l
  have hb : ∀ m : List UInt8, (!(l == m)) = decide (l ≠ m) := fun m => by
    by_cases hm : l = m
    · rw [hm]; simp
    · rw [decide_eq_true hm, show (l == m) = false from beq_eq_false_iff_ne.2 hm]; rfl
  rw [hb, hb]
  simp
set_option maxRecDepth 100000 in
theorem mayNameE_any (S : ByteArray) (w : World) :
    Calls Tryz.prog 94 #[.string S] w fun e w' => e = .returned (.bool (nameOk S.data.toList)) ∧ w' = w := by
  have he := empty_n S
  by_cases h0 : S.size = 0
  · have h1 : S.toList.isEmpty = true := by rw [he]; exact decide_eq_true h0
    have hn : nameOk S.data.toList = false := by
      unfold nameOk
      rw [decide_eq_false (show ¬ S.data.toList.length ≠ 0 by rw [list_sizeE]; omega)]
      rfl
    rw [hn]
    clear he h0 hn
    go_enter Tryz.func94, Tryz.ntmps94
    go_wp2_with fail
    go_ret
    exact ⟨rfl, rfl⟩
  · have h1 : S.toList.isEmpty = false := by rw [he]; exact decide_eq_false h0
    rw [name_parts S h0]
    clear he
    by_cases h2 : S.size ≤ 255
    · have e2 : decide ((S.size : Int) ≤ 255) = true := decide_eq_true (by omega)
      rw [decide_eq_true h2]
      simp only [Bool.true_and]
      clear h0 h2
      rcases e3 : (S.toList == [46]) with _ | _
      · simp only [Bool.not_false, Bool.true_and]
        rcases e4 : (S.toList == [46, 46]) with _ | _
        · go_enter Tryz.func94, Tryz.ntmps94
          go_wp2_with fail
          go_ret
          exact ⟨rfl, rfl⟩
        · go_enter Tryz.func94, Tryz.ntmps94
          go_wp2_with fail
          go_ret
          exact ⟨rfl, rfl⟩
      · go_enter Tryz.func94, Tryz.ntmps94
        go_wp2_with fail
        go_ret
        exact ⟨rfl, rfl⟩
    · have e2 : decide ((S.size : Int) ≤ 255) = false := decide_eq_false (by omega)
      rw [decide_eq_false h2]
      simp only [Bool.false_and]
      clear h0 h2
      go_enter Tryz.func94, Tryz.ntmps94
      go_wp2_with fail
      go_ret
      exact ⟨rfl, rfl⟩

theorem path_all {l : List UInt8} (h : textOk l = true) : pathOk l = (decide ((cutAt 47 l).length ≤ 64) && (cutAt 47 l).all nameOk) := by
  unfold textOk at h
  simp only [Bool.and_eq_true] at h
  unfold pathOk
  rw [h.1.2, h.2]
  simp
theorem all_drop {ps : List (List UInt8)} {i : Nat} (hi : i < ps.length) (h : ps.all nameOk = (ps.drop i).all nameOk) : ps.all nameOk = (nameOk ps[i] && (ps.drop (i + 1)).all nameOk) := by
  rw [h, drop_cons hi, List.all_cons]
set_option maxHeartbeats 1600000 in
set_option maxRecDepth 100000 in
theorem PathE_any (S : ByteArray) (hS : S.size ≤ 100000) (w : World) (hA : Amb w) :
    Calls Tryz.prog 28 #[.string S] w fun e w' => e = .returned (.bool (pathOk S.data.toList)) ∧ Below w.heap.size w w' := by
  have ht := Lib.hid (fun w => mayTextE_any S w)
  rcases hto : textOk S.data.toList with _ | _
  · rw [hto] at ht
    rw [path_text hto]
    clear hto
    go_enter Tryz.func28, Tryz.ntmps28
    go_wp2_with fail
    refine (ht.out _).mono ?_
    rintro e w' ⟨rfl, rfl⟩
    go_wp2_with fail
    go_ret
    exact ⟨rfl, Below.refl _ _⟩
  rw [hto] at ht
  rw [path_all hto]
  clear hto
  have hsp := Lib.hid (split47_any S w hA.b (by omega))
  have hne := cutAt_ne 47 S.data.toList
  have hsm := (cutAt_sum 47 S.data.toList).1
  rw [list_sizeE] at hsm
  generalize cutAt 47 S.data.toList = ps at *
  obtain ⟨z, hz⟩ : ∃ z, ps.length = z := ⟨_, rfl⟩
  rw [hz] at hsm ⊢
  have Hz := Lib.hid hz
  by_cases h64 : z ≤ 64
  · have e1 : ¬ (64 : Int) < (z : Int) := by omega
    have e2 : decide ((64 : Int) < (z : Int)) = false := decide_eq_false (by omega)
    have e3 : decide (64 < z) = false := decide_eq_false (by omega)
    rw [decide_eq_true h64]
    simp only [Bool.true_and]
    go_enter Tryz.func28, Tryz.ntmps28
    go_wp2_with fail
    refine (ht.out _).mono ?_
    rintro e w ⟨rfl, rfl⟩
    clear ht
    go_wp2_with fail
    refine (hsp.out).mono ?_
    rintro e w1 ⟨⟨v, rfl, hat⟩, hb1⟩
    obtain ⟨g, off, cap, rfl, hcap, hg, hcell⟩ := str_open hat hne
    rw [hz] at hcap
    have Hcell := Lib.hid hcell
    rw [hz]
    clear hcell hat hz hsp hne
    go_wp2_with fail
    go_loopw [16] (fun iv wr => ∃ i : Nat, iv = .int .i64 (i : Int) ∧ i ≤ z ∧ Below w.heap.size w wr ∧ Below w1.heap.size w1 wr ∧ Hid (ps.all nameOk = (ps.drop i).all nameOk)) (fun iv _ => z - (intOf iv).toNat)
    case atStart => exact ⟨0, rfl, by omega, hb1, Below.refl _ _, Lib.hid (by simp)⟩
    case round =>
      obtain ⟨i, rfl, hi, hbl, hbm, HR⟩ := hrel
      rename World => wr
      by_cases hlt : i < z
      · have hlt' : decide ((i : Int) < (z : Int)) = true := decide_eq_true (by omega)
        have hlt2 : decide (i < z) = true := decide_eq_true hlt
        have hi' : i < ps.length := by rw [Hz.out]; exact hlt
        have c0 := cell_kept hbm (Hcell.out i hi')
        have hn := Lib.hid (fun w => mayNameE_any (strOf ps[i]) w)
        have hq := all_drop hi' HR.out
        rw [strOf_list] at hn
        obtain ⟨X, hX⟩ : ∃ X, strOf ps[i] = X := ⟨_, rfl⟩
        rw [hX] at c0 hn
        have w3 : IntKind.i64.wrap ((i : Int) + 1) = (i : Int) + 1 := by rw [IntKind.wrap_i64]; omega
        rcases hb : nameOk ps[i] with _ | _
        · rw [hb] at hn hq
          have HQ := Lib.hid hq
          clear hq hb HR hX
          go_wp2_with fail
          refine (hn.out _).mono ?_
          rintro e w' ⟨rfl, rfl⟩
          go_wp2_with fail
          go_ret
          exact ⟨by rw [HQ.out]; rfl, hbl⟩
        · rw [hb] at hn hq
          have HQ := Lib.hid hq
          clear hq hb HR hX
          go_wp2_with fail
          refine (hn.out _).mono ?_
          rintro e w' ⟨rfl, rfl⟩
          go_wp2_with fail
          go_roundw
          case rel => exact ⟨i + 1, rfl, by omega, hbl, hbm, Lib.hid (by rw [HQ.out]; simp)⟩
          case measure => simp only [intOf]; omega
      · have hlt' : decide ((i : Int) < (z : Int)) = false := decide_eq_false (by omega)
        have hlt2 : decide (i < z) = false := decide_eq_false hlt
        have HE := Lib.hid (show ps.all nameOk = true by rw [HR.out, List.drop_eq_nil_of_le (by rw [Hz.out]; omega)]; rfl)
        clear HR
        go_wp2_with fail
        go_ret
        exact ⟨by rw [HE.out]; rfl, hbl⟩
  · have e1 : (64 : Int) < (z : Int) := by omega
    have e2 : decide ((64 : Int) < (z : Int)) = true := decide_eq_true (by omega)
    have e3 : decide (64 < z) = true := decide_eq_true (by omega)
    rw [decide_eq_false h64]
    simp only [Bool.false_and]
    go_enter Tryz.func28, Tryz.ntmps28
    go_wp2_with fail
    refine (ht.out _).mono ?_
    rintro e w ⟨rfl, rfl⟩
    clear ht
    go_wp2_with fail
    refine (hsp.out).mono ?_
    rintro e w1 ⟨⟨v, rfl, hat⟩, hb1⟩
    obtain ⟨g, off, cap, rfl, hcap, hg, hcell⟩ := str_open hat hne
    rw [hz] at hcap
    have Hcell := Lib.hid hcell
    rw [hz]
    clear hcell hat hz hsp hne
    go_wp2_with fail
    go_ret
    exact ⟨rfl, hb1⟩
end Go.Proofs.YtbhnhoenjoagbaaGreatDoor
