/- Bundle of 6 texts. -/
import Derived.Test.YtbhnhoenjoagbaaGreatDoorPk20
import Derived.Test.YtbhnhoenjoagbaaGreatDoorPk21
import Derived.Test.YtbhnhoenjoagbaaGreatDoorPk10
import Derived.Test.YtbhnhoenjoagbaaGreatDoorPk08
import Derived.Test.YtbhnhoenjoagbaaGreatDoorPk13
import Derived.Test.YtbhnhoenjoagbaaGreatDoorPk07
import Derived.Test.YtbhnhoenjoagbaaGreatDoorPk05
import Derived.Test.YtbhnhoenjoagbaaGreatDoorPk15
import Derived.Test.YtbhnhoenjoagbaaGreatDoorTie
import Derived.ProofKit
import Derived.OpenShut
import Derived.ShutString
import Derived.ChangeOld
import Derived.Below
import Derived.LaidMore
import Derived.Stop.Joined
import Derived.Lib.SmallJoins
import Derived.Laws.Cover2
import Derived.Shelf.Vars
import Derived.MakeChecks
import Derived.Stop.LaidErr
import Derived.SevenTiedAt
import GoSem.PinnedTables
import Derived.Test.YtbhnhoenjoagbaaGreatDoorPk16
import Derived.Test.YtbhnhoenjoagbaaGreatDoorPk14
import Derived.Test.YtbhnhoenjoagbaaGreatDoorPk12
/- Entries, as plain mathematics: their records, their header, which may be. -/
namespace Go.Proofs.YtbhnhoenjoagbaaGreatDoor
open Go.RowKit
open MetaM PathM
set_option linter.unusedVariables false
namespace EntM

structure En where
  path : ByteArray
  kind : Int
  m : Mt
  data : ByteArray
  target : ByteArray
  major : Int
  minor : Int
def zeroM : Mt := plainM 0 0 0
def kPath : List UInt8 := [112, 97, 116, 104]
def kLink : List UInt8 := [108, 105, 110, 107, 112, 97, 116, 104]
def kUid : List UInt8 := [117, 105, 100]
def kGid : List UInt8 := [103, 105, 100]
def kTime : List UInt8 := [109, 116, 105, 109, 101]
def kAcl : List UInt8 := "SCHILY.acl.access".toUTF8.data.toList
def kDfl : List UInt8 := "SCHILY.acl.default".toUTF8.data.toList
def kFlags : List UInt8 := "SCHILY.fflags".toUTF8.data.toList
def kCaps : List UInt8 := "GRIPSACK.caps".toUTF8.data.toList
def kSet : List UInt8 := "hdrcharset".toUTF8.data.toList
def vSet : List UInt8 := "BINARY".toUTF8.data.toList
def validU (l : List UInt8) : Bool := (TextW.TextM.rd l).2.2
abbrev Rc := List UInt8 × List UInt8
def longP (e : En) : Bool := (HeadM.splitL e.path.data.toList).isNone
def longT (e : En) : Bool := decide (100 < e.target.size)
def longS (s n : Int) : Bool := decide (n ≠ 0) || decide (s < 0) || decide (8589934592 ≤ s)
def one (b : Bool) (k v : List UInt8) : List Rc := if b then [(k, v)] else []
def recsE (e : En) : List Rc :=
  one ((longP e && !validU e.path.data.toList) || (longT e && !validU e.target.data.toList)) kSet vSet ++
  (one (longP e) kPath e.path.data.toList ++ (one (longT e) kLink e.target.data.toList ++
  (one (decide (2097151 < e.m.uid)) kUid (Lib.itoa e.m.uid) ++ (one (decide (2097151 < e.m.gid)) kGid (Lib.itoa e.m.gid) ++
  (one (longS e.m.sec e.m.nano) kTime (StampW.StampM.textF e.m.sec e.m.nano) ++
  (one (decide (e.m.acl ≠ [])) kAcl (AclM.textL e.m.acl) ++ (one (decide (e.m.dfl ≠ [])) kDfl (AclM.textL e.m.dfl) ++
  (one (decide (e.m.flags ≠ 0)) kFlags (FlagsW.FlagsM.textI e.m.flags) ++ (one (decide (e.m.cap.v ≠ 0)) kCaps (SixM.p3 (CapsM.putL e.m.cap)) ++
  XatM.recsL e.m.xat)))))))))
def recsOk (l : List Rc) : Bool := l.all (fun r => RecW.RecM.mayB r.1 r.2) && decide ((RecW.RecM.joinF l).length ≤ 65536)
def dev (k : Int) : Bool := decide (k = 4) || decide (k = 5)
def numOk (n : Int) : Bool := decide (0 ≤ n) && decide (n ≤ 2097151)
def bodyOk (e : En) : Bool :=
  decide (e.data.size ≤ 65536) && (decide (e.kind = 1) || decide (e.data.size = 0)) && (numOk e.major && numOk e.minor) && (dev e.kind || (decide (e.major = 0) && decide (e.minor = 0)))
def targetOk (e : En) : Bool :=
  if e.kind = 2 then pathOk e.target.data.toList
  else if e.kind = 3 then decide (1 ≤ e.target.size) && decide (e.target.size ≤ 4096) && decide ((0 : UInt8) ∉ e.target.data.toList)
  else decide (e.target.size = 0)
def metaOk (e : En) : Bool := if e.kind = 2 then sameM e.m zeroM else mayM e.m e.kind
def mayE (e : En) : Bool := pathOk e.path.data.toList && (decide (1 ≤ e.kind) && decide (e.kind ≤ 7)) && metaOk e && bodyOk e && targetOk e && recsOk (recsE e)
def sameE (a b : En) : Bool :=
  decide (a.path = b.path) && decide (a.kind = b.kind) && sameM a.m b.m && decide (a.data = b.data) && decide (a.target = b.target) && decide (a.major = b.major) && decide (a.minor = b.minor)
def firstB (s : ByteArray) (n : Nat) : ByteArray := strOf (s.data.toList.take n)
def headE (e : En) : HeadM.Hd where
  name := match HeadM.splitL e.path.data.toList with | some (_, n) => strOf n | none => firstB e.path 100
  mode := e.m.mode
  uid := if 2097151 < e.m.uid then 0 else e.m.uid
  gid := if 2097151 < e.m.gid then 0 else e.m.gid
  size := (e.data.size : Int)
  mtime := if longS e.m.sec e.m.nano then 0 else e.m.sec
  typ := UInt8.ofNat (47 + e.kind.toNat)
  link := firstB e.target 100
  uname := ⟨#[]⟩
  gname := ⟨#[]⟩
  major := e.major
  minor := e.minor
  pre := match HeadM.splitL e.path.data.toList with | some (p, _) => strOf p | none => ⟨#[]⟩

theorem one_ok {b : Bool} {k v : List UInt8} (h : b = true → RecW.RecM.keyB k = true ∧ v.length ≤ 1000) : ∀ r ∈ one b k v, RecW.RecM.mayB r.1 r.2 = true ∧ (RecW.RecM.putF r.1 r.2).length ≤ 1300 := by
  intro r hr
  unfold one at hr
  cases b with
  | false => simp at hr
  | true =>
    simp only [if_true, List.mem_singleton] at hr
    subst hr
    obtain ⟨h1, h2⟩ := h rfl
    have h3 : k.length ≤ 255 := by unfold RecW.RecM.keyB at h1; simp only [Bool.and_eq_true, decide_eq_true_eq] at h1; exact h1.1.1.2
    have h4 := (RecW.RecM.lenF_bounds (3 + k.length + v.length)).2
    have hm : RecW.RecM.mayB k v = true := by unfold RecW.RecM.mayB; rw [h1, decide_eq_true (by omega)]; rfl
    refine ⟨hm, ?_⟩
    rw [RecW.RecM.put_may hm, RecW.RecM.enc_length _ _ (by omega)]
    omega
theorem one_len (b : Bool) (k v : List UInt8) : (one b k v).length ≤ 1 := by cases b <;> simp [one]
theorem join_len {l : List Rc} {c : Nat} (h : ∀ r ∈ l, (RecW.RecM.putF r.1 r.2).length ≤ c) : (RecW.RecM.joinF l).length ≤ c * l.length := by
  induction l with
  | nil => simp [RecW.RecM.joinF]
  | cons r t ih =>
    have h1 := h r (by simp)
    have h2 := ih (fun x hx => h x (by simp [hx]))
    have e : RecW.RecM.joinF (r :: t) = RecW.RecM.putF r.1 r.2 ++ RecW.RecM.joinF t := by simp [RecW.RecM.joinF]
    rw [e, List.length_append, List.length_cons, Nat.mul_add, Nat.mul_one]
    omega
end EntM
end Go.Proofs.YtbhnhoenjoagbaaGreatDoor

/- What the walks from stage 15 on lean on in memory. -/
namespace Go.Proofs.YtbhnhoenjoagbaaGreatDoor
open Go.RowKit

structure Amb (w : World) : Prop where
  b : AmbB w
  tx : TextW.Amb w
  fl : FlagsW.Amb w
theorem Amb.on {w w' : World} (h : Amb w) (hb : Below w.heap.size w w') : Amb w' := ⟨h.b.on hb, h.tx.on hb, h.fl.on hb⟩
structure AmbO (w : World) : Prop where
  a : Amb w
  f : AmbF w
theorem AmbO.on {w w' : World} (h : AmbO w) (hb : Below w.heap.size w w') : AmbO w' := ⟨h.a.on hb, h.f.on hb⟩
end Go.Proofs.YtbhnhoenjoagbaaGreatDoor

/- What the frames of this seat's laws share: the wrap with the listed variables and the world's shape. -/
namespace Go.Proofs.YtbhnhoenjoagbaaGreatDoor
open Go.ChangeShapes Go.WideShapes Go.ChangeAt Go.RowKit Go.Joins

theorem wrap_laid {H : Type} {enc : TypeId × Value → H} {a : Assume} {C : Checked} {os : Os} {f : FuncId} {fn : Func} {s : ChangeSpec} {conds : List PathCond} {apart fresh handsOn again : Bool} {X : World → Array Value → Prop}
    (hX : ∀ (w w' : World) (args : Array Value), w.heap = w'.heap → X w args → X w' args)
    (own : ownKnob C.prog.godebug = none) (started : os.Started) (noInit : C.prog.inits.idxOf? f = none) (hfn : C.prog.funcs[f]? = some fn)
    (witness : ∃ (w : World) (tape : Tape) (i : Input), w.os = os ∧ (w.forCall tape i).Shaped C.prog ∧ i.vars = [] ∧ Input.okWide C.prog (w.forCall tape i) .any w.heap.size f i ∧
      ((s.pre enc C.prog fn conds apart (w.forCall tape i).memory i.args ∧ X (w.forCall tape i).memory i.args) ∧ sizedMet enc C.prog fn (OpenSpec.ofChange s) apart (w.forCall tape i).memory i.args) ∧ a.holds C.prog (lone (Frame.enter C.prog f i.args .normal) [] (w.forCall tape i)))
    (contract : ∀ (W : World) (base : Nat) (args : Array Value) (ds gs : List (DataW H)) (before : List MemPlace),
      (∀ (j : Nat) t v, fn.params[j]? = some t → args[j]? = some v → Value.okWide C.prog W .any base t v) →
      DataW.Whole enc C.prog fn.params.toList s.vars apart W args.toList ds gs before →
      (DataW.weightsEach C.prog (fn.params.toList ++ s.plain.varTypes C.prog) (ds ++ gs)).all (· ≤ reachBytes) = true → X W args → W.ShapedOpen C.prog →
      Calls C.prog f args W fun e W' => ∃ v, e = .returned v ∧ s.post enc C.prog fn apart fresh handsOn again W args v W') :
    ReturnsInHanded a C os f .any (fun w args => (s.pre enc C.prog fn conds apart w args ∧ X w args) ∧ sizedMet enc C.prog fn (OpenSpec.ofChange s) apart w args) (s.post enc C.prog fn apart fresh handsOn again) := by
  refine returnsInHanded_of_calls own started noInit witness ?_
  intro w tape i _ hsh _ hok hpre _
  obtain ⟨_, _, _, fn', hfn', _, _, _, _, hval⟩ := hok
  have e : fn' = fn := Option.some.inj (hfn'.symm.trans hfn)
  subst e
  obtain ⟨⟨⟨ds, gs, before, hw, hc⟩, hx⟩, hz⟩ := hpre
  have hw' := DataW.Whole.of_heap (w' := w.forCall tape i) (by rfl) hw
  refine (contract (w.forCall tape i) w.heap.size i.args ds gs before hval hw' (hz.weights hw) (hX _ _ _ (by rfl) hx) hsh).mono fun e W' ⟨v, he, hp⟩ => ?_
  subst he
  exact ChangeSpec.post_blind hp

theorem star_err : "*" ++ "errors.errorString" = "*errors.errorString" := by decide
theorem iface_only (u : TypeId) (h : Tryz.prog.typeName? 3 u = some "*errors.errorString") : u = 283 :=
  typeName_ptr_named (nm := "errors.errorString") (by rw [star_err]; kernel_rfl) (by kernel_rfl) (by decide) u (by rw [star_err]; exact h)
theorem amb_of {W : World} {l : List (String × DataW Unit)} (hl : l = Rows.entryPathsRow.laid) (h : laidMetH Tryz.prog l W) (hsh : W.ShapedOpen Tryz.prog) : Amb W := by
  subst hl
  rw [MakeChecks.laidMetH_plain _ _ _ (by kernel_rfl)] at h
  have hb : AmbB W := by
    refine ⟨?_, ?_⟩
    · have h3 := h.tail.tail.tail
      exact Lib.tabIs_of_head (g := 2) (t := 249) (e := 33) (n := 20) (by kernel_rfl) (by kernel_rfl) Tryz.underlying249 Tryz.underlying33 (by kernel_rfl) (by kernel_rfl) h3
    · exact cell_of_shapedOpen_int (P := Tryz.prog) (g := 3) (t := 3) (zero := #[.int .i64 0]) hsh (of_decide_eq_true (by kernel_rfl)) (by kernel_rfl) rfl (by kernel_rfl) (by kernel_rfl) Tryz.underlying3
  have ha : Amb W := by
    refine ⟨hb, ?_, ?_⟩
    · have h1 := h
      have hc := TabM.cells_of_head (g := 1) (t := 246) 3 (by kernel_rfl) (by kernel_rfl) (by kernel_rfl) h1
      intro i v hv
      exact hc i v hv
    · have h1 := h.tail.tail.tail.tail.tail
      have hc := TabM.cells_of_head (g := 0) (t := 149) 3 (by kernel_rfl) (by kernel_rfl) (by kernel_rfl) h1
      intro i v hv
      exact hc i v hv
  exact ha
end Go.Proofs.YtbhnhoenjoagbaaGreatDoor

/- Entries whose texts are short: their records may be. -/
namespace Go.Proofs.YtbhnhoenjoagbaaGreatDoor
open Go.RowKit
open MetaM PathM
set_option linter.unusedVariables false
namespace EntM

theorem esc_enc (c : UInt8) : ∀ x ∈ EscM.enc c, x ≠ 61 ∧ x ≠ 0 := by
  have hs : ∀ x : UInt8, EscM.self x = true → x ≠ 61 ∧ x ≠ 0 := by
    intro x h
    unfold EscM.self at h
    simp only [Bool.and_eq_true, decide_eq_true_eq] at h
    refine ⟨fun e => ?_, fun e => ?_⟩
    · subst e; exact h.2 (by decide)
    · subst e; exact absurd h.1.1.1 (by decide)
  intro x hx
  unfold EscM.enc at hx
  split at hx
  · rename_i h
    simp only [List.mem_singleton] at hx
    subst hx
    exact hs _ h
  · simp only [List.mem_cons, List.not_mem_nil, or_false] at hx
    have hc := c.toNat_lt
    rcases hx with rfl | rfl | rfl
    · exact ⟨by decide, by decide⟩
    · exact hs _ (EscM.H_self _ (by omega)).1
    · exact hs _ (EscM.H_self _ (by omega)).1
theorem esc_plain (l : List UInt8) : ∀ x ∈ EscM.put l, x ≠ 61 ∧ x ≠ 0 := by
  intro x hx
  unfold EscM.put at hx
  obtain ⟨c, _, h⟩ := List.mem_flatMap.1 hx
  exact esc_enc c x h
theorem key_of {k : List UInt8} (h1 : 1 ≤ k.length) (h2 : k.length ≤ 255) (h3 : (0 : UInt8) ∉ k) (h4 : (61 : UInt8) ∉ k) : RecW.RecM.keyB k = true := by
  unfold RecW.RecM.keyB
  rw [decide_eq_true h1, decide_eq_true h2]
  simp [h3, h4]
theorem put_le {k v : List UInt8} (hk : RecW.RecM.keyB k = true) (hv : v.length ≤ 1000) : RecW.RecM.mayB k v = true ∧ (RecW.RecM.putF k v).length ≤ 1300 := by
  have := one_ok (b := true) (k := k) (v := v) (fun _ => ⟨hk, hv⟩) (k, v) (by simp [one])
  exact this
theorem xrec_ok {x : XatM.Xa} (hx : XatM.okX x = true) (hv : x.2.length ≤ 700) : ∀ r ∈ XatM.recOf x, RecW.RecM.mayB r.1 r.2 = true ∧ (RecW.RecM.putF r.1 r.2).length ≤ 1300 := by
  obtain ⟨h1, h2, h3, h4, _⟩ := XatM.okX_parts hx
  have hm := XatM.put_mono x.1
  intro r hr
  unfold XatM.recOf at hr
  rcases List.mem_append.1 hr with hr | hr
  · by_cases hc : x.1.contains 61 = true
    · rw [if_pos hc] at hr; simp at hr
    · rw [if_neg hc, List.mem_singleton] at hr
      subst hr
      refine put_le (key_of (by simp [XatM.sK]) (by simp [XatM.sK]; omega) ?_ ?_) (by simp only; omega)
      · intro h
        rcases List.mem_append.1 h with h | h
        · exact absurd h (by decide)
        · have : x.1.contains 0 = true := by simpa using h
          rw [h2] at this; cases this
      · intro h
        rcases List.mem_append.1 h with h | h
        · exact absurd h (by decide)
        · exact hc (by simpa using h)
  · rw [List.mem_singleton] at hr
    subst hr
    refine put_le (key_of (by simp [XatM.lK]) (by simp [XatM.lK]; omega) ?_ ?_) (by simp only; rw [SixM.p3_length]; omega)
    · intro h
      rcases List.mem_append.1 h with h | h
      · exact absurd h (by decide)
      · exact (esc_plain _ _ h).2 rfl
    · intro h
      rcases List.mem_append.1 h with h | h
      · exact absurd h (by decide)
      · exact (esc_plain _ _ h).1 rfl
theorem recOf_len (x : XatM.Xa) : (XatM.recOf x).length ≤ 2 := by
  unfold XatM.recOf
  split <;> simp
theorem xrecs_ok {l : List XatM.Xa} (hm : XatM.mayL l = true) (hv : ∀ x ∈ l, x.2.length ≤ 700) : (∀ r ∈ XatM.recsL l, RecW.RecM.mayB r.1 r.2 = true ∧ (RecW.RecM.putF r.1 r.2).length ≤ 1300) ∧ (XatM.recsL l).length ≤ 2 * l.length := by
  have hp := XatM.may_parts hm
  unfold XatM.recsL
  rw [if_pos hm]
  refine ⟨fun r hr => ?_, ?_⟩
  · obtain ⟨x, hx, h⟩ := List.mem_flatMap.1 hr
    exact xrec_ok (hp.2.1 x hx) (hv x hx) r h
  · clear hm hv hp
    induction l with
    | nil => simp
    | cons x t ih =>
      have h1 := recOf_len x
      rw [List.flatMap_cons, List.length_append, List.length_cons]
      omega
structure Short (m : Mt) : Prop where
  uid : -9223372036854775808 ≤ m.uid ∧ m.uid ≤ 9223372036854775807
  gid : -9223372036854775808 ≤ m.gid ∧ m.gid ≤ 9223372036854775807
  time : longS m.sec m.nano = true → (StampW.StampM.textF m.sec m.nano).length ≤ 1000
  acl : m.acl ≠ [] → (AclM.textL m.acl).length ≤ 1000
  dfl : m.dfl ≠ [] → (AclM.textL m.dfl).length ≤ 1000
  flags : (FlagsW.FlagsM.textI m.flags).length ≤ 1000
  xat : XatM.mayL m.xat = true
  xval : ∀ x ∈ m.xat, x.2.length ≤ 700
  xlen : m.xat.length ≤ 12
theorem recs_parts {e : En} (h : Short e.m) (hp : e.path.size ≤ 1000) (ht : e.target.size ≤ 1000) : (∀ r ∈ recsE e, RecW.RecM.mayB r.1 r.2 = true ∧ (RecW.RecM.putF r.1 r.2).length ≤ 1300) ∧ (recsE e).length ≤ 34 := by
  have hx := xrecs_ok h.xat h.xval
  have hl := h.xlen
  have lp : e.path.data.toList.length ≤ 1000 := by simpa using hp
  have lt : e.target.data.toList.length ≤ 1000 := by simpa using ht
  have P : ∀ r ∈ recsE e, RecW.RecM.mayB r.1 r.2 = true ∧ (RecW.RecM.putF r.1 r.2).length ≤ 1300 := by
    intro r hr
    unfold recsE at hr
    simp only [List.mem_append] at hr
    rcases hr with hr | hr | hr | hr | hr | hr | hr | hr | hr | hr | hr
    · exact one_ok (fun _ => ⟨by decide +kernel, by decide +kernel⟩) r hr
    · exact one_ok (fun _ => ⟨by decide +kernel, lp⟩) r hr
    · exact one_ok (fun _ => ⟨by decide +kernel, lt⟩) r hr
    · exact one_ok (fun _ => ⟨by decide +kernel, by have := (DecM.itoa_len e.m.uid h.uid.1 h.uid.2).2; omega⟩) r hr
    · exact one_ok (fun _ => ⟨by decide +kernel, by have := (DecM.itoa_len e.m.gid h.gid.1 h.gid.2).2; omega⟩) r hr
    · exact one_ok (fun hb => ⟨by decide +kernel, h.time hb⟩) r hr
    · exact one_ok (fun hb => ⟨by decide +kernel, h.acl (of_decide_eq_true hb)⟩) r hr
    · exact one_ok (fun hb => ⟨by decide +kernel, h.dfl (of_decide_eq_true hb)⟩) r hr
    · exact one_ok (fun _ => ⟨by decide +kernel, h.flags⟩) r hr
    · exact one_ok (fun _ => ⟨by decide +kernel, by rw [SixM.p3_length]; have := CapsM.putL_size e.m.cap; omega⟩) r hr
    · exact hx.1 r hr
  have hn : (recsE e).length ≤ 34 := by
    unfold recsE
    simp only [List.length_append]
    have := one_len
    have a1 := one_len ((longP e && !validU e.path.data.toList) || (longT e && !validU e.target.data.toList)) kSet vSet
    have a2 := one_len (longP e) kPath e.path.data.toList
    have a3 := one_len (longT e) kLink e.target.data.toList
    have a4 := one_len (decide (2097151 < e.m.uid)) kUid (Lib.itoa e.m.uid)
    have a5 := one_len (decide (2097151 < e.m.gid)) kGid (Lib.itoa e.m.gid)
    have a6 := one_len (longS e.m.sec e.m.nano) kTime (StampW.StampM.textF e.m.sec e.m.nano)
    have a7 := one_len (decide (e.m.acl ≠ [])) kAcl (AclM.textL e.m.acl)
    have a8 := one_len (decide (e.m.dfl ≠ [])) kDfl (AclM.textL e.m.dfl)
    have a9 := one_len (decide (e.m.flags ≠ 0)) kFlags (FlagsW.FlagsM.textI e.m.flags)
    have a10 := one_len (decide (e.m.cap.v ≠ 0)) kCaps (SixM.p3 (CapsM.putL e.m.cap))
    omega
  exact ⟨P, hn⟩
theorem recs_ok {e : En} (h : Short e.m) (hp : e.path.size ≤ 1000) (ht : e.target.size ≤ 1000) : recsOk (recsE e) = true := by
  obtain ⟨P, hn⟩ := recs_parts h hp ht
  have hj := join_len (c := 1300) (l := recsE e) (fun r hr => (P r hr).2)
  unfold recsOk
  rw [List.all_eq_true.2 (fun r hr => (P r hr).1), decide_eq_true (by omega)]
  rfl
theorem recs_short {e : En} (h : Short e.m) (hp : e.path.size ≤ 1000) (ht : e.target.size ≤ 1000) : (∀ r ∈ recsE e, r.1.length + r.2.length ≤ 9000) ∧ (recsE e).length ≤ 100 := by
  obtain ⟨P, hn⟩ := recs_parts h hp ht
  refine ⟨fun r hr => ?_, by omega⟩
  obtain ⟨h1, h2⟩ := P r hr
  rw [RecW.RecM.put_may h1] at h2
  have hk : r.1.length + r.2.length ≤ 100000 := by
    have h3 := ((RecW.RecM.may_iff _ _).1 h1).2.2.2.2
    have h4 := (RecW.RecM.lenF_bounds (3 + r.1.length + r.2.length)).1
    omega
  rw [RecW.RecM.enc_length _ _ (by omega)] at h2
  have h4 := (RecW.RecM.lenF_bounds (3 + r.1.length + r.2.length)).1
  omega
end EntM
end Go.Proofs.YtbhnhoenjoagbaaGreatDoor

/- Access lists in order: what that means for their first, their last, each of their parts. -/
namespace Go.Proofs.YtbhnhoenjoagbaaGreatDoor.AclW
open Go.RowKit
open AclM
set_option linter.unusedVariables false

theorem lt_iff (a b : Ace) : ltA a b = true ↔ a.1 < b.1 ∨ (a.1 = b.1 ∧ a.2.1 < b.2.1) := by simp [ltA]
theorem lt_trans' {a b c : Ace} (h1 : ltA a b = true) (h2 : ltA b c = true) : ltA a c = true := by
  rw [lt_iff] at *
  omega
def PW (l : List Ace) : Prop := l.Pairwise fun a b => ltA a b = true
theorem order_pw : ∀ {l : List Ace}, order l = true ↔ PW l
  | [] => by simp [order, PW]
  | [a] => by simp [order, PW]
  | a :: b :: r => by
    have ih := order_pw (l := b :: r)
    show (ltA a b && order (b :: r)) = true ↔ _
    rw [Bool.and_eq_true, ih]
    constructor
    · rintro ⟨h1, h2⟩
      refine List.pairwise_cons.2 ⟨fun x hx => ?_, h2⟩
      rcases List.mem_cons.1 hx with rfl | hx
      · exact h1
      · exact lt_trans' h1 ((List.pairwise_cons.1 h2).1 x hx)
    · intro h
      obtain ⟨h1, h2⟩ := List.pairwise_cons.1 h
      exact ⟨h1 b (by simp), h2⟩
theorem findN_neg (t : Int) : ∀ (l : List Ace) (i : Nat), findN t l i < 0 ↔ ∀ a ∈ l, a.1 ≠ t
  | [], i => by simp [findN]
  | a :: l, i => by
    unfold findN
    by_cases h : a.1 = t
    · rw [if_pos h]
      constructor
      · intro e; omega
      · intro e; exact absurd h (e a (by simp))
    · rw [if_neg h, findN_neg t l (i + 1)]
      simp [h]
theorem has_iff {l : List Ace} {t : Int} : has l t = true ↔ ∃ a ∈ l, a.1 = t := by
  unfold has
  rw [decide_eq_true_eq]
  have h := findN_neg t l 0
  constructor
  · intro e
    by_cases hh : ∀ a ∈ l, a.1 ≠ t
    · have := h.2 hh; omega
    · simp only [ne_eq, Classical.not_forall, Classical.not_not] at hh
      obtain ⟨a, ha, h2⟩ := hh
      exact ⟨a, ha, h2⟩
  · rintro ⟨a, ha, h2⟩
    rcases Int.lt_or_le (findN t l 0) 0 with h3 | h3
    · exact absurd h2 (h.1 h3 a ha)
    · exact h3
theorem findN_at (t : Int) : ∀ (l : List Ace) (i k : Nat), findN t l i = ((i + k : Nat) : Int) → ∃ h : k < l.length, l[k].1 = t
  | [], i, k, h => by simp [findN] at h; omega
  | a :: l, i, k, h => by
    unfold findN at h
    by_cases ha : a.1 = t
    · rw [if_pos ha] at h
      obtain rfl : k = 0 := by omega
      exact ⟨by simp, ha⟩
    · rw [if_neg ha] at h
      rcases findN_in t l (i + 1) with h1 | ⟨j, h1, h2⟩
      · omega
      · obtain ⟨h3, h4⟩ := findN_at t l (i + 1) j h2
        obtain rfl : k = j + 1 := by omega
        exact ⟨by simpa using h1, by simpa using h4⟩
theorem permN_of {l : List Ace} {t p : Int} (h1 : ∃ a ∈ l, a.1 = t) (h2 : ∀ a ∈ l, a.1 = t → a.2.2 = p) : permN l t = p := by
  unfold permN
  rcases findN_in t l 0 with h | ⟨k, hk, h⟩
  · obtain ⟨a, ha, h3⟩ := h1
    exact absurd h3 ((findN_neg t l 0).1 (by omega) a ha)
  · rw [h, if_neg (by omega), Int.toNat_natCast, Nat.zero_add]
    obtain ⟨_, h4⟩ := findN_at t l 0 k h
    have := h2 l[k] (List.getElem_mem hk) h4
    simpa [List.getD, hk] using this

/-! ### Valid lists -/
theorem tags_iff {l : List Ace} : tags l = true ↔ has l 1 = true ∧ has l 3 = true ∧ has l 6 = true ∧ has l 5 = (has l 2 || has l 4) := by
  unfold tags
  simp only [Bool.and_eq_true, beq_iff_eq]
  constructor
  · rintro ⟨⟨⟨a, b⟩, c⟩, d⟩; exact ⟨a, b, c, d⟩
  · rintro ⟨a, b, c, d⟩; exact ⟨⟨⟨a, b⟩, c⟩, d⟩
theorem may_iff {l : List Ace} : may l = true ↔ l.length ≤ 32 ∧ (∀ a ∈ l, okPart a = true) ∧ PW l ∧ has l 1 = true ∧ has l 3 = true ∧ has l 6 = true ∧ has l 5 = (has l 2 || has l 4) := by
  constructor
  · intro h
    obtain ⟨h1, h2, h3, h4⟩ := may_parts h
    exact ⟨h2, h1, order_pw.1 h3, tags_iff.1 h4⟩
  · rintro ⟨h2, h1, h3, h4⟩
    unfold may
    rw [order_pw.2 h3, tags_iff.2 h4, decide_eq_true h2, List.all_eq_true.2 h1]
    rfl
end Go.Proofs.YtbhnhoenjoagbaaGreatDoor.AclW

/- Lists by numbers: a part put in its place. -/
namespace Go.Proofs.YtbhnhoenjoagbaaGreatDoor.AclW
open Go.RowKit
open AclM
set_option linter.unusedVariables false

def addL : List Ace → Ace → List Ace
  | [], a => [a]
  | x :: l, a => if x.2.1 < a.2.1 then x :: addL l a else if x.2.1 = a.2.1 then a :: l else a :: x :: l
theorem addL_mem {l : List Ace} {a x : Ace} (h : x ∈ addL l a) : x = a ∨ x ∈ l := by
  induction l with
  | nil => simp [addL] at h; exact .inl h
  | cons y l ih =>
    unfold addL at h
    split at h
    · rcases List.mem_cons.1 h with h | h
      · exact .inr (by simp [h])
      · rcases ih h with h | h
        · exact .inl h
        · exact .inr (by simp [h])
    · split at h
      · rcases List.mem_cons.1 h with h | h
        · exact .inl h
        · exact .inr (by simp [h])
      · rcases List.mem_cons.1 h with h | h
        · exact .inl h
        · exact .inr h
theorem addL_len (l : List Ace) (a : Ace) : 1 ≤ (addL l a).length ∧ (addL l a).length ≤ l.length + 1 := by
  induction l with
  | nil => simp [addL]
  | cons y l ih =>
    unfold addL
    split
    · simp only [List.length_cons]; omega
    · split <;> simp only [List.length_cons] <;> omega
structure Grp (t : Int) (l : List Ace) : Prop where
  all : ∀ a ∈ l, a.1 = t ∧ 0 ≤ a.2.1 ∧ a.2.1 ≤ 127 ∧ 0 ≤ a.2.2 ∧ a.2.2 ≤ 7
  asc : l.Pairwise fun x y => x.2.1 < y.2.1
theorem Grp.nil (t : Int) : Grp t [] := ⟨by simp, List.Pairwise.nil⟩
theorem addL_asc {l : List Ace} {a : Ace} (h : l.Pairwise fun x y => x.2.1 < y.2.1) : (addL l a).Pairwise fun x y => x.2.1 < y.2.1 := by
  induction l with
  | nil => simp [addL]
  | cons y l ih =>
    obtain ⟨h1, h2⟩ := List.pairwise_cons.1 h
    unfold addL
    split
    · rename_i hlt
      refine List.pairwise_cons.2 ⟨fun x hx => ?_, ih h2⟩
      rcases addL_mem hx with rfl | hx
      · exact hlt
      · exact h1 x hx
    · split
      · rename_i he
        refine List.pairwise_cons.2 ⟨fun x hx => ?_, h2⟩
        have := h1 x hx
        omega
      · refine List.pairwise_cons.2 ⟨fun x hx => ?_, h⟩
        rcases List.mem_cons.1 hx with rfl | hx
        · omega
        · have := h1 x hx
          omega
theorem Grp.add {t : Int} {l : List Ace} {a : Ace} (h : Grp t l) (h1 : a.1 = t) (h2 : 0 ≤ a.2.1) (h3 : a.2.1 ≤ 127) (h4 : 0 ≤ a.2.2) (h5 : a.2.2 ≤ 7) : Grp t (addL l a) :=
  ⟨fun x hx => (addL_mem hx).elim (fun e => by rw [e]; exact ⟨h1, h2, h3, h4, h5⟩) (fun hx => h.all x hx), addL_asc h.asc⟩

theorem add_step {l : List Ace} {a : Ace} {k : Nat} (hk : k < l.length) (h : addL l a = l.take k ++ addL (l.drop k) a) (hlt : l[k].2.1 < a.2.1) : addL l a = l.take (k + 1) ++ addL (l.drop (k + 1)) a := by
  rw [h, List.drop_eq_getElem_cons hk, List.take_succ_eq_append_getElem hk]
  show _ ++ (if l[k].2.1 < a.2.1 then l[k] :: addL (l.drop (k + 1)) a else _) = _
  rw [if_pos hlt, List.append_assoc]
  rfl
theorem add_end {l : List Ace} {a : Ace} {k : Nat} (hk : l.length ≤ k) (h : addL l a = l.take k ++ addL (l.drop k) a) : addL l a = l.take k ++ [a] ++ l.drop k := by
  rw [h, List.drop_eq_nil_of_le hk]
  simp [addL]
theorem add_same {l : List Ace} {a : Ace} {k : Nat} (hk : k < l.length) (h : addL l a = l.take k ++ addL (l.drop k) a) (he : l[k].2.1 = a.2.1) : addL l a = l.take k ++ [a] ++ (l.drop k).drop 1 := by
  rw [h, List.drop_eq_getElem_cons hk]
  show _ ++ (if l[k].2.1 < a.2.1 then _ else if l[k].2.1 = a.2.1 then a :: l.drop (k + 1) else _) = _
  rw [if_neg (by omega), if_pos he]
  simp
theorem add_more {l : List Ace} {a : Ace} {k : Nat} (hk : k < l.length) (h : addL l a = l.take k ++ addL (l.drop k) a) (h1 : ¬ l[k].2.1 < a.2.1) (h2 : l[k].2.1 ≠ a.2.1) : addL l a = l.take k ++ [a] ++ l.drop k := by
  rw [h, List.drop_eq_getElem_cons hk]
  show _ ++ (if l[k].2.1 < a.2.1 then _ else if l[k].2.1 = a.2.1 then _ else a :: l[k] :: l.drop (k + 1)) = _
  rw [if_neg h1, if_neg h2]
  simp

def makeL (us gs : List Ace) (o g p q : Int) : List Ace :=
  if us.length + gs.length = 0 then [(1, 0, o)] ++ us ++ [(3, 0, g), (6, 0, p)] else [(1, 0, o)] ++ us ++ [(3, 0, q)] ++ gs ++ [(5, 0, g), (6, 0, p)]
theorem pw_append {a b : List Ace} : PW (a ++ b) ↔ PW a ∧ PW b ∧ ∀ x ∈ a, ∀ y ∈ b, ltA x y = true := List.pairwise_append
theorem Grp.pw {t : Int} {l : List Ace} (h : Grp t l) : PW l := by
  refine List.Pairwise.imp_of_mem ?_ h.asc
  intro a b ha hb hab
  rw [lt_iff]
  exact .inr ⟨by rw [(h.all a ha).1, (h.all b hb).1], hab⟩
theorem pw_one (a : Ace) : PW [a] := List.pairwise_singleton _ _
theorem pw_two {a b : Ace} (h : ltA a b = true) : PW [a, b] := List.pairwise_cons.2 ⟨by simpa using h, List.pairwise_singleton _ _⟩
theorem lt_tag {a b : Ace} (h : a.1 < b.1) : ltA a b = true := (lt_iff _ _).2 (.inl h)
theorem make_good {us gs : List Ace} {o g p q : Int} (hu : Grp 2 us) (hg : Grp 4 gs) (hul : us.length ≤ 6) (hgl : gs.length ≤ 6)
    (ho : 0 ≤ o ∧ o ≤ 7) (hgr : 0 ≤ g ∧ g ≤ 7) (hp : 0 ≤ p ∧ p ≤ 7) (hq : 0 ≤ q ∧ q ≤ 7) :
    may (makeL us gs o g p q) = true ∧ modeL (makeL us gs o g p q) = 64 * o + 8 * g + p := by
  unfold makeL
  have okg : ∀ (t : Int) (l : List Ace), (t = 2 ∨ t = 4) → Grp t l → ∀ a ∈ l, okPart a = true := by
    intro t l ht hl a ha
    obtain ⟨h1, h2, h3, h4, h5⟩ := hl.all a ha
    have hh : hasId a.1 = true := by rw [h1]; rcases ht with rfl | rfl <;> rfl
    unfold okPart
    rw [if_pos hh]
    simp only [Bool.and_eq_true, decide_eq_true_eq]
    omega
  have ok1 : ∀ (t x : Int), (t = 1 ∨ t = 3 ∨ t = 5 ∨ t = 6) → 0 ≤ x → x ≤ 7 → okPart (t, 0, x) = true := by
    intro t x ht h1 h2
    rcases ht with rfl | rfl | rfl | rfl <;> simp [okPart, hasId] <;> omega
  by_cases h0 : us.length + gs.length = 0
  · rw [if_pos h0]
    obtain rfl : us = [] := List.eq_nil_of_length_eq_zero (by omega)
    have hm : may ([(1, 0, o)] ++ [] ++ [(3, 0, g), (6, 0, p)]) = true := by
      refine may_iff.2 ⟨by simp, ?_, ?_, by simp [has, findN], by simp [has, findN], by simp [has, findN], by simp [has, findN]⟩
      · intro a ha
        simp at ha
        rcases ha with rfl | rfl | rfl
        · exact ok1 _ _ (by omega) ho.1 ho.2
        · exact ok1 _ _ (by omega) hgr.1 hgr.2
        · exact ok1 _ _ (by omega) hp.1 hp.2
      · exact order_pw.1 (by simp [order, ltA])
    refine ⟨hm, ?_⟩
    simp [modeL, permN, has, findN]
  · rw [if_neg h0]
    have mem : ∀ a, a ∈ [((1, 0, o) : Ace)] ++ us ++ [(3, 0, q)] ++ gs ++ [(5, 0, g), (6, 0, p)] ↔ a = (1, 0, o) ∨ a ∈ us ∨ a = (3, 0, q) ∨ a ∈ gs ∨ a = (5, 0, g) ∨ a = (6, 0, p) := by
      intro a
      simp only [List.mem_append, List.mem_singleton, List.mem_cons, List.not_mem_nil, or_false, or_assoc]
    have hu1 : ∀ a ∈ us, a.1 = 2 := fun a ha => (hu.all a ha).1
    have hg1 : ∀ a ∈ gs, a.1 = 4 := fun a ha => (hg.all a ha).1
    have hpw : PW ([((1, 0, o) : Ace)] ++ us ++ [(3, 0, q)] ++ gs ++ [(5, 0, g), (6, 0, p)]) := by
      refine pw_append.2 ⟨pw_append.2 ⟨pw_append.2 ⟨pw_append.2 ⟨pw_one _, hu.pw, ?_⟩, pw_one _, ?_⟩, hg.pw, ?_⟩, pw_two (by simp [ltA]), ?_⟩
      · intro x hx y hy
        simp at hx; subst hx
        exact lt_tag (by rw [hu1 y hy]; simp)
      · intro x hx y hy
        simp at hy; subst hy
        rcases List.mem_append.1 hx with hx | hx
        · simp at hx; subst hx; exact lt_tag (by simp)
        · exact lt_tag (by rw [hu1 x hx]; simp)
      · intro x hx y hy
        refine lt_tag ?_
        rw [hg1 y hy]
        simp only [List.mem_append, List.mem_singleton] at hx
        rcases hx with (rfl | hx) | rfl
        · simp
        · rw [hu1 x hx]; simp
        · simp
      · intro x hx y hy
        refine lt_tag ?_
        have hx4 : x.1 ≤ 4 := by
          simp only [List.mem_append, List.mem_singleton] at hx
          rcases hx with ((rfl | hx) | rfl) | hx
          · simp
          · rw [hu1 x hx]; simp
          · simp
          · rw [hg1 x hx]; simp
        simp at hy
        rcases hy with rfl | rfl <;> simp <;> omega
    generalize hL : [((1, 0, o) : Ace)] ++ us ++ [(3, 0, q)] ++ gs ++ [(5, 0, g), (6, 0, p)] = L at *
    have hlen : L.length ≤ 32 := by
      rw [← hL]
      simp
      omega
    have h5 : has L 5 = true := has_iff.2 ⟨_, (mem _).2 (.inr (.inr (.inr (.inr (.inl rfl))))), rfl⟩
    have h24 : (has L 2 || has L 4) = true := by
      rw [Bool.or_eq_true]
      by_cases hu0 : us = []
      · right
        rcases gs with _ | ⟨a, gs⟩
        · subst hu0; simp at h0
        · exact has_iff.2 ⟨a, (mem _).2 (.inr (.inr (.inr (.inl (by simp))))), hg1 a (by simp)⟩
      · left
        rcases us with _ | ⟨a, us⟩
        · exact absurd rfl hu0
        · exact has_iff.2 ⟨a, (mem _).2 (.inr (.inl (by simp))), hu1 a (by simp)⟩
    have hm : may L = true := by
      refine may_iff.2 ⟨hlen, ?_, hpw, has_iff.2 ⟨_, (mem _).2 (.inl rfl), rfl⟩, has_iff.2 ⟨_, (mem _).2 (.inr (.inr (.inl rfl))), rfl⟩, has_iff.2 ⟨_, (mem _).2 (.inr (.inr (.inr (.inr (.inr rfl))))), rfl⟩, by rw [h5, h24]⟩
      intro a ha
      rcases (mem a).1 ha with rfl | ha | rfl | ha | rfl | rfl
      · exact ok1 _ _ (by omega) ho.1 ho.2
      · exact okg 2 us (.inl rfl) hu a ha
      · exact ok1 _ _ (by omega) hq.1 hq.2
      · exact okg 4 gs (.inr rfl) hg a ha
      · exact ok1 _ _ (by omega) hgr.1 hgr.2
      · exact ok1 _ _ (by omega) hp.1 hp.2
    refine ⟨hm, ?_⟩
    have p1 : permN L 1 = o := permN_of ⟨_, (mem _).2 (.inl rfl), rfl⟩ (by
      intro a ha ht
      rcases (mem a).1 ha with rfl | ha | rfl | ha | rfl | rfl
      · rfl
      · rw [hu1 a ha] at ht; cases ht
      · cases ht
      · rw [hg1 a ha] at ht; cases ht
      · cases ht
      · cases ht)
    have p5 : permN L 5 = g := permN_of ⟨_, (mem _).2 (.inr (.inr (.inr (.inr (.inl rfl))))), rfl⟩ (by
      intro a ha ht
      rcases (mem a).1 ha with rfl | ha | rfl | ha | rfl | rfl
      · cases ht
      · rw [hu1 a ha] at ht; cases ht
      · cases ht
      · rw [hg1 a ha] at ht; cases ht
      · rfl
      · cases ht)
    have p6 : permN L 6 = p := permN_of ⟨_, (mem _).2 (.inr (.inr (.inr (.inr (.inr rfl))))), rfl⟩ (by
      intro a ha ht
      rcases (mem a).1 ha with rfl | ha | rfl | ha | rfl | rfl
      · cases ht
      · rw [hu1 a ha] at ht; cases ht
      · cases ht
      · rw [hg1 a ha] at ht; cases ht
      · cases ht
      · rfl)
    unfold modeL
    rw [h5, if_pos rfl, p1, p5, p6]
end Go.Proofs.YtbhnhoenjoagbaaGreatDoor.AclW
