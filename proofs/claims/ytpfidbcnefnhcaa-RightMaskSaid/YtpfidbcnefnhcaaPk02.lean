/- Bundle of 18 texts. -/
import Derived.Test.YtpfidbcnefnhcaaPk01
import Derived.Deep.QuietTactic
import Derived.Test.YtpfidbcnefnhcaaChecked
import Derived.BigQuiet
import Derived.Outline
import Derived.Laws.Tables
import Derived.Deep.RegionHeld3
import Derived.Laws.MakeOwn
import Derived.Test.YtpfidbcnefnhcaaKit
import Derived.OpenShut
import Derived.RegionTactic
import Derived.Below
import Derived.WalkKit
/- Access lists in order: what that means for their first, their last, each of their parts. -/
namespace Go.Proofs.Ytpfidbcnefnhcaa.AclW
open Go.RowKit
open AclM
set_option linter.unusedVariables false

theorem lt_iff (a b : Ace) : ltA a b = true ↔ a.1 < b.1 ∨ (a.1 = b.1 ∧ a.2.1 < b.2.1) := by simp [ltA]
theorem lt_trans' {a b c : Ace} (h1 : ltA a b = true) (h2 : ltA b c = true) : ltA a c = true := by
  rw [lt_iff] at *
  omega
def PW (l : List Ace) : Prop := l.Pairwise fun a b => ltA a b = true
theorem order_pw : ∀ {l : List Ace}, order l = true ↔ PW l
  | [] => by simp [order, PW]
  | [a] => by simp [order, PW]
  | a :: b :: r => by
    have ih := order_pw (l := b :: r)
    show (ltA a b && order (b :: r)) = true ↔ _
    rw [Bool.and_eq_true, ih]
    constructor
    · rintro ⟨h1, h2⟩
      refine List.pairwise_cons.2 ⟨fun x hx => ?_, h2⟩
      rcases List.mem_cons.1 hx with rfl | hx
      · exact h1
      · exact lt_trans' h1 ((List.pairwise_cons.1 h2).1 x hx)
    · intro h
      obtain ⟨h1, h2⟩ := List.pairwise_cons.1 h
      exact ⟨h1 b (by simp), h2⟩
theorem findN_neg (t : Int) : ∀ (l : List Ace) (i : Nat), findN t l i < 0 ↔ ∀ a ∈ l, a.1 ≠ t
  | [], i => by simp [findN]
  | a :: l, i => by
    unfold findN
    by_cases h : a.1 = t
    · rw [if_pos h]
      constructor
      · intro e; omega
      · intro e; exact absurd h (e a (by simp))
    · rw [if_neg h, findN_neg t l (i + 1)]
      simp [h]
theorem has_iff {l : List Ace} {t : Int} : has l t = true ↔ ∃ a ∈ l, a.1 = t := by
  unfold has
  rw [decide_eq_true_eq]
  have h := findN_neg t l 0
  constructor
  · intro e
    by_cases hh : ∀ a ∈ l, a.1 ≠ t
    · have := h.2 hh; omega
    · simp only [ne_eq, Classical.not_forall, Classical.not_not] at hh
      obtain ⟨a, ha, h2⟩ := hh
      exact ⟨a, ha, h2⟩
  · rintro ⟨a, ha, h2⟩
    rcases Int.lt_or_le (findN t l 0) 0 with h3 | h3
    · exact absurd h2 (h.1 h3 a ha)
    · exact h3
end Go.Proofs.Ytpfidbcnefnhcaa.AclW

/- The document's answer: an Id or none, letters, digits, perms, the mode. -/
namespace Go.Proofs.Ytpfidbcnefnhcaa.AclW
open Go.RowKit
open AclM DecM
open Go.Lib (decDigits itoa)
set_option linter.unusedVariables false

def permR (l : List Ace) (t : Int) : Int := if has l t = true then permN l t else -1
end Go.Proofs.Ytpfidbcnefnhcaa.AclW

/- Who may what, as plain mathematics. -/
namespace Go.Proofs.Ytpfidbcnefnhcaa
open MetaM
namespace RightM
open AclM AclW

structure Cr where
  uid : Int
  gid : Int
  groups : List Int
  powers : Int
def inM (c : Cr) (g : Int) : Bool := decide (c.gid = g) || c.groups.any fun x => decide (x = g)
def gr (p w : Nat) : Bool := decide (p &&& w = w)
def fromL (m : Int) : List Ace := [(1, 0, m / 64 % 8), (3, 0, m / 8 % 8), (6, 0, m % 8)]
def listM (m : Mt) : List Ace := if m.acl = [] then fromL m.mode else m.acl
def maskM (l : List Ace) : Nat := if permR l 5 < 0 then 7 else (permR l 5).toNat
def permM (l : List Ace) (t : Int) : Nat := (permR l t).toNat
def userM (l : List Ace) (u : Int) : Option Ace := l.find? fun a => decide (a.1 = 2) && decide (a.2.1 = u)
def grpM (m : Mt) (c : Cr) (a : Ace) : Bool := (decide (a.1 = 3) && inM c m.gid) || (decide (a.1 = 4) && inM c a.2.1)
def hasAll (c : Cr) : Bool := decide (c.powers / 2 % 2 = 1)
def hasOwn (c : Cr) : Bool := decide (c.powers / 4 % 2 = 1)
def restM (l : List Ace) (m : Mt) (c : Cr) (w : Nat) : Bool :=
  match userM l c.uid with
  | some a => gr a.2.2.toNat w && gr (maskM l) w
  | none => if l.any (grpM m c) then (l.any fun a => grpM m c a && gr a.2.2.toNat w) && gr (maskM l) w else gr (permM l 6) w
def canM (m : Mt) (c : Cr) (w : Int) : Bool :=
  if w < 0 ∨ 7 < w then false
  else if hasAll c then true
  else if m.uid = c.uid then gr (permM (listM m) 1) w.toNat
  else restM (listM m) m c w.toNat
def ownM (m : Mt) (c : Cr) : Bool := decide (m.uid = c.uid) || hasOwn c
def gF (l : List Ace) (x : Nat) : Nat := l.foldl (fun x a => if a.1 = 2 then x &&& a.2.2.toNat else x) x
def oF (l : List Ace) (k x : Nat) : Nat := l.foldl (fun x a => if a.1 = 2 ∨ a.1 = 4 then (x &&& a.2.2.toNat) &&& k else x) x
def lessM (m : Mt) : Nat :=
  if m.acl = [] then (m.mode % 512).toNat
  else 64 * permM m.acl 1 + 8 * gF m.acl (permM m.acl 3 &&& maskM m.acl) + oF m.acl (maskM m.acl) (permM m.acl 6)
def okL (m : Mt) : Prop := m.acl = [] ∨ may m.acl = true

theorem gr_iff (p w : Nat) : gr p w = true ↔ ∀ i, w.testBit i = true → p.testBit i = true := by
  unfold gr
  rw [decide_eq_true_eq]
  constructor
  · intro h i hi
    rw [← h, Nat.testBit_and, Bool.and_eq_true] at hi
    exact hi.1
  · intro h
    apply Nat.eq_of_testBit_eq
    intro i
    rw [Nat.testBit_and]
    cases hw : w.testBit i with
    | false => rw [Bool.and_false]
    | true => rw [h i hw]; rfl
theorem gr_and (p q w : Nat) : gr (p &&& q) w = (gr p w && gr q w) := by
  rw [Bool.eq_iff_iff, Bool.and_eq_true, gr_iff, gr_iff, gr_iff]
  constructor
  · intro h
    refine ⟨fun i hi => ?_, fun i hi => ?_⟩ <;> (have := h i hi; rw [Nat.testBit_and, Bool.and_eq_true] at this)
    · exact this.1
    · exact this.2
  · rintro ⟨h1, h2⟩ i hi
    rw [Nat.testBit_and, h1 i hi, h2 i hi]; rfl
theorem gr_seven : ∀ w : Fin 8, gr 7 w.val = true := by decide +kernel
theorem gr_7 {w : Nat} (h : w < 8) : gr 7 w = true := gr_seven ⟨w, h⟩
theorem can_nat (m : Mt) (c : Cr) {w : Nat} (h : w < 8) : canM m c (w : Int) = if hasAll c then true else if m.uid = c.uid then gr (permM (listM m) 1) w else restM (listM m) m c w := by
  unfold canM
  rw [if_neg (by omega), Int.toNat_natCast]
theorem can_out (m : Mt) (c : Cr) {w : Int} (h : w < 0 ∨ 7 < w) : canM m c w = false := by
  unfold canM
  rw [if_pos h]
theorem permR_mem {l : List Ace} {t : Int} (h : has l t = true) : ∃ a ∈ l, a.1 = t ∧ permR l t = a.2.2 := by
  unfold permR permN
  rw [if_pos h]
  have key : ∀ (l : List Ace) (i : Nat), 0 ≤ findN t l i → ∃ k, ∃ hk : k < l.length, findN t l i = ((i + k : Nat) : Int) ∧ l[k].1 = t := by
    intro l
    induction l with
    | nil => intro i h; exact absurd h (by simp [findN])
    | cons a l ih =>
      intro i h
      unfold findN at h ⊢
      by_cases ha : a.1 = t
      · rw [if_pos ha]
        exact ⟨0, by simp, by simp, ha⟩
      · rw [if_neg ha] at h ⊢
        obtain ⟨k, hk, h1, h2⟩ := ih (i + 1) h
        refine ⟨k + 1, by simpa using hk, ?_, by simpa using h2⟩
        rw [h1]
        congr 1
        omega
  obtain ⟨k, hk, h1, h2⟩ := key l 0 (of_decide_eq_true h)
  rw [h1, Nat.zero_add, if_neg (by omega), Int.toNat_natCast]
  refine ⟨l[k], List.getElem_mem hk, h2, ?_⟩
  simp [List.getD, hk]
theorem may_has {l : List Ace} (h : may l = true) : has l 1 = true ∧ has l 3 = true ∧ has l 6 = true := by
  have h4 := (may_parts h).2.2.2
  unfold tags at h4
  simp only [Bool.and_eq_true] at h4
  exact ⟨h4.1.1.1, h4.1.1.2, h4.1.2⟩
end RightM
end Go.Proofs.Ytpfidbcnefnhcaa

/- Capabilities as a value. -/
namespace Go.Proofs.Ytpfidbcnefnhcaa
open Go.RowKit
open MetaM
open CapsM in
def capV (c : Cap) : Value := .agg #[.int .i64 c.v, .int .u64 (c.p : Int), .int .u64 (c.i : Int), .bool c.e, .int .i64 c.r]
end Go.Proofs.Ytpfidbcnefnhcaa

/- Walks over package acl: Same; and the document's answer of it. -/
namespace Go.Proofs.Ytpfidbcnefnhcaa.AclW
open Go.RowKit
open AclM
set_option linter.unusedVariables false

def sameL (l m : List Ace) : Bool := decide (l = m)
end Go.Proofs.Ytpfidbcnefnhcaa.AclW

/- Lists of names with values, and of records, in memory. -/
namespace Go.Proofs.Ytpfidbcnefnhcaa.XatW
open Go.RowKit
open XatM
set_option linter.unusedVariables false

structure IsTwo (E : Elt Xa) : Prop where
  k : E.k = 2
  enc : ∀ a, E.enc a = [.string (strOf a.1), .string (strOf a.2)]
def xatE : Elt Xa where
  t := 71
  st := 25
  k := 2
  z := .agg #[.string ⟨#[]⟩, .string ⟨#[]⟩]
  bytes := 32
  enc a := [.string (strOf a.1), .string (strOf a.2)]
  len _ := rfl
  one _ u h := by simp at h; rcases h with rfl | rfl <;> rfl
  pos := by decide
  und := Try.underlying25
  inf := by kernel_rfl
  zk := rfl
  small := by decide
def TwoAt (w : World) (g o : Nat) (a : Xa) : Prop := w.cell? ⟨g, o, none⟩ = some (.string (strOf a.1)) ∧ w.cell? ⟨g, o + 1, none⟩ = some (.string (strOf a.2))
theorem TwoAt.kept {w w1 : World} {g o : Nat} {a : Xa} (h : TwoAt w g o a) (hb : Below w.heap.size w w1) : TwoAt w1 g o a := ⟨cell_kept hb h.1, cell_kept hb h.2⟩
def twoV (a : Xa) : Value := .agg #[.string (strOf a.1), .string (strOf a.2)]
end Go.Proofs.Ytpfidbcnefnhcaa.XatW

/- Metadata in memory; when two are one; nothing but three numbers. -/
namespace Go.Proofs.Ytpfidbcnefnhcaa
open Go.RowKit
open MetaM
set_option linter.unusedVariables false

def metaC (m : Mt) (va vd vx : Value) : Array Value := #[.int .i64 m.mode, .int .i64 m.uid, .int .i64 m.gid, .int .i64 m.sec, .int .i64 m.nano, va, vd, vx, .int .i64 m.cap.v, .int .u64 (m.cap.p : Int), .int .u64 (m.cap.i : Int), .bool m.cap.e, .int .i64 m.cap.r, .int .i64 m.flags]
structure MetaAt (m : Mt) (va vd vx : Value) (w : World) : Prop where
  acl : At AclW.aceE va m.acl w
  dfl : At AclW.aceE vd m.dfl w
  xat : At XatW.xatE vx m.xat w
  la : m.acl.length ≤ 1000000
  ld : m.dfl.length ≤ 1000000
  lx : m.xat.length ≤ 1000000
theorem MetaAt.call {m : Mt} {va vd vx : Value} {w w1 : World} (h : MetaAt m va vd vx w) (hb : Below w.heap.size w w1) : MetaAt m va vd vx w1 := ⟨h.acl.call hb, h.dfl.call hb, h.xat.call hb, h.la, h.ld, h.lx⟩
def MetaM.sameM (a b : Mt) : Bool :=
  decide (a.mode = b.mode) && decide (a.uid = b.uid) && decide (a.gid = b.gid) && decide (a.sec = b.sec ∧ a.nano = b.nano) && AclW.sameL a.acl b.acl && AclW.sameL a.dfl b.dfl && decide (a.xat = b.xat) &&
    decide (a.cap.v = b.cap.v ∧ a.cap.p = b.cap.p ∧ a.cap.i = b.cap.i ∧ a.cap.e = b.cap.e ∧ a.cap.r = b.cap.r) && decide (a.flags = b.flags)
theorem plain_build (a b c : Int) (w : World) : (Instr.build 30 #[(0, .int .i64 a), (1, .int .i64 b), (2, .int .i64 c)]).run Try.prog w = .ok (.agg #[.int .i64 a, .int .i64 b, .int .i64 c, .int .i64 0, .int .i64 0, .slice none 0 0, .slice none 0 0, .slice none 0 0, .int .i64 0, .int .u64 0, .int .u64 0, .bool false, .int .i64 0, .int .i64 0]) w :=
  run_build w _ _ _ (by kernel_rfl)
def MetaM.plainM (a b c : Int) : Mt := ⟨a, b, c, 0, 0, [], [], [], ⟨0, 0, 0, false, 0⟩, 0⟩
def nilV : Value := .slice none 0 0
end Go.Proofs.Ytpfidbcnefnhcaa

/- Lists by numbers: a part put in its place. -/
namespace Go.Proofs.Ytpfidbcnefnhcaa.AclW
open Go.RowKit
open AclM
set_option linter.unusedVariables false

def addL : List Ace → Ace → List Ace
  | [], a => [a]
  | x :: l, a => if x.2.1 < a.2.1 then x :: addL l a else if x.2.1 = a.2.1 then a :: l else a :: x :: l
theorem addL_mem {l : List Ace} {a x : Ace} (h : x ∈ addL l a) : x = a ∨ x ∈ l := by
  induction l with
  | nil => simp [addL] at h; exact .inl h
  | cons y l ih =>
    unfold addL at h
    split at h
    · rcases List.mem_cons.1 h with h | h
      · exact .inr (by simp [h])
      · rcases ih h with h | h
        · exact .inl h
        · exact .inr (by simp [h])
    · split at h
      · rcases List.mem_cons.1 h with h | h
        · exact .inl h
        · exact .inr (by simp [h])
      · rcases List.mem_cons.1 h with h | h
        · exact .inl h
        · exact .inr h
structure Grp (t : Int) (l : List Ace) : Prop where
  all : ∀ a ∈ l, a.1 = t ∧ 0 ≤ a.2.1 ∧ a.2.1 ≤ 127 ∧ 0 ≤ a.2.2 ∧ a.2.2 ≤ 7
  asc : l.Pairwise fun x y => x.2.1 < y.2.1
theorem Grp.nil (t : Int) : Grp t [] := ⟨by simp, List.Pairwise.nil⟩
theorem addL_asc {l : List Ace} {a : Ace} (h : l.Pairwise fun x y => x.2.1 < y.2.1) : (addL l a).Pairwise fun x y => x.2.1 < y.2.1 := by
  induction l with
  | nil => simp [addL]
  | cons y l ih =>
    obtain ⟨h1, h2⟩ := List.pairwise_cons.1 h
    unfold addL
    split
    · rename_i hlt
      refine List.pairwise_cons.2 ⟨fun x hx => ?_, ih h2⟩
      rcases addL_mem hx with rfl | hx
      · exact hlt
      · exact h1 x hx
    · split
      · rename_i he
        refine List.pairwise_cons.2 ⟨fun x hx => ?_, h2⟩
        have := h1 x hx
        omega
      · refine List.pairwise_cons.2 ⟨fun x hx => ?_, h⟩
        rcases List.mem_cons.1 hx with rfl | hx
        · omega
        · have := h1 x hx
          omega
theorem Grp.add {t : Int} {l : List Ace} {a : Ace} (h : Grp t l) (h1 : a.1 = t) (h2 : 0 ≤ a.2.1) (h3 : a.2.1 ≤ 127) (h4 : 0 ≤ a.2.2) (h5 : a.2.2 ≤ 7) : Grp t (addL l a) :=
  ⟨fun x hx => (addL_mem hx).elim (fun e => by rw [e]; exact ⟨h1, h2, h3, h4, h5⟩) (fun hx => h.all x hx), addL_asc h.asc⟩

def makeL (us gs : List Ace) (o g p q : Int) : List Ace :=
  if us.length + gs.length = 0 then [(1, 0, o)] ++ us ++ [(3, 0, g), (6, 0, p)] else [(1, 0, o)] ++ us ++ [(3, 0, q)] ++ gs ++ [(5, 0, g), (6, 0, p)]
theorem Grp.pw {t : Int} {l : List Ace} (h : Grp t l) : PW l := by
  refine List.Pairwise.imp_of_mem ?_ h.asc
  intro a b ha hb hab
  rw [lt_iff]
  exact .inr ⟨by rw [(h.all a ha).1, (h.all b hb).1], hab⟩
end Go.Proofs.Ytpfidbcnefnhcaa.AclW

/- The document's answer: whether a list may be, by counts of tags. -/
namespace Go.Proofs.Ytpfidbcnefnhcaa.AclW
open Go.RowKit
open AclM
set_option linter.unusedVariables false

def cntT (l : List Ace) (k : Nat) : Nat := (l.filter fun a => decide (a.1 = (k : Int))).length
def onceC (f : Nat → Nat) : Array Value := #[.int .i64 (f 0 : Int), .int .i64 (f 1 : Int), .int .i64 (f 2 : Int), .int .i64 (f 3 : Int), .int .i64 (f 4 : Int), .int .i64 (f 5 : Int), .int .i64 (f 6 : Int)]
end Go.Proofs.Ytpfidbcnefnhcaa.AclW

/- The document's answer: whether a list may be. -/
namespace Go.Proofs.Ytpfidbcnefnhcaa.AclW
open Go.RowKit
open AclM
set_option linter.unusedVariables false
attribute [local irreducible] Row At

end Go.Proofs.Ytpfidbcnefnhcaa.AclW

/- A slice of integers that came in: what it reads as, at every place, and in every later world. -/
namespace Go.Proofs.Ytpfidbcnefnhcaa
open Go.RowKit

def IsRow (k : IntKind) (w : World) (a : Option Addr) (len cap : Nat) (zs : List Int) : Prop :=
  (a = none ∧ len = 0 ∧ cap = 0 ∧ zs = []) ∨
  ∃ x, a = some x ∧ len ≤ cap ∧ cap ≤ maxLen ∧ zs.length = cap ∧ (∀ i, i < zs.length → w.cell? (x.add i) = some (.int k (zs.getD i 0))) ∧ (∀ n ∈ zs, (Lit.int k n).wf = true)
theorem IsRow.open {k : IntKind} {w : World} {a : Option Addr} {len cap : Nat} {zs : List Int} (h : IsRow k w a len cap zs) (hp : 0 < len) :
    ∃ b off, a = some ⟨b, off, none⟩ ∧ b < w.heap.size ∧ len ≤ cap ∧ (∀ j, j < len → w.cell? ⟨b, off + j, none⟩ = some (.int k (zs.getD j 0)) ∧ (Lit.int k (zs.getD j 0)).wf = true) := by
  rcases h with ⟨_, h, _⟩ | ⟨x, rfl, hl, hm, hz, hc, hw⟩
  · omega
  · obtain ⟨b, off, rfl, hat⟩ := ints_at hc (by omega)
    refine ⟨b, off, rfl, block_lt (hat 0 (by omega)), hl, fun j hj => ⟨hat j (by omega), hw _ ?_⟩⟩
    have : j < zs.length := by omega
    simp [List.getD, List.getElem?_eq_getElem this]
end Go.Proofs.Ytpfidbcnefnhcaa

/- Small facts of metadata and of rows that came in. -/
namespace Go.Proofs.Ytpfidbcnefnhcaa
open Go.RowKit
open MetaM
set_option linter.unusedVariables false

end Go.Proofs.Ytpfidbcnefnhcaa

/- The document's answer to who may what: groups, powers, owners. -/
namespace Go.Proofs.Ytpfidbcnefnhcaa
open Go.RowKit
open MetaM RightM
set_option linter.unusedVariables false

def intE : Elt Int where
  t := 3
  st := 31
  k := 1
  z := .int .i64 0
  bytes := 8
  enc a := [.int .i64 a]
  len _ := rfl
  one _ u h := by simp at h; subst h; rfl
  pos := by decide
  und := Try.underlying31
  inf := by kernel_rfl
  zk := rfl
  small := by decide
theorem int_look {v : Value} {l : List Int} {w : World} (h : At intE v l w) :
    ∃ p cap, v = .slice p l.length cap ∧ l.length ≤ cap ∧ ∀ j (h : j < l.length), ∃ g off, p = some ⟨g, off, none⟩ ∧ g < w.heap.size ∧ w.cell? ⟨g, off + j, none⟩ = some (.int .i64 l[j]) := by
  by_cases hl : l = []
  · obtain ⟨p, cap, h1, h2⟩ := h.shape
    exact ⟨p, cap, h1, h2, fun j hj => by subst hl; simp at hj⟩
  · obtain ⟨g, off, cap, h1, h2, h3, h4⟩ := h.open hl
    refine ⟨_, cap, h1, h2, fun j hj => ⟨g, off, rfl, h3, ?_⟩⟩
    have a0 := h4 j hj 0 _ rfl
    rw [show off + (j * intE.k + 0) = off + j by show off + (j * 1 + 0) = _; omega] at a0
    exact a0
def credC (c : Cr) (gv : Value) : Array Value := #[.int .i64 c.uid, .int .i64 c.gid, gv, .int .i64 c.powers]
structure CredAt (c : Cr) (gv : Value) (w : World) : Prop where
  groups : At intE gv c.groups w
  len : c.groups.length ≤ 1000000
theorem CredAt.call {c : Cr} {gv : Value} {w w1 : World} (h : CredAt c gv w) (hb : Below w.heap.size w w1) : CredAt c gv w1 := ⟨h.groups.call hb, h.len⟩
theorem int_beq (a b : Int) : decide (a = b) = (a == b) := by by_cases h : a = b <;> simp [h]
theorem nat_and2 (x : Nat) : x &&& 2 = x / 2 % 2 * 2 := by
  have h : ∀ y : Fin 4, y.val &&& 2 = y.val / 2 % 2 * 2 := by decide
  have e : x &&& 2 = (x % 4) &&& 2 := by
    have h1 : x % 4 = x &&& 3 := (Nat.and_two_pow_sub_one_eq_mod x 2).symm
    have h2 : (3 : Nat) &&& 2 = 2 := by decide
    rw [h1, Nat.and_assoc, h2]
  have := h ⟨x % 4, Nat.mod_lt _ (by decide)⟩
  simp only at this
  omega
theorem and2 (n : Int) : bits .and .i64 n 2 = n / 2 % 2 * 2 := by
  have key : (BitVec.ofInt 64 n &&& BitVec.ofInt 64 2).toNat = (n % ((2 ^ 64 : Nat) : Int)).toNat / 2 % 2 * 2 := by
    rw [BitVec.toNat_and, BitVec.toNat_ofInt, show (BitVec.ofInt 64 2).toNat = 2 by decide, nat_and2]
  show IntKind.i64.wrap ((BitVec.ofInt 64 n &&& BitVec.ofInt 64 2).toNat : Int) = _
  rw [key, IntKind.wrap_i64]
  omega
theorem has_all (c : Cr) : (bits .and .i64 c.powers 2 != 0) = hasAll c := by
  rw [and2]
  unfold hasAll
  rcases (by omega : c.powers / 2 % 2 = 0 ∨ c.powers / 2 % 2 = 1) with h | h <;> rw [h] <;> rfl
attribute [local irreducible] Row At

end Go.Proofs.Ytpfidbcnefnhcaa

/- A region that draws its order, whose operations make memory beside calls: one step an operation, whatever the order. -/
namespace Go.Proofs.Ytpfidbcnefnhcaa
open Go Go.RowKit

section
variable {P : Program} {Q : Exit → Act → World → Prop}

def dstOf (l : List Oper) (j : Nat) : Nat := ((l[j]?).bind (·.dst)).getD 0
def valOf (l : List Oper) (a : Act) (j : Nat) : Value := a.tmps.getD (dstOf l j) undef
def findDst (l : List Oper) (k : Nat) : Option Nat := l.findIdx? (fun o => o.dst == some k)
def goodOps (l : List Oper) (n : Nat) : Bool :=
  (List.range l.length).all fun i => match l[i]? with
    | none => false
    | some o => o.guard.isNone && o.dst.isSome && decide (dstOf l i < n) && (findDst l (dstOf l i) == some i) && (o.after.all fun e => decide (e.on < i))
def setAll : List Oper → (Nat → Value) → Nat → Array Value → Array Value
  | [], _, _, t => t
  | o :: l, vals, i, t => setAll l vals (i + 1) (match o.dst with | some d => t.setIfInBounds d (vals i) | none => t)

def StepOk (P : Program) (Q : Exit → Act → World → Prop) (l : List Oper) (S : World → Prop) (V : Nat → World → Value → Prop) (a0 : Act) (i : Nat) (o : Oper) : Prop :=
  ∀ (a : Act) (w : World) (K : Act → World → Prop), S w →
    (∀ e ∈ o.after, Region.binds .any e = true → V e.on w (valOf l a e.on)) →
    (∀ k, findDst l k = none → a.tmps.getD k undef = a0.tmps.getD k undef) →
    (∀ v w', Below w.heap.size w w' → S w' → V i w' v → K (a.put o.dst v) w') → Oper.wp P o a w K Q
def StepsOk (P : Program) (Q : Exit → Act → World → Prop) (l : List Oper) (S : World → Prop) (V : Nat → World → Value → Prop) (a0 : Act) : List Oper → Nat → Prop
  | [], _ => True
  | o :: r, i => StepOk P Q l S V a0 i o ∧ StepsOk P Q l S V a0 r (i + 1)

structure FrameIs (l : List Oper) (V : Nat → World → Value → Prop) (S : World → Prop) (a0 : Act) (vals : Nat → Value) (listed : Array Bool) (a : Act) (w : World) : Prop where
  hS : S w
  hd : a.defers = a0.defers
  hz : a.tmps.size = a0.tmps.size
  hv : ∀ i, listed.getD i false = true → V i w (vals i)
  ht : ∀ k, a.tmps[k]? = match findDst l k with
    | some i => if listed.getD i false = true then some (vals i) else a0.tmps[k]?
    | none => a0.tmps[k]?

theorem ready_spec {ops : Array Oper} {listed : Array Bool} {i : Nat} (h : i ∈ Region.ready .any ops listed) :
    ∃ o, ops[i]? = some o ∧ listed.getD i true = false ∧ ∀ e ∈ o.after, Region.binds .any e = true → listed.getD e.on false = true := by
  unfold Region.ready at h
  rw [List.mem_filter] at h
  obtain ⟨h1, h2⟩ := h
  rw [List.mem_range] at h1
  refine ⟨ops[i], by simp [h1], ?_, ?_⟩
  · simp at h2; simpa using h2.1
  · intro e he hb
    simp only [Bool.and_eq_true, Array.getElem?_eq_getElem h1, Option.map_some, Option.getD_some, Array.all_eq_true_iff_forall_mem] at h2
    have := h2.2 e he
    simpa [hb] using this
theorem count_set {b : List Bool} : ∀ {i : Nat}, b[i]? = some false → (b.set i true).count false + 1 = b.count false := by
  induction b with
  | nil => intro i h; simp at h
  | cons x b ih =>
    intro i h
    cases i with
    | zero =>
      simp at h; subst h
      simp
    | succ i =>
      simp at h
      have := ih h
      simp only [List.set_cons_succ, List.count_cons]
      omega

theorem setAll_size : ∀ (l : List Oper) (vals : Nat → Value) (i : Nat) (t : Array Value), (setAll l vals i t).size = t.size
  | [], _, _, _ => rfl
  | o :: l, vals, i, t => by
    rw [setAll, setAll_size]
    cases o.dst <;> simp
theorem findDst_cons (o : Oper) (l : List Oper) (k : Nat) : findDst (o :: l) k = if o.dst = some k then some 0 else (findDst l k).map (· + 1) := by
  unfold findDst
  rw [List.findIdx?_cons]
  by_cases h : o.dst = some k
  · simp [h]
  · have : (o.dst == some k) = false := by simpa using h
    simp [this, h]
def uniq : List Oper → Bool
  | [] => true
  | o :: l => (match o.dst with | some d => (findDst l d).isNone | none => true) && uniq l
theorem setAll_at : ∀ (l : List Oper) (vals : Nat → Value) (n : Nat) (t : Array Value) (k : Nat), uniq l = true → k < t.size → (setAll l vals n t)[k]? = match findDst l k with
    | some i => some (vals (n + i))
    | none => t[k]?
  | [], _, _, _, _, _, _ => rfl
  | o :: l, vals, n, t, k, hu, hk => by
    simp only [uniq, Bool.and_eq_true] at hu
    rw [setAll, findDst_cons]
    cases hd : o.dst with
    | none =>
      rw [setAll_at l vals (n + 1) t k hu.2 hk]
      cases hf : findDst l k with
      | none => simp
      | some i => simp; congr 1; omega
    | some d =>
      rw [setAll_at l vals (n + 1) _ k hu.2 (by simpa using hk)]
      by_cases e : d = k
      · subst e
        rw [hd] at hu
        have hn : findDst l d = none := by simpa using hu.1
        simp [hn, hk]
      · cases hf : findDst l k with
        | none => simp [e, Array.getElem?_setIfInBounds_ne e]
        | some i => simp [e]; congr 1; omega

def PersAll : List (World → Value → Prop) → Prop
  | [] => True
  | p :: l => (∀ w w' v, Below w.heap.size w w' → p w v → p w' v) ∧ PersAll l
theorem pers_at : ∀ {l : List (World → Value → Prop)}, PersAll l → ∀ i w w' v, Below w.heap.size w w' → l.getD i (fun _ _ => True) w v → l.getD i (fun _ _ => True) w' v
  | [], _, _, _, _, _, _, _ => trivial
  | p :: l, h, 0, w, w', v, hb, hv => h.1 w w' v hb hv
  | p :: l, h, i + 1, w, w', v, hb, hv => pers_at h.2 i w w' v hb hv
def goodAfter (l : List Oper) : Bool := (List.range l.length).all fun i => match l[i]? with
  | none => false
  | some o => o.after.all fun e => decide (e.on < i)
theorem ready_nil' {l : List Oper} {listed : Array Bool} (hg : goodAfter l = true) (hs : listed.size = l.length) (h : Region.ready .any l.toArray listed = []) :
    ∀ j, j < l.length → listed.getD j false = true := by
  intro j
  induction j using Nat.strongRecOn with
  | _ j ih =>
    intro hj
    have h1 : j ∉ Region.ready .any l.toArray listed := by rw [h]; simp
    unfold Region.ready at h1
    rw [List.mem_filter] at h1
    have h2 : j ∈ List.range l.toArray.size := by simpa using hj
    have h3 := fun hp => h1 ⟨h2, hp⟩
    have hgj := List.all_eq_true.1 hg j (by simpa using hj)
    rw [List.getElem?_eq_getElem hj] at hgj
    have hlt := Array.all_eq_true_iff_forall_mem.1 hgj
    have hall : l[j].after.all (fun e => !Region.binds .any e || listed.getD e.on false) = true := by
      rw [Array.all_eq_true_iff_forall_mem]
      intro e he
      have hlt := of_decide_eq_true (hlt e he)
      rw [ih e.on hlt (by omega)]
      simp
    have hjs : j < listed.size := by omega
    cases hb : listed[j] with
    | true => simp [hjs, hb]
    | false =>
      exfalso
      refine h3 ?_
      have e1 : listed.getD j true = false := by simp [hjs, hb]
      have e2 : l.toArray[j]? = some l[j] := by simp [hj]
      rw [e1, e2, Option.map_some, Option.getD_some, hall]
      rfl
theorem all_done {l : List Oper} {listed : Array Bool} (hs : listed.size = l.length) (h : ∀ j, j < l.length → listed.getD j false = true) {a : Act} {w : World} (hQ : Q .normal a w) :
    ∀ fuel, wpAny P .any l.toArray Q fuel listed a w := by
  have hr : Region.ready .any l.toArray listed = [] := by
    rw [List.eq_nil_iff_forall_not_mem]
    intro i hi
    obtain ⟨o, ho, hl, _⟩ := ready_spec hi
    have hil : i < l.length := by
      have := (Array.getElem?_eq_some_iff.1 ho).1
      simpa using this
    have h1 := h i hil
    have hi' : i < listed.size := by omega
    simp [hi'] at hl h1
    rw [hl] at h1; cases h1
  intro fuel
  cases fuel with
  | zero => exact ⟨hr, hQ⟩
  | succ fuel => exact ⟨fun _ => hQ, fun i hi => by rw [hr] at hi; cases hi⟩
theorem frame_full {l : List Oper} {S : World → Prop} {V : Nat → World → Value → Prop} {a0 a : Act} {w : World} {vals : Nat → Value} {listed : Array Bool} (hu : uniq l = true)
    (F : FrameIs l V S a0 vals listed a w) (hall : ∀ j, j < l.length → listed.getD j false = true) : a = ⟨setAll l vals 0 a0.tmps, a0.defers⟩ := by
  have h5 : ∀ k, a.tmps[k]? = match findDst l k with | some i => some (vals i) | none => a0.tmps[k]? := by
    intro k
    rw [F.ht k]
    cases hf : findDst l k with
    | none => rfl
    | some i =>
      have hi : i < l.length := by
        unfold findDst at hf
        exact (List.findIdx?_eq_some_iff_getElem.1 hf).1
      simp only [hall i hi, if_true]
  have h4 := F.hz
  have h3 := F.hd
  clear F
  obtain ⟨ta, da⟩ := a
  simp only at h3 h4 h5
  subst h3
  congr 1
  apply Array.ext_getElem?
  intro k
  rw [h5 k]
  rcases Nat.lt_or_ge k a0.tmps.size with hk | hk
  · rw [setAll_at l vals 0 a0.tmps k hu hk]
    cases findDst l k <;> simp
  · have e2 : (setAll l vals 0 a0.tmps)[k]? = none := by rw [Array.getElem?_eq_none]; rw [setAll_size]; exact hk
    rw [e2, ← h5 k, Array.getElem?_eq_none]; omega

def setN : Nat → List Oper → (Nat → Value) → Nat → Array Value → Array Value
  | 0, _, _, _, t => t
  | _ + 1, [], _, _, t => t
  | n + 1, o :: l, vals, i, t => setN n l vals (i + 1) (match o.dst with | some d => t.setIfInBounds d (vals i) | none => t)
theorem setN_eq : ∀ (n : Nat) (l : List Oper) (vals : Nat → Value) (i : Nat) (t : Array Value), setAll (l.take n) vals i t = setN n l vals i t
  | 0, _, _, _, _ => rfl
  | _ + 1, [], _, _, _ => rfl
  | n + 1, o :: l, vals, i, t => by
    rw [List.take_succ_cons, setAll, setN]
    exact setN_eq n l vals (i + 1) _
end
end Go.Proofs.Ytpfidbcnefnhcaa

/- A region that draws its order, whose operations make memory beside calls, some of them behind a guard that is met: one step an operation, whatever the order. -/
namespace Go.Proofs.Ytpfidbcnefnhcaa
open Go Go.RowKit

section
variable {P : Program} {Q : Exit → Act → World → Prop}

def goodOpsG (l : List Oper) (n : Nat) : Bool :=
  (List.range l.length).all fun i => match l[i]? with
    | none => false
    | some o => (match o.guard with | none => true | some (j, _) => decide (j < i) && (o.after.any fun e => e.on == j && Region.binds .any e)) && o.dst.isSome && decide (dstOf l i < n) && (findDst l (dstOf l i) == some i) && (o.after.all fun e => decide (e.on < i))
def MetOk (V : Nat → World → Value → Prop) (o : Oper) : Prop := ∀ j b, o.guard = some (j, b) → ∀ w v, V j w v → v = .bool b
def StepsOkG (P : Program) (Q : Exit → Act → World → Prop) (l : List Oper) (S : World → Prop) (V : Nat → World → Value → Prop) (a0 : Act) : List Oper → Nat → Prop
  | [], _ => True
  | o :: r, i => (MetOk V o ∧ StepOk P Q l S V a0 i o) ∧ StepsOkG P Q l S V a0 r (i + 1)
theorem met_none {V : Nat → World → Value → Prop} {o : Oper} (h : o.guard = none) : MetOk V o := fun j b hg => by rw [h] at hg; cases hg
end
end Go.Proofs.Ytpfidbcnefnhcaa

/- A region that draws its order, with a tail of stores behind all others: one step an operation, whatever the order. -/
namespace Go.Proofs.Ytpfidbcnefnhcaa
open Go Go.RowKit

section
variable {P : Program} {Q : Exit → Act → World → Prop}

def StepOkA (P : Program) (Q : Exit → Act → World → Prop) (l : List Oper) (A : Nat → Bool) (S : World → Prop) (V : Nat → World → Value → Prop) (a0 : Act) (i : Nat) (o : Oper) : Prop :=
  ∀ (a : Act) (w : World) (K : Act → World → Prop), S w →
    (∀ e ∈ o.after, Region.binds .any e = true → V e.on w (valOf l a e.on)) →
    (∀ k, findDst l k = none → a.tmps.getD k undef = a0.tmps.getD k undef) →
    (∀ v w', Below w.heap.size w w' → S w' → V i w' v → (A i = true → ∀ j u, j ≠ i → A j = true → V j w u → v ≠ u) → K (a.put o.dst v) w') → Oper.wp P o a w K Q
def StepsOkA (P : Program) (Q : Exit → Act → World → Prop) (l : List Oper) (A : Nat → Bool) (S : World → Prop) (V : Nat → World → Value → Prop) (a0 : Act) : List Oper → Nat → Prop
  | [], _ => True
  | o :: r, i => (MetOk V o ∧ StepOkA P Q l A S V a0 i o) ∧ StepsOkA P Q l A S V a0 r (i + 1)
def Differ (A : Nat → Bool) (listed : Array Bool) (vals : Nat → Value) : Prop := ∀ i j, listed.getD i false = true → listed.getD j false = true → i ≠ j → A i = true → A j = true → vals i ≠ vals j

def bound (o : Oper) : List Nat := (o.after.toList.filter (Region.binds .any)).map (·.on)
def clos (l : List Oper) : Nat → List Nat → List Nat
  | 0, s => s
  | n + 1, s => clos l n (s ++ s.flatMap fun k => match l[k]? with | some o => bound o | none => [])
def Down (l : List Oper) (listed : Array Bool) : Prop := ∀ j o, l[j]? = some o → listed.getD j false = true → ∀ k ∈ bound o, listed.getD k false = true
theorem bound_mem {o : Oper} {k : Nat} (h : k ∈ bound o) : ∃ e ∈ o.after, Region.binds .any e = true ∧ e.on = k := by
  obtain ⟨e, he, h1⟩ := List.mem_map.1 h
  obtain ⟨h2, h3⟩ := List.mem_filter.1 he
  exact ⟨e, by simpa using h2, h3, h1⟩

end
end Go.Proofs.Ytpfidbcnefnhcaa

/- The regions' laws with a goal behind a structure, so that no tactic opens it on the way. -/
namespace Go.Proofs.Ytpfidbcnefnhcaa
open Go Go.RowKit
structure Later (p : Prop) : Prop where
  out : p

section
variable {P : Program} {Q : Exit → Act → World → Prop}

end
end Go.Proofs.Ytpfidbcnefnhcaa

/- A region that draws its order, whose last two operations come behind all others through any number of steps: an append, say, and its assignment. -/
namespace Go.Proofs.Ytpfidbcnefnhcaa
open Go Go.RowKit

section
variable {P : Program} {Q : Exit → Act → World → Prop}

def reach (l : List Oper) : Nat → List Nat → List Nat
  | 0, s => s
  | n + 1, s => reach l n (if s.contains n = true then s ++ (match l[n]? with | some o => bound o | none => []) else s)
theorem reach_listed {l : List Oper} {listed : Array Bool} (hd : Down l listed) : ∀ (n : Nat) (s : List Nat), (∀ k ∈ s, listed.getD k false = true) → ∀ k ∈ reach l n s, listed.getD k false = true
  | 0, s, h => h
  | n + 1, s, h => reach_listed hd n _ (fun k hk => by
    split at hk
    · rename_i hn
      rcases List.mem_append.1 hk with h1 | h1
      · exact h k h1
      · cases hl : l[n]? with
        | none => rw [hl] at h1; cases h1
        | some o => rw [hl] at h1; exact hd n o hl (h n (List.contains_iff_mem.1 hn)) k h1
    · exact h k hk)
end
end Go.Proofs.Ytpfidbcnefnhcaa
