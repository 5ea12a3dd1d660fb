/- Bundle of 9 texts. -/
import Derived.Test.YtpfidbcnefnhcaaPk01
import Derived.Deep.QuietTactic
import Derived.Test.YtpfidbcnefnhcaaChecked
import Derived.BigQuiet
import Derived.Outline
import Derived.Laws.Tables
/- Names with values: which lists may be; their records; what records say. -/
namespace Go.Proofs.Ytpfidbcnefnhcaa
namespace XatM

abbrev Xa := List UInt8 × List UInt8
def anyOf (s m : List UInt8) : Bool := s.any fun c => m.contains c
def sK : List UInt8 := [83, 67, 72, 73, 76, 89, 46, 120, 97, 116, 116, 114, 46]
def lK : List UInt8 := [76, 73, 66, 65, 82, 67, 72, 73, 86, 69, 46, 120, 97, 116, 116, 114, 46]
def okX (x : Xa) : Bool := decide (x.1 ≠ []) && !x.1.contains 0 && decide ((EscM.put x.1).length ≤ 238) && decide (x.2.length ≤ 4096)
def asc : List Xa → Bool
  | x :: y :: r => decide (x.1 < y.1) && asc (y :: r)
  | _ => true
def mayL (l : List Xa) : Bool := decide (l.length ≤ 32) && l.all okX && asc l
def okAt (l : List Xa) (i : Nat) : Bool := match l[i]? with
  | some x => okX x && (match i with
    | 0 => true
    | j + 1 => match l[j]? with
      | some y => decide (y.1 < x.1)
      | none => true)
  | none => true
def recOf (x : Xa) : List Xa := (if x.1.contains 61 then [] else [(sK ++ x.1, x.2)]) ++ [(lK ++ EscM.put x.1, SixM.p3 x.2)]
def recsL (l : List Xa) : List Xa := if mayL l then l.flatMap recOf else []
def isX (k : List UInt8) : Bool := (decide (13 ≤ k.length) && decide (k.take 13 = sK)) || (decide (17 ≤ k.length) && decide (k.take 17 = lK))
def recX (r : Xa) : Option (Option Xa) :=
  if isX r.1 then
    (if r.1.head? = some 76 then (match EscM.get (r.1.drop 17), SixM.get r.2 with
      | some n, some v => some (some (n, v))
      | _, _ => some none)
    else some (some (r.1.drop 13, r.2)))
  else none
def putX : List Xa → Xa → List Xa
  | [], a => [a]
  | y :: l, a => if y.1 < a.1 then y :: putX l a else if y.1 = a.1 then a :: l else a :: y :: l
def fromGo : List Xa → List Xa → Option (List Xa)
  | acc, [] => some acc
  | acc, r :: rs => match recX r with
    | none => fromGo acc rs
    | some none => none
    | some (some x) => fromGo (putX acc x) rs
def fromL (rs : List Xa) : Option (List Xa) := match fromGo [] rs with
  | some l => if mayL l then some l else none
  | none => none

theorem lt_irrefl (a : List UInt8) : ¬ a < a := List.lt_irrefl a
theorem lt_trans {a b c : List UInt8} (h : a < b) (k : b < c) : a < c := List.lt_trans h k
theorem lt_total {a b : List UInt8} (h : ¬ a < b) (k : a ≠ b) : b < a := Classical.byContradiction fun g => k (List.le_antisymm (List.not_lt.1 g) (List.not_lt.1 h))
theorem may_parts {l : List Xa} (h : mayL l = true) : l.length ≤ 32 ∧ (∀ x ∈ l, okX x = true) ∧ asc l = true := by
  unfold mayL at h
  rw [Bool.and_eq_true, Bool.and_eq_true, decide_eq_true_eq, List.all_eq_true] at h
  exact ⟨h.1.1, h.1.2, h.2⟩
theorem put_step {l : List Xa} {a : Xa} {k : Nat} (hk : k < l.length) (h : putX l a = l.take k ++ putX (l.drop k) a) (hlt : l[k].1 < a.1) : putX l a = l.take (k + 1) ++ putX (l.drop (k + 1)) a := by
  rw [h, List.drop_eq_getElem_cons hk, List.take_succ_eq_append_getElem hk]
  show _ ++ (if l[k].1 < a.1 then l[k] :: putX (l.drop (k + 1)) a else _) = _
  rw [if_pos hlt, List.append_assoc]
  rfl
theorem put_end {l : List Xa} {a : Xa} {k : Nat} (hk : l.length ≤ k) (h : putX l a = l.take k ++ putX (l.drop k) a) : putX l a = l.take k ++ [a] ++ [] := by
  rw [h, List.drop_eq_nil_of_le hk]
  simp [putX]
theorem put_same {l : List Xa} {a : Xa} {k : Nat} (hk : k < l.length) (h : putX l a = l.take k ++ putX (l.drop k) a) (he : l[k].1 = a.1) : putX l a = l.take k ++ [a] ++ (l.drop k).drop 1 := by
  rw [h, List.drop_eq_getElem_cons hk]
  show _ ++ (if l[k].1 < a.1 then _ else if l[k].1 = a.1 then a :: l.drop (k + 1) else _) = _
  rw [if_neg (by rw [he]; exact lt_irrefl _), if_pos he]
  simp
theorem put_more {l : List Xa} {a : Xa} {k : Nat} (hk : k < l.length) (h : putX l a = l.take k ++ putX (l.drop k) a) (h1 : ¬ l[k].1 < a.1) (h2 : l[k].1 ≠ a.1) : putX l a = l.take k ++ [a] ++ l.drop k := by
  rw [h, List.drop_eq_getElem_cons hk]
  show _ ++ (if l[k].1 < a.1 then _ else if l[k].1 = a.1 then _ else a :: l[k] :: l.drop (k + 1)) = _
  rw [if_neg h1, if_neg h2]
  simp
theorem put_len (l : List Xa) (a : Xa) : 1 ≤ (putX l a).length ∧ (putX l a).length ≤ l.length + 1 := by
  induction l with
  | nil => simp [putX]
  | cons y l ih =>
    unfold putX
    split
    · simp only [List.length_cons]; omega
    · split <;> simp only [List.length_cons] <;> omega
theorem put_mem {l : List Xa} {a x : Xa} (h : x ∈ putX l a) : x = a ∨ x ∈ l := by
  induction l with
  | nil => simp [putX] at h; exact .inl h
  | cons y l ih =>
    unfold putX at h
    split at h
    · rcases List.mem_cons.1 h with h | h
      · exact .inr (by simp [h])
      · rcases ih h with h | h
        · exact .inl h
        · exact .inr (by simp [h])
    · split at h
      · rcases List.mem_cons.1 h with h | h
        · exact .inl h
        · exact .inr (by simp [h])
      · rcases List.mem_cons.1 h with h | h
        · exact .inl h
        · exact .inr h
def PW (l : List Xa) : Prop := l.Pairwise fun x y => x.1 < y.1
theorem asc_pw : ∀ {l : List Xa}, asc l = true ↔ PW l
  | [] => by simp [asc, PW]
  | [x] => by simp [asc, PW]
  | x :: y :: r => by
    have ih := asc_pw (l := y :: r)
    unfold asc
    rw [Bool.and_eq_true, decide_eq_true_eq, ih]
    constructor
    · rintro ⟨h1, h2⟩
      refine List.pairwise_cons.2 ⟨fun z hz => ?_, h2⟩
      rcases List.mem_cons.1 hz with rfl | hz
      · exact h1
      · exact lt_trans h1 ((List.pairwise_cons.1 h2).1 z hz)
    · intro h
      obtain ⟨h1, h2⟩ := List.pairwise_cons.1 h
      exact ⟨h1 y (by simp), h2⟩
theorem put_pw {l : List Xa} {a : Xa} (h : PW l) : PW (putX l a) := by
  unfold PW at h ⊢
  induction l with
  | nil => simp [putX]
  | cons y l ih =>
    obtain ⟨h1, h2⟩ := List.pairwise_cons.1 h
    unfold putX
    split
    · rename_i hlt
      refine List.pairwise_cons.2 ⟨fun x hx => ?_, ih h2⟩
      rcases put_mem hx with rfl | hx
      · exact hlt
      · exact h1 x hx
    · split
      · rename_i he
        refine List.pairwise_cons.2 ⟨fun x hx => ?_, h2⟩
        rw [← he]
        exact h1 x hx
      · rename_i hn he
        have hlt := lt_total hn he
        refine List.pairwise_cons.2 ⟨fun x hx => ?_, h⟩
        rcases List.mem_cons.1 hx with rfl | hx
        · exact hlt
        · exact lt_trans hlt (h1 x hx)
def look (l : List Xa) (n : List UInt8) : Option (List UInt8) := (l.find? fun x => x.1 == n).map (·.2)
end XatM
end Go.Proofs.Ytpfidbcnefnhcaa

/- What is said of a node: which may be, in plain Lean. -/
namespace Go.Proofs.Ytpfidbcnefnhcaa
namespace MetaM

structure Mt where
  mode : Int
  uid : Int
  gid : Int
  sec : Int
  nano : Int
  acl : List AclM.Ace
  dfl : List AclM.Ace
  xat : List XatM.Xa
  cap : CapsM.Cap
  flags : Int
def idOk (n : Int) : Bool := decide (0 ≤ n) && decide (n ≤ 2147483647)
def stampOk (s n : Int) : Bool := decide (-1099511627776 ≤ s) && decide (s ≤ 1099511627776) && decide (0 ≤ n) && decide (n ≤ 999999999)
def flagsOk (n : Int) : Bool := decide (0 ≤ n) && decide (n ≤ 15)
def kindIn (k : Int) : Bool := decide (k = 1) || (decide (3 ≤ k) && decide (k ≤ 7))
def modeOk (n : Int) : Bool := decide (0 ≤ n) && decide (n ≤ 4095)
def aclOk (l : List AclM.Ace) (mode : Int) : Bool := decide (l.length = 0) || (AclM.may l && decide (AclW.modeL l = mode % 512))
def dflOk (l : List AclM.Ace) (k : Int) : Bool := decide (l.length = 0) || (decide (k = 6) && AclM.may l)
def capOk (c : CapsM.Cap) (k : Int) : Bool := CapsM.may c && (decide (c.v = 0) || decide (k = 1))
def symOk (m : Mt) (k : Int) : Bool := decide (k ≠ 3) || (decide (m.mode = 511) && decide (m.acl.length = 0) && decide (m.flags = 0))
def mayM (m : Mt) (k : Int) : Bool :=
  kindIn k && modeOk m.mode && idOk m.uid && idOk m.gid && stampOk m.sec m.nano && flagsOk m.flags && XatM.mayL m.xat &&
    aclOk m.acl m.mode && dflOk m.dfl k && capOk m.cap k && symOk m k
end MetaM
end Go.Proofs.Ytpfidbcnefnhcaa

/- Access lists in order: what that means for their first, their last, each of their parts. -/
namespace Go.Proofs.Ytpfidbcnefnhcaa.AclW
open Go.RowKit
open AclM
set_option linter.unusedVariables false

theorem lt_iff (a b : Ace) : ltA a b = true ↔ a.1 < b.1 ∨ (a.1 = b.1 ∧ a.2.1 < b.2.1) := by simp [ltA]
theorem lt_trans' {a b c : Ace} (h1 : ltA a b = true) (h2 : ltA b c = true) : ltA a c = true := by
  rw [lt_iff] at *
  omega
def PW (l : List Ace) : Prop := l.Pairwise fun a b => ltA a b = true
theorem order_pw : ∀ {l : List Ace}, order l = true ↔ PW l
  | [] => by simp [order, PW]
  | [a] => by simp [order, PW]
  | a :: b :: r => by
    have ih := order_pw (l := b :: r)
    show (ltA a b && order (b :: r)) = true ↔ _
    rw [Bool.and_eq_true, ih]
    constructor
    · rintro ⟨h1, h2⟩
      refine List.pairwise_cons.2 ⟨fun x hx => ?_, h2⟩
      rcases List.mem_cons.1 hx with rfl | hx
      · exact h1
      · exact lt_trans' h1 ((List.pairwise_cons.1 h2).1 x hx)
    · intro h
      obtain ⟨h1, h2⟩ := List.pairwise_cons.1 h
      exact ⟨h1 b (by simp), h2⟩
theorem findN_neg (t : Int) : ∀ (l : List Ace) (i : Nat), findN t l i < 0 ↔ ∀ a ∈ l, a.1 ≠ t
  | [], i => by simp [findN]
  | a :: l, i => by
    unfold findN
    by_cases h : a.1 = t
    · rw [if_pos h]
      constructor
      · intro e; omega
      · intro e; exact absurd h (e a (by simp))
    · rw [if_neg h, findN_neg t l (i + 1)]
      simp [h]
theorem has_iff {l : List Ace} {t : Int} : has l t = true ↔ ∃ a ∈ l, a.1 = t := by
  unfold has
  rw [decide_eq_true_eq]
  have h := findN_neg t l 0
  constructor
  · intro e
    by_cases hh : ∀ a ∈ l, a.1 ≠ t
    · have := h.2 hh; omega
    · simp only [ne_eq, Classical.not_forall, Classical.not_not] at hh
      obtain ⟨a, ha, h2⟩ := hh
      exact ⟨a, ha, h2⟩
  · rintro ⟨a, ha, h2⟩
    rcases Int.lt_or_le (findN t l 0) 0 with h3 | h3
    · exact absurd h2 (h.1 h3 a ha)
    · exact h3
theorem findN_at (t : Int) : ∀ (l : List Ace) (i k : Nat), findN t l i = ((i + k : Nat) : Int) → ∃ h : k < l.length, l[k].1 = t
  | [], i, k, h => by simp [findN] at h; omega
  | a :: l, i, k, h => by
    unfold findN at h
    by_cases ha : a.1 = t
    · rw [if_pos ha] at h
      obtain rfl : k = 0 := by omega
      exact ⟨by simp, ha⟩
    · rw [if_neg ha] at h
      rcases findN_in t l (i + 1) with h1 | ⟨j, h1, h2⟩
      · omega
      · obtain ⟨h3, h4⟩ := findN_at t l (i + 1) j h2
        obtain rfl : k = j + 1 := by omega
        exact ⟨by simpa using h1, by simpa using h4⟩
theorem permN_of {l : List Ace} {t p : Int} (h1 : ∃ a ∈ l, a.1 = t) (h2 : ∀ a ∈ l, a.1 = t → a.2.2 = p) : permN l t = p := by
  unfold permN
  rcases findN_in t l 0 with h | ⟨k, hk, h⟩
  · obtain ⟨a, ha, h3⟩ := h1
    exact absurd h3 ((findN_neg t l 0).1 (by omega) a ha)
  · rw [h, if_neg (by omega), Int.toNat_natCast, Nat.zero_add]
    obtain ⟨_, h4⟩ := findN_at t l 0 k h
    have := h2 l[k] (List.getElem_mem hk) h4
    simpa [List.getD, hk] using this

/-! ### Valid lists -/
theorem tags_iff {l : List Ace} : tags l = true ↔ has l 1 = true ∧ has l 3 = true ∧ has l 6 = true ∧ has l 5 = (has l 2 || has l 4) := by
  unfold tags
  simp only [Bool.and_eq_true, beq_iff_eq]
  constructor
  · rintro ⟨⟨⟨a, b⟩, c⟩, d⟩; exact ⟨a, b, c, d⟩
  · rintro ⟨a, b, c, d⟩; exact ⟨⟨⟨a, b⟩, c⟩, d⟩
theorem may_iff {l : List Ace} : may l = true ↔ l.length ≤ 32 ∧ (∀ a ∈ l, okPart a = true) ∧ PW l ∧ has l 1 = true ∧ has l 3 = true ∧ has l 6 = true ∧ has l 5 = (has l 2 || has l 4) := by
  constructor
  · intro h
    obtain ⟨h1, h2, h3, h4⟩ := may_parts h
    exact ⟨h2, h1, order_pw.1 h3, tags_iff.1 h4⟩
  · rintro ⟨h2, h1, h3, h4⟩
    unfold may
    rw [order_pw.2 h3, tags_iff.2 h4, decide_eq_true h2, List.all_eq_true.2 h1]
    rfl
end Go.Proofs.Ytpfidbcnefnhcaa.AclW

/- The document's answer: an Id or none, letters, digits, perms, the mode. -/
namespace Go.Proofs.Ytpfidbcnefnhcaa.AclW
open Go.RowKit
open AclM DecM
open Go.Lib (decDigits itoa)
set_option linter.unusedVariables false

def permR (l : List Ace) (t : Int) : Int := if has l t = true then permN l t else -1
end Go.Proofs.Ytpfidbcnefnhcaa.AclW

/- Who may what, as plain mathematics. -/
namespace Go.Proofs.Ytpfidbcnefnhcaa
open MetaM
namespace RightM
open AclM AclW

structure Cr where
  uid : Int
  gid : Int
  groups : List Int
  powers : Int
def inM (c : Cr) (g : Int) : Bool := decide (c.gid = g) || c.groups.any fun x => decide (x = g)
def gr (p w : Nat) : Bool := decide (p &&& w = w)
def fromL (m : Int) : List Ace := [(1, 0, m / 64 % 8), (3, 0, m / 8 % 8), (6, 0, m % 8)]
def listM (m : Mt) : List Ace := if m.acl = [] then fromL m.mode else m.acl
def maskM (l : List Ace) : Nat := if permR l 5 < 0 then 7 else (permR l 5).toNat
def permM (l : List Ace) (t : Int) : Nat := (permR l t).toNat
def userM (l : List Ace) (u : Int) : Option Ace := l.find? fun a => decide (a.1 = 2) && decide (a.2.1 = u)
def grpM (m : Mt) (c : Cr) (a : Ace) : Bool := (decide (a.1 = 3) && inM c m.gid) || (decide (a.1 = 4) && inM c a.2.1)
def hasAll (c : Cr) : Bool := decide (c.powers / 2 % 2 = 1)
def hasOwn (c : Cr) : Bool := decide (c.powers / 4 % 2 = 1)
def restM (l : List Ace) (m : Mt) (c : Cr) (w : Nat) : Bool :=
  match userM l c.uid with
  | some a => gr a.2.2.toNat w && gr (maskM l) w
  | none => if l.any (grpM m c) then (l.any fun a => grpM m c a && gr a.2.2.toNat w) && gr (maskM l) w else gr (permM l 6) w
def canM (m : Mt) (c : Cr) (w : Int) : Bool :=
  if w < 0 ∨ 7 < w then false
  else if hasAll c then true
  else if m.uid = c.uid then gr (permM (listM m) 1) w.toNat
  else restM (listM m) m c w.toNat
def ownM (m : Mt) (c : Cr) : Bool := decide (m.uid = c.uid) || hasOwn c
def gF (l : List Ace) (x : Nat) : Nat := l.foldl (fun x a => if a.1 = 2 then x &&& a.2.2.toNat else x) x
def oF (l : List Ace) (k x : Nat) : Nat := l.foldl (fun x a => if a.1 = 2 ∨ a.1 = 4 then (x &&& a.2.2.toNat) &&& k else x) x
def lessM (m : Mt) : Nat :=
  if m.acl = [] then (m.mode % 512).toNat
  else 64 * permM m.acl 1 + 8 * gF m.acl (permM m.acl 3 &&& maskM m.acl) + oF m.acl (maskM m.acl) (permM m.acl 6)
def okL (m : Mt) : Prop := m.acl = [] ∨ may m.acl = true

theorem gr_iff (p w : Nat) : gr p w = true ↔ ∀ i, w.testBit i = true → p.testBit i = true := by
  unfold gr
  rw [decide_eq_true_eq]
  constructor
  · intro h i hi
    rw [← h, Nat.testBit_and, Bool.and_eq_true] at hi
    exact hi.1
  · intro h
    apply Nat.eq_of_testBit_eq
    intro i
    rw [Nat.testBit_and]
    cases hw : w.testBit i with
    | false => rw [Bool.and_false]
    | true => rw [h i hw]; rfl
theorem gr_and (p q w : Nat) : gr (p &&& q) w = (gr p w && gr q w) := by
  rw [Bool.eq_iff_iff, Bool.and_eq_true, gr_iff, gr_iff, gr_iff]
  constructor
  · intro h
    refine ⟨fun i hi => ?_, fun i hi => ?_⟩ <;> (have := h i hi; rw [Nat.testBit_and, Bool.and_eq_true] at this)
    · exact this.1
    · exact this.2
  · rintro ⟨h1, h2⟩ i hi
    rw [Nat.testBit_and, h1 i hi, h2 i hi]; rfl
theorem can_nat (m : Mt) (c : Cr) {w : Nat} (h : w < 8) : canM m c (w : Int) = if hasAll c then true else if m.uid = c.uid then gr (permM (listM m) 1) w else restM (listM m) m c w := by
  unfold canM
  rw [if_neg (by omega), Int.toNat_natCast]
theorem can_out (m : Mt) (c : Cr) {w : Int} (h : w < 0 ∨ 7 < w) : canM m c w = false := by
  unfold canM
  rw [if_pos h]
theorem permR_mem {l : List Ace} {t : Int} (h : has l t = true) : ∃ a ∈ l, a.1 = t ∧ permR l t = a.2.2 := by
  unfold permR permN
  rw [if_pos h]
  have key : ∀ (l : List Ace) (i : Nat), 0 ≤ findN t l i → ∃ k, ∃ hk : k < l.length, findN t l i = ((i + k : Nat) : Int) ∧ l[k].1 = t := by
    intro l
    induction l with
    | nil => intro i h; exact absurd h (by simp [findN])
    | cons a l ih =>
      intro i h
      unfold findN at h ⊢
      by_cases ha : a.1 = t
      · rw [if_pos ha]
        exact ⟨0, by simp, by simp, ha⟩
      · rw [if_neg ha] at h ⊢
        obtain ⟨k, hk, h1, h2⟩ := ih (i + 1) h
        refine ⟨k + 1, by simpa using hk, ?_, by simpa using h2⟩
        rw [h1]
        congr 1
        omega
  obtain ⟨k, hk, h1, h2⟩ := key l 0 (of_decide_eq_true h)
  rw [h1, Nat.zero_add, if_neg (by omega), Int.toNat_natCast]
  refine ⟨l[k], List.getElem_mem hk, h2, ?_⟩
  simp [List.getD, hk]
theorem may_has {l : List Ace} (h : may l = true) : has l 1 = true ∧ has l 3 = true ∧ has l 6 = true := by
  have h4 := (may_parts h).2.2.2
  unfold tags at h4
  simp only [Bool.and_eq_true] at h4
  exact ⟨h4.1.1.1, h4.1.1.2, h4.1.2⟩
theorem in_more {c : Cr} {gs : List Int} {g : Int} (h : inM c g = true) : inM { c with groups := c.groups ++ gs } g = true := by
  unfold inM at *
  simp only [Bool.or_eq_true, List.any_append] at *
  rcases h with h | h
  · exact .inl h
  · exact .inr (.inl h)
theorem in_last (c : Cr) (g : Int) : inM { c with groups := c.groups ++ [g] } g = true := by
  unfold inM
  simp
theorem can_more (m : Mt) (c : Cr) (gs : List Int) {w : Nat} (h : w < 8) (hin : (listM m).any (grpM m c) = true) (hc : canM m c (w : Int) = true) : canM m { c with groups := c.groups ++ gs } (w : Int) = true := by
  rw [can_nat _ _ h] at hc ⊢
  have e1 : hasAll { c with groups := c.groups ++ gs } = hasAll c := rfl
  rw [e1]
  by_cases ha : hasAll c = true
  · rw [if_pos ha]
  · rw [if_neg ha] at hc ⊢
    show (if m.uid = c.uid then _ else _) = true
    by_cases hu : m.uid = c.uid
    · rw [if_pos hu] at hc ⊢
      exact hc
    · rw [if_neg hu] at hc ⊢
      unfold restM at hc ⊢
      have e2 : userM (listM m) ({ c with groups := c.groups ++ gs } : Cr).uid = userM (listM m) c.uid := rfl
      rw [e2]
      cases hus : userM (listM m) c.uid with
      | some a =>
        rw [hus] at hc
        exact hc
      | none =>
        rw [hus] at hc
        simp only at hc ⊢
        have key : ∀ a, grpM m c a = true → grpM m { c with groups := c.groups ++ gs } a = true := by
          intro a ha
          unfold grpM at *
          simp only [Bool.or_eq_true, Bool.and_eq_true] at *
          rcases ha with ⟨h1, h2⟩ | ⟨h1, h2⟩
          · exact .inl ⟨h1, in_more h2⟩
          · exact .inr ⟨h1, in_more h2⟩
        rw [if_pos hin] at hc
        have hin2 : (listM m).any (grpM m { c with groups := c.groups ++ gs }) = true := by
          rw [List.any_eq_true] at hin ⊢
          obtain ⟨a, h1, h2⟩ := hin
          exact ⟨a, h1, key a h2⟩
        rw [if_pos hin2]
        rw [Bool.and_eq_true, List.any_eq_true] at hc ⊢
        obtain ⟨⟨a, h1, h2⟩, h3⟩ := hc
        rw [Bool.and_eq_true] at h2
        exact ⟨⟨a, h1, by rw [key a h2.1, h2.2]; rfl⟩, h3⟩
end RightM
end Go.Proofs.Ytpfidbcnefnhcaa

/- Capabilities as a value. -/
namespace Go.Proofs.Ytpfidbcnefnhcaa
open Go.RowKit
open MetaM
open CapsM in
def capV (c : Cap) : Value := .agg #[.int .i64 c.v, .int .u64 (c.p : Int), .int .u64 (c.i : Int), .bool c.e, .int .i64 c.r]
end Go.Proofs.Ytpfidbcnefnhcaa

/- Walks over package acl: Same; and the document's answer of it. -/
namespace Go.Proofs.Ytpfidbcnefnhcaa.AclW
open Go.RowKit
open AclM
set_option linter.unusedVariables false

def sameL (l m : List Ace) : Bool := decide (l = m)
end Go.Proofs.Ytpfidbcnefnhcaa.AclW

/- Lists of names with values, and of records, in memory. -/
namespace Go.Proofs.Ytpfidbcnefnhcaa.XatW
open Go.RowKit
open XatM
set_option linter.unusedVariables false

structure IsTwo (E : Elt Xa) : Prop where
  k : E.k = 2
  enc : ∀ a, E.enc a = [.string (strOf a.1), .string (strOf a.2)]
def xatE : Elt Xa where
  t := 71
  st := 25
  k := 2
  z := .agg #[.string ⟨#[]⟩, .string ⟨#[]⟩]
  bytes := 32
  enc a := [.string (strOf a.1), .string (strOf a.2)]
  len _ := rfl
  one _ u h := by simp at h; rcases h with rfl | rfl <;> rfl
  pos := by decide
  und := Try.underlying25
  inf := by kernel_rfl
  zk := rfl
  small := by decide
theorem xat_two : IsTwo xatE := ⟨rfl, fun _ => rfl⟩
def TwoAt (w : World) (g o : Nat) (a : Xa) : Prop := w.cell? ⟨g, o, none⟩ = some (.string (strOf a.1)) ∧ w.cell? ⟨g, o + 1, none⟩ = some (.string (strOf a.2))
theorem TwoAt.kept {w w1 : World} {g o : Nat} {a : Xa} (h : TwoAt w g o a) (hb : Below w.heap.size w w1) : TwoAt w1 g o a := ⟨cell_kept hb h.1, cell_kept hb h.2⟩
theorem two_open {E : Elt Xa} (hE : IsTwo E) {v : Value} {l : List Xa} {w : World} (h : At E v l w) (hl : l ≠ []) :
    ∃ g off cap, v = .slice (some ⟨g, off, none⟩) l.length cap ∧ l.length ≤ cap ∧ g < w.heap.size ∧ ∀ j (h : j < l.length), TwoAt w g (off + j * 2) l[j] := by
  obtain ⟨g, off, cap, h1, h2, h3, h4⟩ := h.open hl
  refine ⟨g, off, cap, h1, h2, h3, fun j hj => ?_⟩
  have e : ∀ i, off + (j * E.k + i) = off + j * 2 + i := by intro i; rw [hE.k]; omega
  have a0 := h4 j hj 0 _ (by rw [hE.enc]; rfl)
  have a1 := h4 j hj 1 _ (by rw [hE.enc]; rfl)
  rw [e] at a0 a1
  exact ⟨a0, a1⟩
theorem two_look {E : Elt Xa} (hE : IsTwo E) {v : Value} {l : List Xa} {w : World} (h : At E v l w) :
    ∃ p cap, v = .slice p l.length cap ∧ l.length ≤ cap ∧ ∀ j (h : j < l.length), ∃ g off, p = some ⟨g, off, none⟩ ∧ g < w.heap.size ∧ TwoAt w g (off + j * 2) l[j] := by
  by_cases hl : l = []
  · obtain ⟨p, cap, h1, h2⟩ := h.shape
    exact ⟨p, cap, h1, h2, fun j hj => by subst hl; simp at hj⟩
  · obtain ⟨g, off, cap, h1, h2, h3, h4⟩ := two_open hE h hl
    exact ⟨_, cap, h1, h2, fun j hj => ⟨g, off, rfl, h3, h4 j hj⟩⟩
theorem two_at {E : Elt Xa} (hE : IsTwo E) {w : World} {g off cap n : Nat} {l : List Xa} (hn : n = l.length) (hc : l.length ≤ cap) (hg : g < w.heap.size) (h : ∀ j (h : j < l.length), TwoAt w g (off + j * 2) l[j]) : At E (.slice (some ⟨g, off, none⟩) n cap) l w := by
  subst hn
  refine .inr ⟨g, off, cap, rfl, hc, hg, fun j hj i u hu => ?_⟩
  have e : off + (j * E.k + i) = off + j * 2 + i := by rw [hE.k]; omega
  rw [e]
  rw [hE.enc] at hu
  obtain ⟨a0, a1⟩ := h j hj
  have hi : i < 2 := (List.getElem?_eq_some_iff.1 hu).1
  have : i = 0 ∨ i = 1 := by omega
  rcases this with rfl | rfl <;> (cases hu; assumption)
def twoV (a : Xa) : Value := .agg #[.string (strOf a.1), .string (strOf a.2)]
theorem one_xat (w : World) (a : Xa) (B : Nat) (hB : B ≤ w.heap.size) : Row xatE B (.slice (some ⟨w.heap.size, 0, none⟩) 1 1) [a] (w.alloc (.cells #[.string (strOf a.1), .string (strOf a.2)] 71)) :=
  lit_row (E := xatE) w [a] _ B 1 rfl hB (by simp) rfl
theorem slice_from {v : Value} {l : List Xa} {w : World} (h : At xatE v l w) {k : Nat} (hk : k ≤ l.length) :
    ∃ v', (∀ W, (Instr.sliceAt 25 v (some (.int .i64 (k : Int))) none none).run Try.prog W = .ok v' W) ∧ (∀ W, At xatE v l W → At xatE v' (l.drop k) W) ∧ v'.ownBlock = v.ownBlock := by
  rcases h with ⟨rfl, rfl | ⟨ad, cap, rfl⟩⟩ | ⟨g, off, cap, rfl, hc, hg, hj⟩
  · simp at hk
    subst hk
    exact ⟨.slice none 0 0, fun W => by simp [go_sem], fun W h => .inl ⟨by simp, .inl rfl⟩, rfl⟩
  · simp at hk
    subst hk
    exact ⟨.slice (some ad) 0 cap, fun W => by simp [go_sem], fun W h => .inl ⟨by simp, .inr ⟨_, _, rfl⟩⟩, rfl⟩
  · refine ⟨.slice (if cap = k then some ⟨g, off, none⟩ else some ⟨g, off + k * 2, none⟩) (l.length - k) (cap - k), fun W => by simp [go_sem, hk], fun W h => ?_, ?_⟩
    · by_cases he : k = l.length
      · refine .inl ⟨by simp [he], .inr ?_⟩
        split
        · exact ⟨_, _, by rw [he, Nat.sub_self]⟩
        · exact ⟨_, _, by rw [he, Nat.sub_self]⟩
      · rw [if_neg (by omega)]
        obtain ⟨g', off', cap', e, _, hg', hj'⟩ := two_open xat_two h (by intro e; rw [e] at hk he; simp at hk he; omega)
        cases e
        refine two_at xat_two (by simp) (by simp; omega) hg' ?_
        intro j hj
        have hj2 : k + j < l.length := by simp at hj; omega
        have := hj' (k + j) hj2
        rw [show off + (k + j) * 2 = off + k * 2 + j * 2 by omega] at this
        rw [List.getElem_drop]
        exact this
    · split <;> rfl
theorem slice_upto {v : Value} {l : List Xa} {w : World} (h : At xatE v l w) {k : Nat} (hk : k ≤ l.length) :
    ∃ v', (∀ W, (Instr.sliceAt 25 v none (some (.int .i64 (k : Int))) none).run Try.prog W = .ok v' W) ∧ (∀ W, At xatE v l W → At xatE v' (l.take k) W) ∧ v'.ownBlock = v.ownBlock := by
  rcases h with ⟨rfl, rfl | ⟨ad, cap, rfl⟩⟩ | ⟨g, off, cap, rfl, hc, hg, hj⟩
  · simp at hk
    subst hk
    exact ⟨.slice none 0 0, fun W => by simp [go_sem], fun W h => .inl ⟨by simp, .inl rfl⟩, rfl⟩
  · simp at hk
    subst hk
    exact ⟨.slice (some ad) 0 cap, fun W => by simp [go_sem], fun W h => .inl ⟨by simp, .inr ⟨_, _, rfl⟩⟩, rfl⟩
  · refine ⟨.slice (some ⟨g, off, none⟩) k cap, fun W => by simp [go_sem, show k ≤ cap by omega], fun W h => ?_, rfl⟩
    by_cases h0 : k = 0
    · exact .inl ⟨by simp [h0], .inr ⟨_, _, by rw [h0]⟩⟩
    · obtain ⟨g', off', cap', e, _, hg', hj'⟩ := two_open xat_two h (by intro e; rw [e] at hk; simp at hk; omega)
      cases e
      refine two_at xat_two (by rw [List.length_take]; omega) (by rw [List.length_take]; omega) hg' ?_
      intro j hj
      rw [List.length_take] at hj
      have := hj' j (by omega)
      rw [List.getElem_take]
      exact this
end Go.Proofs.Ytpfidbcnefnhcaa.XatW

/- Metadata in memory; when two are one; nothing but three numbers. -/
namespace Go.Proofs.Ytpfidbcnefnhcaa
open Go.RowKit
open MetaM
set_option linter.unusedVariables false

theorem and511 (n : Int) : bits .and .i64 n 511 = n % 512 := by
  have key : (BitVec.ofInt 64 n &&& BitVec.ofInt 64 511).toNat = (n % ((2 ^ 64 : Nat) : Int)).toNat % 2 ^ 9 := by
    rw [BitVec.toNat_and, BitVec.toNat_ofInt, show (BitVec.ofInt 64 511).toNat = 2 ^ 9 - 1 by decide, Nat.and_two_pow_sub_one_eq_mod]
  show IntKind.i64.wrap ((BitVec.ofInt 64 n &&& BitVec.ofInt 64 511).toNat : Int) = _
  rw [key, IntKind.wrap_i64]
  omega
def metaC (m : Mt) (va vd vx : Value) : Array Value := #[.int .i64 m.mode, .int .i64 m.uid, .int .i64 m.gid, .int .i64 m.sec, .int .i64 m.nano, va, vd, vx, .int .i64 m.cap.v, .int .u64 (m.cap.p : Int), .int .u64 (m.cap.i : Int), .bool m.cap.e, .int .i64 m.cap.r, .int .i64 m.flags]
structure MetaAt (m : Mt) (va vd vx : Value) (w : World) : Prop where
  acl : At AclW.aceE va m.acl w
  dfl : At AclW.aceE vd m.dfl w
  xat : At XatW.xatE vx m.xat w
  la : m.acl.length ≤ 1000000
  ld : m.dfl.length ≤ 1000000
  lx : m.xat.length ≤ 1000000
theorem MetaAt.call {m : Mt} {va vd vx : Value} {w w1 : World} (h : MetaAt m va vd vx w) (hb : Below w.heap.size w w1) : MetaAt m va vd vx w1 := ⟨h.acl.call hb, h.dfl.call hb, h.xat.call hb, h.la, h.ld, h.lx⟩
def MetaM.sameM (a b : Mt) : Bool :=
  decide (a.mode = b.mode) && decide (a.uid = b.uid) && decide (a.gid = b.gid) && decide (a.sec = b.sec ∧ a.nano = b.nano) && AclW.sameL a.acl b.acl && AclW.sameL a.dfl b.dfl && decide (a.xat = b.xat) &&
    decide (a.cap.v = b.cap.v ∧ a.cap.p = b.cap.p ∧ a.cap.i = b.cap.i ∧ a.cap.e = b.cap.e ∧ a.cap.r = b.cap.r) && decide (a.flags = b.flags)
theorem blk_next (w : World) (o : Obj) (t : TypeId) (cs : Array Value) : BlkIs ((w.alloc o).alloc (.cells cs t)) (w.heap.size + 1) t cs := by
  have h := BlkIs.made (w.alloc o) t cs
  rw [show (w.alloc o).heap.size = w.heap.size + 1 by simp] at h
  exact h
theorem plain_build (a b c : Int) (w : World) : (Instr.build 30 #[(0, .int .i64 a), (1, .int .i64 b), (2, .int .i64 c)]).run Try.prog w = .ok (.agg #[.int .i64 a, .int .i64 b, .int .i64 c, .int .i64 0, .int .i64 0, .slice none 0 0, .slice none 0 0, .slice none 0 0, .int .i64 0, .int .u64 0, .int .u64 0, .bool false, .int .i64 0, .int .i64 0]) w :=
  run_build w _ _ _ (by kernel_rfl)
def MetaM.plainM (a b c : Int) : Mt := ⟨a, b, c, 0, 0, [], [], [], ⟨0, 0, 0, false, 0⟩, 0⟩
def nilV : Value := .slice none 0 0
end Go.Proofs.Ytpfidbcnefnhcaa
