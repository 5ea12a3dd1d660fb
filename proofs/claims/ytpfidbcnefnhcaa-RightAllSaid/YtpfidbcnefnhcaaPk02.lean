/- Bundle of 9 texts. -/
import Derived.Test.YtpfidbcnefnhcaaPk01
import Derived.Deep.QuietTactic
import Derived.Test.YtpfidbcnefnhcaaChecked
import Derived.BigQuiet
import Derived.Outline
import Derived.Laws.Tables
/- Access lists in order: what that means for their first, their last, each of their parts. -/
namespace Go.Proofs.Ytpfidbcnefnhcaa.AclW
open Go.RowKit
open AclM
set_option linter.unusedVariables false

theorem lt_iff (a b : Ace) : ltA a b = true ↔ a.1 < b.1 ∨ (a.1 = b.1 ∧ a.2.1 < b.2.1) := by simp [ltA]
theorem lt_trans' {a b c : Ace} (h1 : ltA a b = true) (h2 : ltA b c = true) : ltA a c = true := by
  rw [lt_iff] at *
  omega
def PW (l : List Ace) : Prop := l.Pairwise fun a b => ltA a b = true
theorem order_pw : ∀ {l : List Ace}, order l = true ↔ PW l
  | [] => by simp [order, PW]
  | [a] => by simp [order, PW]
  | a :: b :: r => by
    have ih := order_pw (l := b :: r)
    show (ltA a b && order (b :: r)) = true ↔ _
    rw [Bool.and_eq_true, ih]
    constructor
    · rintro ⟨h1, h2⟩
      refine List.pairwise_cons.2 ⟨fun x hx => ?_, h2⟩
      rcases List.mem_cons.1 hx with rfl | hx
      · exact h1
      · exact lt_trans' h1 ((List.pairwise_cons.1 h2).1 x hx)
    · intro h
      obtain ⟨h1, h2⟩ := List.pairwise_cons.1 h
      exact ⟨h1 b (by simp), h2⟩
theorem findN_neg (t : Int) : ∀ (l : List Ace) (i : Nat), findN t l i < 0 ↔ ∀ a ∈ l, a.1 ≠ t
  | [], i => by simp [findN]
  | a :: l, i => by
    unfold findN
    by_cases h : a.1 = t
    · rw [if_pos h]
      constructor
      · intro e; omega
      · intro e; exact absurd h (e a (by simp))
    · rw [if_neg h, findN_neg t l (i + 1)]
      simp [h]
theorem has_iff {l : List Ace} {t : Int} : has l t = true ↔ ∃ a ∈ l, a.1 = t := by
  unfold has
  rw [decide_eq_true_eq]
  have h := findN_neg t l 0
  constructor
  · intro e
    by_cases hh : ∀ a ∈ l, a.1 ≠ t
    · have := h.2 hh; omega
    · simp only [ne_eq, Classical.not_forall, Classical.not_not] at hh
      obtain ⟨a, ha, h2⟩ := hh
      exact ⟨a, ha, h2⟩
  · rintro ⟨a, ha, h2⟩
    rcases Int.lt_or_le (findN t l 0) 0 with h3 | h3
    · exact absurd h2 (h.1 h3 a ha)
    · exact h3
theorem has_false {l : List Ace} {t : Int} : has l t = false ↔ ∀ a ∈ l, a.1 ≠ t := by
  rw [← Bool.not_eq_true, has_iff]
  constructor
  · intro h a ha e; exact h ⟨a, ha, e⟩
  · rintro h ⟨a, ha, e⟩; exact h a ha e
theorem tags_iff {l : List Ace} : tags l = true ↔ has l 1 = true ∧ has l 3 = true ∧ has l 6 = true ∧ has l 5 = (has l 2 || has l 4) := by
  unfold tags
  simp only [Bool.and_eq_true, beq_iff_eq]
  constructor
  · rintro ⟨⟨⟨a, b⟩, c⟩, d⟩; exact ⟨a, b, c, d⟩
  · rintro ⟨a, b, c, d⟩; exact ⟨⟨⟨a, b⟩, c⟩, d⟩
theorem may_iff {l : List Ace} : may l = true ↔ l.length ≤ 32 ∧ (∀ a ∈ l, okPart a = true) ∧ PW l ∧ has l 1 = true ∧ has l 3 = true ∧ has l 6 = true ∧ has l 5 = (has l 2 || has l 4) := by
  constructor
  · intro h
    obtain ⟨h1, h2, h3, h4⟩ := may_parts h
    exact ⟨h2, h1, order_pw.1 h3, tags_iff.1 h4⟩
  · rintro ⟨h2, h1, h3, h4⟩
    unfold may
    rw [order_pw.2 h3, tags_iff.2 h4, decide_eq_true h2, List.all_eq_true.2 h1]
    rfl
theorem may_first {l : List Ace} (h : may l = true) (h0 : 0 < l.length) : l[0].1 = 1 := by
  obtain ⟨_, h1, h2, h3, _⟩ := may_iff.1 h
  obtain ⟨a, ha, h4⟩ := has_iff.1 h3
  rcases l with _ | ⟨x, r⟩
  · simp at h0
  · have hx := okPart_iff (h1 x (by simp))
    show x.1 = 1
    rcases List.mem_cons.1 ha with rfl | ha
    · exact h4
    · have := (lt_iff _ _).1 ((List.pairwise_cons.1 h2).1 a ha)
      omega
theorem may_last {l : List Ace} (h : may l = true) (h0 : l.length - 1 < l.length) : l[l.length - 1].1 = 6 := by
  obtain ⟨_, h1, h2, _, _, h3, _⟩ := may_iff.1 h
  obtain ⟨a, ha, h4⟩ := has_iff.1 h3
  obtain ⟨i, hi, rfl⟩ := List.getElem_of_mem ha
  have hx := okPart_iff (h1 _ (List.getElem_mem h0))
  by_cases he : i = l.length - 1
  · subst he; exact h4
  · have := (lt_iff _ _).1 (List.pairwise_iff_getElem.1 h2 i (l.length - 1) hi h0 (by omega))
    omega
theorem may_two {l : List Ace} (h : may l = true) : 2 ≤ l.length := by
  have hne := may_ne h
  have hp : 0 < l.length := List.length_pos_iff.2 hne
  have h1 := may_first h hp
  have h2 := may_last h (by omega)
  rcases Nat.lt_or_ge l.length 2 with h3 | h3
  · have e : l.length - 1 = 0 := by omega
    have : l[l.length - 1] = l[0] := by congr 1
    rw [this, h1] at h2
    omega
  · exact h3
end Go.Proofs.Ytpfidbcnefnhcaa.AclW

/- The document's answer: an Id or none, letters, digits, perms, the mode. -/
namespace Go.Proofs.Ytpfidbcnefnhcaa.AclW
open Go.RowKit
open AclM DecM
open Go.Lib (decDigits itoa)
set_option linter.unusedVariables false

theorem named_any (a : Ace) (w : World) : Calls Try.prog 37 #[aceV a] w fun e w' => e = .returned (.bool (hasId a.1)) ∧ Below w.heap.size w w' := by
  obtain ⟨t, d, p⟩ := a
  unfold hasId aceV
  simp only
  by_cases h2 : t = 2
  · subst h2
    go_enter Try.func37, Try.ntmps37
    go_wp2_with fail
    go_ret
    exact ⟨rfl, by (repeat' (first | exact Below.refl _ _ | assumption | refine gr_drew ?_ | refine gr_drewN ?_ _ | refine gr_alloc ?_ _ | refine gr_set ?_ ?_ _ | refine gr_call ?_ (by assumption)) <;> (try (simp; done)) <;> (try (simp; omega)) <;> (try omega))⟩
  · have e2 : (t == 2) = false := beq_eq_false_iff_ne.2 h2
    have e2' : decide (t = 2) = false := decide_eq_false h2
    have e4 : (t == 4) = decide (t = 4) := by by_cases h : t = 4 <;> simp [h]
    generalize hd : decide (t = 4) = x at e4 ⊢
    clear hd h2
    go_enter Try.func37, Try.ntmps37
    go_wp2_with fail
    go_ret
    exact ⟨by simp [e2'], by (repeat' (first | exact Below.refl _ _ | assumption | refine gr_drew ?_ | refine gr_drewN ?_ _ | refine gr_alloc ?_ _ | refine gr_set ?_ ?_ _ | refine gr_call ?_ (by assumption)) <;> (try (simp; done)) <;> (try (simp; omega)) <;> (try omega))⟩

def permR (l : List Ace) (t : Int) : Int := if has l t = true then permN l t else -1
theorem permR_neg {l : List Ace} (h : ∀ a ∈ l, okPart a = true) (t : Int) : decide (permR l t < 0) = !has l t := by
  unfold permR
  have := permN_in h t
  cases has l t
  · rfl
  · simp; omega
theorem permN_drop {t : Int} {l : List Ace} {i : Nat} (hi : i < l.length) (hno : findN t l 0 = findN t (l.drop i) i) (ht : l[i].1 = t) : has l t = true ∧ permN l t = l[i].2.2 := by
  have h := find_drop (t := t) hi
  rw [if_pos ht] at h
  rw [h] at hno
  unfold has permN
  rw [hno]
  refine ⟨decide_eq_true (by omega), ?_⟩
  rw [if_neg (by omega), Int.toNat_natCast]
  simp [List.getD, hi]
set_option maxHeartbeats 1600000 in
theorem refPerm_any (v : Value) (l : List Ace) (t : Int) (w : World) (hat : At aceE v l w) (hl : l.length ≤ 1000000) :
    Calls Try.prog 30 #[v, .int .i64 t] w fun e w' => e = .returned (.int .i64 (permR l t)) ∧ Below w.heap.size w w' := by
  obtain ⟨z, hz⟩ : ∃ z, l.length = z := ⟨_, rfl⟩
  obtain ⟨p, cap, rfl, hcap, hcell⟩ := ace_look hat
  rw [hz] at hl hcap ⊢
  have Hcell := Lib.hid hcell
  have Hz := Lib.hid hz
  clear hcell hat hz
  go_enter Try.func30, Try.ntmps30
  go_wp2_with fail
  go_loopw [5] (fun iv wr => ∃ i : Nat, iv = .int .i64 (i : Int) ∧ i ≤ z ∧ Below w.heap.size w wr ∧ Hid (findN t l 0 = findN t (l.drop i) i)) (fun iv _ => z - (intOf iv).toNat)
  case atStart => exact ⟨0, rfl, by omega, Below.refl _ _, Lib.hid (by simp)⟩
  case round =>
    obtain ⟨i, rfl, hi, hbl, HR⟩ := hrel
    rename_i wr
    by_cases hlt : i < z
    · have hlt' : decide ((i : Int) < (z : Int)) = true := decide_eq_true (by omega)
      have hlt2 : decide (i < z) = true := decide_eq_true hlt
      have hi' : i < l.length := by rw [Hz.out]; exact hlt
      obtain ⟨g, off, rfl, hg, c0, c1, c2⟩ := Hcell.out i hi'
      replace c0 := cell_kept hbl c0
      replace c2 := cell_kept hbl c2
      have HP := Lib.hid (permN_drop hi' HR.out)
      have HS := Lib.hid (find_drop (t := t) hi')
      clear c1
      generalize l[i] = a at *
      obtain ⟨u, d, q⟩ := a
      simp only at c0 c2
      by_cases hu : u = t
      · have HE := Lib.hid (show permR l t = q by unfold permR; rw [(HP.out hu).1, if_pos rfl, (HP.out hu).2])
        subst hu
        have hs : (u == u) = true := beq_self_eq_true u
        clear HP HR HS
        go_wp2_with fail
        go_ret
        exact ⟨by rw [HE.out]; rfl, by (repeat' (first | exact Below.refl _ _ | assumption | refine gr_drew ?_ | refine gr_drewN ?_ _ | refine gr_alloc ?_ _ | refine gr_set ?_ ?_ _ | refine gr_call ?_ (by assumption)) <;> (try (simp; done)) <;> (try (simp; omega)) <;> (try omega))⟩
      · have HE := Lib.hid (show findN t l 0 = findN t (l.drop (i + 1)) (i + 1) by rw [HR.out, HS.out, if_neg hu])
        have hs : (u == t) = false := beq_eq_false_iff_ne.2 hu
        clear HP HR HS hu
        go_wp2_with fail
        go_roundw
        case rel => exact ⟨i + 1, rfl, by omega, by (repeat' (first | exact Below.refl _ _ | assumption | refine gr_drew ?_ | refine gr_drewN ?_ _ | refine gr_alloc ?_ _ | refine gr_set ?_ ?_ _ | refine gr_call ?_ (by assumption)) <;> (try (simp; done)) <;> (try (simp; omega)) <;> (try omega)), HE⟩
        case measure => simp only [intOf]; omega
    · have hlt' : decide ((i : Int) < (z : Int)) = false := decide_eq_false (by omega)
      have hlt2 : decide (i < z) = false := decide_eq_false hlt
      have HE := Lib.hid (show permR l t = -1 by
        have h : findN t l 0 = -1 := by rw [HR.out, find_end (by rw [Hz.out]; omega)]
        unfold permR has
        rw [h]
        rfl)
      clear HR
      go_wp2_with fail
      go_ret
      exact ⟨by rw [HE.out]; rfl, by (repeat' (first | exact Below.refl _ _ | assumption | refine gr_drew ?_ | refine gr_drewN ?_ _ | refine gr_alloc ?_ _ | refine gr_set ?_ ?_ _ | refine gr_call ?_ (by assumption)) <;> (try (simp; done)) <;> (try (simp; omega)) <;> (try omega))⟩
end Go.Proofs.Ytpfidbcnefnhcaa.AclW

/- Who may what, as plain mathematics. -/
namespace Go.Proofs.Ytpfidbcnefnhcaa
open MetaM
namespace RightM
open AclM AclW

structure Cr where
  uid : Int
  gid : Int
  groups : List Int
  powers : Int
def inM (c : Cr) (g : Int) : Bool := decide (c.gid = g) || c.groups.any fun x => decide (x = g)
def gr (p w : Nat) : Bool := decide (p &&& w = w)
def fromL (m : Int) : List Ace := [(1, 0, m / 64 % 8), (3, 0, m / 8 % 8), (6, 0, m % 8)]
def listM (m : Mt) : List Ace := if m.acl = [] then fromL m.mode else m.acl
def maskM (l : List Ace) : Nat := if permR l 5 < 0 then 7 else (permR l 5).toNat
def permM (l : List Ace) (t : Int) : Nat := (permR l t).toNat
def userM (l : List Ace) (u : Int) : Option Ace := l.find? fun a => decide (a.1 = 2) && decide (a.2.1 = u)
def grpM (m : Mt) (c : Cr) (a : Ace) : Bool := (decide (a.1 = 3) && inM c m.gid) || (decide (a.1 = 4) && inM c a.2.1)
def hasAll (c : Cr) : Bool := decide (c.powers / 2 % 2 = 1)
def hasOwn (c : Cr) : Bool := decide (c.powers / 4 % 2 = 1)
def restM (l : List Ace) (m : Mt) (c : Cr) (w : Nat) : Bool :=
  match userM l c.uid with
  | some a => gr a.2.2.toNat w && gr (maskM l) w
  | none => if l.any (grpM m c) then (l.any fun a => grpM m c a && gr a.2.2.toNat w) && gr (maskM l) w else gr (permM l 6) w
def canM (m : Mt) (c : Cr) (w : Int) : Bool :=
  if w < 0 ∨ 7 < w then false
  else if hasAll c then true
  else if m.uid = c.uid then gr (permM (listM m) 1) w.toNat
  else restM (listM m) m c w.toNat
def ownM (m : Mt) (c : Cr) : Bool := decide (m.uid = c.uid) || hasOwn c
def gF (l : List Ace) (x : Nat) : Nat := l.foldl (fun x a => if a.1 = 2 then x &&& a.2.2.toNat else x) x
def oF (l : List Ace) (k x : Nat) : Nat := l.foldl (fun x a => if a.1 = 2 ∨ a.1 = 4 then (x &&& a.2.2.toNat) &&& k else x) x
def lessM (m : Mt) : Nat :=
  if m.acl = [] then (m.mode % 512).toNat
  else 64 * permM m.acl 1 + 8 * gF m.acl (permM m.acl 3 &&& maskM m.acl) + oF m.acl (maskM m.acl) (permM m.acl 6)
def okL (m : Mt) : Prop := m.acl = [] ∨ may m.acl = true

theorem gr_iff (p w : Nat) : gr p w = true ↔ ∀ i, w.testBit i = true → p.testBit i = true := by
  unfold gr
  rw [decide_eq_true_eq]
  constructor
  · intro h i hi
    rw [← h, Nat.testBit_and, Bool.and_eq_true] at hi
    exact hi.1
  · intro h
    apply Nat.eq_of_testBit_eq
    intro i
    rw [Nat.testBit_and]
    cases hw : w.testBit i with
    | false => rw [Bool.and_false]
    | true => rw [h i hw]; rfl
theorem gr_and (p q w : Nat) : gr (p &&& q) w = (gr p w && gr q w) := by
  rw [Bool.eq_iff_iff, Bool.and_eq_true, gr_iff, gr_iff, gr_iff]
  constructor
  · intro h
    refine ⟨fun i hi => ?_, fun i hi => ?_⟩ <;> (have := h i hi; rw [Nat.testBit_and, Bool.and_eq_true] at this)
    · exact this.1
    · exact this.2
  · rintro ⟨h1, h2⟩ i hi
    rw [Nat.testBit_and, h1 i hi, h2 i hi]; rfl
theorem can_nat (m : Mt) (c : Cr) {w : Nat} (h : w < 8) : canM m c (w : Int) = if hasAll c then true else if m.uid = c.uid then gr (permM (listM m) 1) w else restM (listM m) m c w := by
  unfold canM
  rw [if_neg (by omega), Int.toNat_natCast]
theorem can_out (m : Mt) (c : Cr) {w : Int} (h : w < 0 ∨ 7 < w) : canM m c w = false := by
  unfold canM
  rw [if_pos h]
theorem permR_mem {l : List Ace} {t : Int} (h : has l t = true) : ∃ a ∈ l, a.1 = t ∧ permR l t = a.2.2 := by
  unfold permR permN
  rw [if_pos h]
  have key : ∀ (l : List Ace) (i : Nat), 0 ≤ findN t l i → ∃ k, ∃ hk : k < l.length, findN t l i = ((i + k : Nat) : Int) ∧ l[k].1 = t := by
    intro l
    induction l with
    | nil => intro i h; exact absurd h (by simp [findN])
    | cons a l ih =>
      intro i h
      unfold findN at h ⊢
      by_cases ha : a.1 = t
      · rw [if_pos ha]
        exact ⟨0, by simp, by simp, ha⟩
      · rw [if_neg ha] at h ⊢
        obtain ⟨k, hk, h1, h2⟩ := ih (i + 1) h
        refine ⟨k + 1, by simpa using hk, ?_, by simpa using h2⟩
        rw [h1]
        congr 1
        omega
  obtain ⟨k, hk, h1, h2⟩ := key l 0 (of_decide_eq_true h)
  rw [h1, Nat.zero_add, if_neg (by omega), Int.toNat_natCast]
  refine ⟨l[k], List.getElem_mem hk, h2, ?_⟩
  simp [List.getD, hk]
theorem perm_lt {l : List Ace} (h : may l = true) {t : Int} (ht : has l t = true) : permM l t < 8 := by
  obtain ⟨a, h1, _, h3⟩ := permR_mem ht
  unfold permM
  rw [h3]
  have := okPart_iff ((may_parts h).1 a h1)
  omega
theorem may_has {l : List Ace} (h : may l = true) : has l 1 = true ∧ has l 3 = true ∧ has l 6 = true := by
  have h4 := (may_parts h).2.2.2
  unfold tags at h4
  simp only [Bool.and_eq_true] at h4
  exact ⟨h4.1.1.1, h4.1.1.2, h4.1.2⟩
end RightM
end Go.Proofs.Ytpfidbcnefnhcaa

/- Capabilities as a value. -/
namespace Go.Proofs.Ytpfidbcnefnhcaa
open Go.RowKit
open MetaM
open CapsM in
def capV (c : Cap) : Value := .agg #[.int .i64 c.v, .int .u64 (c.p : Int), .int .u64 (c.i : Int), .bool c.e, .int .i64 c.r]
end Go.Proofs.Ytpfidbcnefnhcaa

/- Walks over package acl: Same; and the document's answer of it. -/
namespace Go.Proofs.Ytpfidbcnefnhcaa.AclW
open Go.RowKit
open AclM
set_option linter.unusedVariables false

def sameL (l m : List Ace) : Bool := decide (l = m)
end Go.Proofs.Ytpfidbcnefnhcaa.AclW

/- Lists of names with values, and of records, in memory. -/
namespace Go.Proofs.Ytpfidbcnefnhcaa.XatW
open Go.RowKit
open XatM
set_option linter.unusedVariables false

structure IsTwo (E : Elt Xa) : Prop where
  k : E.k = 2
  enc : ∀ a, E.enc a = [.string (strOf a.1), .string (strOf a.2)]
def xatE : Elt Xa where
  t := 71
  st := 25
  k := 2
  z := .agg #[.string ⟨#[]⟩, .string ⟨#[]⟩]
  bytes := 32
  enc a := [.string (strOf a.1), .string (strOf a.2)]
  len _ := rfl
  one _ u h := by simp at h; rcases h with rfl | rfl <;> rfl
  pos := by decide
  und := Try.underlying25
  inf := by kernel_rfl
  zk := rfl
  small := by decide
theorem xat_two : IsTwo xatE := ⟨rfl, fun _ => rfl⟩
def TwoAt (w : World) (g o : Nat) (a : Xa) : Prop := w.cell? ⟨g, o, none⟩ = some (.string (strOf a.1)) ∧ w.cell? ⟨g, o + 1, none⟩ = some (.string (strOf a.2))
theorem TwoAt.kept {w w1 : World} {g o : Nat} {a : Xa} (h : TwoAt w g o a) (hb : Below w.heap.size w w1) : TwoAt w1 g o a := ⟨cell_kept hb h.1, cell_kept hb h.2⟩
theorem two_at {E : Elt Xa} (hE : IsTwo E) {w : World} {g off cap n : Nat} {l : List Xa} (hn : n = l.length) (hc : l.length ≤ cap) (hg : g < w.heap.size) (h : ∀ j (h : j < l.length), TwoAt w g (off + j * 2) l[j]) : At E (.slice (some ⟨g, off, none⟩) n cap) l w := by
  subst hn
  refine .inr ⟨g, off, cap, rfl, hc, hg, fun j hj i u hu => ?_⟩
  have e : off + (j * E.k + i) = off + j * 2 + i := by rw [hE.k]; omega
  rw [e]
  rw [hE.enc] at hu
  obtain ⟨a0, a1⟩ := h j hj
  have hi : i < 2 := (List.getElem?_eq_some_iff.1 hu).1
  have : i = 0 ∨ i = 1 := by omega
  rcases this with rfl | rfl <;> (cases hu; assumption)
def twoV (a : Xa) : Value := .agg #[.string (strOf a.1), .string (strOf a.2)]
end Go.Proofs.Ytpfidbcnefnhcaa.XatW

/- Metadata in memory; when two are one; nothing but three numbers. -/
namespace Go.Proofs.Ytpfidbcnefnhcaa
open Go.RowKit
open MetaM
set_option linter.unusedVariables false

theorem and511 (n : Int) : bits .and .i64 n 511 = n % 512 := by
  have key : (BitVec.ofInt 64 n &&& BitVec.ofInt 64 511).toNat = (n % ((2 ^ 64 : Nat) : Int)).toNat % 2 ^ 9 := by
    rw [BitVec.toNat_and, BitVec.toNat_ofInt, show (BitVec.ofInt 64 511).toNat = 2 ^ 9 - 1 by decide, Nat.and_two_pow_sub_one_eq_mod]
  show IntKind.i64.wrap ((BitVec.ofInt 64 n &&& BitVec.ofInt 64 511).toNat : Int) = _
  rw [key, IntKind.wrap_i64]
  omega
def metaC (m : Mt) (va vd vx : Value) : Array Value := #[.int .i64 m.mode, .int .i64 m.uid, .int .i64 m.gid, .int .i64 m.sec, .int .i64 m.nano, va, vd, vx, .int .i64 m.cap.v, .int .u64 (m.cap.p : Int), .int .u64 (m.cap.i : Int), .bool m.cap.e, .int .i64 m.cap.r, .int .i64 m.flags]
structure MetaAt (m : Mt) (va vd vx : Value) (w : World) : Prop where
  acl : At AclW.aceE va m.acl w
  dfl : At AclW.aceE vd m.dfl w
  xat : At XatW.xatE vx m.xat w
  la : m.acl.length ≤ 1000000
  ld : m.dfl.length ≤ 1000000
  lx : m.xat.length ≤ 1000000
theorem MetaAt.call {m : Mt} {va vd vx : Value} {w w1 : World} (h : MetaAt m va vd vx w) (hb : Below w.heap.size w w1) : MetaAt m va vd vx w1 := ⟨h.acl.call hb, h.dfl.call hb, h.xat.call hb, h.la, h.ld, h.lx⟩
def MetaM.sameM (a b : Mt) : Bool :=
  decide (a.mode = b.mode) && decide (a.uid = b.uid) && decide (a.gid = b.gid) && decide (a.sec = b.sec ∧ a.nano = b.nano) && AclW.sameL a.acl b.acl && AclW.sameL a.dfl b.dfl && decide (a.xat = b.xat) &&
    decide (a.cap.v = b.cap.v ∧ a.cap.p = b.cap.p ∧ a.cap.i = b.cap.i ∧ a.cap.e = b.cap.e ∧ a.cap.r = b.cap.r) && decide (a.flags = b.flags)
theorem plain_build (a b c : Int) (w : World) : (Instr.build 30 #[(0, .int .i64 a), (1, .int .i64 b), (2, .int .i64 c)]).run Try.prog w = .ok (.agg #[.int .i64 a, .int .i64 b, .int .i64 c, .int .i64 0, .int .i64 0, .slice none 0 0, .slice none 0 0, .slice none 0 0, .int .i64 0, .int .u64 0, .int .u64 0, .bool false, .int .i64 0, .int .i64 0]) w :=
  run_build w _ _ _ (by kernel_rfl)
def MetaM.plainM (a b c : Int) : Mt := ⟨a, b, c, 0, 0, [], [], [], ⟨0, 0, 0, false, 0⟩, 0⟩
def nilV : Value := .slice none 0 0
end Go.Proofs.Ytpfidbcnefnhcaa

/- Lists by numbers: a part put in its place. -/
namespace Go.Proofs.Ytpfidbcnefnhcaa.AclW
open Go.RowKit
open AclM
set_option linter.unusedVariables false

def addL : List Ace → Ace → List Ace
  | [], a => [a]
  | x :: l, a => if x.2.1 < a.2.1 then x :: addL l a else if x.2.1 = a.2.1 then a :: l else a :: x :: l
theorem addL_mem {l : List Ace} {a x : Ace} (h : x ∈ addL l a) : x = a ∨ x ∈ l := by
  induction l with
  | nil => simp [addL] at h; exact .inl h
  | cons y l ih =>
    unfold addL at h
    split at h
    · rcases List.mem_cons.1 h with h | h
      · exact .inr (by simp [h])
      · rcases ih h with h | h
        · exact .inl h
        · exact .inr (by simp [h])
    · split at h
      · rcases List.mem_cons.1 h with h | h
        · exact .inl h
        · exact .inr (by simp [h])
      · rcases List.mem_cons.1 h with h | h
        · exact .inl h
        · exact .inr h
structure Grp (t : Int) (l : List Ace) : Prop where
  all : ∀ a ∈ l, a.1 = t ∧ 0 ≤ a.2.1 ∧ a.2.1 ≤ 127 ∧ 0 ≤ a.2.2 ∧ a.2.2 ≤ 7
  asc : l.Pairwise fun x y => x.2.1 < y.2.1
theorem Grp.nil (t : Int) : Grp t [] := ⟨by simp, List.Pairwise.nil⟩
theorem addL_asc {l : List Ace} {a : Ace} (h : l.Pairwise fun x y => x.2.1 < y.2.1) : (addL l a).Pairwise fun x y => x.2.1 < y.2.1 := by
  induction l with
  | nil => simp [addL]
  | cons y l ih =>
    obtain ⟨h1, h2⟩ := List.pairwise_cons.1 h
    unfold addL
    split
    · rename_i hlt
      refine List.pairwise_cons.2 ⟨fun x hx => ?_, ih h2⟩
      rcases addL_mem hx with rfl | hx
      · exact hlt
      · exact h1 x hx
    · split
      · rename_i he
        refine List.pairwise_cons.2 ⟨fun x hx => ?_, h2⟩
        have := h1 x hx
        omega
      · refine List.pairwise_cons.2 ⟨fun x hx => ?_, h⟩
        rcases List.mem_cons.1 hx with rfl | hx
        · omega
        · have := h1 x hx
          omega
theorem Grp.add {t : Int} {l : List Ace} {a : Ace} (h : Grp t l) (h1 : a.1 = t) (h2 : 0 ≤ a.2.1) (h3 : a.2.1 ≤ 127) (h4 : 0 ≤ a.2.2) (h5 : a.2.2 ≤ 7) : Grp t (addL l a) :=
  ⟨fun x hx => (addL_mem hx).elim (fun e => by rw [e]; exact ⟨h1, h2, h3, h4, h5⟩) (fun hx => h.all x hx), addL_asc h.asc⟩

def makeL (us gs : List Ace) (o g p q : Int) : List Ace :=
  if us.length + gs.length = 0 then [(1, 0, o)] ++ us ++ [(3, 0, g), (6, 0, p)] else [(1, 0, o)] ++ us ++ [(3, 0, q)] ++ gs ++ [(5, 0, g), (6, 0, p)]
theorem pw_append {a b : List Ace} : PW (a ++ b) ↔ PW a ∧ PW b ∧ ∀ x ∈ a, ∀ y ∈ b, ltA x y = true := List.pairwise_append
theorem Grp.pw {t : Int} {l : List Ace} (h : Grp t l) : PW l := by
  refine List.Pairwise.imp_of_mem ?_ h.asc
  intro a b ha hb hab
  rw [lt_iff]
  exact .inr ⟨by rw [(h.all a ha).1, (h.all b hb).1], hab⟩
theorem pw_one (a : Ace) : PW [a] := List.pairwise_singleton _ _
end Go.Proofs.Ytpfidbcnefnhcaa.AclW

/- The document's answer: whether a list may be, by counts of tags. -/
namespace Go.Proofs.Ytpfidbcnefnhcaa.AclW
open Go.RowKit
open AclM
set_option linter.unusedVariables false

def cntT (l : List Ace) (k : Nat) : Nat := (l.filter fun a => decide (a.1 = (k : Int))).length
theorem cnt_snoc (l : List Ace) (a : Ace) (k : Nat) : cntT (l ++ [a]) k = cntT l k + if a.1 = (k : Int) then 1 else 0 := by
  unfold cntT
  rw [List.filter_append, List.length_append]
  by_cases h : a.1 = (k : Int) <;> simp [h]
theorem cnt_le (l : List Ace) (k : Nat) : cntT l k ≤ l.length := List.length_filter_le _ _
theorem cnt_has (l : List Ace) (k : Nat) : has l (k : Int) = decide (0 < cntT l k) := by
  by_cases h : has l (k : Int) = true
  · obtain ⟨a, ha, h2⟩ := has_iff.1 h
    rw [h, decide_eq_true]
    exact List.length_pos_iff.2 (List.ne_nil_of_mem (List.mem_filter.2 ⟨ha, decide_eq_true h2⟩))
  · have h' := h
    rw [Bool.not_eq_true] at h
    rw [h, decide_eq_false]
    intro hp
    obtain ⟨a, ha⟩ := List.exists_mem_of_length_pos hp
    obtain ⟨h3, h4⟩ := List.mem_filter.1 ha
    exact h' (has_iff.2 ⟨a, h3, of_decide_eq_true h4⟩)
theorem cnt_one {l : List Ace} (h1 : ∀ a ∈ l, okPart a = true) (h2 : PW l) (k : Nat) (hk : hasId (k : Int) = false) : cntT l k ≤ 1 := by
  unfold cntT
  have hp : PW (l.filter fun a => decide (a.1 = (k : Int))) := List.Pairwise.sublist List.filter_sublist h2
  rcases hf : l.filter (fun a => decide (a.1 = (k : Int))) with _ | ⟨x, _ | ⟨y, r⟩⟩
  · rw [hf]; simp
  · rw [hf]; simp
  · rw [hf] at hp
    have hx : x ∈ l.filter fun a => decide (a.1 = (k : Int)) := by rw [hf]; simp
    have hy : y ∈ l.filter fun a => decide (a.1 = (k : Int)) := by rw [hf]; simp
    obtain ⟨x1, x2⟩ := List.mem_filter.1 hx
    obtain ⟨y1, y2⟩ := List.mem_filter.1 hy
    replace x2 : x.1 = (k : Int) := of_decide_eq_true x2
    replace y2 : y.1 = (k : Int) := of_decide_eq_true y2
    have ix := (okPart_iff (h1 x x1)).2.2.2.2.2.2 (by rw [x2]; exact hk)
    have iy := (okPart_iff (h1 y y1)).2.2.2.2.2.2 (by rw [y2]; exact hk)
    have := (lt_iff _ _).1 ((List.pairwise_cons.1 hp).1 y (by simp))
    omega
theorem may_three {l : List Ace} (h : may l = true) : 3 ≤ l.length := by
  have h2 := may_two h
  rcases l with _ | ⟨x, _ | ⟨y, _ | ⟨z, r⟩⟩⟩
  · simp at h2
  · simp at h2
  · have a1 := may_first h (by simp)
    have a2 := may_last h (by simp)
    obtain ⟨a, ha, h3⟩ := has_iff.1 (may_iff.1 h).2.2.2.2.1
    simp at a1 a2 ha
    rcases ha with rfl | rfl <;> omega
  · simp
theorem cnt_may {l : List Ace} (h32 : l.length ≤ 32) (h1 : ∀ a ∈ l, okPart a = true) (h2 : order l = true) :
    may l = (decide (cntT l 1 = 1) && decide (cntT l 3 = 1) && decide (cntT l 6 = 1) && (decide (cntT l 5 = 1) == decide (0 < cntT l 2 + cntT l 4))) := by
  have hp := order_pw.1 h2
  have e : ∀ k : Nat, hasId (k : Int) = false → has l (k : Int) = decide (cntT l k = 1) := by
    intro k hk
    rw [cnt_has]
    have := cnt_one h1 hp k hk
    by_cases h : cntT l k = 1
    · rw [h]; rfl
    · rw [decide_eq_false h, decide_eq_false]; omega
  have e1 : has l 1 = decide (cntT l 1 = 1) := e 1 (by decide)
  have e3 : has l 3 = decide (cntT l 3 = 1) := e 3 (by decide)
  have e5 : has l 5 = decide (cntT l 5 = 1) := e 5 (by decide)
  have e6 : has l 6 = decide (cntT l 6 = 1) := e 6 (by decide)
  have e2 : has l 2 = decide (0 < cntT l 2) := cnt_has l 2
  have e4 : has l 4 = decide (0 < cntT l 4) := cnt_has l 4
  unfold may tags
  rw [decide_eq_true h32, List.all_eq_true.2 h1, h2, e1, e3, e5, e6, e2, e4]
  have : (decide (0 < cntT l 2) || decide (0 < cntT l 4)) = decide (0 < cntT l 2 + cntT l 4) := by
    by_cases a : 0 < cntT l 2 <;> by_cases b : 0 < cntT l 4 <;> simp [a, b] <;> omega
  rw [this]
  simp
theorem order_snoc {l : List Ace} {i : Nat} (hi : i < l.length) (h : order (l.take i) = true) (hl : ∀ h0 : 0 < i, ltA (l[i - 1]'(by omega)) l[i] = true) : order (l.take (i + 1)) = true := by
  rw [order_pw] at h ⊢
  rw [List.take_succ_eq_append_getElem hi, pw_append]
  refine ⟨h, pw_one _, ?_⟩
  intro x hx y hy
  simp at hy
  subst hy
  obtain ⟨j, hj, rfl⟩ := List.getElem_of_mem hx
  have hj' := hj
  rw [List.length_take] at hj'
  have h3 := hl (by omega)
  by_cases hji : j = i - 1
  · subst hji
    rw [List.getElem_take]
    exact h3
  · have h4 := List.pairwise_iff_getElem.1 h j (i - 1) hj (by rw [List.length_take]; omega) (by omega)
    have e : (l.take i)[i - 1]'(by rw [List.length_take]; omega) = l[i - 1]'(by omega) := List.getElem_take
    rw [e] at h4
    exact lt_trans' h4 h3
theorem bad_order {l : List Ace} {i : Nat} (h0 : 0 < i) (hi : i < l.length) (h : ltA (l[i - 1]'(by omega)) l[i] = false) : may l = false := by
  rw [← Bool.not_eq_true]
  intro hm
  have := List.pairwise_iff_getElem.1 (may_iff.1 hm).2.2.1 (i - 1) i (by omega) hi (by omega)
  rw [h] at this
  cases this
theorem bad_part' {l : List Ace} {i : Nat} (hi : i < l.length) (h : okPart l[i] = false) : may l = false := by
  rw [← Bool.not_eq_true]
  intro hm
  rw [(may_iff.1 hm).2.1 _ (List.getElem_mem hi)] at h
  cases h
theorem bad_few {l : List Ace} (h : l.length < 3) : may l = false := by
  rw [← Bool.not_eq_true]
  intro hm
  have := may_three hm
  omega
theorem bad_many {l : List Ace} (h : 32 < l.length) : may l = false := by
  rw [← Bool.not_eq_true]
  intro hm
  have := (may_iff.1 hm).1
  omega

def onceC (f : Nat → Nat) : Array Value := #[.int .i64 (f 0 : Int), .int .i64 (f 1 : Int), .int .i64 (f 2 : Int), .int .i64 (f 3 : Int), .int .i64 (f 4 : Int), .int .i64 (f 5 : Int), .int .i64 (f 6 : Int)]
theorem once_at (f : Nat → Nat) (k : Nat) (h : k < 7) : (onceC f)[k]? = some (.int .i64 (f k : Int)) := by
  have : k = 0 ∨ k = 1 ∨ k = 2 ∨ k = 3 ∨ k = 4 ∨ k = 5 ∨ k = 6 := by omega
  rcases this with rfl | rfl | rfl | rfl | rfl | rfl | rfl <;> rfl
theorem once_put (f g : Nat → Nat) (k : Nat) (h : k < 7) (hg : ∀ j, g j = f j + if j = k then 1 else 0) : (onceC f).setIfInBounds k (.int .i64 ((f k : Int) + 1)) = onceC g := by
  have : k = 0 ∨ k = 1 ∨ k = 2 ∨ k = 3 ∨ k = 4 ∨ k = 5 ∨ k = 6 := by omega
  rcases this with rfl | rfl | rfl | rfl | rfl | rfl | rfl <;> simp [onceC, hg]
end Go.Proofs.Ytpfidbcnefnhcaa.AclW
