/- Bundle of 7 texts. -/
import Derived.Test.YtpfidbcnefnhcaaPk02
import Derived.Deep.RegionHeld3
import Derived.Laws.MakeOwn
import Derived.Test.YtpfidbcnefnhcaaKit
import Derived.OpenShut
import Derived.RegionTactic
import Derived.Below
import Derived.WalkKit
/- Lists by numbers: a part put in its place. -/
namespace Go.Proofs.Ytpfidbcnefnhcaa.AclW
open Go.RowKit
open AclM
set_option linter.unusedVariables false

def addL : List Ace → Ace → List Ace
  | [], a => [a]
  | x :: l, a => if x.2.1 < a.2.1 then x :: addL l a else if x.2.1 = a.2.1 then a :: l else a :: x :: l
theorem addL_mem {l : List Ace} {a x : Ace} (h : x ∈ addL l a) : x = a ∨ x ∈ l := by
  induction l with
  | nil => simp [addL] at h; exact .inl h
  | cons y l ih =>
    unfold addL at h
    split at h
    · rcases List.mem_cons.1 h with h | h
      · exact .inr (by simp [h])
      · rcases ih h with h | h
        · exact .inl h
        · exact .inr (by simp [h])
    · split at h
      · rcases List.mem_cons.1 h with h | h
        · exact .inl h
        · exact .inr (by simp [h])
      · rcases List.mem_cons.1 h with h | h
        · exact .inl h
        · exact .inr h
theorem addL_len (l : List Ace) (a : Ace) : 1 ≤ (addL l a).length ∧ (addL l a).length ≤ l.length + 1 := by
  induction l with
  | nil => simp [addL]
  | cons y l ih =>
    unfold addL
    split
    · simp only [List.length_cons]; omega
    · split <;> simp only [List.length_cons] <;> omega
structure Grp (t : Int) (l : List Ace) : Prop where
  all : ∀ a ∈ l, a.1 = t ∧ 0 ≤ a.2.1 ∧ a.2.1 ≤ 127 ∧ 0 ≤ a.2.2 ∧ a.2.2 ≤ 7
  asc : l.Pairwise fun x y => x.2.1 < y.2.1
theorem Grp.nil (t : Int) : Grp t [] := ⟨by simp, List.Pairwise.nil⟩
theorem addL_asc {l : List Ace} {a : Ace} (h : l.Pairwise fun x y => x.2.1 < y.2.1) : (addL l a).Pairwise fun x y => x.2.1 < y.2.1 := by
  induction l with
  | nil => simp [addL]
  | cons y l ih =>
    obtain ⟨h1, h2⟩ := List.pairwise_cons.1 h
    unfold addL
    split
    · rename_i hlt
      refine List.pairwise_cons.2 ⟨fun x hx => ?_, ih h2⟩
      rcases addL_mem hx with rfl | hx
      · exact hlt
      · exact h1 x hx
    · split
      · rename_i he
        refine List.pairwise_cons.2 ⟨fun x hx => ?_, h2⟩
        have := h1 x hx
        omega
      · refine List.pairwise_cons.2 ⟨fun x hx => ?_, h⟩
        rcases List.mem_cons.1 hx with rfl | hx
        · omega
        · have := h1 x hx
          omega
theorem Grp.add {t : Int} {l : List Ace} {a : Ace} (h : Grp t l) (h1 : a.1 = t) (h2 : 0 ≤ a.2.1) (h3 : a.2.1 ≤ 127) (h4 : 0 ≤ a.2.2) (h5 : a.2.2 ≤ 7) : Grp t (addL l a) :=
  ⟨fun x hx => (addL_mem hx).elim (fun e => by rw [e]; exact ⟨h1, h2, h3, h4, h5⟩) (fun hx => h.all x hx), addL_asc h.asc⟩

theorem add_step {l : List Ace} {a : Ace} {k : Nat} (hk : k < l.length) (h : addL l a = l.take k ++ addL (l.drop k) a) (hlt : l[k].2.1 < a.2.1) : addL l a = l.take (k + 1) ++ addL (l.drop (k + 1)) a := by
  rw [h, List.drop_eq_getElem_cons hk, List.take_succ_eq_append_getElem hk]
  show _ ++ (if l[k].2.1 < a.2.1 then l[k] :: addL (l.drop (k + 1)) a else _) = _
  rw [if_pos hlt, List.append_assoc]
  rfl
theorem add_end {l : List Ace} {a : Ace} {k : Nat} (hk : l.length ≤ k) (h : addL l a = l.take k ++ addL (l.drop k) a) : addL l a = l.take k ++ [a] ++ l.drop k := by
  rw [h, List.drop_eq_nil_of_le hk]
  simp [addL]
theorem add_same {l : List Ace} {a : Ace} {k : Nat} (hk : k < l.length) (h : addL l a = l.take k ++ addL (l.drop k) a) (he : l[k].2.1 = a.2.1) : addL l a = l.take k ++ [a] ++ (l.drop k).drop 1 := by
  rw [h, List.drop_eq_getElem_cons hk]
  show _ ++ (if l[k].2.1 < a.2.1 then _ else if l[k].2.1 = a.2.1 then a :: l.drop (k + 1) else _) = _
  rw [if_neg (by omega), if_pos he]
  simp
theorem add_more {l : List Ace} {a : Ace} {k : Nat} (hk : k < l.length) (h : addL l a = l.take k ++ addL (l.drop k) a) (h1 : ¬ l[k].2.1 < a.2.1) (h2 : l[k].2.1 ≠ a.2.1) : addL l a = l.take k ++ [a] ++ l.drop k := by
  rw [h, List.drop_eq_getElem_cons hk]
  show _ ++ (if l[k].2.1 < a.2.1 then _ else if l[k].2.1 = a.2.1 then _ else a :: l[k] :: l.drop (k + 1)) = _
  rw [if_neg h1, if_neg h2]
  simp

def makeL (us gs : List Ace) (o g p q : Int) : List Ace :=
  if us.length + gs.length = 0 then [(1, 0, o)] ++ us ++ [(3, 0, g), (6, 0, p)] else [(1, 0, o)] ++ us ++ [(3, 0, q)] ++ gs ++ [(5, 0, g), (6, 0, p)]
theorem pw_append {a b : List Ace} : PW (a ++ b) ↔ PW a ∧ PW b ∧ ∀ x ∈ a, ∀ y ∈ b, ltA x y = true := List.pairwise_append
theorem Grp.pw {t : Int} {l : List Ace} (h : Grp t l) : PW l := by
  refine List.Pairwise.imp_of_mem ?_ h.asc
  intro a b ha hb hab
  rw [lt_iff]
  exact .inr ⟨by rw [(h.all a ha).1, (h.all b hb).1], hab⟩
theorem pw_one (a : Ace) : PW [a] := List.pairwise_singleton _ _
theorem pw_two {a b : Ace} (h : ltA a b = true) : PW [a, b] := List.pairwise_cons.2 ⟨by simpa using h, List.pairwise_singleton _ _⟩
theorem lt_tag {a b : Ace} (h : a.1 < b.1) : ltA a b = true := (lt_iff _ _).2 (.inl h)
theorem make_good {us gs : List Ace} {o g p q : Int} (hu : Grp 2 us) (hg : Grp 4 gs) (hul : us.length ≤ 6) (hgl : gs.length ≤ 6)
    (ho : 0 ≤ o ∧ o ≤ 7) (hgr : 0 ≤ g ∧ g ≤ 7) (hp : 0 ≤ p ∧ p ≤ 7) (hq : 0 ≤ q ∧ q ≤ 7) :
    may (makeL us gs o g p q) = true ∧ modeL (makeL us gs o g p q) = 64 * o + 8 * g + p := by
  unfold makeL
  have okg : ∀ (t : Int) (l : List Ace), (t = 2 ∨ t = 4) → Grp t l → ∀ a ∈ l, okPart a = true := by
    intro t l ht hl a ha
    obtain ⟨h1, h2, h3, h4, h5⟩ := hl.all a ha
    have hh : hasId a.1 = true := by rw [h1]; rcases ht with rfl | rfl <;> rfl
    unfold okPart
    rw [if_pos hh]
    simp only [Bool.and_eq_true, decide_eq_true_eq]
    omega
  have ok1 : ∀ (t x : Int), (t = 1 ∨ t = 3 ∨ t = 5 ∨ t = 6) → 0 ≤ x → x ≤ 7 → okPart (t, 0, x) = true := by
    intro t x ht h1 h2
    rcases ht with rfl | rfl | rfl | rfl <;> simp [okPart, hasId] <;> omega
  by_cases h0 : us.length + gs.length = 0
  · rw [if_pos h0]
    obtain rfl : us = [] := List.eq_nil_of_length_eq_zero (by omega)
    have hm : may ([(1, 0, o)] ++ [] ++ [(3, 0, g), (6, 0, p)]) = true := by
      refine may_iff.2 ⟨by simp, ?_, ?_, by simp [has, findN], by simp [has, findN], by simp [has, findN], by simp [has, findN]⟩
      · intro a ha
        simp at ha
        rcases ha with rfl | rfl | rfl
        · exact ok1 _ _ (by omega) ho.1 ho.2
        · exact ok1 _ _ (by omega) hgr.1 hgr.2
        · exact ok1 _ _ (by omega) hp.1 hp.2
      · exact order_pw.1 (by simp [order, ltA])
    refine ⟨hm, ?_⟩
    simp [modeL, permN, has, findN]
  · rw [if_neg h0]
    have mem : ∀ a, a ∈ [((1, 0, o) : Ace)] ++ us ++ [(3, 0, q)] ++ gs ++ [(5, 0, g), (6, 0, p)] ↔ a = (1, 0, o) ∨ a ∈ us ∨ a = (3, 0, q) ∨ a ∈ gs ∨ a = (5, 0, g) ∨ a = (6, 0, p) := by
      intro a
      simp only [List.mem_append, List.mem_singleton, List.mem_cons, List.not_mem_nil, or_false, or_assoc]
    have hu1 : ∀ a ∈ us, a.1 = 2 := fun a ha => (hu.all a ha).1
    have hg1 : ∀ a ∈ gs, a.1 = 4 := fun a ha => (hg.all a ha).1
    have hpw : PW ([((1, 0, o) : Ace)] ++ us ++ [(3, 0, q)] ++ gs ++ [(5, 0, g), (6, 0, p)]) := by
      refine pw_append.2 ⟨pw_append.2 ⟨pw_append.2 ⟨pw_append.2 ⟨pw_one _, hu.pw, ?_⟩, pw_one _, ?_⟩, hg.pw, ?_⟩, pw_two (by simp [ltA]), ?_⟩
      · intro x hx y hy
        simp at hx; subst hx
        exact lt_tag (by rw [hu1 y hy]; simp)
      · intro x hx y hy
        simp at hy; subst hy
        rcases List.mem_append.1 hx with hx | hx
        · simp at hx; subst hx; exact lt_tag (by simp)
        · exact lt_tag (by rw [hu1 x hx]; simp)
      · intro x hx y hy
        refine lt_tag ?_
        rw [hg1 y hy]
        simp only [List.mem_append, List.mem_singleton] at hx
        rcases hx with (rfl | hx) | rfl
        · simp
        · rw [hu1 x hx]; simp
        · simp
      · intro x hx y hy
        refine lt_tag ?_
        have hx4 : x.1 ≤ 4 := by
          simp only [List.mem_append, List.mem_singleton] at hx
          rcases hx with ((rfl | hx) | rfl) | hx
          · simp
          · rw [hu1 x hx]; simp
          · simp
          · rw [hg1 x hx]; simp
        simp at hy
        rcases hy with rfl | rfl <;> simp <;> omega
    generalize hL : [((1, 0, o) : Ace)] ++ us ++ [(3, 0, q)] ++ gs ++ [(5, 0, g), (6, 0, p)] = L at *
    have hlen : L.length ≤ 32 := by
      rw [← hL]
      simp
      omega
    have h5 : has L 5 = true := has_iff.2 ⟨_, (mem _).2 (.inr (.inr (.inr (.inr (.inl rfl))))), rfl⟩
    have h24 : (has L 2 || has L 4) = true := by
      rw [Bool.or_eq_true]
      by_cases hu0 : us = []
      · right
        rcases gs with _ | ⟨a, gs⟩
        · subst hu0; simp at h0
        · exact has_iff.2 ⟨a, (mem _).2 (.inr (.inr (.inr (.inl (by simp))))), hg1 a (by simp)⟩
      · left
        rcases us with _ | ⟨a, us⟩
        · exact absurd rfl hu0
        · exact has_iff.2 ⟨a, (mem _).2 (.inr (.inl (by simp))), hu1 a (by simp)⟩
    have hm : may L = true := by
      refine may_iff.2 ⟨hlen, ?_, hpw, has_iff.2 ⟨_, (mem _).2 (.inl rfl), rfl⟩, has_iff.2 ⟨_, (mem _).2 (.inr (.inr (.inl rfl))), rfl⟩, has_iff.2 ⟨_, (mem _).2 (.inr (.inr (.inr (.inr (.inr rfl))))), rfl⟩, by rw [h5, h24]⟩
      intro a ha
      rcases (mem a).1 ha with rfl | ha | rfl | ha | rfl | rfl
      · exact ok1 _ _ (by omega) ho.1 ho.2
      · exact okg 2 us (.inl rfl) hu a ha
      · exact ok1 _ _ (by omega) hq.1 hq.2
      · exact okg 4 gs (.inr rfl) hg a ha
      · exact ok1 _ _ (by omega) hgr.1 hgr.2
      · exact ok1 _ _ (by omega) hp.1 hp.2
    refine ⟨hm, ?_⟩
    have p1 : permN L 1 = o := permN_of ⟨_, (mem _).2 (.inl rfl), rfl⟩ (by
      intro a ha ht
      rcases (mem a).1 ha with rfl | ha | rfl | ha | rfl | rfl
      · rfl
      · rw [hu1 a ha] at ht; cases ht
      · cases ht
      · rw [hg1 a ha] at ht; cases ht
      · cases ht
      · cases ht)
    have p5 : permN L 5 = g := permN_of ⟨_, (mem _).2 (.inr (.inr (.inr (.inr (.inl rfl))))), rfl⟩ (by
      intro a ha ht
      rcases (mem a).1 ha with rfl | ha | rfl | ha | rfl | rfl
      · cases ht
      · rw [hu1 a ha] at ht; cases ht
      · cases ht
      · rw [hg1 a ha] at ht; cases ht
      · rfl
      · cases ht)
    have p6 : permN L 6 = p := permN_of ⟨_, (mem _).2 (.inr (.inr (.inr (.inr (.inr rfl))))), rfl⟩ (by
      intro a ha ht
      rcases (mem a).1 ha with rfl | ha | rfl | ha | rfl | rfl
      · cases ht
      · rw [hu1 a ha] at ht; cases ht
      · cases ht
      · rw [hg1 a ha] at ht; cases ht
      · cases ht
      · rfl)
    unfold modeL
    rw [h5, if_pos rfl, p1, p5, p6]
end Go.Proofs.Ytpfidbcnefnhcaa.AclW

/- The document's answer: whether a list may be, by counts of tags. -/
namespace Go.Proofs.Ytpfidbcnefnhcaa.AclW
open Go.RowKit
open AclM
set_option linter.unusedVariables false

def cntT (l : List Ace) (k : Nat) : Nat := (l.filter fun a => decide (a.1 = (k : Int))).length
def onceC (f : Nat → Nat) : Array Value := #[.int .i64 (f 0 : Int), .int .i64 (f 1 : Int), .int .i64 (f 2 : Int), .int .i64 (f 3 : Int), .int .i64 (f 4 : Int), .int .i64 (f 5 : Int), .int .i64 (f 6 : Int)]
end Go.Proofs.Ytpfidbcnefnhcaa.AclW

/- The document's answer: whether a list may be. -/
namespace Go.Proofs.Ytpfidbcnefnhcaa.AclW
open Go.RowKit
open AclM
set_option linter.unusedVariables false
attribute [local irreducible] Row At

end Go.Proofs.Ytpfidbcnefnhcaa.AclW

/- A slice of integers that came in: what it reads as, at every place, and in every later world. -/
namespace Go.Proofs.Ytpfidbcnefnhcaa
open Go.RowKit

def IsRow (k : IntKind) (w : World) (a : Option Addr) (len cap : Nat) (zs : List Int) : Prop :=
  (a = none ∧ len = 0 ∧ cap = 0 ∧ zs = []) ∨
  ∃ x, a = some x ∧ len ≤ cap ∧ cap ≤ maxLen ∧ zs.length = cap ∧ (∀ i, i < zs.length → w.cell? (x.add i) = some (.int k (zs.getD i 0))) ∧ (∀ n ∈ zs, (Lit.int k n).wf = true)
theorem IsRow.open {k : IntKind} {w : World} {a : Option Addr} {len cap : Nat} {zs : List Int} (h : IsRow k w a len cap zs) (hp : 0 < len) :
    ∃ b off, a = some ⟨b, off, none⟩ ∧ b < w.heap.size ∧ len ≤ cap ∧ (∀ j, j < len → w.cell? ⟨b, off + j, none⟩ = some (.int k (zs.getD j 0)) ∧ (Lit.int k (zs.getD j 0)).wf = true) := by
  rcases h with ⟨_, h, _⟩ | ⟨x, rfl, hl, hm, hz, hc, hw⟩
  · omega
  · obtain ⟨b, off, rfl, hat⟩ := ints_at hc (by omega)
    refine ⟨b, off, rfl, block_lt (hat 0 (by omega)), hl, fun j hj => ⟨hat j (by omega), hw _ ?_⟩⟩
    have : j < zs.length := by omega
    simp [List.getD, List.getElem?_eq_getElem this]
end Go.Proofs.Ytpfidbcnefnhcaa

/- Small facts of metadata and of rows that came in. -/
namespace Go.Proofs.Ytpfidbcnefnhcaa
open Go.RowKit
open MetaM
set_option linter.unusedVariables false

theorem AclW.may_len {l : List AclM.Ace} (h : AclM.may l = true) : l.length ≤ 32 := (may_iff.1 h).1
theorem isRow_le {k : IntKind} {w : World} {a : Option Addr} {len cap : Nat} {zs : List Int} (h : IsRow k w a len cap zs) : len ≤ 9223372036854775807 := by
  rcases h with ⟨_, h, _⟩ | ⟨_, _, h1, h2, _⟩
  · omega
  · unfold maxLen at h2; omega
theorem isRow_call {k : IntKind} {w w1 : World} {a : Option Addr} {len cap : Nat} {zs : List Int} (h : IsRow k w a len cap zs) (hb : Below w.heap.size w w1) : IsRow k w1 a len cap zs := by
  rcases h with h | ⟨x, h0, h1, h2, h3, h4, h5⟩
  · exact .inl h
  · exact .inr ⟨x, h0, h1, h2, h3, fun i hi => cell_kept hb (h4 i hi), h5⟩
end Go.Proofs.Ytpfidbcnefnhcaa

/- The document's answer to who may what: groups, powers, owners. -/
namespace Go.Proofs.Ytpfidbcnefnhcaa
open Go.RowKit
open MetaM RightM
set_option linter.unusedVariables false

def intE : Elt Int where
  t := 3
  st := 31
  k := 1
  z := .int .i64 0
  bytes := 8
  enc a := [.int .i64 a]
  len _ := rfl
  one _ u h := by simp at h; subst h; rfl
  pos := by decide
  und := Try.underlying31
  inf := by kernel_rfl
  zk := rfl
  small := by decide
theorem int_look {v : Value} {l : List Int} {w : World} (h : At intE v l w) :
    ∃ p cap, v = .slice p l.length cap ∧ l.length ≤ cap ∧ ∀ j (h : j < l.length), ∃ g off, p = some ⟨g, off, none⟩ ∧ g < w.heap.size ∧ w.cell? ⟨g, off + j, none⟩ = some (.int .i64 l[j]) := by
  by_cases hl : l = []
  · obtain ⟨p, cap, h1, h2⟩ := h.shape
    exact ⟨p, cap, h1, h2, fun j hj => by subst hl; simp at hj⟩
  · obtain ⟨g, off, cap, h1, h2, h3, h4⟩ := h.open hl
    refine ⟨_, cap, h1, h2, fun j hj => ⟨g, off, rfl, h3, ?_⟩⟩
    have a0 := h4 j hj 0 _ rfl
    rw [show off + (j * intE.k + 0) = off + j by show off + (j * 1 + 0) = _; omega] at a0
    exact a0
def credC (c : Cr) (gv : Value) : Array Value := #[.int .i64 c.uid, .int .i64 c.gid, gv, .int .i64 c.powers]
structure CredAt (c : Cr) (gv : Value) (w : World) : Prop where
  groups : At intE gv c.groups w
  len : c.groups.length ≤ 1000000
theorem CredAt.call {c : Cr} {gv : Value} {w w1 : World} (h : CredAt c gv w) (hb : Below w.heap.size w w1) : CredAt c gv w1 := ⟨h.groups.call hb, h.len⟩
theorem int_beq (a b : Int) : decide (a = b) = (a == b) := by by_cases h : a = b <;> simp [h]
theorem nat_and2 (x : Nat) : x &&& 2 = x / 2 % 2 * 2 := by
  have h : ∀ y : Fin 4, y.val &&& 2 = y.val / 2 % 2 * 2 := by decide
  have e : x &&& 2 = (x % 4) &&& 2 := by
    have h1 : x % 4 = x &&& 3 := (Nat.and_two_pow_sub_one_eq_mod x 2).symm
    have h2 : (3 : Nat) &&& 2 = 2 := by decide
    rw [h1, Nat.and_assoc, h2]
  have := h ⟨x % 4, Nat.mod_lt _ (by decide)⟩
  simp only at this
  omega
theorem and2 (n : Int) : bits .and .i64 n 2 = n / 2 % 2 * 2 := by
  have key : (BitVec.ofInt 64 n &&& BitVec.ofInt 64 2).toNat = (n % ((2 ^ 64 : Nat) : Int)).toNat / 2 % 2 * 2 := by
    rw [BitVec.toNat_and, BitVec.toNat_ofInt, show (BitVec.ofInt 64 2).toNat = 2 by decide, nat_and2]
  show IntKind.i64.wrap ((BitVec.ofInt 64 n &&& BitVec.ofInt 64 2).toNat : Int) = _
  rw [key, IntKind.wrap_i64]
  omega
theorem has_all (c : Cr) : (bits .and .i64 c.powers 2 != 0) = hasAll c := by
  rw [and2]
  unfold hasAll
  rcases (by omega : c.powers / 2 % 2 = 0 ∨ c.powers / 2 % 2 = 1) with h | h <;> rw [h] <;> rfl
attribute [local irreducible] Row At

end Go.Proofs.Ytpfidbcnefnhcaa

/- A region that draws its order, whose operations make memory beside calls: one step an operation, whatever the order. -/
namespace Go.Proofs.Ytpfidbcnefnhcaa
open Go Go.RowKit

section
variable {P : Program} {Q : Exit → Act → World → Prop}

def dstOf (l : List Oper) (j : Nat) : Nat := ((l[j]?).bind (·.dst)).getD 0
def valOf (l : List Oper) (a : Act) (j : Nat) : Value := a.tmps.getD (dstOf l j) undef
def findDst (l : List Oper) (k : Nat) : Option Nat := l.findIdx? (fun o => o.dst == some k)
def goodOps (l : List Oper) (n : Nat) : Bool :=
  (List.range l.length).all fun i => match l[i]? with
    | none => false
    | some o => o.guard.isNone && o.dst.isSome && decide (dstOf l i < n) && (findDst l (dstOf l i) == some i) && (o.after.all fun e => decide (e.on < i))
def setAll : List Oper → (Nat → Value) → Nat → Array Value → Array Value
  | [], _, _, t => t
  | o :: l, vals, i, t => setAll l vals (i + 1) (match o.dst with | some d => t.setIfInBounds d (vals i) | none => t)

def StepOk (P : Program) (Q : Exit → Act → World → Prop) (l : List Oper) (S : World → Prop) (V : Nat → World → Value → Prop) (a0 : Act) (i : Nat) (o : Oper) : Prop :=
  ∀ (a : Act) (w : World) (K : Act → World → Prop), S w →
    (∀ e ∈ o.after, Region.binds .any e = true → V e.on w (valOf l a e.on)) →
    (∀ k, findDst l k = none → a.tmps.getD k undef = a0.tmps.getD k undef) →
    (∀ v w', Below w.heap.size w w' → S w' → V i w' v → K (a.put o.dst v) w') → Oper.wp P o a w K Q
def StepsOk (P : Program) (Q : Exit → Act → World → Prop) (l : List Oper) (S : World → Prop) (V : Nat → World → Value → Prop) (a0 : Act) : List Oper → Nat → Prop
  | [], _ => True
  | o :: r, i => StepOk P Q l S V a0 i o ∧ StepsOk P Q l S V a0 r (i + 1)

structure FrameIs (l : List Oper) (V : Nat → World → Value → Prop) (S : World → Prop) (a0 : Act) (vals : Nat → Value) (listed : Array Bool) (a : Act) (w : World) : Prop where
  hS : S w
  hd : a.defers = a0.defers
  hz : a.tmps.size = a0.tmps.size
  hv : ∀ i, listed.getD i false = true → V i w (vals i)
  ht : ∀ k, a.tmps[k]? = match findDst l k with
    | some i => if listed.getD i false = true then some (vals i) else a0.tmps[k]?
    | none => a0.tmps[k]?

theorem ready_spec {ops : Array Oper} {listed : Array Bool} {i : Nat} (h : i ∈ Region.ready .any ops listed) :
    ∃ o, ops[i]? = some o ∧ listed.getD i true = false ∧ ∀ e ∈ o.after, Region.binds .any e = true → listed.getD e.on false = true := by
  unfold Region.ready at h
  rw [List.mem_filter] at h
  obtain ⟨h1, h2⟩ := h
  rw [List.mem_range] at h1
  refine ⟨ops[i], by simp [h1], ?_, ?_⟩
  · simp at h2; simpa using h2.1
  · intro e he hb
    simp only [Bool.and_eq_true, Array.getElem?_eq_getElem h1, Option.map_some, Option.getD_some, Array.all_eq_true_iff_forall_mem] at h2
    have := h2.2 e he
    simpa [hb] using this
theorem count_set {b : List Bool} : ∀ {i : Nat}, b[i]? = some false → (b.set i true).count false + 1 = b.count false := by
  induction b with
  | nil => intro i h; simp at h
  | cons x b ih =>
    intro i h
    cases i with
    | zero =>
      simp at h; subst h
      simp
    | succ i =>
      simp at h
      have := ih h
      simp only [List.set_cons_succ, List.count_cons]
      omega

theorem setAll_size : ∀ (l : List Oper) (vals : Nat → Value) (i : Nat) (t : Array Value), (setAll l vals i t).size = t.size
  | [], _, _, _ => rfl
  | o :: l, vals, i, t => by
    rw [setAll, setAll_size]
    cases o.dst <;> simp
theorem findDst_cons (o : Oper) (l : List Oper) (k : Nat) : findDst (o :: l) k = if o.dst = some k then some 0 else (findDst l k).map (· + 1) := by
  unfold findDst
  rw [List.findIdx?_cons]
  by_cases h : o.dst = some k
  · simp [h]
  · have : (o.dst == some k) = false := by simpa using h
    simp [this, h]
def uniq : List Oper → Bool
  | [] => true
  | o :: l => (match o.dst with | some d => (findDst l d).isNone | none => true) && uniq l
theorem setAll_at : ∀ (l : List Oper) (vals : Nat → Value) (n : Nat) (t : Array Value) (k : Nat), uniq l = true → k < t.size → (setAll l vals n t)[k]? = match findDst l k with
    | some i => some (vals (n + i))
    | none => t[k]?
  | [], _, _, _, _, _, _ => rfl
  | o :: l, vals, n, t, k, hu, hk => by
    simp only [uniq, Bool.and_eq_true] at hu
    rw [setAll, findDst_cons]
    cases hd : o.dst with
    | none =>
      rw [setAll_at l vals (n + 1) t k hu.2 hk]
      cases hf : findDst l k with
      | none => simp
      | some i => simp; congr 1; omega
    | some d =>
      rw [setAll_at l vals (n + 1) _ k hu.2 (by simpa using hk)]
      by_cases e : d = k
      · subst e
        rw [hd] at hu
        have hn : findDst l d = none := by simpa using hu.1
        simp [hn, hk]
      · cases hf : findDst l k with
        | none => simp [e, Array.getElem?_setIfInBounds_ne e]
        | some i => simp [e]; congr 1; omega

def PersAll : List (World → Value → Prop) → Prop
  | [] => True
  | p :: l => (∀ w w' v, Below w.heap.size w w' → p w v → p w' v) ∧ PersAll l
theorem pers_at : ∀ {l : List (World → Value → Prop)}, PersAll l → ∀ i w w' v, Below w.heap.size w w' → l.getD i (fun _ _ => True) w v → l.getD i (fun _ _ => True) w' v
  | [], _, _, _, _, _, _, _ => trivial
  | p :: l, h, 0, w, w', v, hb, hv => h.1 w w' v hb hv
  | p :: l, h, i + 1, w, w', v, hb, hv => pers_at h.2 i w w' v hb hv
def goodAfter (l : List Oper) : Bool := (List.range l.length).all fun i => match l[i]? with
  | none => false
  | some o => o.after.all fun e => decide (e.on < i)
theorem ready_nil' {l : List Oper} {listed : Array Bool} (hg : goodAfter l = true) (hs : listed.size = l.length) (h : Region.ready .any l.toArray listed = []) :
    ∀ j, j < l.length → listed.getD j false = true := by
  intro j
  induction j using Nat.strongRecOn with
  | _ j ih =>
    intro hj
    have h1 : j ∉ Region.ready .any l.toArray listed := by rw [h]; simp
    unfold Region.ready at h1
    rw [List.mem_filter] at h1
    have h2 : j ∈ List.range l.toArray.size := by simpa using hj
    have h3 := fun hp => h1 ⟨h2, hp⟩
    have hgj := List.all_eq_true.1 hg j (by simpa using hj)
    rw [List.getElem?_eq_getElem hj] at hgj
    have hlt := Array.all_eq_true_iff_forall_mem.1 hgj
    have hall : l[j].after.all (fun e => !Region.binds .any e || listed.getD e.on false) = true := by
      rw [Array.all_eq_true_iff_forall_mem]
      intro e he
      have hlt := of_decide_eq_true (hlt e he)
      rw [ih e.on hlt (by omega)]
      simp
    have hjs : j < listed.size := by omega
    cases hb : listed[j] with
    | true => simp [hjs, hb]
    | false =>
      exfalso
      refine h3 ?_
      have e1 : listed.getD j true = false := by simp [hjs, hb]
      have e2 : l.toArray[j]? = some l[j] := by simp [hj]
      rw [e1, e2, Option.map_some, Option.getD_some, hall]
      rfl
theorem all_done {l : List Oper} {listed : Array Bool} (hs : listed.size = l.length) (h : ∀ j, j < l.length → listed.getD j false = true) {a : Act} {w : World} (hQ : Q .normal a w) :
    ∀ fuel, wpAny P .any l.toArray Q fuel listed a w := by
  have hr : Region.ready .any l.toArray listed = [] := by
    rw [List.eq_nil_iff_forall_not_mem]
    intro i hi
    obtain ⟨o, ho, hl, _⟩ := ready_spec hi
    have hil : i < l.length := by
      have := (Array.getElem?_eq_some_iff.1 ho).1
      simpa using this
    have h1 := h i hil
    have hi' : i < listed.size := by omega
    simp [hi'] at hl h1
    rw [hl] at h1; cases h1
  intro fuel
  cases fuel with
  | zero => exact ⟨hr, hQ⟩
  | succ fuel => exact ⟨fun _ => hQ, fun i hi => by rw [hr] at hi; cases hi⟩
theorem frame_full {l : List Oper} {S : World → Prop} {V : Nat → World → Value → Prop} {a0 a : Act} {w : World} {vals : Nat → Value} {listed : Array Bool} (hu : uniq l = true)
    (F : FrameIs l V S a0 vals listed a w) (hall : ∀ j, j < l.length → listed.getD j false = true) : a = ⟨setAll l vals 0 a0.tmps, a0.defers⟩ := by
  have h5 : ∀ k, a.tmps[k]? = match findDst l k with | some i => some (vals i) | none => a0.tmps[k]? := by
    intro k
    rw [F.ht k]
    cases hf : findDst l k with
    | none => rfl
    | some i =>
      have hi : i < l.length := by
        unfold findDst at hf
        exact (List.findIdx?_eq_some_iff_getElem.1 hf).1
      simp only [hall i hi, if_true]
  have h4 := F.hz
  have h3 := F.hd
  clear F
  obtain ⟨ta, da⟩ := a
  simp only at h3 h4 h5
  subst h3
  congr 1
  apply Array.ext_getElem?
  intro k
  rw [h5 k]
  rcases Nat.lt_or_ge k a0.tmps.size with hk | hk
  · rw [setAll_at l vals 0 a0.tmps k hu hk]
    cases findDst l k <;> simp
  · have e2 : (setAll l vals 0 a0.tmps)[k]? = none := by rw [Array.getElem?_eq_none]; rw [setAll_size]; exact hk
    rw [e2, ← h5 k, Array.getElem?_eq_none]; omega

def setN : Nat → List Oper → (Nat → Value) → Nat → Array Value → Array Value
  | 0, _, _, _, t => t
  | _ + 1, [], _, _, t => t
  | n + 1, o :: l, vals, i, t => setN n l vals (i + 1) (match o.dst with | some d => t.setIfInBounds d (vals i) | none => t)
theorem setN_eq : ∀ (n : Nat) (l : List Oper) (vals : Nat → Value) (i : Nat) (t : Array Value), setAll (l.take n) vals i t = setN n l vals i t
  | 0, _, _, _, _ => rfl
  | _ + 1, [], _, _, _ => rfl
  | n + 1, o :: l, vals, i, t => by
    rw [List.take_succ_cons, setAll, setN]
    exact setN_eq n l vals (i + 1) _
end
end Go.Proofs.Ytpfidbcnefnhcaa
