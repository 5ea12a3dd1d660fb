/- Lists by numbers: a part put in its place. -/
import Derived.Test.YtdjffnhkfpjafaaDoorAclSort
namespace Go.Proofs.YtdjffnhkfpjafaaDoor
open Go.RowKit
open AclM
set_option linter.unusedVariables false

def addL : List Ace → Ace → List Ace
  | [], a => [a]
  | x :: l, a => if x.2.1 < a.2.1 then x :: addL l a else if x.2.1 = a.2.1 then a :: l else a :: x :: l
theorem addL_mem {l : List Ace} {a x : Ace} (h : x ∈ addL l a) : x = a ∨ x ∈ l := by
  induction l with
  | nil => simp [addL] at h; exact .inl h
  | cons y l ih =>
    unfold addL at h
    split at h
    · rcases List.mem_cons.1 h with h | h
      · exact .inr (by simp [h])
      · rcases ih h with h | h
        · exact .inl h
        · exact .inr (by simp [h])
    · split at h
      · rcases List.mem_cons.1 h with h | h
        · exact .inl h
        · exact .inr (by simp [h])
      · rcases List.mem_cons.1 h with h | h
        · exact .inl h
        · exact .inr h
theorem addL_len (l : List Ace) (a : Ace) : 1 ≤ (addL l a).length ∧ (addL l a).length ≤ l.length + 1 := by
  induction l with
  | nil => simp [addL]
  | cons y l ih =>
    unfold addL
    split
    · simp only [List.length_cons]; omega
    · split <;> simp only [List.length_cons] <;> omega
/-- Parts of one tag, by ascending Ids. -/
structure Grp (t : Int) (l : List Ace) : Prop where
  all : ∀ a ∈ l, a.1 = t ∧ 0 ≤ a.2.1 ∧ a.2.1 ≤ 127 ∧ 0 ≤ a.2.2 ∧ a.2.2 ≤ 7
  asc : l.Pairwise fun x y => x.2.1 < y.2.1
theorem Grp.nil (t : Int) : Grp t [] := ⟨by simp, List.Pairwise.nil⟩
theorem addL_asc {l : List Ace} {a : Ace} (h : l.Pairwise fun x y => x.2.1 < y.2.1) : (addL l a).Pairwise fun x y => x.2.1 < y.2.1 := by
  induction l with
  | nil => simp [addL]
  | cons y l ih =>
    obtain ⟨h1, h2⟩ := List.pairwise_cons.1 h
    unfold addL
    split
    · rename_i hlt
      refine List.pairwise_cons.2 ⟨fun x hx => ?_, ih h2⟩
      rcases addL_mem hx with rfl | hx
      · exact hlt
      · exact h1 x hx
    · split
      · rename_i he
        refine List.pairwise_cons.2 ⟨fun x hx => ?_, h2⟩
        have := h1 x hx
        omega
      · refine List.pairwise_cons.2 ⟨fun x hx => ?_, h⟩
        rcases List.mem_cons.1 hx with rfl | hx
        · omega
        · have := h1 x hx
          omega
theorem Grp.add {t : Int} {l : List Ace} {a : Ace} (h : Grp t l) (h1 : a.1 = t) (h2 : 0 ≤ a.2.1) (h3 : a.2.1 ≤ 127) (h4 : 0 ≤ a.2.2) (h5 : a.2.2 ≤ 7) : Grp t (addL l a) :=
  ⟨fun x hx => (addL_mem hx).elim (fun e => by rw [e]; exact ⟨h1, h2, h3, h4, h5⟩) (fun hx => h.all x hx), addL_asc h.asc⟩

theorem add_step {l : List Ace} {a : Ace} {k : Nat} (hk : k < l.length) (h : addL l a = l.take k ++ addL (l.drop k) a) (hlt : l[k].2.1 < a.2.1) : addL l a = l.take (k + 1) ++ addL (l.drop (k + 1)) a := by
  rw [h, List.drop_eq_getElem_cons hk, List.take_succ_eq_append_getElem hk]
  show _ ++ (if l[k].2.1 < a.2.1 then l[k] :: addL (l.drop (k + 1)) a else _) = _
  rw [if_pos hlt, List.append_assoc]
  rfl
theorem add_end {l : List Ace} {a : Ace} {k : Nat} (hk : l.length ≤ k) (h : addL l a = l.take k ++ addL (l.drop k) a) : addL l a = l.take k ++ [a] ++ l.drop k := by
  rw [h, List.drop_eq_nil_of_le hk]
  simp [addL]
theorem add_same {l : List Ace} {a : Ace} {k : Nat} (hk : k < l.length) (h : addL l a = l.take k ++ addL (l.drop k) a) (he : l[k].2.1 = a.2.1) : addL l a = l.take k ++ [a] ++ (l.drop k).drop 1 := by
  rw [h, List.drop_eq_getElem_cons hk]
  show _ ++ (if l[k].2.1 < a.2.1 then _ else if l[k].2.1 = a.2.1 then a :: l.drop (k + 1) else _) = _
  rw [if_neg (by omega), if_pos he]
  simp
theorem add_more {l : List Ace} {a : Ace} {k : Nat} (hk : k < l.length) (h : addL l a = l.take k ++ addL (l.drop k) a) (h1 : ¬ l[k].2.1 < a.2.1) (h2 : l[k].2.1 ≠ a.2.1) : addL l a = l.take k ++ [a] ++ l.drop k := by
  rw [h, List.drop_eq_getElem_cons hk]
  show _ ++ (if l[k].2.1 < a.2.1 then _ else if l[k].2.1 = a.2.1 then _ else a :: l[k] :: l.drop (k + 1)) = _
  rw [if_neg h1, if_neg h2]
  simp

/-- A list by numbers: of users and groups, and of a mode's three. -/
def makeL (us gs : List Ace) (o g p q : Int) : List Ace :=
  if us.length + gs.length = 0 then [(1, 0, o)] ++ us ++ [(3, 0, g), (6, 0, p)] else [(1, 0, o)] ++ us ++ [(3, 0, q)] ++ gs ++ [(5, 0, g), (6, 0, p)]
theorem pw_append {a b : List Ace} : PW (a ++ b) ↔ PW a ∧ PW b ∧ ∀ x ∈ a, ∀ y ∈ b, ltA x y = true := List.pairwise_append
theorem Grp.pw {t : Int} {l : List Ace} (h : Grp t l) : PW l := by
  refine List.Pairwise.imp_of_mem ?_ h.asc
  intro a b ha hb hab
  rw [lt_iff]
  exact .inr ⟨by rw [(h.all a ha).1, (h.all b hb).1], hab⟩
theorem pw_one (a : Ace) : PW [a] := List.pairwise_singleton _ _
theorem pw_two {a b : Ace} (h : ltA a b = true) : PW [a, b] := List.pairwise_cons.2 ⟨by simpa using h, List.pairwise_singleton _ _⟩
theorem lt_tag {a b : Ace} (h : a.1 < b.1) : ltA a b = true := (lt_iff _ _).2 (.inl h)
theorem make_good {us gs : List Ace} {o g p q : Int} (hu : Grp 2 us) (hg : Grp 4 gs) (hul : us.length ≤ 6) (hgl : gs.length ≤ 6)
    (ho : 0 ≤ o ∧ o ≤ 7) (hgr : 0 ≤ g ∧ g ≤ 7) (hp : 0 ≤ p ∧ p ≤ 7) (hq : 0 ≤ q ∧ q ≤ 7) :
    may (makeL us gs o g p q) = true ∧ modeL (makeL us gs o g p q) = 64 * o + 8 * g + p := by
  unfold makeL
  have okg : ∀ (t : Int) (l : List Ace), (t = 2 ∨ t = 4) → Grp t l → ∀ a ∈ l, okPart a = true := by
    intro t l ht hl a ha
    obtain ⟨h1, h2, h3, h4, h5⟩ := hl.all a ha
    have hh : hasId a.1 = true := by rw [h1]; rcases ht with rfl | rfl <;> rfl
    unfold okPart
    rw [if_pos hh]
    simp only [Bool.and_eq_true, decide_eq_true_eq]
    omega
  have ok1 : ∀ (t x : Int), (t = 1 ∨ t = 3 ∨ t = 5 ∨ t = 6) → 0 ≤ x → x ≤ 7 → okPart (t, 0, x) = true := by
    intro t x ht h1 h2
    rcases ht with rfl | rfl | rfl | rfl <;> simp [okPart, hasId] <;> omega
  by_cases h0 : us.length + gs.length = 0
  · rw [if_pos h0]
    obtain rfl : us = [] := List.eq_nil_of_length_eq_zero (by omega)
    have hm : may ([(1, 0, o)] ++ [] ++ [(3, 0, g), (6, 0, p)]) = true := by
      refine may_iff.2 ⟨by simp, ?_, ?_, by simp [has, findN], by simp [has, findN], by simp [has, findN], by simp [has, findN]⟩
      · intro a ha
        simp at ha
        rcases ha with rfl | rfl | rfl
        · exact ok1 _ _ (by omega) ho.1 ho.2
        · exact ok1 _ _ (by omega) hgr.1 hgr.2
        · exact ok1 _ _ (by omega) hp.1 hp.2
      · exact order_pw.1 (by simp [order, ltA])
    refine ⟨hm, ?_⟩
    simp [modeL, permN, has, findN]
  · rw [if_neg h0]
    have mem : ∀ a, a ∈ [((1, 0, o) : Ace)] ++ us ++ [(3, 0, q)] ++ gs ++ [(5, 0, g), (6, 0, p)] ↔ a = (1, 0, o) ∨ a ∈ us ∨ a = (3, 0, q) ∨ a ∈ gs ∨ a = (5, 0, g) ∨ a = (6, 0, p) := by
      intro a
      simp only [List.mem_append, List.mem_singleton, List.mem_cons, List.not_mem_nil, or_false, or_assoc]
    have hu1 : ∀ a ∈ us, a.1 = 2 := fun a ha => (hu.all a ha).1
    have hg1 : ∀ a ∈ gs, a.1 = 4 := fun a ha => (hg.all a ha).1
    have hpw : PW ([((1, 0, o) : Ace)] ++ us ++ [(3, 0, q)] ++ gs ++ [(5, 0, g), (6, 0, p)]) := by
      refine pw_append.2 ⟨pw_append.2 ⟨pw_append.2 ⟨pw_append.2 ⟨pw_one _, hu.pw, ?_⟩, pw_one _, ?_⟩, hg.pw, ?_⟩, pw_two (by simp [ltA]), ?_⟩
      · intro x hx y hy
        simp at hx; subst hx
        exact lt_tag (by rw [hu1 y hy]; simp)
      · intro x hx y hy
        simp at hy; subst hy
        rcases List.mem_append.1 hx with hx | hx
        · simp at hx; subst hx; exact lt_tag (by simp)
        · exact lt_tag (by rw [hu1 x hx]; simp)
      · intro x hx y hy
        refine lt_tag ?_
        rw [hg1 y hy]
        simp only [List.mem_append, List.mem_singleton] at hx
        rcases hx with (rfl | hx) | rfl
        · simp
        · rw [hu1 x hx]; simp
        · simp
      · intro x hx y hy
        refine lt_tag ?_
        have hx4 : x.1 ≤ 4 := by
          simp only [List.mem_append, List.mem_singleton] at hx
          rcases hx with ((rfl | hx) | rfl) | hx
          · simp
          · rw [hu1 x hx]; simp
          · simp
          · rw [hg1 x hx]; simp
        simp at hy
        rcases hy with rfl | rfl <;> simp <;> omega
    generalize hL : [((1, 0, o) : Ace)] ++ us ++ [(3, 0, q)] ++ gs ++ [(5, 0, g), (6, 0, p)] = L at *
    have hlen : L.length ≤ 32 := by
      rw [← hL]
      simp
      omega
    have h5 : has L 5 = true := has_iff.2 ⟨_, (mem _).2 (.inr (.inr (.inr (.inr (.inl rfl))))), rfl⟩
    have h24 : (has L 2 || has L 4) = true := by
      rw [Bool.or_eq_true]
      by_cases hu0 : us = []
      · right
        rcases gs with _ | ⟨a, gs⟩
        · subst hu0; simp at h0
        · exact has_iff.2 ⟨a, (mem _).2 (.inr (.inr (.inr (.inl (by simp))))), hg1 a (by simp)⟩
      · left
        rcases us with _ | ⟨a, us⟩
        · exact absurd rfl hu0
        · exact has_iff.2 ⟨a, (mem _).2 (.inr (.inl (by simp))), hu1 a (by simp)⟩
    have hm : may L = true := by
      refine may_iff.2 ⟨hlen, ?_, hpw, has_iff.2 ⟨_, (mem _).2 (.inl rfl), rfl⟩, has_iff.2 ⟨_, (mem _).2 (.inr (.inr (.inl rfl))), rfl⟩, has_iff.2 ⟨_, (mem _).2 (.inr (.inr (.inr (.inr (.inr rfl))))), rfl⟩, by rw [h5, h24]⟩
      intro a ha
      rcases (mem a).1 ha with rfl | ha | rfl | ha | rfl | rfl
      · exact ok1 _ _ (by omega) ho.1 ho.2
      · exact okg 2 us (.inl rfl) hu a ha
      · exact ok1 _ _ (by omega) hq.1 hq.2
      · exact okg 4 gs (.inr rfl) hg a ha
      · exact ok1 _ _ (by omega) hgr.1 hgr.2
      · exact ok1 _ _ (by omega) hp.1 hp.2
    refine ⟨hm, ?_⟩
    have p1 : permN L 1 = o := permN_of ⟨_, (mem _).2 (.inl rfl), rfl⟩ (by
      intro a ha ht
      rcases (mem a).1 ha with rfl | ha | rfl | ha | rfl | rfl
      · rfl
      · rw [hu1 a ha] at ht; cases ht
      · cases ht
      · rw [hg1 a ha] at ht; cases ht
      · cases ht
      · cases ht)
    have p5 : permN L 5 = g := permN_of ⟨_, (mem _).2 (.inr (.inr (.inr (.inr (.inl rfl))))), rfl⟩ (by
      intro a ha ht
      rcases (mem a).1 ha with rfl | ha | rfl | ha | rfl | rfl
      · cases ht
      · rw [hu1 a ha] at ht; cases ht
      · cases ht
      · rw [hg1 a ha] at ht; cases ht
      · rfl
      · cases ht)
    have p6 : permN L 6 = p := permN_of ⟨_, (mem _).2 (.inr (.inr (.inr (.inr (.inr rfl))))), rfl⟩ (by
      intro a ha ht
      rcases (mem a).1 ha with rfl | ha | rfl | ha | rfl | rfl
      · cases ht
      · rw [hu1 a ha] at ht; cases ht
      · cases ht
      · rw [hg1 a ha] at ht; cases ht
      · cases ht
      · rfl)
    unfold modeL
    rw [h5, if_pos rfl, p1, p5, p6]
end Go.Proofs.YtdjffnhkfpjafaaDoor
