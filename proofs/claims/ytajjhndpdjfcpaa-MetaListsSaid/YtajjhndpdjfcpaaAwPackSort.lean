/- Bundle of 3 texts. -/
import Derived.Test.YtajjhndpdjfcpaaAwPackMay
import Derived.Test.YtajjhndpdjfcpaaAwPackMay
/- Access lists in order: what that means for their first, their last, each of their parts. -/
namespace Go.Proofs.Ytajjhndpdjfcpaa.AclW
open Go.RowKit
open AclM
set_option linter.unusedVariables false

theorem lt_iff (a b : Ace) : ltA a b = true ↔ a.1 < b.1 ∨ (a.1 = b.1 ∧ a.2.1 < b.2.1) := by simp [ltA]
theorem lt_trans' {a b c : Ace} (h1 : ltA a b = true) (h2 : ltA b c = true) : ltA a c = true := by
  rw [lt_iff] at *
  omega
def PW (l : List Ace) : Prop := l.Pairwise fun a b => ltA a b = true
theorem order_pw : ∀ {l : List Ace}, order l = true ↔ PW l
  | [] => by simp [order, PW]
  | [a] => by simp [order, PW]
  | a :: b :: r => by
    have ih := order_pw (l := b :: r)
    show (ltA a b && order (b :: r)) = true ↔ _
    rw [Bool.and_eq_true, ih]
    constructor
    · rintro ⟨h1, h2⟩
      refine List.pairwise_cons.2 ⟨fun x hx => ?_, h2⟩
      rcases List.mem_cons.1 hx with rfl | hx
      · exact h1
      · exact lt_trans' h1 ((List.pairwise_cons.1 h2).1 x hx)
    · intro h
      obtain ⟨h1, h2⟩ := List.pairwise_cons.1 h
      exact ⟨h1 b (by simp), h2⟩
theorem findN_neg (t : Int) : ∀ (l : List Ace) (i : Nat), findN t l i < 0 ↔ ∀ a ∈ l, a.1 ≠ t
  | [], i => by simp [findN]
  | a :: l, i => by
    unfold findN
    by_cases h : a.1 = t
    · rw [if_pos h]
      constructor
      · intro e; omega
      · intro e; exact absurd h (e a (by simp))
    · rw [if_neg h, findN_neg t l (i + 1)]
      simp [h]
theorem has_iff {l : List Ace} {t : Int} : has l t = true ↔ ∃ a ∈ l, a.1 = t := by
  unfold has
  rw [decide_eq_true_eq]
  have h := findN_neg t l 0
  constructor
  · intro e
    by_cases hh : ∀ a ∈ l, a.1 ≠ t
    · have := h.2 hh; omega
    · simp only [ne_eq, Classical.not_forall, Classical.not_not] at hh
      obtain ⟨a, ha, h2⟩ := hh
      exact ⟨a, ha, h2⟩
  · rintro ⟨a, ha, h2⟩
    rcases Int.lt_or_le (findN t l 0) 0 with h3 | h3
    · exact absurd h2 (h.1 h3 a ha)
    · exact h3
theorem has_false {l : List Ace} {t : Int} : has l t = false ↔ ∀ a ∈ l, a.1 ≠ t := by
  rw [← Bool.not_eq_true, has_iff]
  constructor
  · intro h a ha e; exact h ⟨a, ha, e⟩
  · rintro h ⟨a, ha, e⟩; exact h a ha e
theorem findN_at (t : Int) : ∀ (l : List Ace) (i k : Nat), findN t l i = ((i + k : Nat) : Int) → ∃ h : k < l.length, l[k].1 = t
  | [], i, k, h => by simp [findN] at h; omega
  | a :: l, i, k, h => by
    unfold findN at h
    by_cases ha : a.1 = t
    · rw [if_pos ha] at h
      obtain rfl : k = 0 := by omega
      exact ⟨by simp, ha⟩
    · rw [if_neg ha] at h
      rcases findN_in t l (i + 1) with h1 | ⟨j, h1, h2⟩
      · omega
      · obtain ⟨h3, h4⟩ := findN_at t l (i + 1) j h2
        obtain rfl : k = j + 1 := by omega
        exact ⟨by simpa using h1, by simpa using h4⟩
/-- The perm of a tag that all its parts share. -/
theorem permN_of {l : List Ace} {t p : Int} (h1 : ∃ a ∈ l, a.1 = t) (h2 : ∀ a ∈ l, a.1 = t → a.2.2 = p) : permN l t = p := by
  unfold permN
  rcases findN_in t l 0 with h | ⟨k, hk, h⟩
  · obtain ⟨a, ha, h3⟩ := h1
    exact absurd h3 ((findN_neg t l 0).1 (by omega) a ha)
  · rw [h, if_neg (by omega), Int.toNat_natCast, Nat.zero_add]
    obtain ⟨_, h4⟩ := findN_at t l 0 k h
    have := h2 l[k] (List.getElem_mem hk) h4
    simpa [List.getD, hk] using this

/-! ### Valid lists -/
theorem tags_iff {l : List Ace} : tags l = true ↔ has l 1 = true ∧ has l 3 = true ∧ has l 6 = true ∧ has l 5 = (has l 2 || has l 4) := by
  unfold tags
  simp only [Bool.and_eq_true, beq_iff_eq]
  constructor
  · rintro ⟨⟨⟨a, b⟩, c⟩, d⟩; exact ⟨a, b, c, d⟩
  · rintro ⟨a, b, c, d⟩; exact ⟨⟨⟨a, b⟩, c⟩, d⟩
theorem may_iff {l : List Ace} : may l = true ↔ l.length ≤ 32 ∧ (∀ a ∈ l, okPart a = true) ∧ PW l ∧ has l 1 = true ∧ has l 3 = true ∧ has l 6 = true ∧ has l 5 = (has l 2 || has l 4) := by
  constructor
  · intro h
    obtain ⟨h1, h2, h3, h4⟩ := may_parts h
    exact ⟨h2, h1, order_pw.1 h3, tags_iff.1 h4⟩
  · rintro ⟨h2, h1, h3, h4⟩
    unfold may
    rw [order_pw.2 h3, tags_iff.2 h4, decide_eq_true h2, List.all_eq_true.2 h1]
    rfl
theorem may_first {l : List Ace} (h : may l = true) (h0 : 0 < l.length) : l[0].1 = 1 := by
  obtain ⟨_, h1, h2, h3, _⟩ := may_iff.1 h
  obtain ⟨a, ha, h4⟩ := has_iff.1 h3
  rcases l with _ | ⟨x, r⟩
  · simp at h0
  · have hx := okPart_iff (h1 x (by simp))
    show x.1 = 1
    rcases List.mem_cons.1 ha with rfl | ha
    · exact h4
    · have := (lt_iff _ _).1 ((List.pairwise_cons.1 h2).1 a ha)
      omega
theorem may_last {l : List Ace} (h : may l = true) (h0 : l.length - 1 < l.length) : l[l.length - 1].1 = 6 := by
  obtain ⟨_, h1, h2, _, _, h3, _⟩ := may_iff.1 h
  obtain ⟨a, ha, h4⟩ := has_iff.1 h3
  obtain ⟨i, hi, rfl⟩ := List.getElem_of_mem ha
  have hx := okPart_iff (h1 _ (List.getElem_mem h0))
  by_cases he : i = l.length - 1
  · subst he; exact h4
  · have := (lt_iff _ _).1 (List.pairwise_iff_getElem.1 h2 i (l.length - 1) hi h0 (by omega))
    omega
theorem may_two {l : List Ace} (h : may l = true) : 2 ≤ l.length := by
  have hne := may_ne h
  have hp : 0 < l.length := List.length_pos_iff.2 hne
  have h1 := may_first h hp
  have h2 := may_last h (by omega)
  rcases Nat.lt_or_ge l.length 2 with h3 | h3
  · have e : l.length - 1 = 0 := by omega
    have : l[l.length - 1] = l[0] := by congr 1
    rw [this, h1] at h2
    omega
  · exact h3
/-- Without a part that must be. -/
theorem may_less {l : List Ace} (h : may l = true) {k : Nat} (hk : k < l.length) (ht : hasId l[k].1 = false) : may (l.take k ++ l.drop (k + 1)) = false := by
  obtain ⟨_, h1, h2, h3, h4, h5, h6⟩ := may_iff.1 h
  obtain ⟨t, he⟩ : ∃ t, l[k].1 = t := ⟨_, rfl⟩
  rw [he] at ht
  have hmem : ∀ a, a ∈ l.take k ++ l.drop (k + 1) → ∃ (i : Nat) (hi : i < l.length), i ≠ k ∧ l[i] = a := by
    intro a ha
    rcases List.mem_append.1 ha with ha | ha
    · obtain ⟨i, hi, rfl⟩ := List.getElem_of_mem ha
      rw [List.length_take] at hi
      exact ⟨i, by omega, by omega, by rw [List.getElem_take]⟩
    · obtain ⟨i, hi, rfl⟩ := List.getElem_of_mem ha
      rw [List.length_drop] at hi
      exact ⟨k + 1 + i, by omega, by omega, by rw [List.getElem_drop]⟩
  have hback : ∀ a ∈ l, a.1 ≠ t → a ∈ l.take k ++ l.drop (k + 1) := by
    intro a ha hat
    obtain ⟨i, hi, rfl⟩ := List.getElem_of_mem ha
    have hik : i ≠ k := by rintro rfl; exact hat he
    rw [List.mem_append]
    rcases Nat.lt_or_ge i k with h | h
    · exact .inl (List.mem_iff_getElem.2 ⟨i, by rw [List.length_take]; omega, by rw [List.getElem_take]⟩)
    · exact .inr (List.mem_iff_getElem.2 ⟨i - (k + 1), by rw [List.length_drop]; omega, by rw [List.getElem_drop]; congr 1; omega⟩)
  have hno : ∀ a ∈ l.take k ++ l.drop (k + 1), a.1 ≠ t := by
    intro a ha hat
    obtain ⟨i, hi, hik, rfl⟩ := hmem a ha
    have o1 := (okPart_iff (h1 _ (List.getElem_mem hi))).2.2.2.2.2.2 (by rw [hat]; exact ht)
    have o2 := (okPart_iff (h1 _ (List.getElem_mem hk))).2.2.2.2.2.2 (by rw [he]; exact ht)
    rcases Nat.lt_or_ge i k with h | h
    · have := (lt_iff _ _).1 (List.pairwise_iff_getElem.1 h2 i k hi hk h)
      rw [hat, he, o1, o2] at this
      omega
    · have := (lt_iff _ _).1 (List.pairwise_iff_getElem.1 h2 k i hk hi (by omega))
      rw [hat, he, o1, o2] at this
      omega
  have hf := has_false.2 hno
  have hok := okPart_iff (h1 _ (List.getElem_mem hk))
  rw [he] at hok
  rw [← Bool.not_eq_true]
  intro hm
  obtain ⟨_, _, _, g3, g4, g5, g6⟩ := may_iff.1 hm
  have ht6 : t = 1 ∨ t = 3 ∨ t = 5 ∨ t = 6 := by
    have : t = 1 ∨ t = 2 ∨ t = 3 ∨ t = 4 ∨ t = 5 ∨ t = 6 := by omega
    rcases this with rfl | rfl | rfl | rfl | rfl | rfl <;> simp [hasId] at ht <;> simp
  rcases ht6 with rfl | rfl | rfl | rfl
  · rw [hf] at g3; cases g3
  · rw [hf] at g4; cases g4
  · rw [hf] at g6
    have hl5 : has l 5 = true := has_iff.2 ⟨_, List.getElem_mem hk, he⟩
    rw [hl5] at h6
    have hor : has l 2 = true ∨ has l 4 = true := by simpa using h6.symm
    rcases hor with h7 | h7
    · obtain ⟨a, ha, h8⟩ := has_iff.1 h7
      have : has (l.take k ++ l.drop (k + 1)) 2 = true := has_iff.2 ⟨a, hback a ha (by omega), h8⟩
      rw [this] at g6
      simp at g6
    · obtain ⟨a, ha, h8⟩ := has_iff.1 h7
      have : has (l.take k ++ l.drop (k + 1)) 4 = true := has_iff.2 ⟨a, hback a ha (by omega), h8⟩
      rw [this] at g6
      simp at g6
  · rw [hf] at g5; cases g5
theorem bad_part {l : List Ace} {a : Ace} (ha : a ∈ l) (h : okPart a = false) : may l = false := by
  rw [← Bool.not_eq_true]
  intro hm
  rw [(may_iff.1 hm).2.1 a ha] at h
  cases h
theorem bad_first {l : List Ace} (h0 : 0 < l.length) (h : l[0].1 ≠ 1) : may l = false := by
  rw [← Bool.not_eq_true]
  intro hm
  exact h (may_first hm h0)
theorem bad_twice (a : Ace) (l : List Ace) : may (a :: a :: l) = false := by
  rw [← Bool.not_eq_true]
  intro hm
  have := (lt_iff _ _).1 ((List.pairwise_cons.1 (may_iff.1 hm).2.2.1).1 a (by simp))
  omega
end Go.Proofs.Ytajjhndpdjfcpaa.AclW

/- Lists by numbers: a part put in its place. -/
namespace Go.Proofs.Ytajjhndpdjfcpaa.AclW
open Go.RowKit
open AclM
set_option linter.unusedVariables false

def addL : List Ace → Ace → List Ace
  | [], a => [a]
  | x :: l, a => if x.2.1 < a.2.1 then x :: addL l a else if x.2.1 = a.2.1 then a :: l else a :: x :: l
theorem addL_mem {l : List Ace} {a x : Ace} (h : x ∈ addL l a) : x = a ∨ x ∈ l := by
  induction l with
  | nil => simp [addL] at h; exact .inl h
  | cons y l ih =>
    unfold addL at h
    split at h
    · rcases List.mem_cons.1 h with h | h
      · exact .inr (by simp [h])
      · rcases ih h with h | h
        · exact .inl h
        · exact .inr (by simp [h])
    · split at h
      · rcases List.mem_cons.1 h with h | h
        · exact .inl h
        · exact .inr (by simp [h])
      · rcases List.mem_cons.1 h with h | h
        · exact .inl h
        · exact .inr h
theorem addL_len (l : List Ace) (a : Ace) : 1 ≤ (addL l a).length ∧ (addL l a).length ≤ l.length + 1 := by
  induction l with
  | nil => simp [addL]
  | cons y l ih =>
    unfold addL
    split
    · simp only [List.length_cons]; omega
    · split <;> simp only [List.length_cons] <;> omega
/-- Parts of one tag, by ascending Ids. -/
structure Grp (t : Int) (l : List Ace) : Prop where
  all : ∀ a ∈ l, a.1 = t ∧ 0 ≤ a.2.1 ∧ a.2.1 ≤ 127 ∧ 0 ≤ a.2.2 ∧ a.2.2 ≤ 7
  asc : l.Pairwise fun x y => x.2.1 < y.2.1
theorem Grp.nil (t : Int) : Grp t [] := ⟨by simp, List.Pairwise.nil⟩
theorem addL_asc {l : List Ace} {a : Ace} (h : l.Pairwise fun x y => x.2.1 < y.2.1) : (addL l a).Pairwise fun x y => x.2.1 < y.2.1 := by
  induction l with
  | nil => simp [addL]
  | cons y l ih =>
    obtain ⟨h1, h2⟩ := List.pairwise_cons.1 h
    unfold addL
    split
    · rename_i hlt
      refine List.pairwise_cons.2 ⟨fun x hx => ?_, ih h2⟩
      rcases addL_mem hx with rfl | hx
      · exact hlt
      · exact h1 x hx
    · split
      · rename_i he
        refine List.pairwise_cons.2 ⟨fun x hx => ?_, h2⟩
        have := h1 x hx
        omega
      · refine List.pairwise_cons.2 ⟨fun x hx => ?_, h⟩
        rcases List.mem_cons.1 hx with rfl | hx
        · omega
        · have := h1 x hx
          omega
theorem Grp.add {t : Int} {l : List Ace} {a : Ace} (h : Grp t l) (h1 : a.1 = t) (h2 : 0 ≤ a.2.1) (h3 : a.2.1 ≤ 127) (h4 : 0 ≤ a.2.2) (h5 : a.2.2 ≤ 7) : Grp t (addL l a) :=
  ⟨fun x hx => (addL_mem hx).elim (fun e => by rw [e]; exact ⟨h1, h2, h3, h4, h5⟩) (fun hx => h.all x hx), addL_asc h.asc⟩

theorem add_step {l : List Ace} {a : Ace} {k : Nat} (hk : k < l.length) (h : addL l a = l.take k ++ addL (l.drop k) a) (hlt : l[k].2.1 < a.2.1) : addL l a = l.take (k + 1) ++ addL (l.drop (k + 1)) a := by
  rw [h, List.drop_eq_getElem_cons hk, List.take_succ_eq_append_getElem hk]
  show _ ++ (if l[k].2.1 < a.2.1 then l[k] :: addL (l.drop (k + 1)) a else _) = _
  rw [if_pos hlt, List.append_assoc]
  rfl
theorem add_end {l : List Ace} {a : Ace} {k : Nat} (hk : l.length ≤ k) (h : addL l a = l.take k ++ addL (l.drop k) a) : addL l a = l.take k ++ [a] ++ l.drop k := by
  rw [h, List.drop_eq_nil_of_le hk]
  simp [addL]
theorem add_same {l : List Ace} {a : Ace} {k : Nat} (hk : k < l.length) (h : addL l a = l.take k ++ addL (l.drop k) a) (he : l[k].2.1 = a.2.1) : addL l a = l.take k ++ [a] ++ (l.drop k).drop 1 := by
  rw [h, List.drop_eq_getElem_cons hk]
  show _ ++ (if l[k].2.1 < a.2.1 then _ else if l[k].2.1 = a.2.1 then a :: l.drop (k + 1) else _) = _
  rw [if_neg (by omega), if_pos he]
  simp
theorem add_more {l : List Ace} {a : Ace} {k : Nat} (hk : k < l.length) (h : addL l a = l.take k ++ addL (l.drop k) a) (h1 : ¬ l[k].2.1 < a.2.1) (h2 : l[k].2.1 ≠ a.2.1) : addL l a = l.take k ++ [a] ++ l.drop k := by
  rw [h, List.drop_eq_getElem_cons hk]
  show _ ++ (if l[k].2.1 < a.2.1 then _ else if l[k].2.1 = a.2.1 then _ else a :: l[k] :: l.drop (k + 1)) = _
  rw [if_neg h1, if_neg h2]
  simp

/-- A list by numbers: of users and groups, and of a mode's three. -/
def makeL (us gs : List Ace) (o g p q : Int) : List Ace :=
  if us.length + gs.length = 0 then [(1, 0, o)] ++ us ++ [(3, 0, g), (6, 0, p)] else [(1, 0, o)] ++ us ++ [(3, 0, q)] ++ gs ++ [(5, 0, g), (6, 0, p)]
theorem pw_append {a b : List Ace} : PW (a ++ b) ↔ PW a ∧ PW b ∧ ∀ x ∈ a, ∀ y ∈ b, ltA x y = true := List.pairwise_append
theorem Grp.pw {t : Int} {l : List Ace} (h : Grp t l) : PW l := by
  refine List.Pairwise.imp_of_mem ?_ h.asc
  intro a b ha hb hab
  rw [lt_iff]
  exact .inr ⟨by rw [(h.all a ha).1, (h.all b hb).1], hab⟩
theorem pw_one (a : Ace) : PW [a] := List.pairwise_singleton _ _
theorem pw_two {a b : Ace} (h : ltA a b = true) : PW [a, b] := List.pairwise_cons.2 ⟨by simpa using h, List.pairwise_singleton _ _⟩
theorem lt_tag {a b : Ace} (h : a.1 < b.1) : ltA a b = true := (lt_iff _ _).2 (.inl h)
theorem make_good {us gs : List Ace} {o g p q : Int} (hu : Grp 2 us) (hg : Grp 4 gs) (hul : us.length ≤ 6) (hgl : gs.length ≤ 6)
    (ho : 0 ≤ o ∧ o ≤ 7) (hgr : 0 ≤ g ∧ g ≤ 7) (hp : 0 ≤ p ∧ p ≤ 7) (hq : 0 ≤ q ∧ q ≤ 7) :
    may (makeL us gs o g p q) = true ∧ modeL (makeL us gs o g p q) = 64 * o + 8 * g + p := by
  unfold makeL
  have okg : ∀ (t : Int) (l : List Ace), (t = 2 ∨ t = 4) → Grp t l → ∀ a ∈ l, okPart a = true := by
    intro t l ht hl a ha
    obtain ⟨h1, h2, h3, h4, h5⟩ := hl.all a ha
    have hh : hasId a.1 = true := by rw [h1]; rcases ht with rfl | rfl <;> rfl
    unfold okPart
    rw [if_pos hh]
    simp only [Bool.and_eq_true, decide_eq_true_eq]
    omega
  have ok1 : ∀ (t x : Int), (t = 1 ∨ t = 3 ∨ t = 5 ∨ t = 6) → 0 ≤ x → x ≤ 7 → okPart (t, 0, x) = true := by
    intro t x ht h1 h2
    rcases ht with rfl | rfl | rfl | rfl <;> simp [okPart, hasId] <;> omega
  by_cases h0 : us.length + gs.length = 0
  · rw [if_pos h0]
    obtain rfl : us = [] := List.eq_nil_of_length_eq_zero (by omega)
    have hm : may ([(1, 0, o)] ++ [] ++ [(3, 0, g), (6, 0, p)]) = true := by
      refine may_iff.2 ⟨by simp, ?_, ?_, by simp [has, findN], by simp [has, findN], by simp [has, findN], by simp [has, findN]⟩
      · intro a ha
        simp at ha
        rcases ha with rfl | rfl | rfl
        · exact ok1 _ _ (by omega) ho.1 ho.2
        · exact ok1 _ _ (by omega) hgr.1 hgr.2
        · exact ok1 _ _ (by omega) hp.1 hp.2
      · exact order_pw.1 (by simp [order, ltA])
    refine ⟨hm, ?_⟩
    simp [modeL, permN, has, findN]
  · rw [if_neg h0]
    have mem : ∀ a, a ∈ [((1, 0, o) : Ace)] ++ us ++ [(3, 0, q)] ++ gs ++ [(5, 0, g), (6, 0, p)] ↔ a = (1, 0, o) ∨ a ∈ us ∨ a = (3, 0, q) ∨ a ∈ gs ∨ a = (5, 0, g) ∨ a = (6, 0, p) := by
      intro a
      simp only [List.mem_append, List.mem_singleton, List.mem_cons, List.not_mem_nil, or_false, or_assoc]
    have hu1 : ∀ a ∈ us, a.1 = 2 := fun a ha => (hu.all a ha).1
    have hg1 : ∀ a ∈ gs, a.1 = 4 := fun a ha => (hg.all a ha).1
    have hpw : PW ([((1, 0, o) : Ace)] ++ us ++ [(3, 0, q)] ++ gs ++ [(5, 0, g), (6, 0, p)]) := by
      refine pw_append.2 ⟨pw_append.2 ⟨pw_append.2 ⟨pw_append.2 ⟨pw_one _, hu.pw, ?_⟩, pw_one _, ?_⟩, hg.pw, ?_⟩, pw_two (by simp [ltA]), ?_⟩
      · intro x hx y hy
        simp at hx; subst hx
        exact lt_tag (by rw [hu1 y hy]; simp)
      · intro x hx y hy
        simp at hy; subst hy
        rcases List.mem_append.1 hx with hx | hx
        · simp at hx; subst hx; exact lt_tag (by simp)
        · exact lt_tag (by rw [hu1 x hx]; simp)
      · intro x hx y hy
        refine lt_tag ?_
        rw [hg1 y hy]
        simp only [List.mem_append, List.mem_singleton] at hx
        rcases hx with (rfl | hx) | rfl
        · simp
        · rw [hu1 x hx]; simp
        · simp
      · intro x hx y hy
        refine lt_tag ?_
        have hx4 : x.1 ≤ 4 := by
          simp only [List.mem_append, List.mem_singleton] at hx
          rcases hx with ((rfl | hx) | rfl) | hx
          · simp
          · rw [hu1 x hx]; simp
          · simp
          · rw [hg1 x hx]; simp
        simp at hy
        rcases hy with rfl | rfl <;> simp <;> omega
    generalize hL : [((1, 0, o) : Ace)] ++ us ++ [(3, 0, q)] ++ gs ++ [(5, 0, g), (6, 0, p)] = L at *
    have hlen : L.length ≤ 32 := by
      rw [← hL]
      simp
      omega
    have h5 : has L 5 = true := has_iff.2 ⟨_, (mem _).2 (.inr (.inr (.inr (.inr (.inl rfl))))), rfl⟩
    have h24 : (has L 2 || has L 4) = true := by
      rw [Bool.or_eq_true]
      by_cases hu0 : us = []
      · right
        rcases gs with _ | ⟨a, gs⟩
        · subst hu0; simp at h0
        · exact has_iff.2 ⟨a, (mem _).2 (.inr (.inr (.inr (.inl (by simp))))), hg1 a (by simp)⟩
      · left
        rcases us with _ | ⟨a, us⟩
        · exact absurd rfl hu0
        · exact has_iff.2 ⟨a, (mem _).2 (.inr (.inl (by simp))), hu1 a (by simp)⟩
    have hm : may L = true := by
      refine may_iff.2 ⟨hlen, ?_, hpw, has_iff.2 ⟨_, (mem _).2 (.inl rfl), rfl⟩, has_iff.2 ⟨_, (mem _).2 (.inr (.inr (.inl rfl))), rfl⟩, has_iff.2 ⟨_, (mem _).2 (.inr (.inr (.inr (.inr (.inr rfl))))), rfl⟩, by rw [h5, h24]⟩
      intro a ha
      rcases (mem a).1 ha with rfl | ha | rfl | ha | rfl | rfl
      · exact ok1 _ _ (by omega) ho.1 ho.2
      · exact okg 2 us (.inl rfl) hu a ha
      · exact ok1 _ _ (by omega) hq.1 hq.2
      · exact okg 4 gs (.inr rfl) hg a ha
      · exact ok1 _ _ (by omega) hgr.1 hgr.2
      · exact ok1 _ _ (by omega) hp.1 hp.2
    refine ⟨hm, ?_⟩
    have p1 : permN L 1 = o := permN_of ⟨_, (mem _).2 (.inl rfl), rfl⟩ (by
      intro a ha ht
      rcases (mem a).1 ha with rfl | ha | rfl | ha | rfl | rfl
      · rfl
      · rw [hu1 a ha] at ht; cases ht
      · cases ht
      · rw [hg1 a ha] at ht; cases ht
      · cases ht
      · cases ht)
    have p5 : permN L 5 = g := permN_of ⟨_, (mem _).2 (.inr (.inr (.inr (.inr (.inl rfl))))), rfl⟩ (by
      intro a ha ht
      rcases (mem a).1 ha with rfl | ha | rfl | ha | rfl | rfl
      · cases ht
      · rw [hu1 a ha] at ht; cases ht
      · cases ht
      · rw [hg1 a ha] at ht; cases ht
      · rfl
      · cases ht)
    have p6 : permN L 6 = p := permN_of ⟨_, (mem _).2 (.inr (.inr (.inr (.inr (.inr rfl))))), rfl⟩ (by
      intro a ha ht
      rcases (mem a).1 ha with rfl | ha | rfl | ha | rfl | rfl
      · cases ht
      · rw [hu1 a ha] at ht; cases ht
      · cases ht
      · rw [hg1 a ha] at ht; cases ht
      · cases ht
      · rfl)
    unfold modeL
    rw [h5, if_pos rfl, p1, p5, p6]
end Go.Proofs.Ytajjhndpdjfcpaa.AclW

/- Slices of access lists: from a place on, up to a place. -/
namespace Go.Proofs.Ytajjhndpdjfcpaa.AclW
open Go.RowKit
open AclM
set_option linter.unusedVariables false

theorem slice_from {v : Value} {l : List Ace} {w : World} (h : At aceE v l w) {k : Nat} (hk : k ≤ l.length) :
    ∃ v', (∀ W, (Instr.sliceAt 24 v (some (.int .i64 (k : Int))) none none).run Try.prog W = .ok v' W) ∧ (∀ W, At aceE v l W → At aceE v' (l.drop k) W) ∧ v'.ownBlock = v.ownBlock := by
  rcases h with ⟨rfl, rfl | ⟨ad, cap, rfl⟩⟩ | ⟨g, off, cap, rfl, hc, hg, hj⟩
  · simp at hk
    subst hk
    exact ⟨.slice none 0 0, fun W => by simp [go_sem], fun W h => .inl ⟨by simp, .inl rfl⟩, rfl⟩
  · simp at hk
    subst hk
    exact ⟨.slice (some ad) 0 cap, fun W => by simp [go_sem], fun W h => .inl ⟨by simp, .inr ⟨_, _, rfl⟩⟩, rfl⟩
  · refine ⟨.slice (if cap = k then some ⟨g, off, none⟩ else some ⟨g, off + k * 3, none⟩) (l.length - k) (cap - k), fun W => by simp [go_sem, hk], fun W h => ?_, ?_⟩
    · by_cases he : k = l.length
      · refine .inl ⟨by simp [he], .inr ?_⟩
        split
        · exact ⟨_, _, by rw [he, Nat.sub_self]⟩
        · exact ⟨_, _, by rw [he, Nat.sub_self]⟩
      · rw [if_neg (by omega)]
        obtain ⟨g', off', cap', e, _, hg', hj'⟩ := ace_open h (by intro e; rw [e] at hk he; simp at hk he; omega)
        cases e
        refine ace_at (by simp) (by simp; omega) hg' ?_
        intro j hj
        have hj2 : k + j < l.length := by simp at hj; omega
        have := hj' (k + j) hj2
        rw [show off + (k + j) * 3 = off + k * 3 + j * 3 by omega] at this
        rw [List.getElem_drop]
        exact this
    · split <;> rfl
theorem slice_upto {v : Value} {l : List Ace} {w : World} (h : At aceE v l w) {k : Nat} (hk : k ≤ l.length) :
    ∃ v', (∀ W, (Instr.sliceAt 24 v none (some (.int .i64 (k : Int))) none).run Try.prog W = .ok v' W) ∧ (∀ W, At aceE v l W → At aceE v' (l.take k) W) ∧ v'.ownBlock = v.ownBlock := by
  rcases h with ⟨rfl, rfl | ⟨ad, cap, rfl⟩⟩ | ⟨g, off, cap, rfl, hc, hg, hj⟩
  · simp at hk
    subst hk
    exact ⟨.slice none 0 0, fun W => by simp [go_sem], fun W h => .inl ⟨by simp, .inl rfl⟩, rfl⟩
  · simp at hk
    subst hk
    exact ⟨.slice (some ad) 0 cap, fun W => by simp [go_sem], fun W h => .inl ⟨by simp, .inr ⟨_, _, rfl⟩⟩, rfl⟩
  · refine ⟨.slice (some ⟨g, off, none⟩) k cap, fun W => by simp [go_sem, show k ≤ cap by omega], fun W h => ?_, rfl⟩
    by_cases h0 : k = 0
    · exact .inl ⟨by simp [h0], .inr ⟨_, _, by rw [h0]⟩⟩
    · obtain ⟨g', off', cap', e, _, hg', hj'⟩ := ace_open h (by intro e; rw [e] at hk; simp at hk; omega)
      cases e
      refine ace_at (by rw [List.length_take]; omega) (by rw [List.length_take]; omega) hg' ?_
      intro j hj
      rw [List.length_take] at hj
      have := hj' j (by omega)
      rw [List.getElem_take]
      exact this
end Go.Proofs.Ytajjhndpdjfcpaa.AclW
