/- Access lists in order: what that means for their first, their last, each of their parts. -/
import Derived.Test.YtdjffnhkfpjafaaDoorAclMode
namespace Go.Proofs.YtdjffnhkfpjafaaDoor
open Go.RowKit
open AclM
set_option linter.unusedVariables false

theorem lt_iff (a b : Ace) : ltA a b = true ↔ a.1 < b.1 ∨ (a.1 = b.1 ∧ a.2.1 < b.2.1) := by simp [ltA]
theorem lt_trans' {a b c : Ace} (h1 : ltA a b = true) (h2 : ltA b c = true) : ltA a c = true := by
  rw [lt_iff] at *
  omega
def PW (l : List Ace) : Prop := l.Pairwise fun a b => ltA a b = true
theorem order_pw : ∀ {l : List Ace}, order l = true ↔ PW l
  | [] => by simp [order, PW]
  | [a] => by simp [order, PW]
  | a :: b :: r => by
    have ih := order_pw (l := b :: r)
    show (ltA a b && order (b :: r)) = true ↔ _
    rw [Bool.and_eq_true, ih]
    constructor
    · rintro ⟨h1, h2⟩
      refine List.pairwise_cons.2 ⟨fun x hx => ?_, h2⟩
      rcases List.mem_cons.1 hx with rfl | hx
      · exact h1
      · exact lt_trans' h1 ((List.pairwise_cons.1 h2).1 x hx)
    · intro h
      obtain ⟨h1, h2⟩ := List.pairwise_cons.1 h
      exact ⟨h1 b (by simp), h2⟩
theorem findN_neg (t : Int) : ∀ (l : List Ace) (i : Nat), findN t l i < 0 ↔ ∀ a ∈ l, a.1 ≠ t
  | [], i => by simp [findN]
  | a :: l, i => by
    unfold findN
    by_cases h : a.1 = t
    · rw [if_pos h]
      constructor
      · intro e; omega
      · intro e; exact absurd h (e a (by simp))
    · rw [if_neg h, findN_neg t l (i + 1)]
      simp [h]
theorem has_iff {l : List Ace} {t : Int} : has l t = true ↔ ∃ a ∈ l, a.1 = t := by
  unfold has
  rw [decide_eq_true_eq]
  have h := findN_neg t l 0
  constructor
  · intro e
    by_cases hh : ∀ a ∈ l, a.1 ≠ t
    · have := h.2 hh; omega
    · simp only [ne_eq, Classical.not_forall, Classical.not_not] at hh
      obtain ⟨a, ha, h2⟩ := hh
      exact ⟨a, ha, h2⟩
  · rintro ⟨a, ha, h2⟩
    rcases Int.lt_or_le (findN t l 0) 0 with h3 | h3
    · exact absurd h2 (h.1 h3 a ha)
    · exact h3
theorem has_false {l : List Ace} {t : Int} : has l t = false ↔ ∀ a ∈ l, a.1 ≠ t := by
  rw [← Bool.not_eq_true, has_iff]
  constructor
  · intro h a ha e; exact h ⟨a, ha, e⟩
  · rintro h ⟨a, ha, e⟩; exact h a ha e
theorem findN_at (t : Int) : ∀ (l : List Ace) (i k : Nat), findN t l i = ((i + k : Nat) : Int) → ∃ h : k < l.length, l[k].1 = t
  | [], i, k, h => by simp [findN] at h; omega
  | a :: l, i, k, h => by
    unfold findN at h
    by_cases ha : a.1 = t
    · rw [if_pos ha] at h
      obtain rfl : k = 0 := by omega
      exact ⟨by simp, ha⟩
    · rw [if_neg ha] at h
      rcases findN_in t l (i + 1) with h1 | ⟨j, h1, h2⟩
      · omega
      · obtain ⟨h3, h4⟩ := findN_at t l (i + 1) j h2
        obtain rfl : k = j + 1 := by omega
        exact ⟨by simpa using h1, by simpa using h4⟩
/-- The perm of a tag that all its parts share. -/
theorem permN_of {l : List Ace} {t p : Int} (h1 : ∃ a ∈ l, a.1 = t) (h2 : ∀ a ∈ l, a.1 = t → a.2.2 = p) : permN l t = p := by
  unfold permN
  rcases findN_in t l 0 with h | ⟨k, hk, h⟩
  · obtain ⟨a, ha, h3⟩ := h1
    exact absurd h3 ((findN_neg t l 0).1 (by omega) a ha)
  · rw [h, if_neg (by omega), Int.toNat_natCast, Nat.zero_add]
    obtain ⟨_, h4⟩ := findN_at t l 0 k h
    have := h2 l[k] (List.getElem_mem hk) h4
    simpa [List.getD, hk] using this

/-! ### Valid lists -/
theorem tags_iff {l : List Ace} : tags l = true ↔ has l 1 = true ∧ has l 3 = true ∧ has l 6 = true ∧ has l 5 = (has l 2 || has l 4) := by
  unfold tags
  simp only [Bool.and_eq_true, beq_iff_eq]
  constructor
  · rintro ⟨⟨⟨a, b⟩, c⟩, d⟩; exact ⟨a, b, c, d⟩
  · rintro ⟨a, b, c, d⟩; exact ⟨⟨⟨a, b⟩, c⟩, d⟩
theorem may_iff {l : List Ace} : may l = true ↔ l.length ≤ 32 ∧ (∀ a ∈ l, okPart a = true) ∧ PW l ∧ has l 1 = true ∧ has l 3 = true ∧ has l 6 = true ∧ has l 5 = (has l 2 || has l 4) := by
  constructor
  · intro h
    obtain ⟨h1, h2, h3, h4⟩ := may_parts h
    exact ⟨h2, h1, order_pw.1 h3, tags_iff.1 h4⟩
  · rintro ⟨h2, h1, h3, h4⟩
    unfold may
    rw [order_pw.2 h3, tags_iff.2 h4, decide_eq_true h2, List.all_eq_true.2 h1]
    rfl
theorem may_first {l : List Ace} (h : may l = true) (h0 : 0 < l.length) : l[0].1 = 1 := by
  obtain ⟨_, h1, h2, h3, _⟩ := may_iff.1 h
  obtain ⟨a, ha, h4⟩ := has_iff.1 h3
  rcases l with _ | ⟨x, r⟩
  · simp at h0
  · have hx := okPart_iff (h1 x (by simp))
    show x.1 = 1
    rcases List.mem_cons.1 ha with rfl | ha
    · exact h4
    · have := (lt_iff _ _).1 ((List.pairwise_cons.1 h2).1 a ha)
      omega
theorem may_last {l : List Ace} (h : may l = true) (h0 : l.length - 1 < l.length) : l[l.length - 1].1 = 6 := by
  obtain ⟨_, h1, h2, _, _, h3, _⟩ := may_iff.1 h
  obtain ⟨a, ha, h4⟩ := has_iff.1 h3
  obtain ⟨i, hi, rfl⟩ := List.getElem_of_mem ha
  have hx := okPart_iff (h1 _ (List.getElem_mem h0))
  by_cases he : i = l.length - 1
  · subst he; exact h4
  · have := (lt_iff _ _).1 (List.pairwise_iff_getElem.1 h2 i (l.length - 1) hi h0 (by omega))
    omega
theorem may_two {l : List Ace} (h : may l = true) : 2 ≤ l.length := by
  have hne := may_ne h
  have hp : 0 < l.length := List.length_pos_iff.2 hne
  have h1 := may_first h hp
  have h2 := may_last h (by omega)
  rcases Nat.lt_or_ge l.length 2 with h3 | h3
  · have e : l.length - 1 = 0 := by omega
    have : l[l.length - 1] = l[0] := by congr 1
    rw [this, h1] at h2
    omega
  · exact h3
/-- Without a part that must be. -/
theorem may_less {l : List Ace} (h : may l = true) {k : Nat} (hk : k < l.length) (ht : hasId l[k].1 = false) : may (l.take k ++ l.drop (k + 1)) = false := by
  obtain ⟨_, h1, h2, h3, h4, h5, h6⟩ := may_iff.1 h
  obtain ⟨t, he⟩ : ∃ t, l[k].1 = t := ⟨_, rfl⟩
  rw [he] at ht
  have hmem : ∀ a, a ∈ l.take k ++ l.drop (k + 1) → ∃ (i : Nat) (hi : i < l.length), i ≠ k ∧ l[i] = a := by
    intro a ha
    rcases List.mem_append.1 ha with ha | ha
    · obtain ⟨i, hi, rfl⟩ := List.getElem_of_mem ha
      rw [List.length_take] at hi
      exact ⟨i, by omega, by omega, by rw [List.getElem_take]⟩
    · obtain ⟨i, hi, rfl⟩ := List.getElem_of_mem ha
      rw [List.length_drop] at hi
      exact ⟨k + 1 + i, by omega, by omega, by rw [List.getElem_drop]⟩
  have hback : ∀ a ∈ l, a.1 ≠ t → a ∈ l.take k ++ l.drop (k + 1) := by
    intro a ha hat
    obtain ⟨i, hi, rfl⟩ := List.getElem_of_mem ha
    have hik : i ≠ k := by rintro rfl; exact hat he
    rw [List.mem_append]
    rcases Nat.lt_or_ge i k with h | h
    · exact .inl (List.mem_iff_getElem.2 ⟨i, by rw [List.length_take]; omega, by rw [List.getElem_take]⟩)
    · exact .inr (List.mem_iff_getElem.2 ⟨i - (k + 1), by rw [List.length_drop]; omega, by rw [List.getElem_drop]; congr 1; omega⟩)
  have hno : ∀ a ∈ l.take k ++ l.drop (k + 1), a.1 ≠ t := by
    intro a ha hat
    obtain ⟨i, hi, hik, rfl⟩ := hmem a ha
    have o1 := (okPart_iff (h1 _ (List.getElem_mem hi))).2.2.2.2.2.2 (by rw [hat]; exact ht)
    have o2 := (okPart_iff (h1 _ (List.getElem_mem hk))).2.2.2.2.2.2 (by rw [he]; exact ht)
    rcases Nat.lt_or_ge i k with h | h
    · have := (lt_iff _ _).1 (List.pairwise_iff_getElem.1 h2 i k hi hk h)
      rw [hat, he, o1, o2] at this
      omega
    · have := (lt_iff _ _).1 (List.pairwise_iff_getElem.1 h2 k i hk hi (by omega))
      rw [hat, he, o1, o2] at this
      omega
  have hf := has_false.2 hno
  have hok := okPart_iff (h1 _ (List.getElem_mem hk))
  rw [he] at hok
  rw [← Bool.not_eq_true]
  intro hm
  obtain ⟨_, _, _, g3, g4, g5, g6⟩ := may_iff.1 hm
  have ht6 : t = 1 ∨ t = 3 ∨ t = 5 ∨ t = 6 := by
    have : t = 1 ∨ t = 2 ∨ t = 3 ∨ t = 4 ∨ t = 5 ∨ t = 6 := by omega
    rcases this with rfl | rfl | rfl | rfl | rfl | rfl <;> simp [hasId] at ht <;> simp
  rcases ht6 with rfl | rfl | rfl | rfl
  · rw [hf] at g3; cases g3
  · rw [hf] at g4; cases g4
  · rw [hf] at g6
    have hl5 : has l 5 = true := has_iff.2 ⟨_, List.getElem_mem hk, he⟩
    rw [hl5] at h6
    have hor : has l 2 = true ∨ has l 4 = true := by simpa using h6.symm
    rcases hor with h7 | h7
    · obtain ⟨a, ha, h8⟩ := has_iff.1 h7
      have : has (l.take k ++ l.drop (k + 1)) 2 = true := has_iff.2 ⟨a, hback a ha (by omega), h8⟩
      rw [this] at g6
      simp at g6
    · obtain ⟨a, ha, h8⟩ := has_iff.1 h7
      have : has (l.take k ++ l.drop (k + 1)) 4 = true := has_iff.2 ⟨a, hback a ha (by omega), h8⟩
      rw [this] at g6
      simp at g6
  · rw [hf] at g5; cases g5
theorem bad_part {l : List Ace} {a : Ace} (ha : a ∈ l) (h : okPart a = false) : may l = false := by
  rw [← Bool.not_eq_true]
  intro hm
  rw [(may_iff.1 hm).2.1 a ha] at h
  cases h
theorem bad_first {l : List Ace} (h0 : 0 < l.length) (h : l[0].1 ≠ 1) : may l = false := by
  rw [← Bool.not_eq_true]
  intro hm
  exact h (may_first hm h0)
theorem bad_twice (a : Ace) (l : List Ace) : may (a :: a :: l) = false := by
  rw [← Bool.not_eq_true]
  intro hm
  have := (lt_iff _ _).1 ((List.pairwise_cons.1 (may_iff.1 hm).2.2.1).1 a (by simp))
  omega
end Go.Proofs.YtdjffnhkfpjafaaDoor
