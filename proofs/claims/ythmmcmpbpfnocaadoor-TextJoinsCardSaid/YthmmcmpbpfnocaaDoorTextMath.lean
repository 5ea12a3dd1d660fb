/- Characters in bytes: what package text computes, as plain functions; how characters join, and what a part of them is. -/
namespace Go.Proofs.YthmmcmpbpfnocaaDoor
namespace TextM

def bitsOf : Nat → Nat
  | 1 => 7
  | 2 => 5
  | 3 => 4
  | 4 => 3
  | _ => 0
def leastOf : Nat → Nat
  | 2 => 128
  | 3 => 2048
  | 4 => 65536
  | _ => 0
/-- How many bytes a character with this first byte has. -/
def lenOf (c : UInt8) : Nat := if c.toNat < 128 then 1 else if c.toNat / 32 = 6 then 2 else if c.toNat / 16 = 14 then 3 else if c.toNat / 8 = 30 then 4 else 0
/-- So many further bytes; none: it ends too early. -/
def conts : Nat → Nat → List UInt8 → Option Nat
  | 0, n, _ => some n
  | _ + 1, _, [] => none
  | k + 1, n, c :: r => if c.toNat / 64 = 2 then conts k (n * 64 + c.toNat % 64) r else none
def named (n : Nat) : Bool := decide (n ≤ 1114111) && (decide (n < 55296) || decide (57343 < n))
def good (k n : Nat) : Bool := decide (leastOf k ≤ n) && named n
/-- The size of the character at the front; 0: no such one; none: it ends too early. -/
def sgn : List UInt8 → Option Nat
  | [] => some 0
  | c :: r => if lenOf c = 0 then some 0 else (conts (lenOf c - 1) (c.toNat % 2 ^ bitsOf (lenOf c)) r).map fun n => if good (lenOf c) n then lenOf c else 0
def sg (l : List UInt8) : Nat := (sgn l).getD 0

theorem sg_cons (c : UInt8) (r : List UInt8) : sg (c :: r) = (if lenOf c = 0 then some 0 else (conts (lenOf c - 1) (c.toNat % 2 ^ bitsOf (lenOf c)) r).map fun n => if good (lenOf c) n then lenOf c else 0).getD 0 := rfl
theorem lenOf_le (c : UInt8) : lenOf c ≤ 4 := by unfold lenOf; split <;> (try split) <;> (try split) <;> (try split) <;> omega
theorem conts_len : ∀ (k n : Nat) (l : List UInt8) (m : Nat), conts k n l = some m → k ≤ l.length
  | 0, _, _, _, _ => Nat.zero_le _
  | k + 1, n, [], m, h => by simp [conts] at h
  | k + 1, n, c :: r, m, h => by
    unfold conts at h
    split at h
    · have := conts_len k _ r m h
      simp; omega
    · cases h
theorem conts_app : ∀ (k n : Nat) (l r : List UInt8) (m : Nat), conts k n l = some m → conts k n (l ++ r) = some m
  | 0, _, _, _, _, h => by simpa [conts] using h
  | k + 1, n, [], r, m, h => by simp [conts] at h
  | k + 1, n, c :: l, r, m, h => by
    unfold conts at h
    rw [List.cons_append]
    unfold conts
    split at h
    · rename_i h1
      rw [if_pos h1]
      exact conts_app k _ l r m h
    · cases h
theorem conts_short : ∀ (k n : Nat) (l : List UInt8), l.length < k → conts k n l = none
  | 0, _, _, h => by omega
  | k + 1, n, [], _ => rfl
  | k + 1, n, c :: l, h => by
    unfold conts
    split
    · exact conts_short k _ l (by simp at h; omega)
    · rfl
theorem conts_take : ∀ (k n : Nat) (l : List UInt8) (j : Nat), k ≤ j → conts k n (l.take j) = conts k n l
  | 0, _, _, _, _ => rfl
  | k + 1, n, [], j, h => by simp
  | k + 1, n, c :: l, j, h => by
    obtain ⟨j, rfl⟩ : ∃ i, j = i + 1 := ⟨j - 1, by omega⟩
    rw [List.take_succ_cons]
    unfold conts
    split
    · exact conts_take k _ l j (by omega)
    · rfl
theorem sg_le (l : List UInt8) : sg l ≤ 4 := by
  cases l with
  | nil => decide
  | cons c r =>
    rw [sg_cons]
    by_cases h : lenOf c = 0
    · rw [if_pos h]; decide
    · rw [if_neg h]
      cases conts (lenOf c - 1) (c.toNat % 2 ^ bitsOf (lenOf c)) r with
      | none => exact Nat.zero_le _
      | some n =>
        simp only [Option.map_some, Option.getD_some]
        split
        · exact lenOf_le c
        · decide
/-- What a character at the front is. -/
theorem sg_pos {c : UInt8} {r : List UInt8} (h : sg (c :: r) ≠ 0) : sg (c :: r) = lenOf c ∧ lenOf c ≠ 0 ∧ ∃ n, conts (lenOf c - 1) (c.toNat % 2 ^ bitsOf (lenOf c)) r = some n ∧ good (lenOf c) n = true := by
  rw [sg_cons] at h ⊢
  by_cases h1 : lenOf c = 0
  · rw [if_pos h1] at h; exact absurd rfl h
  · rw [if_neg h1] at h ⊢
    cases hc : conts (lenOf c - 1) (c.toNat % 2 ^ bitsOf (lenOf c)) r with
    | none => rw [hc] at h; exact absurd rfl h
    | some n =>
      rw [hc] at h
      simp only [Option.map_some, Option.getD_some] at h ⊢
      split at h
      · rename_i h2
        rw [if_pos h2]
        exact ⟨rfl, h1, n, rfl, h2⟩
      · exact absurd rfl h
theorem sg_len (l : List UInt8) : sg l ≤ l.length := by
  cases l with
  | nil => decide
  | cons c r =>
    by_cases h : sg (c :: r) = 0
    · omega
    · obtain ⟨h1, _, n, hn, _⟩ := sg_pos h
      have := conts_len _ _ _ _ hn
      simp; omega
theorem sg_app {l : List UInt8} (r : List UInt8) (h : sg l ≠ 0) : sg (l ++ r) = sg l := by
  cases l with
  | nil => exact absurd rfl h
  | cons c l =>
    obtain ⟨h1, h2, n, hn, hg⟩ := sg_pos h
    rw [h1, List.cons_append]
    rw [sg_cons, if_neg h2, conts_app _ _ _ r _ hn]
    simp [hg]
theorem sg_take {l : List UInt8} (j : Nat) (hj : 0 < j) (h : j < sg l) : sg (l.take j) = 0 := by
  cases l with
  | nil => rw [List.take_nil]; rfl
  | cons c l =>
    obtain ⟨h1, h2, n, hn, hg⟩ := sg_pos (by omega : sg (c :: l) ≠ 0)
    obtain ⟨j, rfl⟩ : ∃ i, j = i + 1 := ⟨j - 1, by omega⟩
    rw [List.take_succ_cons]
    rw [sg_cons, if_neg h2, conts_short _ _ _ (by simp; omega)]
    rfl

/-- Where the reading ends, behind how many characters, and whether all was read. -/
def rd (l : List UInt8) : Nat × Nat × Bool :=
  if _h : l = [] then (0, 0, true) else
  if _h2 : sg l = 0 then (0, 0, false) else
  let x := rd (l.drop (sg l))
  (x.1 + sg l, x.2.1 + 1, x.2.2)
termination_by l.length
decreasing_by
  have : 0 < l.length := List.length_pos_iff.2 _h
  simp; omega
theorem rd_nil : rd [] = (0, 0, true) := by rw [rd]; simp
theorem rd_bad {l : List UInt8} (h : sg l = 0) (hl : l ≠ []) : rd l = (0, 0, false) := by rw [rd, dif_neg hl, dif_pos h]
theorem rd_step {l : List UInt8} (h : sg l ≠ 0) : rd l = ((rd (l.drop (sg l))).1 + sg l, (rd (l.drop (sg l))).2.1 + 1, (rd (l.drop (sg l))).2.2) := by
  have hl : l ≠ [] := by rintro rfl; exact h rfl
  conv => lhs; rw [rd, dif_neg hl, dif_neg h]
def badI (l : List UInt8) : Int := if (rd l).2.2 then -1 else ((rd l).1 : Int)
def cntN (l : List UInt8) : Nat := (rd l).2.1
theorem rd_le : ∀ (n : Nat) (l : List UInt8), l.length ≤ n → (rd l).1 ≤ l.length ∧ (rd l).2.1 ≤ (rd l).1 ∧ ((rd l).2.2 = true → (rd l).1 = l.length) ∧ ((rd l).2.2 = false → (rd l).1 < l.length)
  | 0, l, h => by
    obtain rfl : l = [] := List.eq_nil_of_length_eq_zero (by omega)
    rw [rd_nil]; simp
  | n + 1, l, h => by
    by_cases hl : l = []
    · subst hl; rw [rd_nil]; simp
    · by_cases h0 : sg l = 0
      · rw [rd_bad h0 hl]
        have := List.length_pos_iff.2 hl
        simp; omega
      · have h1 := sg_len l
        have ih := rd_le n (l.drop (sg l)) (by simp; omega)
        rw [rd_step h0]
        simp only [List.length_drop] at ih ⊢
        refine ⟨by omega, by omega, fun h => ?_, fun h => ?_⟩
        · have := ih.2.2.1 h; omega
        · have := ih.2.2.2 h; omega

/-- Whole characters. -/
def Chars (l : List UInt8) (k : Nat) : Prop := rd l = (l.length, k, true)
theorem chars_nil : Chars [] 0 := rd_nil
theorem chars_one {l : List UInt8} (h : sg l ≠ 0) (hl : sg l = l.length) : Chars l 1 := by
  unfold Chars
  rw [rd_step h, hl, List.drop_length, rd_nil]
  simp
theorem rd_app : ∀ (n : Nat) (l r : List UInt8), l.length ≤ n → (rd l).2.2 = true → rd (l ++ r) = ((rd r).1 + l.length, (rd r).2.1 + (rd l).2.1, (rd r).2.2)
  | 0, l, r, h, _ => by
    obtain rfl : l = [] := List.eq_nil_of_length_eq_zero (by omega)
    rw [rd_nil]; simp
  | n + 1, l, r, h, ht => by
    by_cases hl : l = []
    · subst hl; rw [rd_nil]; simp
    · by_cases h0 : sg l = 0
      · rw [rd_bad h0 hl] at ht; cases ht
      · have h1 := sg_len l
        have h2 := sg_app r h0
        rw [rd_step h0] at ht
        have ih := rd_app n (l.drop (sg l)) r (by simp; omega) ht
        rw [rd_step (l := l ++ r) (by rw [h2]; exact h0), h2, List.drop_append_of_le_length h1, ih, rd_step h0]
        simp only [List.length_drop, Prod.mk.injEq]
        exact ⟨by omega, by omega, trivial⟩
theorem chars_app {l : List UInt8} {k : Nat} (h : Chars l k) (r : List UInt8) : rd (l ++ r) = ((rd r).1 + l.length, (rd r).2.1 + k, (rd r).2.2) := by
  have := rd_app l.length l r (Nat.le_refl _) (by rw [h])
  rw [this, h]
theorem chars_join {l r : List UInt8} {k j : Nat} (h : Chars l k) (h2 : Chars r j) : Chars (l ++ r) (k + j) := by
  unfold Chars
  rw [chars_app h, h2]
  simp; omega
/-- A part of whole characters is whole, or one of them ends too early. -/
theorem rd_take : ∀ (n : Nat) (l : List UInt8) (c : Nat), l.length ≤ n → (rd l).2.2 = true → c ≤ l.length → (rd (l.take c)).2.2 = true ∨ ((rd (l.take c)).2.2 = false ∧ (rd (l.take c)).1 < c ∧ c < (rd (l.take c)).1 + 4)
  | 0, l, c, h, _, hc => by
    obtain rfl : l = [] := List.eq_nil_of_length_eq_zero (by omega)
    simp [rd_nil]
  | n + 1, l, c, h, ht, hc => by
    by_cases hl : l = []
    · subst hl; simp [rd_nil]
    · by_cases h0 : sg l = 0
      · rw [rd_bad h0 hl] at ht; cases ht
      · by_cases hc0 : c = 0
        · subst hc0; left; rw [List.take_zero, rd_nil]
        · have h1 := sg_len l
          have h4 := sg_le l
          by_cases hlt : c < sg l
          · right
            have h2 := sg_take c (by omega) hlt
            rw [rd_bad h2 (by intro he; have := congrArg List.length he; rw [List.length_take, List.length_nil] at this; omega)]
            exact ⟨rfl, by simp; omega, by simp; omega⟩
          · obtain ⟨d, rfl⟩ : ∃ d, c = sg l + d := ⟨c - sg l, by omega⟩
            have h5 : l.take (sg l + d) = l.take (sg l) ++ (l.drop (sg l)).take d := by rw [List.take_add]
            have h6 : sg (l.take (sg l)) = sg l := by
              cases l with
              | nil => rfl
              | cons x r =>
                obtain ⟨e1, e2, m, hm, hg⟩ := sg_pos h0
                rw [e1]
                obtain ⟨j, hj⟩ : ∃ j, lenOf x = j + 1 := ⟨lenOf x - 1, by omega⟩
                rw [hj, List.take_succ_cons, ← hj]
                rw [sg_cons, if_neg e2, conts_take _ _ _ _ (by omega), hm]
                simp [hg]
            have h7 : Chars (l.take (sg l)) 1 := chars_one (by rw [h6]; exact h0) (by rw [h6]; simp; omega)
            rw [rd_step h0] at ht
            have ih := rd_take n (l.drop (sg l)) d (by simp; omega) ht (by simp; omega)
            rw [h5, chars_app h7]
            simp only [List.length_take]
            rw [Nat.min_eq_left h1]
            rcases ih with ih | ⟨ih1, ih2, ih3⟩
            · left; exact ih
            · right; exact ⟨ih1, by omega, by omega⟩
end TextM
end Go.Proofs.YthmmcmpbpfnocaaDoor
