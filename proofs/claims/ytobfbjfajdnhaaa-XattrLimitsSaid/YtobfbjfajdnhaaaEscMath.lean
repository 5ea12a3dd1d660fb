/- Percent-encoding as the document has it, in plain Lean: what Put writes, what is read back, and that each is the other's way back. -/
import Derived.Lib.Bytealg
import Derived.Lib.Strings
namespace Go.Proofs.Ytobfbjfajdnhaaa.EscM

def digits : List UInt8 := [48, 49, 50, 51, 52, 53, 54, 55, 56, 57, 65, 66, 67, 68, 69, 70]
/-- The digit of a number. -/
def H (n : Nat) : UInt8 := digits.getD n 0
/-- The number of a digit. -/
def dig (c : UInt8) : Option Nat := digits.findIdx? (· == c)
/-- What is encoded as itself. -/
def self (c : UInt8) : Bool := decide (33 ≤ c.toNat) && decide (c.toNat ≤ 126) && decide (c.toNat ≠ 37) && decide (c.toNat ≠ 61)
def enc (c : UInt8) : List UInt8 := if self c then [c] else [37, H (c.toNat / 16), H (c.toNat % 16)]
/-- What Put writes. -/
def put (l : List UInt8) : List UInt8 := l.flatMap enc

theorem dig_H : ∀ n, n < 16 → dig (H n) = some n := by decide +kernel
theorem H_dig_all : ∀ i : Fin 256, ∀ k ∈ dig (UInt8.ofNat i.val), H k = UInt8.ofNat i.val ∧ k < 16 := by decide +kernel
theorem H_dig {c : UInt8} {k : Nat} (h : dig c = some k) : H k = c ∧ k < 16 := by
  have := H_dig_all ⟨c.toNat, c.toNat_lt⟩ k (by simpa using h)
  simpa using this
theorem index_dig_all : ∀ i : Fin 256, Lib.indexByte digits (UInt8.ofNat i.val) = match dig (UInt8.ofNat i.val) with | some k => (k : Int) | none => -1 := by decide +kernel
theorem index_dig (c : UInt8) : Lib.indexByte digits c = match dig c with | some k => (k : Int) | none => -1 := by
  have := index_dig_all ⟨c.toNat, c.toNat_lt⟩
  simpa using this
theorem H_self : ∀ n, n < 16 → self (H n) = true ∧ (H n).toNat ≠ 37 := by decide +kernel
theorem self_mark : self 37 = false := by decide +kernel

theorem put_nil : put [] = [] := rfl
theorem put_cons (c : UInt8) (l : List UInt8) : put (c :: l) = enc c ++ put l := by simp [put]
theorem put_append (l m : List UInt8) : put (l ++ m) = put l ++ put m := by simp [put]
theorem enc_len (c : UInt8) : (enc c).length ≤ 3 := by unfold enc; split <;> simp
theorem put_len (l : List UInt8) : (put l).length ≤ 3 * l.length := by
  induction l with
  | nil => simp [put]
  | cons c l ih => rw [put_cons, List.length_append, List.length_cons]; have := enc_len c; omega

/-- The byte of two digits. -/
def hexOf (x y : Nat) : UInt8 := UInt8.ofNat (x * 16 + y)
theorem hexOf_split (c : UInt8) : hexOf (c.toNat / 16) (c.toNat % 16) = c := by
  unfold hexOf
  rw [show c.toNat / 16 * 16 + c.toNat % 16 = c.toNat by omega]
  simp
theorem hexOf_nat (x y : Nat) (hx : x < 16) (hy : y < 16) : (hexOf x y).toNat = x * 16 + y := by
  unfold hexOf
  simp
  omega

/-- What the program reads. -/
def get : List UInt8 → Option (List UInt8)
  | [] => some []
  | c :: t => if c.toNat = 37 then match t with
      | a :: b :: r => match dig a, dig b with
        | some x, some y => if self (hexOf x y) then none else (get r).map (hexOf x y :: ·)
        | _, _ => none
      | _ => none
    else if self c then (get t).map (c :: ·) else none

theorem get_mark (c a b : UInt8) (r : List UInt8) (h : c.toNat = 37) : get (c :: a :: b :: r) = match dig a, dig b with
    | some x, some y => if self (hexOf x y) then none else (get r).map (hexOf x y :: ·)
    | _, _ => none := by
  rw [get.eq_def]
  simp only
  rw [if_pos h]
theorem get_short (c : UInt8) (t : List UInt8) (h : c.toNat = 37) (ht : t.length < 2) : get (c :: t) = none := by
  rw [get.eq_def]
  simp only
  rw [if_pos h]
  match t, ht with
  | [], _ => rfl
  | [a], _ => rfl
theorem get_plain (c : UInt8) (t : List UInt8) (h : c.toNat ≠ 37) : get (c :: t) = if self c then (get t).map (c :: ·) else none := by
  rw [get.eq_def]
  simp only
  rw [if_neg h]
theorem get_put (l : List UInt8) : get (put l) = some l := by
  induction l with
  | nil => rfl
  | cons c l ih =>
    rw [put_cons]
    unfold enc
    by_cases h : self c = true
    · have h37 : c.toNat ≠ 37 := by intro h2; simp [self, h2] at h
      rw [if_pos h, List.singleton_append, get_plain c _ h37, if_pos h, ih]
      rfl
    · rw [if_neg h]
      have hc := c.toNat_lt
      have h1 := dig_H (c.toNat / 16) (by omega)
      have h2 := dig_H (c.toNat % 16) (by omega)
      simp only [List.cons_append, List.nil_append]
      rw [get_mark _ _ _ _ (by decide +kernel), h1, h2]
      simp only [hexOf_split, ih]
      rw [if_neg h]
      rfl
theorem put_get : ∀ (n : Nat) (t : List UInt8), t.length ≤ n → ∀ l, get t = some l → put l = t := by
  intro n
  induction n with
  | zero =>
    intro t ht l h
    obtain rfl : t = [] := List.eq_nil_of_length_eq_zero (by omega)
    simp only [get, Option.some.injEq] at h
    subst h; rfl
  | succ n ih =>
    intro t ht l h
    match t, ht, h with
    | [], _, h => simp only [get, Option.some.injEq] at h; subst h; rfl
    | c :: t, ht, h =>
      by_cases h37 : c.toNat = 37
      · match t, ht, h with
        | [], _, h => rw [get_short c _ h37 (by simp)] at h; simp at h
        | [_], _, h => rw [get_short c _ h37 (by simp)] at h; simp at h
        | a :: b :: r, ht, h =>
          rw [get_mark c a b r h37] at h
          rcases ha : dig a with _ | x
          · simp [ha] at h
          rcases hb : dig b with _ | y
          · simp [ha, hb] at h
          simp only [ha, hb] at h
          by_cases hs : self (hexOf x y) = true
          · rw [if_pos hs] at h; simp at h
          · rw [if_neg hs] at h
            obtain ⟨m, hm, rfl⟩ := Option.map_eq_some_iff.1 h
            have h3 := ih r (by simp only [List.length_cons] at ht; omega) m hm
            obtain ⟨hx, hx16⟩ := H_dig ha
            obtain ⟨hy, hy16⟩ := H_dig hb
            have hbn := hexOf_nat x y hx16 hy16
            rw [put_cons, enc, if_neg hs, hbn, show (x * 16 + y) / 16 = x by omega, show (x * 16 + y) % 16 = y by omega, hx, hy, h3]
            have : c = 37 := UInt8.toNat_inj.1 (by rw [h37]; rfl)
            subst this; rfl
      · rw [get_plain c t h37] at h
        by_cases hs : self c = true
        · rw [if_pos hs] at h
          obtain ⟨m, hm, rfl⟩ := Option.map_eq_some_iff.1 h
          have h3 := ih t (by simp only [List.length_cons] at ht; omega) m hm
          rw [put_cons, enc, if_pos hs, h3]; rfl
        · rw [if_neg hs] at h; simp at h
theorem get_iff (t l : List UInt8) : get t = some l ↔ put l = t :=
  ⟨put_get _ t (Nat.le_refl _) l, fun h => by rw [← h, get_put]⟩
theorem get_none {t : List UInt8} : get t = none ↔ ∀ l, put l ≠ t := by
  constructor
  · intro h l hl
    rw [(get_iff t l).2 hl] at h; simp at h
  · intro h
    cases hg : get t with
    | none => rfl
    | some l => exact absurd ((get_iff t l).1 hg) (h l)

/-- The number of a digit in the document's answer, 16 for none. -/
def nib (c : UInt8) : Nat := if 48 ≤ c.toNat ∧ c.toNat ≤ 57 then c.toNat - 48 else if 65 ≤ c.toNat ∧ c.toNat ≤ 70 then c.toNat - 65 + 10 else 16
theorem nib_H : ∀ n, n < 16 → nib (H n) = n := by decide +kernel
theorem nib_le (c : UInt8) : nib c ≤ 16 := by
  unfold nib
  split
  · omega
  · split <;> omega
def nibByte (a b : UInt8) : UInt8 := UInt8.ofNat (nib a * 16 + nib b % 16)
/-- What the document's answer reads before it writes it again. -/
def rdec : List UInt8 → List UInt8
  | [] => []
  | c :: t => if c.toNat = 37 then match t with
      | a :: b :: r => nibByte a b :: rdec r
      | [a] => c :: rdec [a]
      | [] => [c]
    else c :: rdec t
theorem rdec_two (c a b : UInt8) (r : List UInt8) (h : c.toNat = 37) : rdec (c :: a :: b :: r) = nibByte a b :: rdec r := by
  rw [rdec.eq_def]
  simp only
  rw [if_pos h]
theorem rdec_one (c : UInt8) (t : List UInt8) (h : ¬ (c.toNat = 37 ∧ 2 ≤ t.length)) : rdec (c :: t) = c :: rdec t := by
  rw [rdec.eq_def]
  simp only
  split
  · rename_i h37
    match t, h with
    | [], _ => rfl
    | [a], _ => rfl
    | a :: b :: r, h => exact absurd ⟨h37, by simp⟩ h
  · rfl
theorem rdec_put (l : List UInt8) : rdec (put l) = l := by
  induction l with
  | nil => rfl
  | cons c l ih =>
    rw [put_cons]
    unfold enc
    by_cases h : self c = true
    · have h37 : c.toNat ≠ 37 := by intro h2; simp [self, h2] at h
      rw [if_pos h, List.singleton_append, rdec_one c _ (fun h2 => h37 h2.1), ih]
    · rw [if_neg h]
      have hc := c.toNat_lt
      simp only [List.cons_append, List.nil_append]
      rw [rdec_two _ _ _ _ (by decide +kernel), ih, nibByte, nib_H _ (by omega), nib_H _ (by omega)]
      have := hexOf_split c
      unfold hexOf at this
      rw [show c.toNat % 16 % 16 = c.toNat % 16 by omega, this]
/-- The document's answer is the program's. -/
theorem rget (t : List UInt8) : get t = if put (rdec t) = t then some (rdec t) else none := by
  split
  · rename_i h
    exact (get_iff t _).2 h
  · rename_i h
    rw [get_none]
    intro l hl
    apply h
    rw [← hl, rdec_put]
end Go.Proofs.Ytobfbjfajdnhaaa.EscM
