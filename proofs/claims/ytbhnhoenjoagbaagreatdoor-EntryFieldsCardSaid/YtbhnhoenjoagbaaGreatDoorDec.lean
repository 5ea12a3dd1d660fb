/- Decimal digits: what a row of digits counts, and that decimal letters are read again. -/
import Derived.Lib.ItoaNum
import Derived.Lib.TrimByte
import Derived.Lib.Strings
import Derived.Lib.IndexMore
import Derived.RowKit
import Derived.IntWalk
namespace Go.Proofs.YtbhnhoenjoagbaaGreatDoor
open Go.RowKit
namespace DecM
open Go.Lib (decDigits nDigits decDigits_length)

def isDig (c : UInt8) : Bool := decide (48 ≤ c.toNat) && decide (c.toNat ≤ 57)
def valN (l : List UInt8) : Nat := l.foldl (fun x c => x * 10 + (c.toNat - 48)) 0

theorem foldl_val (l : List UInt8) : ∀ a : Nat, l.foldl (fun x c => x * 10 + (c.toNat - 48)) a = a * 10 ^ l.length + valN l := by
  unfold valN
  induction l with
  | nil => simp
  | cons c l ih =>
    intro a
    simp only [List.foldl_cons, List.length_cons]
    rw [ih, ih (0 * 10 + (c.toNat - 48)), Nat.pow_succ, Nat.zero_mul, Nat.zero_add, Nat.add_mul, Nat.add_assoc, Nat.mul_assoc, Nat.mul_comm 10]
theorem valN_cons (c : UInt8) (l : List UInt8) : valN (c :: l) = (c.toNat - 48) * 10 ^ l.length + valN l := by
  show l.foldl (fun x c => x * 10 + (c.toNat - 48)) (0 * 10 + (c.toNat - 48)) = _
  rw [foldl_val]; simp
theorem valN_append (l m : List UInt8) : valN (l ++ m) = valN l * 10 ^ m.length + valN m := by
  show (l ++ m).foldl (fun x c => x * 10 + (c.toNat - 48)) 0 = _
  rw [List.foldl_append, foldl_val]; rfl
theorem valN_snoc (l : List UInt8) (c : UInt8) : valN (l ++ [c]) = valN l * 10 + (c.toNat - 48) := by
  rw [valN_append]; simp [valN]
theorem valN_lt (l : List UInt8) (h : ∀ c ∈ l, isDig c = true) : valN l < 10 ^ l.length := by
  induction l with
  | nil => simp [valN]
  | cons c l ih =>
    rw [valN_cons, List.length_cons, Nat.pow_succ]
    have h1 := ih (fun x hx => h x (List.mem_cons_of_mem _ hx))
    have h2 := h c (List.mem_cons_self ..)
    simp only [isDig, Bool.and_eq_true, decide_eq_true_eq] at h2
    have h3 : (c.toNat - 48) * 10 ^ l.length ≤ 9 * 10 ^ l.length := Nat.mul_le_mul_right _ (by omega)
    omega
theorem digit_ok (k : Nat) (h : k < 10) : isDig (UInt8.ofNat (48 + k)) = true ∧ (UInt8.ofNat (48 + k)).toNat = 48 + k := by
  have : (UInt8.ofNat (48 + k)).toNat = 48 + k := by simp; omega
  exact ⟨by unfold isDig; rw [this]; simp; omega, this⟩
theorem dec_dig (u : Nat) : ∀ c ∈ decDigits u, isDig c = true := by
  induction u using Nat.strongRecOn with
  | ind u ih =>
    rw [decDigits]
    split
    · rename_i h
      intro c hc
      rw [List.mem_singleton] at hc
      subst hc
      exact (digit_ok u h).1
    · rename_i h
      intro c hc
      rw [List.mem_append] at hc
      rcases hc with hc | hc
      · exact ih (u / 10) (by omega) c hc
      · rw [List.mem_singleton] at hc
        subst hc
        exact (digit_ok (u % 10) (by omega)).1
theorem dec_val (u : Nat) : valN (decDigits u) = u := by
  induction u using Nat.strongRecOn with
  | ind u ih =>
    rw [decDigits]
    split
    · rename_i h
      show 0 * 10 + ((UInt8.ofNat (48 + u)).toNat - 48) = u
      rw [(digit_ok u h).2]; omega
    · rename_i h
      rw [valN_snoc, ih (u / 10) (by omega), (digit_ok (u % 10) (by omega)).2]; omega
theorem dec_pos (u : Nat) : 1 ≤ (decDigits u).length := by rw [decDigits_length]; exact Lib.nDigits_pos u
theorem dec_ne (u : Nat) : decDigits u ≠ [] := by have := dec_pos u; intro h; rw [h] at this; simp at this
theorem dec_len (k u : Nat) (h : u < 10 ^ (k + 1)) : (decDigits u).length ≤ k + 1 := by
  rw [decDigits_length]
  rcases Nat.lt_or_ge u (10 ^ k) with h1 | h1
  · induction k generalizing u with
    | zero => simp at h1; subst h1; rw [Lib.nDigits_small (by omega)]; omega
    | succ k ih =>
      rcases Nat.lt_or_ge u (10 ^ k) with h2 | h2
      · have := ih u h1 h2; omega
      · have := Lib.nDigits_unique k u h2 h1; omega
  · rw [Lib.nDigits_unique k u h1 h]; exact Nat.le_refl _
theorem dec_len_eq (k u : Nat) (h1 : 10 ^ k ≤ u) (h2 : u < 10 ^ (k + 1)) : (decDigits u).length = k + 1 := by
  rw [decDigits_length, Lib.nDigits_unique k u h1 h2]
theorem itoa_len (n : Int) (h0 : -9223372036854775808 ≤ n) (h1 : n ≤ 9223372036854775807) : 1 ≤ (Lib.itoa n).length ∧ (Lib.itoa n).length ≤ 20 := by
  unfold Lib.itoa
  split
  · have h2 := dec_len 18 n.natAbs (by omega)
    simp only [List.length_cons]
    omega
  · have h2 := dec_len 18 n.toNat (by omega)
    have h3 := dec_pos n.toNat
    omega
theorem trim_le (l : List UInt8) (c : UInt8) : (Lib.trimRightB l c).length ≤ l.length := by
  unfold Lib.trimRightB
  rw [List.length_reverse, ← List.length_reverse (as := l)]
  exact (List.dropWhile_sublist _).length_le
end DecM
end Go.Proofs.YtbhnhoenjoagbaaGreatDoor
