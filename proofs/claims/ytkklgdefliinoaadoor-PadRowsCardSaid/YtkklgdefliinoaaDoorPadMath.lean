/- Package pad by lists of bytes and whole numbers: how many bytes a number of them takes, what fills them, what stands at a place. -/
import Derived.Test.YtkklgdefliinoaaDoorKit
namespace Go.Proofs.YtkklgdefliinoaaDoor
namespace PadM

def L (s : ByteArray) : List UInt8 := s.data.toList
def strOf (l : List UInt8) : ByteArray := ⟨l.toArray⟩
theorem strOf_L (s : ByteArray) : strOf (L s) = s := by cases s; simp [strOf, L]
theorem L_strOf (l : List UInt8) : L (strOf l) = l := by simp [strOf, L]
theorem size_L (s : ByteArray) : (L s).length = s.size := by simp [L]
theorem strOf_sz (l : List UInt8) : (strOf l).size = l.length := by rw [← size_L, L_strOf]
theorem L_app (a b : ByteArray) : L (a ++ b) = L a ++ L b := bytes_list a b
theorem strOf_app (a b : List UInt8) : strOf a ++ strOf b = strOf (a ++ b) := bytes_ext (by rw [bytes_list]; simp [strOf])
theorem L_inj {a b : ByteArray} (h : L a = L b) : a = b := bytes_ext h
theorem str_L {s : ByteArray} {l : List UInt8} (h : L s = l) : s = strOf l := by rw [← h, strOf_L]

/-- So many bytes in whole blocks. -/
def sz (n : Int) : Int := (max 0 (min n 4611686018427387904) + 511) / 512 * 512
theorem sz_in {n : Int} (h0 : 0 ≤ n) (h1 : n ≤ 4611686018427387904) : n ≤ sz n ∧ sz n < n + 512 ∧ sz n ≤ 4611686018427387904 ∧ sz n % 512 = 0 := by unfold sz; omega
theorem sz_neg {n : Int} (h : n ≤ 0) : sz n = 0 := by unfold sz; omega
theorem sz_big {n : Int} (h : 4611686018427387904 ≤ n) : sz n = 4611686018427387904 := by unfold sz; omega
theorem sz_range (n : Int) : 0 ≤ sz n ∧ sz n ≤ 4611686018427387904 ∧ sz n % 512 = 0 := by unfold sz; omega
theorem sz_whole {n : Int} (h0 : 0 ≤ n) (h1 : n ≤ 4611686018427387904) (h : n % 512 = 0) : sz n = n := by unfold sz; omega
theorem sz_sz (n : Int) : sz (sz n) = sz n := by have := sz_range n; exact sz_whole this.1 this.2.1 this.2.2

/-- How many bytes fill these up. -/
def more (n : Nat) : Nat := (sz n).toNat - n
theorem more_in {n : Nat} (h : n ≤ 1000000) : (sz n).toNat = n + more n ∧ more n < 512 ∧ (n + more n) % 512 = 0 ∧ sz n = (n : Int) + (more n : Int) := by
  have := sz_in (n := n) (by omega) (by omega)
  unfold more
  omega
/-- Bytes, and what fills them up. -/
def padL (l : List UInt8) : List UInt8 := l ++ List.replicate (more l.length) 0
theorem padL_length (l : List UInt8) : (padL l).length = l.length + more l.length := by simp [padL]

/-- What stands at a place: the bytes, the place behind, the error. -/
def getP (l : List UInt8) (a n : Int) : List UInt8 × Int × Int :=
  if a < 0 ∨ (l.length : Int) < a ∨ n < 0 ∨ 4611686018427387904 < n then ([], 0, 1) else
  if (l.length : Int) - a < sz n then ([], 0, 5) else
  if (((l.drop a.toNat).take (sz n).toNat).drop n.toNat).all (· == 0) then ((l.drop a.toNat).take n.toNat, a + sz n, 0) else ([], 0, 4)
theorem get_bad {l : List UInt8} {a n : Int} (h : a < 0 ∨ (l.length : Int) < a ∨ n < 0 ∨ 4611686018427387904 < n) : getP l a n = ([], 0, 1) := by unfold getP; rw [if_pos h]
theorem get_more {l : List UInt8} {a n : Int} (h : ¬ (a < 0 ∨ (l.length : Int) < a ∨ n < 0 ∨ 4611686018427387904 < n)) (h2 : (l.length : Int) - a < sz n) : getP l a n = ([], 0, 5) := by unfold getP; rw [if_neg h, if_pos h2]
theorem get_form {l : List UInt8} {a n : Int} (h : ¬ (a < 0 ∨ (l.length : Int) < a ∨ n < 0 ∨ 4611686018427387904 < n)) (h2 : ¬ (l.length : Int) - a < sz n) (h3 : (((l.drop a.toNat).take (sz n).toNat).drop n.toNat).all (· == 0) = false) : getP l a n = ([], 0, 4) := by
  unfold getP; rw [if_neg h, if_neg h2, if_neg (by rw [h3]; decide)]
theorem get_ok {l : List UInt8} {a n : Int} (h : ¬ (a < 0 ∨ (l.length : Int) < a ∨ n < 0 ∨ 4611686018427387904 < n)) (h2 : ¬ (l.length : Int) - a < sz n) (h3 : (((l.drop a.toNat).take (sz n).toNat).drop n.toNat).all (· == 0) = true) : getP l a n = ((l.drop a.toNat).take n.toNat, a + sz n, 0) := by
  unfold getP; rw [if_neg h, if_neg h2, if_pos h3]

/-- Data that is filled up is told again, wherever it stands. -/
theorem get_pad (a l b : List UInt8) (hl : l.length ≤ 1000000) : getP (a ++ padL l ++ b) a.length l.length = (l, (a.length : Int) + ((padL l).length : Int), 0) := by
  have hm := more_in hl
  have hp := padL_length l
  have e1 : (a ++ padL l ++ b).drop a.length = padL l ++ b := by rw [List.append_assoc, List.drop_left]
  have e2 : (padL l ++ b).take (sz l.length).toNat = padL l := List.take_left' (by omega)
  have e3 : (padL l).drop l.length = List.replicate (more l.length) 0 := by unfold padL; rw [List.drop_left]
  have e4 : (padL l ++ b).take l.length = l := by unfold padL; rw [List.append_assoc, List.take_left]
  rw [get_ok (by simp; omega) (by simp [hp]; omega) (by simp only [Int.toNat_natCast]; rw [e1, e2, e3]; simp)]
  simp only [Int.toNat_natCast]
  rw [e1, e4, hp]
  congr 2
  omega
/-- A byte that is not 0 behind the data. -/
theorem get_turned (l : List UInt8) (j : Nat) (hl : l.length ≤ 1000000) (hj : j < more l.length) : getP ((padL l).set (l.length + j) 1) 0 l.length = ([], 0, 4) := by
  have hm := more_in hl
  have hp := padL_length l
  have hsl : ((padL l).set (l.length + j) 1).length = l.length + more l.length := by simp [hp]
  refine get_form (by omega) (by omega) ?_
  have e0 : (0 : Int).toNat = 0 := rfl
  rw [e0, List.drop_zero, List.take_of_length_le (by omega), Int.toNat_natCast]
  rw [Bool.eq_false_iff]
  intro h
  have h2 := List.all_eq_true.1 h 1 (by
    apply List.mem_of_getElem? (i := j)
    rw [List.getElem?_drop, List.getElem?_set]
    simp
    omega)
  exact absurd h2 (by decide)
/-- Too little behind. -/
theorem get_cut (l : List UInt8) (hl : l.length ≤ 1000000) (h : 0 < more l.length) : getP ((padL l).take ((padL l).length - 1)) 0 l.length = ([], 0, 5) := by
  have hm := more_in hl
  have hp := padL_length l
  have hsl : ((padL l).take ((padL l).length - 1)).length = l.length + more l.length - 1 := by rw [List.length_take, hp]; omega
  exact get_more (by omega) (by omega)
end PadM
end Go.Proofs.YtkklgdefliinoaaDoor
