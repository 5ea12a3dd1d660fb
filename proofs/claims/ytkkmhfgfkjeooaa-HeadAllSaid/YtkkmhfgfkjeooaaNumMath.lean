/- Plain mathematics of numbers in fields: octal digits, bytes. No program. -/
import Derived.Lib.Hide
namespace Go.Proofs.Ytkkmhfgfkjeooaa.NumM

/-- k octal digits of n, the greatest first. -/
def digs : Nat → Nat → List UInt8
  | 0, _ => []
  | k + 1, n => digs k (n / 8) ++ [UInt8.ofNat (48 + n % 8)]

theorem digs_length (k n : Nat) : (digs k n).length = k := by
  induction k generalizing n with
  | zero => rfl
  | succ k ih => simp [digs, ih]

theorem digs_cons (k n : Nat) : digs (k + 1) n = UInt8.ofNat (48 + n / 8 ^ k % 8) :: digs k n := by
  induction k generalizing n with
  | zero => simp [digs]
  | succ k ih =>
    have h1 : digs (k + 1 + 1) n = digs (k + 1) (n / 8) ++ [UInt8.ofNat (48 + n % 8)] := rfl
    rw [h1, ih]
    have h2 : digs (k + 1) n = digs k (n / 8) ++ [UInt8.ofNat (48 + n % 8)] := rfl
    rw [h2, Nat.div_div_eq_div_mul, List.cons_append]
    congr 5
    rw [Nat.pow_succ, Nat.mul_comm]

/-- n in k bytes, the greatest first (two's complement). -/
def bes : Nat → Int → List UInt8
  | 0, _ => []
  | k + 1, n => bes k (n / 256) ++ [UInt8.ofNat (n % 256).toNat]

theorem bes_length (k : Nat) (n : Int) : (bes k n).length = k := by
  induction k generalizing n with
  | zero => rfl
  | succ k ih => simp [bes, ih]

theorem bes_cons (k : Nat) (n : Int) : bes (k + 1) n = UInt8.ofNat (n / 256 ^ k % 256).toNat :: bes k n := by
  induction k generalizing n with
  | zero => simp [bes]
  | succ k ih =>
    have h1 : bes (k + 1 + 1) n = bes (k + 1) (n / 256) ++ [UInt8.ofNat (n % 256).toNat] := rfl
    rw [h1, ih]
    have h2 : bes (k + 1) n = bes k (n / 256) ++ [UInt8.ofNat (n % 256).toNat] := rfl
    rw [h2, Int.ediv_ediv_of_nonneg (by decide), List.cons_append]
    congr 5
    rw [Int.pow_succ, Int.mul_comm]

/-- Whether a width is one. -/
def isW (w : Int) : Bool := w == 8 || w == 12

/-- The octal field, if there is one. -/
def octO (n w : Int) : Option (List UInt8) := if (isW w && decide (0 ≤ n) && decide (n < 8 ^ (w.toNat - 1))) = true then some (digs (w.toNat - 1) n.toNat ++ [0]) else none

/-- The binary field, if there is one. -/
def basO (n w : Int) : Option (List UInt8) :=
  if (isW w && (w == 12 || (decide (-72057594037927936 ≤ n) && decide (n < 72057594037927936)))) = true then some ((if n < 0 then 255 else 128) :: bes (w.toNat - 1) n) else none

def fieldO (n w : Int) : Option (List UInt8) := (octO n w).or (basO n w)

def bstr (o : Option (List UInt8)) : ByteArray := ⟨(o.getD []).toArray⟩
def numOf (o : Option Int) : Int := o.getD 0

end Go.Proofs.Ytkkmhfgfkjeooaa.NumM
