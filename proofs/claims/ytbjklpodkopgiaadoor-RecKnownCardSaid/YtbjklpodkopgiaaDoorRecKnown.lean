/- Records that all know, in plain Lean. -/
import Derived.Test.YtbjklpodkopgiaaDoorRecMath2
namespace Go.Proofs.YtbjklpodkopgiaaDoor
namespace RecM
open Go.Lib (decDigits)

/-- The rows of the law's tables: the bytes, the key, the value, bytes that are none. -/
def knownT (k : Nat) : List UInt8 := ([[54, 32, 97, 61, 98, 10], [56, 32, 97, 61, 98, 99, 100, 10], [57, 32, 97, 61, 98, 99, 100, 101, 10], [49, 49, 32, 97, 61, 98, 99, 100, 101, 102, 10], [49, 50, 32, 97, 61, 98, 99, 100, 101, 102, 103, 10], [53, 32, 97, 61, 10], [51, 48, 32, 109, 116, 105, 109, 101, 61, 49, 51, 50, 49, 55, 49, 49, 55, 55, 53, 46, 48, 49, 48, 48, 48, 48, 48, 48, 48, 10], [55, 32, 97, 61, 61, 98, 10]] : List (List UInt8)).getD k []
def knownK (k : Nat) : List UInt8 := ([[97], [97], [97], [97], [97], [97], [109, 116, 105, 109, 101], [97]] : List (List UInt8)).getD k []
def knownV (k : Nat) : List UInt8 := ([[98], [98, 99, 100], [98, 99, 100, 101], [98, 99, 100, 101, 102], [98, 99, 100, 101, 102, 103], [], [49, 51, 50, 49, 55, 49, 49, 55, 55, 53, 46, 48, 49, 48, 48, 48, 48, 48, 48, 48], [61, 98]] : List (List UInt8)).getD k []
def knownB (k : Nat) : List UInt8 := ([[55, 32, 97, 61, 98, 10], [53, 32, 97, 61, 98, 10], [54, 32, 97, 61, 98, 32], [48, 54, 32, 97, 61, 98, 10], [52, 32, 61, 10], [49, 48, 32, 97, 61, 98, 99, 100, 101, 10, 10], [51, 32, 97, 10], [45, 54, 32, 97, 61, 98, 10]] : List (List UInt8)).getD k []
theorem eight (k : Nat) (h : k < 8) : k = 0 ∨ k = 1 ∨ k = 2 ∨ k = 3 ∨ k = 4 ∨ k = 5 ∨ k = 6 ∨ k = 7 := by omega
theorem known_may (k : Nat) (h : k < 8) : mayB (knownK k) (knownV k) = true := by
  rcases eight k h with rfl | rfl | rfl | rfl | rfl | rfl | rfl | rfl <;> decide
theorem known_enc (k : Nat) (h : k < 8) : encF (knownK k) (knownV k) = knownT k := by
  rcases eight k h with rfl | rfl | rfl | rfl | rfl | rfl | rfl | rfl <;> simp [encF, lenF, decDigits, knownK, knownV, knownT]
theorem known_bad (k : Nat) (h : k < 8) : getF (knownB k) = none := by
  rcases eight k h with rfl | rfl | rfl | rfl | rfl | rfl | rfl | rfl <;> decide +kernel
theorem known_len (k : Nat) (h : k < 8) : 1 ≤ (knownT k).length ∧ (knownT k).length ≤ 30 ∧ (knownK k).length ≤ 5 ∧ (knownV k).length ≤ 20 ∧ 1 ≤ (knownB k).length ∧ (knownB k).length ≤ 30 := by
  rcases eight k h with rfl | rfl | rfl | rfl | rfl | rfl | rfl | rfl <;> decide
end RecM
end Go.Proofs.YtbjklpodkopgiaaDoor
