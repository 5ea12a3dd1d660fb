/- The texts that all know, and their lists. -/
import Derived.Test.YtdjffnhkfpjafaaDoorAclAwake
namespace Go.Proofs.YtdjffnhkfpjafaaDoor
open Go.RowKit
open AclM DecM
set_option linter.unusedVariables false

theorem dec_step (u : Nat) (h : ¬ u < 10) : Lib.decDigits u = Lib.decDigits (u / 10) ++ [UInt8.ofNat (48 + u % 10)] := by rw [Lib.decDigits, dif_neg h]
theorem itoa_0 : Lib.itoa 0 = [48] := by rw [show (0 : Int) = ((0 : Nat) : Int) from rfl, itoa_nat, Lib.decDigits_one (by decide)]; rfl
theorem itoa_5 : Lib.itoa 5 = [53] := by rw [show (5 : Int) = ((5 : Nat) : Int) from rfl, itoa_nat, Lib.decDigits_one (by decide)]; rfl
theorem itoa_9 : Lib.itoa 9 = [57] := by rw [show (9 : Int) = ((9 : Nat) : Int) from rfl, itoa_nat, Lib.decDigits_one (by decide)]; rfl
theorem itoa_max : Lib.itoa 2147483647 = [50, 49, 52, 55, 52, 56, 51, 54, 52, 55] := by
  rw [show (2147483647 : Int) = ((2147483647 : Nat) : Int) from rfl, itoa_nat, dec_step 2147483647 (by decide), dec_step (2147483647 / 10) (by decide), dec_step (2147483647 / 10 / 10) (by decide), dec_step (2147483647 / 10 / 10 / 10) (by decide), dec_step (2147483647 / 10 / 10 / 10 / 10) (by decide), dec_step (2147483647 / 10 / 10 / 10 / 10 / 10) (by decide), dec_step (2147483647 / 10 / 10 / 10 / 10 / 10 / 10) (by decide), dec_step (2147483647 / 10 / 10 / 10 / 10 / 10 / 10 / 10) (by decide), dec_step (2147483647 / 10 / 10 / 10 / 10 / 10 / 10 / 10 / 10) (by decide), Lib.decDigits_one (by decide)]
  rfl
def knownL0 : List Ace := [(1, 0, 7), (3, 0, 5), (6, 0, 4)]
def knownT0 : List UInt8 := [117, 58, 58, 114, 119, 120, 44, 103, 58, 58, 114, 45, 120, 44, 111, 58, 58, 114, 45, 45]
theorem known0 : getL knownT0 = some knownL0 ∧ may knownL0 = true ∧ textR knownL0 = knownT0 ∧ modeL knownL0 = 492 := by
  have h1 : may knownL0 = true := by decide
  have h2 : textL knownL0 = knownT0 := by simp only [textL, joinC, knownL0, List.map, partText, idText, hasId]; simp [itoa_0, itoa_5, itoa_9, itoa_max]; decide
  exact ⟨(get_iff _ _).2 ⟨h1, h2⟩, h1, by unfold textR; rw [if_pos h1]; exact h2, by decide⟩
def knownL1 : List Ace := [(1, 0, 6), (2, 5, 7), (3, 0, 4), (5, 0, 4), (6, 0, 0)]
def knownT1 : List UInt8 := [117, 58, 58, 114, 119, 45, 44, 117, 58, 53, 58, 114, 119, 120, 44, 103, 58, 58, 114, 45, 45, 44, 109, 58, 58, 114, 45, 45, 44, 111, 58, 58, 45, 45, 45]
theorem known1 : getL knownT1 = some knownL1 ∧ may knownL1 = true ∧ textR knownL1 = knownT1 ∧ modeL knownL1 = 416 := by
  have h1 : may knownL1 = true := by decide
  have h2 : textL knownL1 = knownT1 := by simp only [textL, joinC, knownL1, List.map, partText, idText, hasId]; simp [itoa_0, itoa_5, itoa_9, itoa_max]; decide
  exact ⟨(get_iff _ _).2 ⟨h1, h2⟩, h1, by unfold textR; rw [if_pos h1]; exact h2, by decide⟩
def knownL2 : List Ace := [(1, 0, 4), (3, 0, 7), (4, 0, 2), (5, 0, 3), (6, 0, 1)]
def knownT2 : List UInt8 := [117, 58, 58, 114, 45, 45, 44, 103, 58, 58, 114, 119, 120, 44, 103, 58, 48, 58, 45, 119, 45, 44, 109, 58, 58, 45, 119, 120, 44, 111, 58, 58, 45, 45, 120]
theorem known2 : getL knownT2 = some knownL2 ∧ may knownL2 = true ∧ textR knownL2 = knownT2 ∧ modeL knownL2 = 281 := by
  have h1 : may knownL2 = true := by decide
  have h2 : textL knownL2 = knownT2 := by simp only [textL, joinC, knownL2, List.map, partText, idText, hasId]; simp [itoa_0, itoa_5, itoa_9, itoa_max]; decide
  exact ⟨(get_iff _ _).2 ⟨h1, h2⟩, h1, by unfold textR; rw [if_pos h1]; exact h2, by decide⟩
def knownL3 : List Ace := [(1, 0, 0), (2, 0, 0), (2, 2147483647, 4), (3, 0, 0), (4, 9, 1), (5, 0, 0), (6, 0, 7)]
def knownT3 : List UInt8 := [117, 58, 58, 45, 45, 45, 44, 117, 58, 48, 58, 45, 45, 45, 44, 117, 58, 50, 49, 52, 55, 52, 56, 51, 54, 52, 55, 58, 114, 45, 45, 44, 103, 58, 58, 45, 45, 45, 44, 103, 58, 57, 58, 45, 45, 120, 44, 109, 58, 58, 45, 45, 45, 44, 111, 58, 58, 114, 119, 120]
theorem known3 : getL knownT3 = some knownL3 ∧ may knownL3 = true ∧ textR knownL3 = knownT3 ∧ modeL knownL3 = 7 := by
  have h1 : may knownL3 = true := by decide
  have h2 : textL knownL3 = knownT3 := by simp only [textL, joinC, knownL3, List.map, partText, idText, hasId]; simp [itoa_0, itoa_5, itoa_9, itoa_max]; decide
  exact ⟨(get_iff _ _).2 ⟨h1, h2⟩, h1, by unfold textR; rw [if_pos h1]; exact h2, by decide⟩
end Go.Proofs.YtdjffnhkfpjafaaDoor
