/- Small facts for the walks over records. -/
import Derived.Test.YtajjhndpdjfcpaaDec
import Derived.Test.YtajjhndpdjfcpaaKit
import Derived.Test.YtajjhndpdjfcpaaRows
import Derived.Deep.QuietTactic
import Derived.Deep.RegionHeld3
import Derived.BigQuiet
import Derived.Outline
import Derived.Below
namespace Go.Proofs.Ytajjhndpdjfcpaa
open Go.RowKit
set_option linter.unusedVariables false

/-- The letter at a place of a string. -/
theorem idxAt {P : Program} {t : TypeId} (ht : P.underlying t = some .string) (S : ByteArray) (i : Nat) (h : i < S.size) : ∃ c : UInt8, S.data.toList[i]? = some c ∧ ∀ w, (Instr.index t (.string S) (.int .i64 (i : Int))).run P w = .ok (.int .u8 (c.toNat : Int)) w := by
  refine ⟨S[i], ?_, ?_⟩
  · rw [List.getElem?_eq_getElem (by simpa using h)]; rfl
  · intro w
    simp [go_sem, ht, h]
theorem dropAt {l : List UInt8} {i : Nat} {c : UInt8} (h : l[i]? = some c) : l.drop i = c :: l.drop (i + 1) := by
  obtain ⟨hi, rfl⟩ := List.getElem?_eq_some_iff.1 h
  exact List.drop_eq_getElem_cons hi
theorem len_list (S : ByteArray) : S.data.toList.length = S.size := by simp
/-- A string by its bytes. -/
def strOf (l : List UInt8) : ByteArray := ⟨l.toArray⟩
theorem strOf_list (l : List UInt8) : (strOf l).data.toList = l := by simp [strOf]
theorem strOf_size (l : List UInt8) : (strOf l).size = l.length := by rw [← len_list, strOf_list]
theorem strOf_self (S : ByteArray) : strOf S.data.toList = S := bytes_ext (by rw [strOf_list])
theorem strOf_eq {l m : List UInt8} (h : l = m) : strOf l = strOf m := by rw [h]
theorem str_eq {S : ByteArray} {l : List UInt8} (h : S.data.toList = l) : S = strOf l := by rw [← h, strOf_self]
theorem toNat_ne {a b : UInt8} (h : a ≠ b) : ((a.toNat : Int) == (b.toNat : Int)) = false := by
  rw [beq_eq_false_iff_ne]
  intro e
  exact h (UInt8.toNat_inj.1 (by omega))
theorem str_beq (A B : ByteArray) : (A.toList == B.toList) = decide (A.data.toList = B.data.toList) := by
  have e : ∀ X : ByteArray, X.toList = X.data.toList := fun X => Lib.toList_data X
  rw [e, e]
  by_cases h : A.data.toList = B.data.toList
  · rw [h, decide_eq_true rfl]; exact beq_self_eq_true _
  · rw [decide_eq_false h, beq_eq_false_iff_ne]; exact h
end Go.Proofs.Ytajjhndpdjfcpaa
