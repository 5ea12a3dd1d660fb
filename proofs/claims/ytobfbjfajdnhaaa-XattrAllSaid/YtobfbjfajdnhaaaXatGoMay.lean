/- Package xattr: May. -/
import Derived.Test.YtobfbjfajdnhaaaXatRow
import Derived.Test.YtobfbjfajdnhaaaXatSame
import Derived.Test.YtobfbjfajdnhaaaChecked
import Derived.Lib.Bytealg
import Derived.Lib.IndexLaws
import Derived.Laws.Externs
import Derived.Sort.Walk0
import Derived.Deep.QuietTactic
import Derived.BigQuiet
import Derived.Outline
namespace Go.Proofs.Ytobfbjfajdnhaaa
open Go.RowKit
open XatM
set_option linter.unusedVariables false

theorem liteIndexByte_go (s : ByteArray) (c : Int) (w : World) :
    Calls Try.prog 39 #[.string s, .int .u8 c] w fun e w' => e = .returned (.int .i64 (Lib.indexByte s.data.toList c.toNat.toUInt8)) ∧ w' = w := by
  go_enter Try.func39, Try.ntmps39
  go_wp2
  rw [run_callFunc_extern Try.func55 (by kernel_rfl) (by kernel_rfl) (by kernel_rfl) (e := Extern.BytealgIndexByte.indexByte) (by kernel_rfl), Lib.run_indexByteString]
  simp only [Result.andThen]
  rw [Oper.upon_value]
  go_wp2
  go_ret
  exact ⟨rfl, rfl⟩
theorem indexByte_go (s : ByteArray) (c : Int) (w : World) :
    Calls Try.prog 29 #[.string s, .int .u8 c] w fun e w' => e = .returned (.int .i64 (Lib.indexByte s.data.toList c.toNat.toUInt8)) ∧ w' = w := by
  have H := Lib.hid (liteIndexByte_go s c)
  go_enter Try.func29, Try.ntmps29
  go_wp2_with fail
  refine (H.out _).mono ?_
  rintro e w' ⟨rfl, rfl⟩
  go_wp2_with fail
  go_ret
  exact ⟨rfl, rfl⟩
theorem index_neg (l : List UInt8) (c : UInt8) : Lib.indexByte l c < 0 ↔ l.contains c = false := by
  induction l with
  | nil => simp [Lib.indexByte]
  | cons b l ih =>
    unfold Lib.indexByte
    by_cases h : b = c
    · subst h; simp
    · have h2 : ¬ c = b := fun e => h e.symm
      simp only [List.contains_cons, beq_eq_false_iff_ne.2 h2, Bool.false_or, ← ih]
      simp only [h, if_false, beq_iff_eq]
      first
        | (split <;> omega)
        | skip
/-- What package xattr asks of a name. -/
def nameOk (n : List UInt8) : Bool := decide (n ≠ []) && !n.contains 0 && decide ((EscM.put n).length ≤ 238)
/-- escape.Put. -/
def PutC : Prop := ∀ (s : ByteArray) (hs : s.size ≤ 30000) (w : World), Calls Try.prog 31 #[.string s] w fun e w' => e = .returned (.string ⟨(EscM.put s.data.toList).toArray⟩) ∧ Below w.heap.size w w'

theorem mayName_any (HP : PutC) (N : ByteArray) (w : World) :
    Calls Try.prog 26 #[.string N] w fun e w' => e = .returned (.bool (nameOk N.data.toList)) ∧ Below w.heap.size w w' := by
  have hNs : N.size = N.data.toList.length := rfl
  have hNe : N.toList = N.data.toList := Lib.toList_data N
  obtain ⟨n, hn⟩ : ∃ n, N.data.toList = n := ⟨_, rfl⟩
  have HP2 := Lib.hid (HP N)
  have HI := Lib.hid (indexByte_go N 0)
  simp only [hn] at HP2 HI
  rw [hn] at hNs hNe ⊢
  clear HP
  by_cases k1 : n = []
  · have HE := Lib.hid (show nameOk n = false by rw [k1]; rfl)
    have hq2 : N.toList.isEmpty = true := by rw [hNe, k1]; rfl
    clear k1 hn hNs hNe
    go_enter Try.func26, Try.ntmps26
    go_wp2_with fail
    go_ret
    exact ⟨ret_bool HE.out.symm, Below.refl _ _⟩
  have hq2 : N.toList.isEmpty = false := by rw [hNe]; cases n with | nil => exact absurd rfl k1 | cons => rfl
  by_cases k2 : 238 < n.length
  · have HE := Lib.hid (show nameOk n = false by unfold nameOk; rw [decide_eq_false (p := (EscM.put n).length ≤ 238) (by have := put_mono n; omega), Bool.and_false])
    have f3 : decide ((238 : Int) < (N.size : Int)) = true := decide_eq_true (by omega)
    have f4 : decide (238 < N.size) = true := decide_eq_true (by omega)
    clear k1 k2 hn hNs hNe
    go_enter Try.func26, Try.ntmps26
    go_wp2_with fail
    go_ret
    exact ⟨ret_bool HE.out.symm, Below.refl _ _⟩
  have f3 : decide ((238 : Int) < (N.size : Int)) = false := decide_eq_false (by omega)
  have f4 : decide (238 < N.size) = false := decide_eq_false (by omega)
  obtain ⟨q, hqi⟩ : ∃ q, Lib.indexByte n (0 : Int).toNat.toUInt8 = q := ⟨_, rfl⟩
  have hqn := index_neg n (0 : Int).toNat.toUInt8
  rw [hqi] at HI hqn
  by_cases k3 : n.contains 0 = true
  · have HE := Lib.hid (show nameOk n = false by unfold nameOk; rw [k3]; simp)
    have f5 : decide (q < 0) = false := decide_eq_false (by rw [hqn, show (0 : Int).toNat.toUInt8 = (0 : UInt8) from rfl, k3]; simp)
    clear k1 k2 k3 hn hNs hNe hqi hqn
    go_enter Try.func26, Try.ntmps26
    go_wp2_with fail
    refine (HI.out _).mono ?_
    rintro e w1 ⟨rfl, rfl⟩
    go_wp2_with fail
    go_ret
    exact ⟨ret_bool HE.out.symm, Below.refl _ _⟩
  · have k3' : n.contains 0 = false := by simpa using k3
    have f5 : decide (q < 0) = true := decide_eq_true (by rw [hqn]; exact k3')
    obtain ⟨P, hP⟩ : ∃ P : ByteArray, ⟨(EscM.put n).toArray⟩ = P := ⟨_, rfl⟩
    have hPs : P.size = (EscM.put n).length := by rw [← hP]; simp [ByteArray.size]
    have HP3 := Lib.hid (HP2.out (by omega))
    rw [hP] at HP3
    have HE := Lib.hid (show nameOk n = decide ((P.size : Int) ≤ 238) by
      unfold nameOk
      rw [decide_eq_true k1, k3', hPs, Bool.not_false, Bool.true_and, Bool.true_and]
      exact decide_eq_decide.2 (by omega))
    clear k1 k2 k3 k3' hn hNs hNe hqi hqn hP HP2 hPs
    go_enter Try.func26, Try.ntmps26
    go_wp2_with fail
    refine (HI.out _).mono ?_
    rintro e w1 ⟨rfl, rfl⟩
    go_wp2_with fail
    refine (HP3.out _).mono ?_
    rintro e w1 ⟨rfl, hb⟩
    go_wp2_with fail
    go_ret
    exact ⟨ret_bool HE.out.symm, hb⟩
end Go.Proofs.Ytobfbjfajdnhaaa
