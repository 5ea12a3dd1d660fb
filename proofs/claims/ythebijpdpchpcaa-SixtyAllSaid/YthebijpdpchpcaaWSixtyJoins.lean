/- The walk of the law SixtyJoins. -/
import Derived.Test.YthebijpdpchpcaaSixAwake
namespace Go.Proofs.Ythebijpdpchpcaa
open Go.RowKit
open SixM
set_option linter.unusedVariables false

theorem Put_is (s : ByteArray) (hs : s.size ≤ 30000) (r : ByteArray) (hr : r.data.toList = p3 s.data.toList) (w : World) :
    Calls Try.prog 10 #[.string s] w fun e w' => e = .returned (.string r) ∧ Below w.heap.size w w' := by
  refine (Put_any s hs w).mono ?_
  rintro e w' ⟨rfl, hb⟩
  exact ⟨ret_str (bytes_ext (by rw [hr])), hb⟩

set_option maxHeartbeats 1600000 in
theorem sixtyJoins_walk (a0 : ByteArray) (a1 : ByteArray) (w : World) (w0 : a0.size ≤ maxLen) (w1 : a1.size ≤ maxLen) :
    Calls Try.prog 5 #[.string a0, .string a1] w fun e w' => e = .returned (.bool true) ∧ Below w.heap.size w w' := by
  obtain ⟨n, hn⟩ : ∃ n, a0.size = n := ⟨_, rfl⟩
  obtain ⟨m, hm⟩ : ∃ m, a1.size = m := ⟨_, rfl⟩
  by_cases hle : n ≤ 200 ∧ m ≤ 200
  · obtain ⟨hn2, hm2⟩ := hle
    obtain ⟨k, hk⟩ : ∃ k : Nat, (n : Int) / 3 * 3 = (k : Int) ∧ k ≤ n ∧ k % 3 = 0 := ⟨n / 3 * 3, by omega, by omega, by omega⟩
    obtain ⟨hk, hkn, hk3⟩ := hk
    have h1 : ¬ (200 : Int) < (n : Int) := by omega
    have h2 : ¬ (200 : Int) < (m : Int) := by omega
    have h3 : ¬ (n : Int) < (k : Int) := by omega
    have h3' : (k : Int) ≤ (n : Int) := by omega
    obtain ⟨A, hA⟩ : ∃ A, a0.extract 0 k = A := ⟨_, rfl⟩
    have hAl : A.data.toList = a0.data.toList.take k := by rw [← hA, Lib.extract_data]; simp
    have h0l : a0.data.toList.length = n := by rw [← hn]; simp
    have h1l : a1.data.toList.length = m := by rw [← hm]; simp
    have hAn : A.data.toList.length = k := by rw [hAl, List.length_take]; omega
    have hAs : A.size = k := by rw [← hAn]; simp
    obtain ⟨R0, hR0⟩ : ∃ R0 : ByteArray, R0 = ⟨(p3 A.data.toList).toArray⟩ := ⟨_, rfl⟩
    obtain ⟨R1, hR1⟩ : ∃ R1 : ByteArray, R1 = ⟨(p3 a1.data.toList).toArray⟩ := ⟨_, rfl⟩
    have hR0l : R0.data.toList = p3 A.data.toList := by rw [hR0]
    have hR1l : R1.data.toList = p3 a1.data.toList := by rw [hR1]
    have hR0s : R0.size ≤ 1000 := by
      have h4 : R0.data.toList.length = R0.size := by simp
      rw [hR0l, p3_length] at h4
      omega
    have hR1s : R1.size ≤ 1000 := by
      have h4 : R1.data.toList.length = R1.size := by simp
      rw [hR1l, p3_length] at h4
      omega
    have H1 := Lib.hid (fun W => Put_is (A ++ a1) (by simp; omega) (R0 ++ R1) (by rw [bytes_list, bytes_list, hR0l, hR1l, p3_append _ _ (by omega)]) W)
    have H2 := Lib.hid (fun W => Put_is A (by omega) R0 hR0l W)
    have H3 := Lib.hid (fun W => Put_is a1 (by omega) R1 hR1l W)
    clear hR0 hR1 hR0l hR1l hAl h0l h1l hAn
    go_enter Try.func5, Try.ntmps5
    go_wp2_with fail
    refine (H1.out _).mono ?_
    rintro e w3 ⟨rfl, hb3⟩
    go_wp2_with fail
    refine (H2.out _).mono ?_
    rintro e w4 ⟨rfl, hb4⟩
    go_wp2_with fail
    refine (H3.out _).mono ?_
    rintro e w5 ⟨rfl, hb5⟩
    go_wp2_with fail
    refine (awake_true _).mono ?_
    rintro e w6 ⟨rfl, hb6⟩
    go_wp2_with fail
    go_ret
    exact ⟨rfl, bthen (bthen (bthen hb3 hb4) hb5) hb6⟩
  · rcases Classical.em (n ≤ 200) with h4 | h4
    · have h1 : ¬ (200 : Int) < (n : Int) := by omega
      have h2 : (200 : Int) < (m : Int) := by omega
      clear hle
      go_enter Try.func5, Try.ntmps5
      go_wp2_with fail
      refine (awake_true _).mono ?_
      rintro e w6 ⟨rfl, hb6⟩
      go_wp2_with fail
      go_ret
      exact ⟨rfl, hb6⟩
    · have h1 : (200 : Int) < (n : Int) := by omega
      clear hle
      go_enter Try.func5, Try.ntmps5
      go_wp2_with fail
      refine (awake_true _).mono ?_
      rintro e w6 ⟨rfl, hb6⟩
      go_wp2_with fail
      go_ret
      exact ⟨rfl, hb6⟩
end Go.Proofs.Ythebijpdpchpcaa
