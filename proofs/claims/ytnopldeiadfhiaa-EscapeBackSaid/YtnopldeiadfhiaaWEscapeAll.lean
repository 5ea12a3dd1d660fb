/- The walk of the law EscapeAll. -/
import Derived.Test.YtnopldeiadfhiaaRefEscGet
namespace Go.Proofs.Ytnopldeiadfhiaa
open Go.RowKit
open EscM
set_option linter.unusedVariables false

theorem Put_is (s : ByteArray) (hs : s.size ≤ 30000) (r : ByteArray) (hr : r.data.toList = put s.data.toList) (w : World) :
    Calls Try.prog 9 #[.string s] w fun e w' => e = .returned (.string r) ∧ Below w.heap.size w w' := by
  refine (Put_any s hs w).mono ?_
  rintro e w' ⟨rfl, hb⟩
  exact ⟨ret_str (bytes_ext (by rw [hr])), hb⟩
theorem both_is (t : ByteArray) : ∃ (X : ByteArray) (b : Bool), getRet (EscM.get t.data.toList) = .tuple #[.string X, .bool b] ∧ escSaid (EscM.get t.data.toList) = .agg #[.string X, .bool b] := by
  cases EscM.get t.data.toList with
  | none => exact ⟨_, _, rfl, rfl⟩
  | some l => exact ⟨_, _, rfl, rfl⟩
theorem refEscape_is (s : ByteArray) (hs : s.size ≤ 20000) (r : ByteArray) (hr : r.data.toList = put s.data.toList) (w : World) :
    Calls Try.prog 10 #[.string s] w fun e w' => e = .returned (.string r) ∧ Below w.heap.size w w' := by
  refine (refEscape_any s hs w).mono ?_
  rintro e w' ⟨rfl, hb⟩
  exact ⟨ret_str (bytes_ext (by rw [hr])), hb⟩

set_option maxHeartbeats 1600000 in
theorem escapeAll_walk (a0 : ByteArray) (a1 : ByteArray) (w : World) (w0 : a0.size ≤ maxLen) (w1 : a1.size ≤ maxLen) :
    Calls Try.prog 3 #[.string a0, .string a1] w fun e w' => e = .returned (.bool true) ∧ Below w.heap.size w w' := by
  obtain ⟨n, hn⟩ : ∃ n, a0.size = n := ⟨_, rfl⟩
  obtain ⟨m, hm⟩ : ∃ m, a1.size = m := ⟨_, rfl⟩
  by_cases hle : n ≤ 300 ∧ m ≤ 400
  · obtain ⟨hn2, hm2⟩ := hle
    have h1 : ¬ (300 : Int) < (n : Int) := by omega
    have h2 : ¬ (400 : Int) < (m : Int) := by omega
    obtain ⟨X, b, hX, hY⟩ := both_is a1
    obtain ⟨R, hR⟩ : ∃ R : ByteArray, R = ⟨(put a0.data.toList).toArray⟩ := ⟨_, rfl⟩
    have hRl : R.data.toList = put a0.data.toList := by rw [hR]
    have H1 := Lib.hid (fun W => hX ▸ Get_any a1 (by omega) W)
    have H2 := Lib.hid (fun W => hY ▸ refGet_any a1 (by omega) W)
    have H3 := Lib.hid (fun W => Put_is a0 (by omega) R hRl W)
    have H4 := Lib.hid (fun W => refEscape_is a0 (by omega) R hRl W)
    clear hX hY hR hRl
    go_enter Try.func3, Try.ntmps3
    go_wp2_with fail
    refine (H1.out _).mono ?_
    rintro e w2 ⟨rfl, hb2⟩
    go_wp2_with fail
    refine (H2.out _).mono ?_
    rintro e w3 ⟨rfl, hb3⟩
    have hb := bthen hb2 hb3
    clear hb2 hb3
    go_wp2_with fail
    refine (H3.out _).mono ?_
    rintro e w4 ⟨rfl, hb4⟩
    have hc4 := cell_kept hb4 (a := ⟨w3.heap.size, 0, none⟩) (v := .string X) (by simp [go_sem])
    have hd4 := cell_kept hb4 (a := ⟨w3.heap.size, 1, none⟩) (v := .bool b) (by simp [go_sem])
    have hB4 : Below w.heap.size w w4 := gr_call (gr_alloc hb _) hb4
    clear hb4 hb
    go_wp2_with fail
    refine (H4.out _).mono ?_
    rintro e w5 ⟨rfl, hb5⟩
    have hc5 := cell_kept hb5 hc4
    have hd5 := cell_kept hb5 hd4
    have hB5 := gr_call hB4 hb5
    clear hb5 hB4 hc4 hd4
    go_wp2_with fail
    refine (awake_true _).mono ?_
    rintro e w6 ⟨rfl, hb6⟩
    go_wp2_with fail
    go_ret
    exact ⟨rfl, gr_call hB5 hb6⟩
  · rcases Classical.em (n ≤ 300) with h4 | h4
    · have h1 : ¬ (300 : Int) < (n : Int) := by omega
      have h2 : (400 : Int) < (m : Int) := by omega
      clear hle
      go_enter Try.func3, Try.ntmps3
      go_wp2_with fail
      refine (awake_true _).mono ?_
      rintro e w6 ⟨rfl, hb6⟩
      go_wp2_with fail
      go_ret
      exact ⟨rfl, hb6⟩
    · have h1 : (300 : Int) < (n : Int) := by omega
      clear hle
      go_enter Try.func3, Try.ntmps3
      go_wp2_with fail
      refine (awake_true _).mono ?_
      rintro e w6 ⟨rfl, hb6⟩
      go_wp2_with fail
      go_ret
      exact ⟨rfl, hb6⟩
end Go.Proofs.Ytnopldeiadfhiaa
