/- The walk of the law EscapeBytes. -/
import Derived.Test.YtnopldeiadfhiaaWEscapeAll
namespace Go.Proofs.Ytnopldeiadfhiaa
open Go.RowKit
open EscM
set_option linter.unusedVariables false

theorem bytes_same (s : ByteArray) : (⟨s.data.toList.toArray⟩ : ByteArray) = s := bytes_ext (by simp)
theorem Get_is (t : ByteArray) (ht : t.size ≤ 30000) (s : ByteArray) (hl : put s.data.toList = t.data.toList) (w : World) :
    Calls Try.prog 7 #[.string t] w fun e w' => e = .returned (.tuple #[.string s, .bool true]) ∧ Below w.heap.size w w' := by
  have := Get_yes t ht _ hl w
  rw [bytes_same] at this
  exact this

set_option maxHeartbeats 1600000 in
theorem escapeBytes_walk (a0 : Int) (w : World) (w0 : (Lit.int .u8 a0).wf = true) :
    Calls Try.prog 5 #[.int .u8 a0] w fun e w' => e = .returned (.bool true) ∧ Below w.heap.size w w' := by
  have ha0 : 0 ≤ a0 ∧ a0 ≤ 255 := by simpa [Lit.wf, IntKind.min, IntKind.max, IntKind.signed, IntKind.bits] using w0
  clear w0
  obtain ⟨c, hc⟩ : ∃ c : UInt8, a0 = (c.toNat : Int) := ⟨UInt8.ofNat a0.toNat, by simp; omega⟩
  obtain ⟨S, hS⟩ : ∃ S : ByteArray, S = ⟨#[c]⟩ := ⟨_, rfl⟩
  have hSl : S.data.toList = [c] := by rw [hS]
  have hcv : ∀ W : World, (convert 30 9 (.slice (some ⟨W.heap.size, 0, none⟩) 1 1)).run Try.prog (W.alloc (.cells #[.int .u8 a0] 5)) = .ok (.string S) (W.alloc (.cells #[.int .u8 a0] 5)) := fun W => by
    rw [hS]
    exact conv_one Try.underlying30 Try.underlying5 Try.underlying9 c a0 hc W
  obtain ⟨P, hP⟩ : ∃ P : ByteArray, P = ⟨(put S.data.toList).toArray⟩ := ⟨_, rfl⟩
  have hPl : P.data.toList = put S.data.toList := by rw [hP]
  have hSs : S.size = 1 := by rw [hS]; rfl
  have hPs : P.size = (enc c).length := by
    have h3 : P.data.toList.length = P.size := by simp
    rw [← h3, hPl, hSl]
    simp [put]
  have hP3 : P.size ≤ 3 := by rw [hPs]; exact enc_len c
  have H1 := Lib.hid (fun W => Put_is S (by omega) P hPl W)
  have H2 := Lib.hid (fun W => Get_is P (by omega) S hPl.symm W)
  have H4 := Lib.hid (fun W => Put_is ⟨#[]⟩ (by decide) ⟨#[]⟩ rfl W)
  by_cases hs : self c = true
  · have hPS : P = S := bytes_ext (by rw [hPl, hSl]; simp [put, enc, hs])
    subst hPS
    simp only [self, Bool.and_eq_true, decide_eq_true_eq] at hs
    obtain ⟨⟨⟨h1, h2⟩, h3⟩, h4⟩ := hs
    have g1 : (33 : Int) ≤ a0 := by omega
    have g2 : a0 ≤ 126 := by omega
    have g3 : (a0 != 37) = true := by simp; omega
    have g4 : (a0 != 61) = true := by simp; omega
    clear hc hS hSl hP hPl hPs h1 h2 h3 h4
    go_enter Try.func5, Try.ntmps5
    have hcvw := hcv w
    clear hcv
    go_wp2_with fail
    refine (H1.out _).mono ?_
    rintro e w2 ⟨rfl, hb2⟩
    have hB2 : Below w.heap.size w w2 := gr_call (gr_alloc (Below.refl _ _) _) hb2
    clear hb2 hcvw
    go_wp2_with fail
    refine (H2.out _).mono ?_
    rintro e w3 ⟨rfl, hb3⟩
    have hB3 := gr_call hB2 hb3
    clear hb3 hB2
    go_wp2_with fail
    refine (H2.out _).mono ?_
    rintro e w4 ⟨rfl, hb4⟩
    have hB4 := gr_call hB3 hb4
    clear hb4 hB3
    go_wp2_with fail
    refine (H4.out _).mono ?_
    rintro e w5 ⟨rfl, hb5⟩
    have hB5 := gr_call hB4 hb5
    clear hb5 hB4
    go_wp2_with fail
    refine (awake_true _).mono ?_
    rintro e w6 ⟨rfl, hb6⟩
    go_wp2_with fail
    go_ret
    exact ⟨rfl, gr_call hB5 hb6⟩
  · have hP3 : P.size = 3 := by rw [hPs, enc, if_neg hs]; rfl
    have hne : (P.toList == S.toList) = false := by
      rw [beq_eq_false_iff_ne, ByteArray.toList_eq, ByteArray.toList_eq]
      intro h
      have h2 : P.size = S.size := by rw [bytes_ext h]
      omega
    have hnone : EscM.get S.data.toList = none := by
      rw [hSl]
      by_cases h37 : c.toNat = 37
      · exact get_short c _ h37 (by simp)
      · rw [get_plain c _ h37, if_neg hs]
    have H3 := Lib.hid (fun W => Get_no S (by omega) hnone W)
    have hcase : (¬ (33 : Int) ≤ a0) ∨ ((33 : Int) ≤ a0 ∧ ¬ a0 ≤ 126) ∨ ((33 : Int) ≤ a0 ∧ a0 ≤ 126 ∧ (a0 != 37) = false) ∨ ((33 : Int) ≤ a0 ∧ a0 ≤ 126 ∧ (a0 != 37) = true ∧ (a0 != 61) = false) := by
      rw [bne_eq_false_iff_eq, bne_eq_false_iff_eq, bne_iff_ne]
      simp only [self, Bool.and_eq_true, decide_eq_true_eq] at hs
      omega
    clear hc hS hSl hP hPl hPs hs hnone
    rcases hcase with h | ⟨h, k2⟩ | ⟨h, k2, k3⟩ | ⟨h, k2, k3, k4⟩
    all_goals
      go_enter Try.func5, Try.ntmps5
      have hcvw := hcv w
      clear hcv
      go_wp2_with fail
      refine (H1.out _).mono ?_
      rintro e w2 ⟨rfl, hb2⟩
      have hB2 : Below w.heap.size w w2 := gr_call (gr_alloc (Below.refl _ _) _) hb2
      clear hb2 hcvw
      go_wp2_with fail
      refine (H2.out _).mono ?_
      rintro e w3 ⟨rfl, hb3⟩
      have hB3 := gr_call hB2 hb3
      clear hb3 hB2
      go_wp2_with fail
      refine (H3.out _).mono ?_
      rintro e w4 ⟨rfl, hb4⟩
      have hB4 := gr_call hB3 hb4
      clear hb4 hB3
      go_wp2_with fail
      refine (H4.out _).mono ?_
      rintro e w5 ⟨rfl, hb5⟩
      have hB5 := gr_call hB4 hb5
      clear hb5 hB4
      go_wp2_with fail
      refine (awake_true _).mono ?_
      rintro e w6 ⟨rfl, hb6⟩
      go_wp2_with fail
      go_ret
      exact ⟨rfl, gr_call hB5 hb6⟩
end Go.Proofs.Ytnopldeiadfhiaa
