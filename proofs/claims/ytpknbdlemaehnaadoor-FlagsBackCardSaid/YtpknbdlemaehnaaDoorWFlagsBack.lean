/- The law FlagsBack, walked. -/
import Derived.Test.YtpknbdlemaehnaaDoorFlagsAwake
namespace Go.Proofs.YtpknbdlemaehnaaDoor
open Go.RowKit
open FlagsM
set_option linter.unusedVariables false

theorem end_tab2 : ∀ n : Fin 16, getL (textL n.val ++ [44]) = none := by decide +kernel
theorem textI_nat {n : Nat} (h : n < 16) : textI (n : Int) = textL n := by unfold textI; rw [if_pos (by omega), Int.toNat_natCast]

set_option maxHeartbeats 1600000 in
set_option maxRecDepth 100000 in
theorem flagsBack_walk (a0 : Int) (a1 : Int) (w : World) (hA : Amb w) (w0 : (Lit.int .u8 a0).wf = true) (w1 : (Lit.int .u8 a1).wf = true) :
    Calls Tryd.prog 4 #[.int .u8 a0, .int .u8 a1] w fun e w' => e = .returned (.bool true) ∧ Below w.heap.size w w' := by
  have hw0 : 0 ≤ a0 ∧ a0 ≤ 255 := by simpa [Lit.wf, IntKind.min, IntKind.max, IntKind.signed, IntKind.bits] using w0
  have hw1 : 0 ≤ a1 ∧ a1 ≤ 255 := by simpa [Lit.wf, IntKind.min, IntKind.max, IntKind.signed, IntKind.bits] using w1
  obtain ⟨n, hn, hn16⟩ : ∃ n : Nat, a0 % 16 = (n : Int) ∧ n < 16 := ⟨(a0 % 16).toNat, by omega, by omega⟩
  obtain ⟨m, hm, hm16⟩ : ∃ m : Nat, a1 % 16 = (m : Int) ∧ m < 16 := ⟨(a1 % 16).toNat, by omega, by omega⟩
  have q0 : Int.tmod a0 16 = (n : Int) := by rw [Int.tmod_eq_emod_of_nonneg hw0.1]; exact hn
  have q1 : Int.tmod a1 16 = (m : Int) := by rw [Int.tmod_eq_emod_of_nonneg hw1.1]; exact hm
  have hS25 : (strOf (textL n)).size ≤ 25 := by rw [strOf_size]; exact text_len hn16
  have ht0 := Lib.hid (fun w h => text_any (n : Int) w h)
  have ht1 := Lib.hid (fun w h => text_any (m : Int) w h)
  rw [textI_nat hn16] at ht0
  rw [textI_nat hm16] at ht1
  have hp0 := Lib.hid (fun w h => Parse_any (strOf (textL n)) (by omega) w h)
  rw [strOf_list, (get_iff _ n).2 ⟨hn16, rfl⟩] at hp0
  have hp0' : Hid (∀ w, Amb w → Calls Tryd.prog 7 #[.string (strOf (textL n))] w fun e w' => e = .returned (.tuple #[.int .i64 (n : Int), .bool true]) ∧ Below w.heap.size w w') := Lib.hid hp0.out
  obtain ⟨A1, hA1⟩ : ∃ O : ByteArray, (⟨#[110, 111, 100, 117, 109, 112, 44, 117, 99, 104, 103]⟩ : ByteArray) = O := ⟨_, rfl⟩
  obtain ⟨A2, hA2⟩ : ∃ O : ByteArray, (⟨#[117, 99, 104, 103, 44, 117, 99, 104, 103]⟩ : ByteArray) = O := ⟨_, rfl⟩
  obtain ⟨A3, hA3⟩ : ∃ O : ByteArray, (⟨#[85, 67, 72, 71]⟩ : ByteArray) = O := ⟨_, rfl⟩
  obtain ⟨C1, hC1⟩ : ∃ O : ByteArray, (⟨#[44]⟩ : ByteArray) = O := ⟨_, rfl⟩
  have no : ∀ (S : ByteArray), S.size ≤ 100 → getL S.data.toList = none → ∀ w, Amb w → Calls Tryd.prog 7 #[.string S] w fun e w' => e = .returned (.tuple #[.int .i64 0, .bool false]) ∧ Below w.heap.size w w' := by
    intro S h1 h2 w h
    have := Parse_any S (by omega) w h
    rw [h2] at this
    exact this
  have hp1 := Lib.hid (no A1 (by rw [← hA1]; decide) (by rw [← hA1]; decide +kernel))
  have hp2 := Lib.hid (no A2 (by rw [← hA2]; decide) (by rw [← hA2]; decide +kernel))
  have hp4 := Lib.hid (no A3 (by rw [← hA3]; decide) (by rw [← hA3]; decide +kernel))
  have hc1 : C1.size = 1 := by rw [← hC1]; rfl
  have hp3 := Lib.hid (no (strOf (textL n) ++ C1) (by rw [ByteArray.size_append]; omega) (by rw [bytes_list, strOf_list, ← hC1]; exact end_tab2 ⟨n, hn16⟩))
  have hy1 := Lib.hid (fun w => may_any ((n : Int) + 16) w)
  have hy2 := Lib.hid (fun w => may_any (-1 - (n : Int)) w)
  rw [show mayI ((n : Int) + 16) = false by unfold mayI; rw [decide_eq_false (show ¬ (n : Int) + 16 ≤ 15 by omega), Bool.and_false]] at hy1
  rw [show mayI (-1 - (n : Int)) = false by unfold mayI; rw [decide_eq_false (show ¬ 0 ≤ -1 - (n : Int) by omega)]; rfl] at hy2
  have haw := Lib.hid awake_true
  have hs1 : ((n : Int) == (n : Int)) = true := beq_self_eq_true _
  have hbt : ((strOf (textL m)).toList == (strOf (textL n)).toList) = decide (m = n) := by
    rw [str_beq, strOf_list, strOf_list]
    rw [decide_eq_decide]
    exact ⟨fun h => text_inj hm16 hn16 h, fun h => by rw [h]⟩
  have hbn : ((m : Int) == (n : Int)) = decide (m = n) := by
    rw [Bool.eq_iff_iff, beq_iff_eq, decide_eq_true_eq]
    omega
  generalize strOf (textL n) = S at *
  generalize strOf (textL m) = T at *
  have b1 : ¬ 9223372036854775807 < S.size + C1.size := by omega
  have b2 : ¬ 9223372036854775807 < S.size + 1 := by omega
  have Wr1 := Lib.hid (show IntKind.i64.wrap ((n : Int) + 16) = (n : Int) + 16 by rw [IntKind.wrap_i64]; omega)
  have Wr2 := Lib.hid (show IntKind.i64.wrap (-1 - (n : Int)) = -1 - (n : Int) by rw [IntKind.wrap_i64]; omega)
  clear w0 w1 no hp0
  rcases hmn : decide (m = n) with _ | _
  · rw [hmn] at hbt hbn
    clear hmn
    go_enter Tryd.func4, Tryd.ntmps4
    simp only [hA1, hA2, hA3, hC1]
    go_wp2_with fail
    refine (ht0.out _ hA).mono ?_
    rintro e w1 ⟨rfl, hb1⟩
    go_wp2_with fail
    refine (hp0'.out _ (hA.on hb1)).mono ?_
    rintro e w2 ⟨rfl, hb2⟩
    replace hb2 := gr_call hb1 hb2
    go_wp2_with fail
    refine (hp1.out _ (hA.on hb2)).mono ?_
    rintro e w3 ⟨rfl, hb3⟩
    replace hb3 := gr_call hb2 hb3
    go_wp2_with fail
    refine (hp2.out _ (hA.on hb3)).mono ?_
    rintro e w4 ⟨rfl, hb4⟩
    replace hb4 := gr_call hb3 hb4
    go_wp2_with fail
    refine (hp3.out _ (hA.on hb4)).mono ?_
    rintro e w5 ⟨rfl, hb5⟩
    replace hb5 := gr_call hb4 hb5
    go_wp2_with fail
    refine (hp4.out _ (hA.on hb5)).mono ?_
    rintro e w6 ⟨rfl, hb6⟩
    replace hb6 := gr_call hb5 hb6
    clear hb1 hb2 hb3 hb4 hb5
    go_wp2_with fail
    refine (ht1.out _ (hA.on hb6)).mono ?_
    rintro e w7 ⟨rfl, hb7⟩
    replace hb7 := gr_call hb6 hb7
    have wr1 := Wr1.out
    go_wp2_with fail
    refine (hy1.out _).mono ?_
    rintro e w8 ⟨rfl, rfl⟩
    clear wr1
    have wr2 := Wr2.out
    go_wp2_with fail
    refine (hy2.out _).mono ?_
    rintro e w8 ⟨rfl, rfl⟩
    go_wp2_with fail
    refine (haw.out _ (hA.on hb7)).mono ?_
    rintro e w9 ⟨rfl, hb9⟩
    replace hb9 := gr_call hb7 hb9
    go_wp2_with fail
    go_ret
    exact ⟨rfl, hb9⟩
  · rw [hmn] at hbt hbn
    clear hmn
    go_enter Tryd.func4, Tryd.ntmps4
    simp only [hA1, hA2, hA3, hC1]
    go_wp2_with fail
    refine (ht0.out _ hA).mono ?_
    rintro e w1 ⟨rfl, hb1⟩
    go_wp2_with fail
    refine (hp0'.out _ (hA.on hb1)).mono ?_
    rintro e w2 ⟨rfl, hb2⟩
    replace hb2 := gr_call hb1 hb2
    go_wp2_with fail
    refine (hp1.out _ (hA.on hb2)).mono ?_
    rintro e w3 ⟨rfl, hb3⟩
    replace hb3 := gr_call hb2 hb3
    go_wp2_with fail
    refine (hp2.out _ (hA.on hb3)).mono ?_
    rintro e w4 ⟨rfl, hb4⟩
    replace hb4 := gr_call hb3 hb4
    go_wp2_with fail
    refine (hp3.out _ (hA.on hb4)).mono ?_
    rintro e w5 ⟨rfl, hb5⟩
    replace hb5 := gr_call hb4 hb5
    go_wp2_with fail
    refine (hp4.out _ (hA.on hb5)).mono ?_
    rintro e w6 ⟨rfl, hb6⟩
    replace hb6 := gr_call hb5 hb6
    clear hb1 hb2 hb3 hb4 hb5
    go_wp2_with fail
    refine (ht1.out _ (hA.on hb6)).mono ?_
    rintro e w7 ⟨rfl, hb7⟩
    replace hb7 := gr_call hb6 hb7
    have wr1 := Wr1.out
    go_wp2_with fail
    refine (hy1.out _).mono ?_
    rintro e w8 ⟨rfl, rfl⟩
    clear wr1
    have wr2 := Wr2.out
    go_wp2_with fail
    refine (hy2.out _).mono ?_
    rintro e w8 ⟨rfl, rfl⟩
    go_wp2_with fail
    refine (haw.out _ (hA.on hb7)).mono ?_
    rintro e w9 ⟨rfl, hb9⟩
    replace hb9 := gr_call hb7 hb9
    go_wp2_with fail
    go_ret
    exact ⟨rfl, hb9⟩
end Go.Proofs.YtpknbdlemaehnaaDoor
