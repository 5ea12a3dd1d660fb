/- The law FlagsWords, walked. -/
import Derived.Test.YtpknbdlemaehnaaDoorFlagsAwake
namespace Go.Proofs.YtpknbdlemaehnaaDoor
open Go.RowKit
open FlagsM
set_option linter.unusedVariables false

theorem beq_nil2 (A E : ByteArray) (h : E.data.toList = []) : (A.toList == E.toList) = decide (A.data.toList = []) := by rw [str_beq, h]
theorem textI_nat2 {n : Nat} (h : n < 16) : textI (n : Int) = textL n := by unfold textI; rw [if_pos (by omega), Int.toNat_natCast]

set_option maxHeartbeats 3200000 in
set_option maxRecDepth 100000 in
theorem flagsWords_walk (a0 : Int) (w : World) (hA : Amb w) (w0 : (Lit.int .u8 a0).wf = true) :
    Calls Tryd.prog 5 #[.int .u8 a0] w fun e w' => e = .returned (.bool true) ∧ Below w.heap.size w w' := by
  have hw0 : 0 ≤ a0 ∧ a0 ≤ 255 := by simpa [Lit.wf, IntKind.min, IntKind.max, IntKind.signed, IntKind.bits] using w0
  obtain ⟨k, hn, hk⟩ : ∃ k : Nat, a0 % 16 = (k : Int) ∧ k < 16 := ⟨(a0 % 16).toNat, by omega, by omega⟩
  have q0 : Int.tmod a0 16 = (k : Int) := by rw [Int.tmod_eq_emod_of_nonneg hw0.1]; exact hn
  obtain ⟨N0, hN0⟩ : ∃ O : ByteArray, (⟨#[117, 99, 104, 103]⟩ : ByteArray) = O := ⟨_, rfl⟩
  obtain ⟨N1, hN1⟩ : ∃ O : ByteArray, (⟨#[117, 97, 112, 112, 110, 100]⟩ : ByteArray) = O := ⟨_, rfl⟩
  obtain ⟨N2, hN2⟩ : ∃ O : ByteArray, (⟨#[110, 111, 100, 117, 109, 112]⟩ : ByteArray) = O := ⟨_, rfl⟩
  obtain ⟨N3, hN3⟩ : ∃ O : ByteArray, (⟨#[111, 112, 97, 113, 117, 101]⟩ : ByteArray) = O := ⟨_, rfl⟩
  have hx : ∀ i, i < 4 → ∃ X : ByteArray, Hid (X = strOf (nm i)) ∧ X.size ≤ 6 ∧ (#[.string N0, .string N1, .string N2, .string N3] : Array Value)[i]? = some (.string X) := by
    intro i hi
    obtain rfl | rfl | rfl | rfl : i = 0 ∨ i = 1 ∨ i = 2 ∨ i = 3 := by omega
    · exact ⟨N0, Lib.hid hN0.symm, by rw [← hN0]; decide, rfl⟩
    · exact ⟨N1, Lib.hid hN1.symm, by rw [← hN1]; decide, rfl⟩
    · exact ⟨N2, Lib.hid hN2.symm, by rw [← hN2]; decide, rfl⟩
    · exact ⟨N3, Lib.hid hN3.symm, by rw [← hN3]; decide, rfl⟩
  have Hx := Lib.hid hx
  have Hb := Lib.hid (fun i => bit_is k i (by omega))
  have HU := Lib.hid (fun i (hi : i ≤ 4) => up_len (n := k) (i := i) hk hi)
  obtain ⟨C1, hC1⟩ : ∃ O : ByteArray, (⟨#[44]⟩ : ByteArray) = O := ⟨_, rfl⟩
  have HC := Lib.hid (show C1.data.toList = [44] ∧ C1.size = 1 by rw [← hC1]; exact ⟨rfl, rfl⟩)
  obtain ⟨EE, hEE⟩ : ∃ O : ByteArray, (⟨#[]⟩ : ByteArray) = O := ⟨_, rfl⟩
  have HEl := Lib.hid (show EE.data.toList = [] by rw [← hEE])
  have Hs25 := Lib.hid (show (strOf (textL k)).size ≤ 25 by rw [strOf_size]; exact text_len hk)
  have ht0 := Lib.hid (fun w h => text_any (k : Int) w h)
  rw [textI_nat2 hk] at ht0
  have ht1 := Lib.hid (fun w h => text_any ((k : Int) + 16) w h)
  rw [show textI ((k : Int) + 16) = [] from if_neg (by omega), show strOf [] = EE from hEE] at ht1
  have hp := Lib.hid (fun w h => Parse_any (strOf (textL k)) (by have := Hs25.out; omega) w h)
  rw [strOf_list, (get_iff _ k).2 ⟨hk, rfl⟩] at hp
  have hp2 : Hid (∀ w, Amb w → Calls Tryd.prog 7 #[.string (strOf (textL k))] w fun e w' => e = .returned (.tuple #[.int .i64 (k : Int), .bool true]) ∧ Below w.heap.size w w') := Lib.hid hp.out
  have hy := Lib.hid (fun w => may_any (k : Int) w)
  rw [show mayI (k : Int) = true by unfold mayI; rw [decide_eq_true (show 0 ≤ (k : Int) by omega), decide_eq_true (show (k : Int) ≤ 15 by omega)]; rfl] at hy
  have haw := Lib.hid awake_true
  have hs1 : ((k : Int) == (k : Int)) = true := beq_self_eq_true _
  have hs3 : (EE.toList == EE.toList) = true := beq_self_eq_true _
  have wr1 : IntKind.i64.wrap ((k : Int) + 16) = (k : Int) + 16 := by rw [IntKind.wrap_i64]; omega
  have wr3 : wrap64 ((k : Int) + 16) = (k : Int) + 16 := by unfold wrap64; omega
  clear hx hp w0
  go_enter Tryd.func5, Tryd.ntmps5
  simp only [hC1, hEE, hN0, hN1, hN2, hN3]
  clear hC1 hEE hN0 hN1 hN2 hN3
  go_wp2_with fail
  obtain ⟨G, hG⟩ : ∃ G, w.heap.size = G := ⟨_, rfl⟩
  obtain ⟨W, hW⟩ : ∃ W, w.alloc (.cells #[.string N0, .string N1, .string N2, .string N3] 9) = W := ⟨_, rfl⟩
  have hblk : BlkIs W G 9 #[.string N0, .string N1, .string N2, .string N3] := by rw [← hW, ← hG]; exact BlkIs.made _ _ _
  have hbW : Below w.heap.size w W := by rw [← hW]; exact gr_alloc (Below.refl _ _) _
  try rw [hG]
  try rw [hW]
  go_loopw [5, 6] (fun sv iv wr => ∃ (i : Nat) (S : ByteArray), iv = .int .i64 (i : Int) ∧ i ≤ 4 ∧ sv = .string S ∧ Below w.heap.size w wr ∧ BlkIs wr G 9 #[.string N0, .string N1, .string N2, .string N3] ∧ Hid (S.data.toList = upTo k i)) (fun _ iv _ => 4 - (intOf iv).toNat)
  case atStart => exact ⟨0, EE, rfl, by omega, rfl, hbW, hblk, HEl⟩
  case round =>
    clear hbW hblk
    obtain ⟨i, S, rfl, hi, rfl, hbl, hblk, HR⟩ := hrel
    rename World => wr
    by_cases hlt : i < 4
    · have hlt' : decide ((i : Int) < 4) = true := decide_eq_true (by omega)
      have hlt2 : decide (i < 4) = true := decide_eq_true hlt
      obtain ⟨X, HX, hX6, hXc⟩ := Hx.out i hlt
      have hcell := hblk.cell_some i _ hXc
      have hul := HU.out i hi
      have hb := Hb.out i
      have hS : S.size ≤ 25 := by rw [← len_list, HR.out]; exact hul
      rcases hbit : isBit k i with _ | _
      · rw [hbit] at hb
        have HE : Hid (S.data.toList = upTo k (i + 1)) := Lib.hid (by rw [up_miss hbit]; exact HR.out)
        clear hbit HR hXc
        go_wp2_with fail
        go_roundw
        case rel => exact ⟨i + 1, S, rfl, by omega, rfl, hbl, hblk, HE⟩
        case measure => simp only [intOf]; omega
      · rw [hbit] at hb
        have HE := Lib.hid (up_hit hbit)
        clear hbit hXc
        have hne := beq_nil2 S EE HEl.out
        by_cases hl0 : S.data.toList = []
        · rw [decide_eq_true hl0] at hne
          obtain ⟨S1, hS1⟩ : ∃ O : ByteArray, S ++ X = O := ⟨_, rfl⟩
          have HE2 : Hid (S1.data.toList = upTo k (i + 1)) := Lib.hid (by rw [← hS1, bytes_list, HE.out, HX.out, strOf_list, ← HR.out, hl0]; rfl)
          have b1 : ¬ 9223372036854775807 < S.size + X.size := by omega
          clear HE hl0 HR
          go_wp2_with fail
          go_roundw
          case rel => exact ⟨i + 1, S1, rfl, by omega, by rw [← hS1], hbl, hblk, HE2⟩
          case measure => simp only [intOf]; omega
        · rw [decide_eq_false hl0] at hne
          obtain ⟨S1, hS1⟩ : ∃ O : ByteArray, S ++ C1 = O := ⟨_, rfl⟩
          obtain ⟨S2, hS2⟩ : ∃ O : ByteArray, S1 ++ X = O := ⟨_, rfl⟩
          have HE2 : Hid (S2.data.toList = upTo k (i + 1)) := Lib.hid (by rw [← hS2, bytes_list, ← hS1, bytes_list, HE.out, HX.out, HC.out.1, strOf_list, ← HR.out]; unfold addN; rw [if_neg hl0]; simp)
          have hc1 := HC.out.2
          have hs1 : S1.size = S.size + C1.size := by rw [← hS1, ByteArray.size_append]
          have b1 : ¬ 9223372036854775807 < S.size + C1.size := by omega
          have b3 : ¬ 9223372036854775807 < S.size + 1 := by omega
          have b2 : ¬ 9223372036854775807 < S1.size + X.size := by omega
          clear HE hl0 HR
          go_wp2_with fail
          go_roundw
          case rel => exact ⟨i + 1, S2, rfl, by omega, by rw [← hS2], hbl, hblk, HE2⟩
          case measure => simp only [intOf]; omega
    · obtain rfl : i = 4 := by omega
      obtain rfl : S = strOf (textL k) := str_eq HR.out
      clear Hx Hb HU hi hlt HR
      generalize strOf (textL k) = T at *
      have hself : (T.toList == T.toList) = true := beq_self_eq_true _
      go_wp2_with fail
      refine (hp2.out _ (hA.on hbl)).mono ?_
      rintro e w2 ⟨rfl, hb2⟩
      replace hb2 := gr_call hbl hb2
      clear hblk
      go_wp2_with fail
      refine (ht0.out _ (hA.on hb2)).mono ?_
      rintro e w3 ⟨rfl, hb3⟩
      replace hb3 := gr_call hb2 hb3
      go_wp2_with fail
      refine (hy.out _).mono ?_
      rintro e w4 ⟨rfl, rfl⟩
      go_wp2_with fail
      refine (ht1.out _ (hA.on hb3)).mono ?_
      rintro e w5 ⟨rfl, hb5⟩
      replace hb5 := gr_call hb3 hb5
      go_wp2_with fail
      refine (haw.out _ (hA.on hb5)).mono ?_
      rintro e w6 ⟨rfl, hb6⟩
      replace hb6 := gr_call hb5 hb6
      go_wp2_with fail
      go_ret
      exact ⟨rfl, hb6⟩
end Go.Proofs.YtpknbdlemaehnaaDoor
