/- The document's answer: a number's text, what a text says. -/
import Derived.Test.YtpknbdlemaehnaaDoorFlagsText
namespace Go.Proofs.YtpknbdlemaehnaaDoor
open Go.RowKit
open FlagsM
set_option linter.unusedVariables false

theorem beq_nil (A E : ByteArray) (h : E.data.toList = []) : (A.toList == E.toList) = decide (A.data.toList = []) := by rw [str_beq, h]

set_option maxHeartbeats 3200000 in
set_option maxRecDepth 100000 in
theorem refText_any (n : Int) (w : World) :
    Calls Tryd.prog 12 #[.int .i64 n] w fun e w' => e = .returned (.string (strOf (textI n))) ∧ Below w.heap.size w w' := by
  by_cases hn : 0 ≤ n ∧ n ≤ 15
  · have HT := Lib.hid (show textI n = textL n.toNat from if_pos hn)
    have hm := Lib.hid (refMay_any n)
    rw [show mayI n = true by unfold mayI; rw [decide_eq_true hn.1, decide_eq_true hn.2]; rfl] at hm
    obtain ⟨k, rfl⟩ : ∃ k : Nat, n = (k : Int) := ⟨n.toNat, by omega⟩
    rw [Int.toNat_natCast] at HT
    have hk : k < 16 := by omega
    obtain ⟨N0, hN0⟩ : ∃ O : ByteArray, (⟨#[117, 99, 104, 103]⟩ : ByteArray) = O := ⟨_, rfl⟩
    obtain ⟨N1, hN1⟩ : ∃ O : ByteArray, (⟨#[117, 97, 112, 112, 110, 100]⟩ : ByteArray) = O := ⟨_, rfl⟩
    obtain ⟨N2, hN2⟩ : ∃ O : ByteArray, (⟨#[110, 111, 100, 117, 109, 112]⟩ : ByteArray) = O := ⟨_, rfl⟩
    obtain ⟨N3, hN3⟩ : ∃ O : ByteArray, (⟨#[111, 112, 97, 113, 117, 101]⟩ : ByteArray) = O := ⟨_, rfl⟩
    have hx : ∀ i, i < 4 → ∃ X : ByteArray, Hid (X = strOf (nm i)) ∧ X.size ≤ 6 ∧ (#[.string N0, .string N1, .string N2, .string N3] : Array Value)[i]? = some (.string X) := by
      intro i hi
      obtain rfl | rfl | rfl | rfl : i = 0 ∨ i = 1 ∨ i = 2 ∨ i = 3 := by omega
      · exact ⟨N0, Lib.hid hN0.symm, by rw [← hN0]; decide, rfl⟩
      · exact ⟨N1, Lib.hid hN1.symm, by rw [← hN1]; decide, rfl⟩
      · exact ⟨N2, Lib.hid hN2.symm, by rw [← hN2]; decide, rfl⟩
      · exact ⟨N3, Lib.hid hN3.symm, by rw [← hN3]; decide, rfl⟩
    have Hx := Lib.hid hx
    have Hb := Lib.hid (fun i => bit_is k i (by omega))
    have HU := Lib.hid (fun i (hi : i ≤ 4) => up_len (n := k) (i := i) hk hi)
    obtain ⟨C1, hC1⟩ : ∃ O : ByteArray, (⟨#[44]⟩ : ByteArray) = O := ⟨_, rfl⟩
    have HC := Lib.hid (show C1.data.toList = [44] ∧ C1.size = 1 by rw [← hC1]; exact ⟨rfl, rfl⟩)
    obtain ⟨EE, hEE⟩ : ∃ O : ByteArray, (⟨#[]⟩ : ByteArray) = O := ⟨_, rfl⟩
    have HEl := Lib.hid (show EE.data.toList = [] by rw [← hEE])
    clear hx hn
    go_enter Tryd.func12, Tryd.ntmps12
    simp only [hC1, hEE, hN0, hN1, hN2, hN3]
    clear hC1 hEE hN0 hN1 hN2 hN3
    go_wp2_with fail
    refine (hm.out _).mono ?_
    rintro e w ⟨rfl, rfl⟩
    go_wp2_with fail
    obtain ⟨G, hG⟩ : ∃ G, w.heap.size = G := ⟨_, rfl⟩
    obtain ⟨W, hW⟩ : ∃ W, w.alloc (.cells #[.string N0, .string N1, .string N2, .string N3] 9) = W := ⟨_, rfl⟩
    have hblk : BlkIs W G 9 #[.string N0, .string N1, .string N2, .string N3] := by rw [← hW, ← hG]; exact BlkIs.made _ _ _
    have hbW : Below w.heap.size w W := by rw [← hW]; exact gr_alloc (Below.refl _ _) _
    try rw [hG]
    try rw [hW]
    go_loopw [3, 5] (fun sv iv wr => ∃ (i : Nat) (S : ByteArray), iv = .int .i64 (i : Int) ∧ i ≤ 4 ∧ sv = .string S ∧ Below w.heap.size w wr ∧ BlkIs wr G 9 #[.string N0, .string N1, .string N2, .string N3] ∧ Hid (S.data.toList = upTo k i)) (fun _ iv _ => 4 - (intOf iv).toNat)
    case atStart => exact ⟨0, EE, rfl, by omega, rfl, hbW, hblk, HEl⟩
    case round =>
      clear hbW hblk
      obtain ⟨i, S, rfl, hi, rfl, hbl, hblk, HR⟩ := hrel
      rename World => wr
      by_cases hlt : i < 4
      · have hlt' : decide ((i : Int) < 4) = true := decide_eq_true (by omega)
        have hlt2 : decide (i < 4) = true := decide_eq_true hlt
        obtain ⟨X, HX, hX6, hXc⟩ := Hx.out i hlt
        have hcell := hblk.cell_some i _ hXc
        have hul := HU.out i hi
        have hb := Hb.out i
        have hS : S.size ≤ 25 := by rw [← len_list, HR.out]; exact hul
        rcases hbit : isBit k i with _ | _
        · rw [hbit] at hb
          have HE : Hid (S.data.toList = upTo k (i + 1)) := Lib.hid (by rw [up_miss hbit]; exact HR.out)
          clear hbit HR hXc
          go_wp2_with fail
          go_roundw
          case rel => exact ⟨i + 1, S, rfl, by omega, rfl, hbl, hblk, HE⟩
          case measure => simp only [intOf]; omega
        · rw [hbit] at hb
          have HE := Lib.hid (up_hit hbit)
          clear hbit hXc
          have hne := beq_nil S EE HEl.out
          by_cases hl0 : S.data.toList = []
          · rw [decide_eq_true hl0] at hne
            obtain ⟨S1, hS1⟩ : ∃ O : ByteArray, S ++ X = O := ⟨_, rfl⟩
            have HE2 : Hid (S1.data.toList = upTo k (i + 1)) := Lib.hid (by rw [← hS1, bytes_list, HE.out, HX.out, strOf_list, ← HR.out, hl0]; rfl)
            have b1 : ¬ 9223372036854775807 < S.size + X.size := by omega
            clear HE hl0 HR
            go_wp2_with fail
            go_roundw
            case rel => exact ⟨i + 1, S1, rfl, by omega, by rw [← hS1], hbl, hblk, HE2⟩
            case measure => simp only [intOf]; omega
          · rw [decide_eq_false hl0] at hne
            obtain ⟨S1, hS1⟩ : ∃ O : ByteArray, S ++ C1 = O := ⟨_, rfl⟩
            obtain ⟨S2, hS2⟩ : ∃ O : ByteArray, S1 ++ X = O := ⟨_, rfl⟩
            have HE2 : Hid (S2.data.toList = upTo k (i + 1)) := Lib.hid (by rw [← hS2, bytes_list, ← hS1, bytes_list, HE.out, HX.out, HC.out.1, strOf_list, ← HR.out]; unfold addN; rw [if_neg hl0]; simp)
            have hc1 := HC.out.2
            have hs1 : S1.size = S.size + C1.size := by rw [← hS1, ByteArray.size_append]
            have b1 : ¬ 9223372036854775807 < S.size + C1.size := by omega
            have b3 : ¬ 9223372036854775807 < S.size + 1 := by omega
            have b2 : ¬ 9223372036854775807 < S1.size + X.size := by omega
            clear HE hl0 HR
            go_wp2_with fail
            go_roundw
            case rel => exact ⟨i + 1, S2, rfl, by omega, by rw [← hS2], hbl, hblk, HE2⟩
            case measure => simp only [intOf]; omega
      · obtain rfl : i = 4 := by omega
        have HE := Lib.hid (show textL k = upTo k 4 from rfl)
        clear Hx Hb HU hi hlt
        go_wp2_with fail
        go_ret
        exact ⟨ret_str (by rw [HT.out, HE.out, ← HR.out, strOf_self]), hbl⟩
  · have HT := Lib.hid (show textI n = [] from if_neg hn)
    have hm := Lib.hid (refMay_any n)
    rw [show mayI n = false by unfold mayI; rw [Bool.and_eq_false_iff, decide_eq_false_iff_not, decide_eq_false_iff_not]; omega] at hm
    clear hn
    go_enter Tryd.func12, Tryd.ntmps12
    go_wp2_with fail
    refine (hm.out _).mono ?_
    rintro e w ⟨rfl, rfl⟩
    go_wp2_with fail
    go_ret
    exact ⟨ret_str (by rw [HT.out]; rfl), Below.refl _ _⟩

/-- The number that a text says, from a number on; below nought where there is none. -/
def refGet (s : List UInt8) : Int := match getL s with | some n => (n : Int) | none => -1
theorem ref_hit {s : List UInt8} {i : Nat} (hi : i < 16) (h : textL i = s) : refGet s = (i : Int) := by
  unfold refGet
  rw [(get_iff s i).2 ⟨hi, h⟩]
theorem ref_miss {s : List UInt8} (h : ∀ j, j < 16 → textL j ≠ s) : refGet s = -1 := by
  unfold refGet
  rcases hg : getL s with _ | n
  · rfl
  · exact absurd ((get_iff s n).1 hg).2 (h n ((get_iff s n).1 hg).1)

set_option maxHeartbeats 1600000 in
set_option maxRecDepth 100000 in
theorem refParse_any (S : ByteArray) (w : World) :
    Calls Tryd.prog 8 #[.string S] w fun e w' => e = .returned (.int .i64 (refGet S.data.toList)) ∧ Below w.heap.size w w' := by
  have HT := Lib.hid (fun n w => refText_any n w)
  have HY := Lib.hid (fun i (hi : i < 16) (h : textL i = S.data.toList) => ref_hit hi h)
  have HZ := Lib.hid (fun (h : ∀ j, j < 16 → textL j ≠ S.data.toList) => ref_miss h)
  go_enter Tryd.func8, Tryd.ntmps8
  go_wp2_with fail
  go_loopw [3] (fun iv wr => ∃ i : Nat, iv = .int .i64 (i : Int) ∧ i ≤ 16 ∧ Below w.heap.size w wr ∧ Hid (∀ j, j < i → textL j ≠ S.data.toList)) (fun iv _ => 16 - (intOf iv).toNat)
  case atStart => exact ⟨0, rfl, by omega, Below.refl _ _, Lib.hid (fun j h => by omega)⟩
  case round =>
    obtain ⟨i, rfl, hi, hbl, HR⟩ := hrel
    rename World => wr
    by_cases hlt : i < 16
    · have hlt' : decide ((i : Int) < 16) = true := decide_eq_true (by omega)
      have hlt2 : decide (i < 16) = true := decide_eq_true hlt
      have ht := HT.out (i : Int) wr
      rw [show textI (i : Int) = textL i by unfold textI; rw [if_pos (by omega), Int.toNat_natCast]] at ht
      have Ht := Lib.hid ht
      have hbe : ((strOf (textL i)).toList == S.toList) = decide (textL i = S.data.toList) := by rw [str_beq, strOf_list]
      clear ht
      by_cases hq : textL i = S.data.toList
      · rw [decide_eq_true hq] at hbe
        have HE := Lib.hid (HY.out i hlt hq)
        clear HR HY HZ hq
        generalize strOf (textL i) = T at *
        go_wp2_with fail
        refine (Ht.out).mono ?_
        rintro e w2 ⟨rfl, hb2⟩
        go_wp2_with fail
        go_ret
        exact ⟨by rw [HE.out]; rfl, gr_call hbl hb2⟩
      · rw [decide_eq_false hq] at hbe
        have HR2 : Hid (∀ j, j < i + 1 → textL j ≠ S.data.toList) := Lib.hid (fun j hj => by
          by_cases hji : j = i
          · subst hji; exact hq
          · exact HR.out j (by omega))
        clear HR HY HZ hq
        generalize strOf (textL i) = T at *
        go_wp2_with fail
        refine (Ht.out).mono ?_
        rintro e w2 ⟨rfl, hb2⟩
        have hbl2 := gr_call hbl hb2
        go_wp2_with fail
        go_roundw
        case rel => exact ⟨i + 1, rfl, by omega, hbl2, HR2⟩
        case measure => simp only [intOf]; omega
    · have hlt' : decide ((i : Int) < 16) = false := decide_eq_false (by omega)
      have hlt2 : decide (i < 16) = false := decide_eq_false hlt
      obtain rfl : i = 16 := by omega
      have HE := Lib.hid (HZ.out HR.out)
      clear HR HY HZ
      go_wp2_with fail
      go_ret
      exact ⟨by rw [HE.out]; rfl, hbl⟩
end Go.Proofs.YtpknbdlemaehnaaDoor
