/- Walks over package wide: letters of bits, a part's text, a list's text. -/
import Derived.Test.YtikdpoekjfbpaaaDoorWideMay
import Derived.Test.YtikdpoekjfbpaaaDoorBytes
import Derived.Test.YtikdpoekjfbpaaaDoorLater
import Derived.Test.YtikdpoekjfbpaaaDoorBldK
namespace Go.Proofs.YtikdpoekjfbpaaaDoor
open Go.RowKit
open WideM
set_option linter.unusedVariables false
attribute [local irreducible] Row At

set_option maxHeartbeats 1600000 in
theorem letters_any (n : Nat) (hn : n < 16384) (L : ByteArray) (hL : L.size ≤ 14) (w : World) :
    Calls Tryd.prog 36 #[.int .i64 (n : Int), .string L] w fun e w' => e = .returned (.string (strOf (lets n L.data.toList))) ∧ Below w.heap.size w w' := by
  obtain ⟨z, hz⟩ : ∃ z, L.size = z := ⟨_, rfl⟩
  have Hlen := Lib.hid (show L.data.toList.length = z by rw [len_list, hz])
  have Hidx := Lib.hid (fun i h => idxAt (P := Tryd.prog) Tryd.underlying9 L i (by rw [hz]; exact h))
  have Hbit := Lib.hid (fun i => bit_is n i (by omega))
  rw [hz] at hL
  go_enter Tryd.func36, Tryd.ntmps36
  go_wp2_with fail
  go_loopw [5, 9] (fun sv iv wr => ∃ (i : Nat) (acc : List UInt8), iv = .int .i64 (i : Int) ∧ i ≤ z ∧ BRow w.heap.size sv acc wr ∧ Below w.heap.size w wr ∧ acc.length ≤ i ∧ Hid (acc = lets n (L.data.toList.take i))) (fun _ iv _ => z - (intOf iv).toNat)
  case atStart => exact ⟨0, [], rfl, by omega, BRow.nil _ _, Below.refl _ _, by simp, Lib.hid (by simp [lets])⟩
  case round =>
    obtain ⟨i, acc, rfl, hi, hR, hbl, hacc, HR⟩ := hrel
    rename World => wr
    by_cases hlt : i < z
    · have hlt' : decide ((i : Int) < (z : Int)) = true := decide_eq_true (by omega)
      have hlt2 : decide (i < z) = true := decide_eq_true hlt
      obtain ⟨c, hc, hidx⟩ := Hidx.out i hlt
      have hb := Hbit.out i
      by_cases hn1 : n / 2 ^ i % 2 = 1
      · rw [decide_eq_true hn1] at hb
        have HE := Lib.hid (show acc ++ [c] = lets n (L.data.toList.take (i + 1)) by rw [HR.out, lets_yes hc hn1])
        have hlen : acc.length + [c].length ≤ 1000000 := by simp only [List.length_singleton]; omega
        have hszw := hbl.size
        clear hn1 hc HR
        go_wp2_with (at_builtin; refine wp_append rfl _ _ rfl w.heap.size _ _ wr [c] _ ?harr rfl (by exact hR) rfl hlen hszw ?_)
        case harr => rfl
        intro v' w' hR' hb'
        have hbl' := hbl.trans hb'
        clear hR hbl hb' hidx
        go_wp2_with fail
        go_roundw
        case rel => exact ⟨i + 1, _, rfl, by omega, hR', hbl', by rw [List.length_append, List.length_singleton]; omega, HE⟩
        case measure => simp only [intOf]; omega
      · rw [decide_eq_false hn1] at hb
        have HE := Lib.hid (show acc = lets n (L.data.toList.take (i + 1)) by rw [HR.out, lets_no hc hn1])
        clear hn1 hc HR
        go_wp2_with fail
        go_roundw
        case rel => exact ⟨i + 1, _, rfl, by omega, hR, hbl, by omega, HE⟩
        case measure => simp only [intOf]; omega
    · have hlt' : decide ((i : Int) < (z : Int)) = false := decide_eq_false (by omega)
      have hlt2 : decide (i < z) = false := decide_eq_false hlt
      have HE := Lib.hid (show strOf acc = strOf (lets n L.data.toList) by rw [HR.out, List.take_of_length_le (by rw [Hlen.out]; omega)])
      have hcv := hR.str
      rw [show (⟨acc.toArray⟩ : ByteArray) = strOf acc from rfl] at hcv
      generalize strOf acc = X at *
      clear HR
      go_wp2_with fail
      go_ret
      exact ⟨by rw [HE.out]; rfl, hbl⟩

/-! ### A part's text -/
def flB : ByteArray := ⟨#[102, 100, 110, 112, 83, 70, 103]⟩
def msB : ByteArray := ⟨#[114, 119, 97, 120, 100, 68, 116, 84, 110, 78, 99, 67, 111, 121]⟩
theorem flB_list : flB.data.toList = flL := rfl
theorem msB_list : msB.data.toList = msL := rfl
theorem strOf_append (a b : List UInt8) : strOf (a ++ b) = strOf a ++ strOf b := bytes_ext (by simp [bytes_list, strOf_list])
theorem add_str {X Y Z : ByteArray} (h : Z = X ++ Y) : Z.size = X.size + Y.size := by rw [h, ByteArray.size_append]
theorem text_sum (t : Int) (f m : List UInt8) (W0 : ByteArray) (L0 S1 S2 S3 S4 S5 S6 F M : ByteArray) (h0 : L0.data.toList = [letter t]) (hF : F.data.toList = f) (hM : M.data.toList = m) (h1 : L0 ++ ⟨#[58]⟩ = S1) (h2 : S1 ++ F = S2) (h3 : S2 ++ ⟨#[58]⟩ = S3) (h4 : S3 ++ W0 = S4) (h5 : S4 ++ ⟨#[58]⟩ = S5) (h6 : S5 ++ M = S6) :
    S6 = strOf (letter t :: 58 :: (f ++ 58 :: (W0.data.toList ++ 58 :: m))) := by
  subst h1 h2 h3 h4 h5 h6
  refine str_eq ?_
  simp only [bytes_list, h0, hF, hM]
  simp

set_option maxHeartbeats 3200000 in
set_option maxRecDepth 100000 in
theorem text_any (a : Wid) (w : World) (h1 : a.ty = 1 ∨ a.ty = 2) (h3 : 0 ≤ a.fl) (h4 : a.fl < 16384) (h5 : 0 ≤ a.ms) (h6 : a.ms < 16384) (h7 : a.who.size ≤ 1000000) :
    Calls Tryd.prog 25 #[wideV a] w fun e w' => e = .returned (.string (strOf (partText a))) ∧ Below w.heap.size w w' := by
  obtain ⟨t, f0, m0, W0⟩ := a
  simp only at h1 h3 h4 h5 h6 h7
  unfold partText
  simp only
  obtain ⟨fn, rfl⟩ : ∃ k : Nat, f0 = (k : Int) := ⟨f0.toNat, by omega⟩
  obtain ⟨mn, rfl⟩ : ∃ k : Nat, m0 = (k : Int) := ⟨m0.toNat, by omega⟩
  rw [Int.toNat_natCast, Int.toNat_natCast]
  have hq1 := Lib.hid (fun w => letters_any fn (by omega) flB (by decide) w)
  have hq2 := Lib.hid (fun w => letters_any mn (by omega) msB (by decide) w)
  rw [flB_list] at hq1
  rw [msB_list] at hq2
  have l1 := lets_len flL fn
  have l2 := lets_len msL mn
  have l3 : flL.length = 7 := rfl
  have l4 : msL.length = 14 := rfl
  obtain ⟨f, hf⟩ : ∃ k : Int, (fn : Int) = k := ⟨_, rfl⟩
  obtain ⟨m, hm⟩ : ∃ k : Int, (mn : Int) = k := ⟨_, rfl⟩
  rw [hf] at hq1 ⊢
  rw [hm] at hq2 ⊢
  obtain ⟨F, hF⟩ : ∃ F, strOf (lets fn flL) = F := ⟨_, rfl⟩
  obtain ⟨M, hM⟩ : ∃ F, strOf (lets mn msL) = F := ⟨_, rfl⟩
  have hFs : F.size ≤ 7 := by rw [← hF, strOf_size]; omega
  have hMs : M.size ≤ 14 := by rw [← hM, strOf_size]; omega
  have hFl : F.data.toList = lets fn flL := by rw [← hF, strOf_list]
  have hMl : M.data.toList = lets mn msL := by rw [← hM, strOf_list]
  rw [hF] at hq1
  rw [hM] at hq2
  obtain ⟨U, hU⟩ : ∃ U, t + 1 = U := ⟨_, rfl⟩
  have hU2 : IntKind.i64.wrap (t + 1) = U := by rw [← hU]; rcases h1 with rfl | rfl <;> rfl
  obtain ⟨L0, hL0, hsl⟩ : ∃ L0 : ByteArray, L0.data.toList = [letter t] ∧ ∀ W, (Instr.slice 9 (.string ⟨#[32, 65, 68]⟩) (some (.int .i64 t)) (some (.int .i64 U)) none).run Tryd.prog W = .ok (.string L0) W := by
    rcases h1 with rfl | rfl
    · obtain rfl : U = 2 := by omega
      refine ⟨(⟨#[32, 65, 68]⟩ : ByteArray).extract 1 2, rfl, fun W => ?_⟩
      simp [go_sem]
    · obtain rfl : U = 3 := by omega
      refine ⟨(⟨#[32, 65, 68]⟩ : ByteArray).extract 2 3, rfl, fun W => ?_⟩
      simp [go_sem]
  obtain ⟨S1, hS1⟩ : ∃ S1, L0 ++ ⟨#[58]⟩ = S1 := ⟨_, rfl⟩
  obtain ⟨S2, hS2⟩ : ∃ S2, S1 ++ F = S2 := ⟨_, rfl⟩
  obtain ⟨S3, hS3⟩ : ∃ S3, S2 ++ ⟨#[58]⟩ = S3 := ⟨_, rfl⟩
  obtain ⟨S4, hS4⟩ : ∃ S4, S3 ++ W0 = S4 := ⟨_, rfl⟩
  obtain ⟨S5, hS5⟩ : ∃ S5, S4 ++ ⟨#[58]⟩ = S5 := ⟨_, rfl⟩
  obtain ⟨S6, hS6⟩ : ∃ S6, S5 ++ M = S6 := ⟨_, rfl⟩
  have c1 : ByteArray.size ⟨#[58]⟩ = 1 := rfl
  have z0 : L0.size = 1 := by rw [← len_list, hL0]; rfl
  have z1 := add_str hS1.symm
  have z2 := add_str hS2.symm
  have z3 := add_str hS3.symm
  have z4 := add_str hS4.symm
  have z5 := add_str hS5.symm
  have z6 := add_str hS6.symm
  have b1 : ¬ 9223372036854775807 < L0.size + 1 := by omega
  have b2 : ¬ 9223372036854775807 < S1.size + F.size := by omega
  have b3 : ¬ 9223372036854775807 < S2.size + 1 := by omega
  have b4 : ¬ 9223372036854775807 < S3.size + W0.size := by omega
  have b5 : ¬ 9223372036854775807 < S4.size + 1 := by omega
  have b6 : ¬ 9223372036854775807 < S5.size + M.size := by omega
  have HS := Lib.hid (text_sum t (lets fn flL) (lets mn msL) W0 L0 S1 S2 S3 S4 S5 S6 F M hL0 hFl hMl hS1 hS2 hS3 hS4 hS5 hS6)
  rw [← HS.out]
  have hbx : BlkIs (w.alloc (.cells #[.int .i64 t, .int .i64 f, .int .i64 m, .string W0] 41)) w.heap.size 41 #[.int .i64 t, .int .i64 f, .int .i64 m, .string W0] := BlkIs.made _ _ _
  have hB := gr_alloc (Below.refl w.heap.size w) (.cells #[.int .i64 t, .int .i64 f, .int .i64 m, .string W0] 41)
  clear z0 z1 z2 z3 z4 z5 z6 HS hL0 hFl hMl l1 l2 l3 l4 hF hM hf hm h1 h3 h4 h5 h6 hU hFs hMs c1
  unfold wideV
  simp only
  go_enter Tryd.func25, Tryd.ntmps25
  go_wp2_with fail
  obtain ⟨gy, hgy⟩ : ∃ g, w.heap.size = g := ⟨_, rfl⟩
  obtain ⟨w3, hw3⟩ : ∃ w3, w.alloc (.cells #[.int .i64 t, .int .i64 f, .int .i64 m, .string W0] 41) = w3 := ⟨_, rfl⟩
  rw [hgy, hw3] at hbx
  rw [hw3] at hB ⊢
  try rw [hgy]
  clear hw3
  refine region_lastqgL (S := fun W => Below w.heap.size w W ∧ BlkIs W gy 41 #[.int .i64 t, .int .i64 f, .int .i64 m, .string W0]) 20
    [(fun W v => v = .pointer (some ⟨gy, 0, none⟩)),
     (fun W v => v = .int .i64 t),
     (fun W v => v = .pointer (some ⟨gy, 0, none⟩)),
     (fun W v => v = .int .i64 t),
     (fun W v => v = .int .i64 U),
     (fun W v => v = .string L0),
     (fun W v => v = .string S1),
     (fun W v => v = .pointer (some ⟨gy, 1, none⟩)),
     (fun W v => v = .int .i64 f),
     (fun W v => v = .string F),
     (fun W v => v = .string S2),
     (fun W v => v = .string S3),
     (fun W v => v = .pointer (some ⟨gy, 3, none⟩)),
     (fun W v => v = .string W0),
     (fun W v => v = .string S4),
     (fun W v => v = .string S5),
     (fun W v => v = .pointer (some ⟨gy, 2, none⟩)),
     (fun W v => v = .int .i64 m),
     (fun W v => v = .string M),
     (fun W v => v = .string S6)] (by rfl) (by kernel_rfl) (by kernel_rfl) (by kernel_rfl) (by kernel_rfl) (by rfl) (by kernel_rfl) ?hS ?hp ?hs ?he
  case hS => exact ⟨gr_drew hB, hbx⟩
  case hp => repeat' (first | exact trivial | refine ⟨fun _ _ _ _ h => h, ?_⟩)
  case hs =>
    simp only [List.take_succ_cons, List.take_zero]
    clear hB hbx
    refine ⟨?_, ?_, ?_, ?_, ?_, ?_, ?_, ?_, ?_, ?_, ?_, ?_, ?_, ?_, ?_, ?_, ?_, ?_, ?_, ?_, trivial⟩
    · refine ⟨met_none rfl, ?_⟩
      intro a W K hS hd hf hK
      have e1 : a.tmps.getD 1 undef = .pointer (some ⟨gy, 0, none⟩) := hf 1 (by kernel_rfl)
      clear hd hf
      go_simp
      exact hK _ _ (Below.refl _ _) hS rfl
    · refine ⟨met_none rfl, ?_⟩
      intro a W K hS hd hf hK
      have e3 : a.tmps.getD 3 undef = .pointer (some ⟨gy, 0, none⟩) := hd ⟨0, .data⟩ (by simp) rfl
      have c0 := hS.2.cell_some 0 _ rfl
      clear hd hf
      go_simp
      exact hK _ _ (Below.refl _ _) hS rfl
    · refine ⟨met_none rfl, ?_⟩
      intro a W K hS hd hf hK
      have e1 : a.tmps.getD 1 undef = .pointer (some ⟨gy, 0, none⟩) := hf 1 (by kernel_rfl)
      clear hd hf
      go_simp
      exact hK _ _ (Below.refl _ _) hS rfl
    · refine ⟨met_none rfl, ?_⟩
      intro a W K hS hd hf hK
      have e5 : a.tmps.getD 5 undef = .pointer (some ⟨gy, 0, none⟩) := hd ⟨2, .data⟩ (by simp) rfl
      have c0 := hS.2.cell_some 0 _ rfl
      clear hd hf
      go_simp
      exact hK _ _ (Below.refl _ _) hS rfl
    · refine ⟨met_none rfl, ?_⟩
      intro a W K hS hd hf hK
      have e6 : a.tmps.getD 6 undef = .int .i64 t := hd ⟨3, .data⟩ (by simp) rfl
      clear hd hf
      go_simp
      exact hK _ _ (Below.refl _ _) hS rfl
    · refine ⟨met_none rfl, ?_⟩
      intro a W K hS hd hf hK
      have e4 : a.tmps.getD 4 undef = .int .i64 t := hd ⟨1, .data⟩ (by simp) rfl
      have e7 : a.tmps.getD 7 undef = .int .i64 U := hd ⟨4, .data⟩ (by simp) rfl
      clear hd hf
      go_simp
      exact hK _ _ (Below.refl _ _) hS rfl
    · refine ⟨met_none rfl, ?_⟩
      intro a W K hS hd hf hK
      have e8 : a.tmps.getD 8 undef = .string L0 := hd ⟨5, .data⟩ (by simp) rfl
      clear hd hf
      go_simp
      exact hK _ _ (Below.refl _ _) hS rfl
    · refine ⟨met_none rfl, ?_⟩
      intro a W K hS hd hf hK
      have e1 : a.tmps.getD 1 undef = .pointer (some ⟨gy, 0, none⟩) := hf 1 (by kernel_rfl)
      clear hd hf
      go_simp
      exact hK _ _ (Below.refl _ _) hS rfl
    · refine ⟨met_none rfl, ?_⟩
      intro a W K hS hd hf hK
      have e10 : a.tmps.getD 10 undef = .pointer (some ⟨gy, 1, none⟩) := hd ⟨7, .data⟩ (by simp) rfl
      have c0 := hS.2.cell_some 1 _ rfl
      clear hd hf
      go_simp
      exact hK _ _ (Below.refl _ _) hS rfl
    · refine ⟨met_none rfl, ?_⟩
      intro a W K hS hd hf hK
      have e11 : a.tmps.getD 11 undef = .int .i64 f := hd ⟨8, .data⟩ (by simp) rfl
      clear hd hf
      go_simp
      go_at_call 36
      refine (hq1.out _).mono ?_
      rintro e w1 ⟨rfl, hb⟩
      exact hK _ _ hb (⟨gr_call hS.1 hb, hS.2.kept hb hS.2.size⟩) rfl
    · refine ⟨met_none rfl, ?_⟩
      intro a W K hS hd hf hK
      have e9 : a.tmps.getD 9 undef = .string S1 := hd ⟨6, .data⟩ (by simp) rfl
      have e12 : a.tmps.getD 12 undef = .string F := hd ⟨9, .data⟩ (by simp) rfl
      clear hd hf
      go_simp
      exact hK _ _ (Below.refl _ _) hS rfl
    · refine ⟨met_none rfl, ?_⟩
      intro a W K hS hd hf hK
      have e13 : a.tmps.getD 13 undef = .string S2 := hd ⟨10, .data⟩ (by simp) rfl
      clear hd hf
      go_simp
      exact hK _ _ (Below.refl _ _) hS rfl
    · refine ⟨met_none rfl, ?_⟩
      intro a W K hS hd hf hK
      have e1 : a.tmps.getD 1 undef = .pointer (some ⟨gy, 0, none⟩) := hf 1 (by kernel_rfl)
      clear hd hf
      go_simp
      exact hK _ _ (Below.refl _ _) hS rfl
    · refine ⟨met_none rfl, ?_⟩
      intro a W K hS hd hf hK
      have e15 : a.tmps.getD 15 undef = .pointer (some ⟨gy, 3, none⟩) := hd ⟨12, .data⟩ (by simp) rfl
      have c0 := hS.2.cell_some 3 _ rfl
      clear hd hf
      go_simp
      exact hK _ _ (Below.refl _ _) hS rfl
    · refine ⟨met_none rfl, ?_⟩
      intro a W K hS hd hf hK
      have e14 : a.tmps.getD 14 undef = .string S3 := hd ⟨11, .data⟩ (by simp) rfl
      have e16 : a.tmps.getD 16 undef = .string W0 := hd ⟨13, .data⟩ (by simp) rfl
      clear hd hf
      go_simp
      exact hK _ _ (Below.refl _ _) hS rfl
    · refine ⟨met_none rfl, ?_⟩
      intro a W K hS hd hf hK
      have e17 : a.tmps.getD 17 undef = .string S4 := hd ⟨14, .data⟩ (by simp) rfl
      clear hd hf
      go_simp
      exact hK _ _ (Below.refl _ _) hS rfl
    · refine ⟨met_none rfl, ?_⟩
      intro a W K hS hd hf hK
      have e1 : a.tmps.getD 1 undef = .pointer (some ⟨gy, 0, none⟩) := hf 1 (by kernel_rfl)
      clear hd hf
      go_simp
      exact hK _ _ (Below.refl _ _) hS rfl
    · refine ⟨met_none rfl, ?_⟩
      intro a W K hS hd hf hK
      have e19 : a.tmps.getD 19 undef = .pointer (some ⟨gy, 2, none⟩) := hd ⟨16, .data⟩ (by simp) rfl
      have c0 := hS.2.cell_some 2 _ rfl
      clear hd hf
      go_simp
      exact hK _ _ (Below.refl _ _) hS rfl
    · refine ⟨met_none rfl, ?_⟩
      intro a W K hS hd hf hK
      have e20 : a.tmps.getD 20 undef = .int .i64 m := hd ⟨17, .data⟩ (by simp) rfl
      clear hd hf
      go_simp
      go_at_call 36
      refine (hq2.out _).mono ?_
      rintro e w1 ⟨rfl, hb⟩
      exact hK _ _ hb (⟨gr_call hS.1 hb, hS.2.kept hb hS.2.size⟩) rfl
    · refine ⟨met_none rfl, ?_⟩
      intro a W K hS hd hf hK
      have e18 : a.tmps.getD 18 undef = .string S5 := hd ⟨15, .data⟩ (by simp) rfl
      have e21 : a.tmps.getD 21 undef = .string M := hd ⟨18, .data⟩ (by simp) rfl
      clear hd hf
      go_simp
      exact hK _ _ (Below.refl _ _) hS rfl
  case he =>
    intro vals w6 K hS6 hV hK
    have e22 := hV 19 (by omega)
    clear hV
    simp only [List.getD_cons_succ, List.getD_cons_zero] at e22
    have hB6 := hS6.1
    clear hS6 hB hbx
    refine Later.mk ?_
    simp only [List.append_eq, List.cons_append, List.nil_append, setN, Nat.reduceAdd, List.setIfInBounds_toArray, List.set_cons_succ, List.set_cons_zero]
    rw [e22]
    go_simp
    refine hK _ _ ?_
    clear hK
    go_wp2_with fail
    go_ret
    exact ⟨rfl, hB6⟩
end Go.Proofs.YtikdpoekjfbpaaaDoor
