/- The document's answer: a list's text. -/
import Derived.Test.YtikdpoekjfbpaaaDoorWideUnbits
namespace Go.Proofs.YtikdpoekjfbpaaaDoor
open Go.RowKit
open WideM
set_option linter.unusedVariables false
attribute [local irreducible] Row At

theorem text_sum2 (t : Int) (f m : List UInt8) (W0 : ByteArray) (S0 L0 S1 S2 S3 S4 S5 S6 S7 F M : ByteArray) (h0 : L0.data.toList = [letter t]) (hF : F.data.toList = f) (hM : M.data.toList = m) (h1 : S0 ++ L0 = S1) (h2 : S1 ++ ⟨#[58]⟩ = S2) (h3 : S2 ++ F = S3) (h4 : S3 ++ ⟨#[58]⟩ = S4) (h5 : S4 ++ W0 = S5) (h6 : S5 ++ ⟨#[58]⟩ = S6) (h7 : S6 ++ M = S7) :
    S7.data.toList = S0.data.toList ++ letter t :: 58 :: (f ++ 58 :: (W0.data.toList ++ 58 :: m)) := by
  subst h1 h2 h3 h4 h5 h6 h7
  simp only [bytes_list, h0, hF, hM]
  simp

set_option maxHeartbeats 6400000 in
set_option maxRecDepth 100000 in
theorem refText_any (v : Value) (l : List Wid) (w : World) (hat : At wideE v l w) (hmay : may l = true) :
    Calls Tryd.prog 13 #[v] w fun e w' => e = .returned (.string (strOf (textL l))) ∧ Below w.heap.size w w' := by
  obtain ⟨hok, h32⟩ := may_parts hmay
  have Hok := Lib.hid (fun a (h : a ∈ l) => okPart_iff (hok a h))
  have Hpl := Lib.hid (fun a (h : a ∈ l) => part_len (hok a h))
  have Hlen := Lib.hid (textL_take hok h32)
  obtain ⟨z, hz⟩ : ∃ z, l.length = z := ⟨_, rfl⟩
  obtain ⟨p, cap, rfl, hcap, hcell⟩ := wide_look hat
  rw [hz] at hcap h32 ⊢
  have Hcell := Lib.hid hcell
  have Hz := Lib.hid hz
  obtain ⟨EE, hEE⟩ : ∃ O : ByteArray, (⟨#[]⟩ : ByteArray) = O := ⟨_, rfl⟩
  obtain ⟨A1, hA1⟩ : ∃ O : ByteArray, (⟨#[65]⟩ : ByteArray) = O := ⟨_, rfl⟩
  obtain ⟨D1, hD1⟩ : ∃ O : ByteArray, (⟨#[68]⟩ : ByteArray) = O := ⟨_, rfl⟩
  have hAl : A1.data.toList = [65] := by rw [← hA1]
  have hDl : D1.data.toList = [68] := by rw [← hD1]
  have HEl := Lib.hid (show EE.data.toList = [] by rw [← hEE])
  clear hcell hat hz hok hmay
  go_enter Tryd.func13, Tryd.ntmps13
  simp only [hEE, hA1, hD1]
  clear hEE hA1 hD1
  go_wp2_with fail
  go_loopw [3, 4] (fun sv iv wr => ∃ (i : Nat) (S : ByteArray), iv = .int .i64 (i : Int) ∧ i ≤ z ∧ sv = .string S ∧ Below w.heap.size w wr ∧ Hid (S.data.toList = textL (l.take i))) (fun _ iv _ => z - (intOf iv).toNat)
  case atStart => exact ⟨0, EE, rfl, by omega, rfl, Below.refl _ _, Lib.hid (by rw [HEl.out]; rfl)⟩
  case round =>
    obtain ⟨i, S, rfl, hi, rfl, hbl, HR⟩ := hrel
    rename World => wr
    by_cases hlt : i < z
    · have hlt' : decide ((i : Int) < (z : Int)) = true := decide_eq_true (by omega)
      have hlt2 : decide (i < z) = true := decide_eq_true hlt
      have hlt3 : (i : Int) < (z : Int) := by omega
      have hi' : i < l.length := by rw [Hz.out]; exact hlt
      obtain ⟨g0, off, rfl, hg, hc⟩ := Hcell.out i hi'
      obtain ⟨c0, c1, c2, c3⟩ := hc.kept hbl
      have hok := Hok.out l[i] (List.getElem_mem hi')
      have hpl := Hpl.out l[i] (List.getElem_mem hi')
      have hli := Hlen.out i
      have HF := Lib.hid (textL_first hi')
      have HM := Lib.hid (textL_more hi')
      generalize l[i] = a at *
      obtain ⟨t0, f0, m0, W0⟩ := a
      simp only at c0 c1 c2 c3 hok
      unfold partText at HF HM hpl
      simp only at HF HM hpl
      obtain ⟨k1, k2, k3, k4, k5, k6, k7, k8⟩ := hok
      obtain ⟨t, rfl⟩ : ∃ k : Nat, t0 = (k : Int) := ⟨t0.toNat, by omega⟩
      obtain ⟨f, rfl⟩ : ∃ k : Nat, f0 = (k : Int) := ⟨f0.toNat, by omega⟩
      obtain ⟨m, rfl⟩ : ∃ k : Nat, m0 = (k : Int) := ⟨m0.toNat, by omega⟩
      rw [Int.toNat_natCast, Int.toNat_natCast] at HF HM hpl
      have ht3 : (t : Int) < 3 := by omega
      have hq1 := Lib.hid (fun w => refBits_any f (by omega) flB (by decide) w)
      have hq2 := Lib.hid (fun w => refBits_any m (by omega) msB (by decide) w)
      rw [flB_list] at hq1
      rw [msB_list] at hq2
      obtain ⟨F, hF⟩ : ∃ F, strOf (lets f flL) = F := ⟨_, rfl⟩
      obtain ⟨M, hM⟩ : ∃ F, strOf (lets m msL) = F := ⟨_, rfl⟩
      have hFl : F.data.toList = lets f flL := by rw [← hF, strOf_list]
      have hMl : M.data.toList = lets m msL := by rw [← hM, strOf_list]
      rw [hF] at hq1
      rw [hM] at hq2
      rw [← hFl, ← hMl] at HF HM hpl
      obtain ⟨L0, htw, hL0⟩ : ∃ L0 : ByteArray, (#[.string EE, .string A1, .string D1] : Array Value)[t]? = some (.string L0) ∧ L0.data.toList = [letter t] := by
        have : t = 1 ∨ t = 2 := by omega
        rcases this with rfl | rfl
        · exact ⟨A1, rfl, by rw [hAl]; rfl⟩
        · exact ⟨D1, rfl, by rw [hDl]; rfl⟩
      obtain ⟨S0, hS0, HS0⟩ : ∃ S0 : ByteArray, (if i = 0 then S else S ++ ⟨#[44]⟩) = S0 ∧ Hid (textL (l.take (i + 1)) = S0.data.toList ++ letter t :: 58 :: (F.data.toList ++ 58 :: (W0.data.toList ++ 58 :: M.data.toList))) := by
        by_cases h0 : i = 0
        · refine ⟨S, if_pos h0, Lib.hid ?_⟩
          rw [HF.out h0, ← HR.out]
        · refine ⟨_, if_neg h0, Lib.hid ?_⟩
          rw [HM.out h0, ← HR.out]
          simp [bytes_list]
      have hSs : S.size ≤ 8992 := by rw [← len_list, HR.out]; exact hli
      have hS0s : S0.size ≤ 8993 := by
        rw [← hS0]
        split
        · omega
        · rw [ByteArray.size_append]; show S.size + 1 ≤ _; omega
      clear HF HM HR hli
      obtain ⟨S1, hS1⟩ : ∃ S1, S0 ++ L0 = S1 := ⟨_, rfl⟩
      obtain ⟨S2, hS2⟩ : ∃ S2, S1 ++ ⟨#[58]⟩ = S2 := ⟨_, rfl⟩
      obtain ⟨S3, hS3⟩ : ∃ S3, S2 ++ F = S3 := ⟨_, rfl⟩
      obtain ⟨S4, hS4⟩ : ∃ S4, S3 ++ ⟨#[58]⟩ = S4 := ⟨_, rfl⟩
      obtain ⟨S5, hS5⟩ : ∃ S5, S4 ++ W0 = S5 := ⟨_, rfl⟩
      obtain ⟨S6, hS6⟩ : ∃ S6, S5 ++ ⟨#[58]⟩ = S6 := ⟨_, rfl⟩
      obtain ⟨S7, hS7⟩ : ∃ S7, S6 ++ M = S7 := ⟨_, rfl⟩
      have HT : Hid (S7.data.toList = textL (l.take (i + 1))) := Lib.hid (by rw [HS0.out]; exact text_sum2 t _ _ W0 S0 L0 S1 S2 S3 S4 S5 S6 S7 F M hL0 rfl rfl hS1 hS2 hS3 hS4 hS5 hS6 hS7)
      have q1 : ByteArray.size ⟨#[58]⟩ = 1 := rfl
      have z0 : L0.size = 1 := by rw [← len_list, hL0]; rfl
      have z1 := add_str hS1.symm
      have z2 := add_str hS2.symm
      have z3 := add_str hS3.symm
      have z4 := add_str hS4.symm
      have z5 := add_str hS5.symm
      have z6 := add_str hS6.symm
      simp only [List.length_cons, List.length_append, len_list] at hpl
      have b1 : ¬ 9223372036854775807 < S0.size + L0.size := by omega
      have b2 : ¬ 9223372036854775807 < S1.size + 1 := by omega
      have b3 : ¬ 9223372036854775807 < S2.size + F.size := by omega
      have b4 : ¬ 9223372036854775807 < S3.size + 1 := by omega
      have b5 : ¬ 9223372036854775807 < S4.size + W0.size := by omega
      have b6 : ¬ 9223372036854775807 < S5.size + 1 := by omega
      have b7 : ¬ 9223372036854775807 < S6.size + M.size := by omega
      have b0 : ¬ 9223372036854775807 < S.size + 1 := by omega
      have hsz := hbl.size
      clear z0 z1 z2 z3 z4 z5 z6 q1 hpl HS0 hL0 hFl hMl hF hM hc k1 k2 k3 k4 k5 k6 k7 k8 hSs hS0s
      have key : ∀ (K : World → Prop), True := fun _ => trivial
      by_cases h0 : i = 0
      · have d0 : decide (0 < (i : Int)) = false := decide_eq_false (by omega)
        have d0' : decide (0 < i) = false := decide_eq_false (by omega)
        rw [if_pos h0] at hS0
        replace hS0 := hS0.symm
        subst hS0
        clear h0
        go_wp2_with fail
        refine region_lastqgL (S := fun W => Below wr.heap.size wr W) 33
          [(fun W v => v = .string S0),
             (fun W v => ∃ g, v = .slice (some ⟨g, 0, none⟩) 3 3 ∧ BlkIs W g 9 #[.string EE, .string A1, .string D1]),
             (fun W v => v = .slice (some ⟨g0, off, none⟩) z cap),
             (fun W v => v = .int .i64 (i : Nat)),
             (fun W v => v = .pointer (some ⟨g0, off + i * 4, none⟩)),
             (fun W v => v = .pointer (some ⟨g0, off + i * 4, none⟩)),
             (fun W v => v = .int .i64 (t : Nat)),
             (fun W v => ∃ g, v = .pointer (some ⟨g, t, none⟩) ∧ BlkIs W g 9 #[.string EE, .string A1, .string D1]),
             (fun W v => v = .string L0),
             (fun W v => v = .string S1),
             (fun W v => v = .string S2),
             (fun W v => v = .slice (some ⟨g0, off, none⟩) z cap),
             (fun W v => v = .int .i64 (i : Nat)),
             (fun W v => v = .pointer (some ⟨g0, off + i * 4, none⟩)),
             (fun W v => v = .pointer (some ⟨g0, off + i * 4 + 1, none⟩)),
             (fun W v => v = .int .i64 (f : Nat)),
             (fun W v => v = .string F),
             (fun W v => v = .string S3),
             (fun W v => v = .string S4),
             (fun W v => v = .slice (some ⟨g0, off, none⟩) z cap),
             (fun W v => v = .int .i64 (i : Nat)),
             (fun W v => v = .pointer (some ⟨g0, off + i * 4, none⟩)),
             (fun W v => v = .pointer (some ⟨g0, off + i * 4 + 3, none⟩)),
             (fun W v => v = .string W0),
             (fun W v => v = .string S5),
             (fun W v => v = .string S6),
             (fun W v => v = .slice (some ⟨g0, off, none⟩) z cap),
             (fun W v => v = .int .i64 (i : Nat)),
             (fun W v => v = .pointer (some ⟨g0, off + i * 4, none⟩)),
             (fun W v => v = .pointer (some ⟨g0, off + i * 4 + 2, none⟩)),
             (fun W v => v = .int .i64 (m : Nat)),
             (fun W v => v = .string M),
             (fun W v => v = .string S7)] (by rfl) (by kernel_rfl) (by kernel_rfl) (by kernel_rfl) (by kernel_rfl) (by rfl) (by kernel_rfl) ?hS ?hp ?hs ?he
        case hS => exact gr_drew (Below.refl _ _)
        case hp => repeat' (first | exact trivial | refine ⟨fun _ _ _ _ h => h, ?_⟩ | refine ⟨fun _ _ _ hb h => ?_, ?_⟩ | (obtain ⟨h', e1, e3⟩ := h; exact ⟨h', e1, e3.kept hb e3.size⟩))
        case hs =>
          simp only [List.take_succ_cons, List.take_zero]
          have C0 := c0
          have C1 := c1
          have C2 := c2
          have C3 := c3
          clear c0 c1 c2 c3
          refine ⟨?_, ?_, ?_, ?_, ?_, ?_, ?_, ?_, ?_, ?_, ?_, ?_, ?_, ?_, ?_, ?_, ?_, ?_, ?_, ?_, ?_, ?_, ?_, ?_, ?_, ?_, ?_, ?_, ?_, ?_, ?_, ?_, ?_, trivial⟩
          · refine ⟨met_none rfl, ?_⟩
            intro a W K hS hd hf hK
            have e3 : a.tmps.getD 3 undef = .string S0 := hf 3 (by kernel_rfl)
            clear hd hf
            go_simp
            exact hK _ _ (Below.refl _ _) hS rfl
          · refine ⟨met_none rfl, ?_⟩
            intro a W K hS hd hf hK
            clear hd hf
            go_simp
            exact hK _ _ ((Below.refl _ _).alloc (Nat.le_refl _) _) (gr_alloc hS _) ⟨_, rfl, BlkIs.made _ _ _⟩
          · refine ⟨met_none rfl, ?_⟩
            intro a W K hS hd hf hK
            have e0 : a.tmps.getD 0 undef = .slice (some ⟨g0, off, none⟩) z cap := hf 0 (by kernel_rfl)
            clear hd hf
            go_simp
            exact hK _ _ (Below.refl _ _) hS rfl
          · refine ⟨met_none rfl, ?_⟩
            intro a W K hS hd hf hK
            have e4 : a.tmps.getD 4 undef = .int .i64 (i : Nat) := hf 4 (by kernel_rfl)
            clear hd hf
            go_simp
            exact hK _ _ (Below.refl _ _) hS rfl
          · refine ⟨met_none rfl, ?_⟩
            intro a W K hS hd hf hK
            have e17 : a.tmps.getD 17 undef = .slice (some ⟨g0, off, none⟩) z cap := hd ⟨2, .data⟩ (by simp) rfl
            have e18 : a.tmps.getD 18 undef = .int .i64 (i : Nat) := hd ⟨3, .data⟩ (by simp) rfl
            clear hd hf
            go_simp
            exact hK _ _ (Below.refl _ _) hS rfl
          · refine ⟨met_none rfl, ?_⟩
            intro a W K hS hd hf hK
            have e19 : a.tmps.getD 19 undef = .pointer (some ⟨g0, off + i * 4, none⟩) := hd ⟨4, .data⟩ (by simp) rfl
            clear hd hf
            go_simp
            exact hK _ _ (Below.refl _ _) hS rfl
          · refine ⟨met_none rfl, ?_⟩
            intro a W K hS hd hf hK
            have e20 : a.tmps.getD 20 undef = .pointer (some ⟨g0, off + i * 4, none⟩) := hd ⟨5, .data⟩ (by simp) rfl
            have c0 := cell_kept hS C0
            clear hd hf
            go_simp
            exact hK _ _ (Below.refl _ _) hS rfl
          · refine ⟨met_none rfl, ?_⟩
            intro a W K hS hd hf hK
            have p16 := hd ⟨1, .data⟩ (by simp) rfl
            have e21 : a.tmps.getD 21 undef = .int .i64 (t : Nat) := hd ⟨6, .data⟩ (by simp) rfl
            obtain ⟨g, e16, hg⟩ := p16
            replace e16 : a.tmps.getD 16 undef = .slice (some ⟨g, 0, none⟩) 3 3 := e16
            clear hd hf
            go_simp
            exact hK _ _ (Below.refl _ _) hS ⟨g, rfl, hg⟩
          · refine ⟨met_none rfl, ?_⟩
            intro a W K hS hd hf hK
            have p22 := hd ⟨7, .data⟩ (by simp) rfl
            obtain ⟨g, e22, hg⟩ := p22
            replace e22 : a.tmps.getD 22 undef = .pointer (some ⟨g, t, none⟩) := e22
            have c0 := hg.cell_some t _ htw
            clear hd hf
            go_simp
            exact hK _ _ (Below.refl _ _) hS rfl
          · refine ⟨met_none rfl, ?_⟩
            intro a W K hS hd hf hK
            have e15 : a.tmps.getD 15 undef = .string S0 := hd ⟨0, .data⟩ (by simp) rfl
            have e23 : a.tmps.getD 23 undef = .string L0 := hd ⟨8, .data⟩ (by simp) rfl
            clear hd hf
            go_simp
            exact hK _ _ (Below.refl _ _) hS rfl
          · refine ⟨met_none rfl, ?_⟩
            intro a W K hS hd hf hK
            have e24 : a.tmps.getD 24 undef = .string S1 := hd ⟨9, .data⟩ (by simp) rfl
            clear hd hf
            go_simp
            exact hK _ _ (Below.refl _ _) hS rfl
          · refine ⟨met_none rfl, ?_⟩
            intro a W K hS hd hf hK
            have e0 : a.tmps.getD 0 undef = .slice (some ⟨g0, off, none⟩) z cap := hf 0 (by kernel_rfl)
            clear hd hf
            go_simp
            exact hK _ _ (Below.refl _ _) hS rfl
          · refine ⟨met_none rfl, ?_⟩
            intro a W K hS hd hf hK
            have e4 : a.tmps.getD 4 undef = .int .i64 (i : Nat) := hf 4 (by kernel_rfl)
            clear hd hf
            go_simp
            exact hK _ _ (Below.refl _ _) hS rfl
          · refine ⟨met_none rfl, ?_⟩
            intro a W K hS hd hf hK
            have e26 : a.tmps.getD 26 undef = .slice (some ⟨g0, off, none⟩) z cap := hd ⟨11, .data⟩ (by simp) rfl
            have e27 : a.tmps.getD 27 undef = .int .i64 (i : Nat) := hd ⟨12, .data⟩ (by simp) rfl
            clear hd hf
            go_simp
            exact hK _ _ (Below.refl _ _) hS rfl
          · refine ⟨met_none rfl, ?_⟩
            intro a W K hS hd hf hK
            have e28 : a.tmps.getD 28 undef = .pointer (some ⟨g0, off + i * 4, none⟩) := hd ⟨13, .data⟩ (by simp) rfl
            clear hd hf
            go_simp
            exact hK _ _ (Below.refl _ _) hS rfl
          · refine ⟨met_none rfl, ?_⟩
            intro a W K hS hd hf hK
            have e29 : a.tmps.getD 29 undef = .pointer (some ⟨g0, off + i * 4 + 1, none⟩) := hd ⟨14, .data⟩ (by simp) rfl
            have c0 := cell_kept hS C1
            clear hd hf
            go_simp
            exact hK _ _ (Below.refl _ _) hS rfl
          · refine ⟨met_none rfl, ?_⟩
            intro a W K hS hd hf hK
            have e30 : a.tmps.getD 30 undef = .int .i64 (f : Nat) := hd ⟨15, .data⟩ (by simp) rfl
            clear hd hf
            go_simp
            go_at_call 27
            refine (hq1.out _).mono ?_
            rintro e w1 ⟨rfl, rfl⟩
            exact hK _ _ (Below.refl _ _) hS rfl
          · refine ⟨met_none rfl, ?_⟩
            intro a W K hS hd hf hK
            have e25 : a.tmps.getD 25 undef = .string S2 := hd ⟨10, .data⟩ (by simp) rfl
            have e31 : a.tmps.getD 31 undef = .string F := hd ⟨16, .data⟩ (by simp) rfl
            clear hd hf
            go_simp
            exact hK _ _ (Below.refl _ _) hS rfl
          · refine ⟨met_none rfl, ?_⟩
            intro a W K hS hd hf hK
            have e32 : a.tmps.getD 32 undef = .string S3 := hd ⟨17, .data⟩ (by simp) rfl
            clear hd hf
            go_simp
            exact hK _ _ (Below.refl _ _) hS rfl
          · refine ⟨met_none rfl, ?_⟩
            intro a W K hS hd hf hK
            have e0 : a.tmps.getD 0 undef = .slice (some ⟨g0, off, none⟩) z cap := hf 0 (by kernel_rfl)
            clear hd hf
            go_simp
            exact hK _ _ (Below.refl _ _) hS rfl
          · refine ⟨met_none rfl, ?_⟩
            intro a W K hS hd hf hK
            have e4 : a.tmps.getD 4 undef = .int .i64 (i : Nat) := hf 4 (by kernel_rfl)
            clear hd hf
            go_simp
            exact hK _ _ (Below.refl _ _) hS rfl
          · refine ⟨met_none rfl, ?_⟩
            intro a W K hS hd hf hK
            have e34 : a.tmps.getD 34 undef = .slice (some ⟨g0, off, none⟩) z cap := hd ⟨19, .data⟩ (by simp) rfl
            have e35 : a.tmps.getD 35 undef = .int .i64 (i : Nat) := hd ⟨20, .data⟩ (by simp) rfl
            clear hd hf
            go_simp
            exact hK _ _ (Below.refl _ _) hS rfl
          · refine ⟨met_none rfl, ?_⟩
            intro a W K hS hd hf hK
            have e36 : a.tmps.getD 36 undef = .pointer (some ⟨g0, off + i * 4, none⟩) := hd ⟨21, .data⟩ (by simp) rfl
            clear hd hf
            go_simp
            exact hK _ _ (Below.refl _ _) hS rfl
          · refine ⟨met_none rfl, ?_⟩
            intro a W K hS hd hf hK
            have e37 : a.tmps.getD 37 undef = .pointer (some ⟨g0, off + i * 4 + 3, none⟩) := hd ⟨22, .data⟩ (by simp) rfl
            have c0 := cell_kept hS C3
            clear hd hf
            go_simp
            exact hK _ _ (Below.refl _ _) hS rfl
          · refine ⟨met_none rfl, ?_⟩
            intro a W K hS hd hf hK
            have e33 : a.tmps.getD 33 undef = .string S4 := hd ⟨18, .data⟩ (by simp) rfl
            have e38 : a.tmps.getD 38 undef = .string W0 := hd ⟨23, .data⟩ (by simp) rfl
            clear hd hf
            go_simp
            exact hK _ _ (Below.refl _ _) hS rfl
          · refine ⟨met_none rfl, ?_⟩
            intro a W K hS hd hf hK
            have e39 : a.tmps.getD 39 undef = .string S5 := hd ⟨24, .data⟩ (by simp) rfl
            clear hd hf
            go_simp
            exact hK _ _ (Below.refl _ _) hS rfl
          · refine ⟨met_none rfl, ?_⟩
            intro a W K hS hd hf hK
            have e0 : a.tmps.getD 0 undef = .slice (some ⟨g0, off, none⟩) z cap := hf 0 (by kernel_rfl)
            clear hd hf
            go_simp
            exact hK _ _ (Below.refl _ _) hS rfl
          · refine ⟨met_none rfl, ?_⟩
            intro a W K hS hd hf hK
            have e4 : a.tmps.getD 4 undef = .int .i64 (i : Nat) := hf 4 (by kernel_rfl)
            clear hd hf
            go_simp
            exact hK _ _ (Below.refl _ _) hS rfl
          · refine ⟨met_none rfl, ?_⟩
            intro a W K hS hd hf hK
            have e41 : a.tmps.getD 41 undef = .slice (some ⟨g0, off, none⟩) z cap := hd ⟨26, .data⟩ (by simp) rfl
            have e42 : a.tmps.getD 42 undef = .int .i64 (i : Nat) := hd ⟨27, .data⟩ (by simp) rfl
            clear hd hf
            go_simp
            exact hK _ _ (Below.refl _ _) hS rfl
          · refine ⟨met_none rfl, ?_⟩
            intro a W K hS hd hf hK
            have e43 : a.tmps.getD 43 undef = .pointer (some ⟨g0, off + i * 4, none⟩) := hd ⟨28, .data⟩ (by simp) rfl
            clear hd hf
            go_simp
            exact hK _ _ (Below.refl _ _) hS rfl
          · refine ⟨met_none rfl, ?_⟩
            intro a W K hS hd hf hK
            have e44 : a.tmps.getD 44 undef = .pointer (some ⟨g0, off + i * 4 + 2, none⟩) := hd ⟨29, .data⟩ (by simp) rfl
            have c0 := cell_kept hS C2
            clear hd hf
            go_simp
            exact hK _ _ (Below.refl _ _) hS rfl
          · refine ⟨met_none rfl, ?_⟩
            intro a W K hS hd hf hK
            have e45 : a.tmps.getD 45 undef = .int .i64 (m : Nat) := hd ⟨30, .data⟩ (by simp) rfl
            clear hd hf
            go_simp
            go_at_call 27
            refine (hq2.out _).mono ?_
            rintro e w1 ⟨rfl, rfl⟩
            exact hK _ _ (Below.refl _ _) hS rfl
          · refine ⟨met_none rfl, ?_⟩
            intro a W K hS hd hf hK
            have e40 : a.tmps.getD 40 undef = .string S6 := hd ⟨25, .data⟩ (by simp) rfl
            have e46 : a.tmps.getD 46 undef = .string M := hd ⟨31, .data⟩ (by simp) rfl
            clear hd hf
            go_simp
            exact hK _ _ (Below.refl _ _) hS rfl
        case he =>
          intro vals w6 K hS6 hV hK
          have e47 := hV 32 (by omega)
          clear hV
          simp only [List.getD_cons_succ, List.getD_cons_zero] at e47
          have hbl6 := gr_call hbl hS6
          clear hS6 hbl c0 c1 c2 c3 hq1 hq2 htw
          refine Later.mk ?_
          simp only [List.append_eq, List.cons_append, List.nil_append, setN, Nat.reduceAdd, List.setIfInBounds_toArray, List.set_cons_succ, List.set_cons_zero]
          rw [e47]
          go_simp
          refine hK _ _ ?_
          clear hK e47
          go_wp2_with fail
          go_roundw
          case rel => exact ⟨i + 1, S7, rfl, by omega, rfl, hbl6, HT⟩
          case measure => simp only [intOf]; omega
      · have d0 : decide (0 < (i : Int)) = true := decide_eq_true (by omega)
        have d0' : decide (0 < i) = true := decide_eq_true (by omega)
        rw [if_neg h0] at hS0
        clear h0
        go_wp2_with fail
        refine region_lastqgL (S := fun W => Below wr.heap.size wr W) 33
          [(fun W v => v = .string S0),
             (fun W v => ∃ g, v = .slice (some ⟨g, 0, none⟩) 3 3 ∧ BlkIs W g 9 #[.string EE, .string A1, .string D1]),
             (fun W v => v = .slice (some ⟨g0, off, none⟩) z cap),
             (fun W v => v = .int .i64 (i : Nat)),
             (fun W v => v = .pointer (some ⟨g0, off + i * 4, none⟩)),
             (fun W v => v = .pointer (some ⟨g0, off + i * 4, none⟩)),
             (fun W v => v = .int .i64 (t : Nat)),
             (fun W v => ∃ g, v = .pointer (some ⟨g, t, none⟩) ∧ BlkIs W g 9 #[.string EE, .string A1, .string D1]),
             (fun W v => v = .string L0),
             (fun W v => v = .string S1),
             (fun W v => v = .string S2),
             (fun W v => v = .slice (some ⟨g0, off, none⟩) z cap),
             (fun W v => v = .int .i64 (i : Nat)),
             (fun W v => v = .pointer (some ⟨g0, off + i * 4, none⟩)),
             (fun W v => v = .pointer (some ⟨g0, off + i * 4 + 1, none⟩)),
             (fun W v => v = .int .i64 (f : Nat)),
             (fun W v => v = .string F),
             (fun W v => v = .string S3),
             (fun W v => v = .string S4),
             (fun W v => v = .slice (some ⟨g0, off, none⟩) z cap),
             (fun W v => v = .int .i64 (i : Nat)),
             (fun W v => v = .pointer (some ⟨g0, off + i * 4, none⟩)),
             (fun W v => v = .pointer (some ⟨g0, off + i * 4 + 3, none⟩)),
             (fun W v => v = .string W0),
             (fun W v => v = .string S5),
             (fun W v => v = .string S6),
             (fun W v => v = .slice (some ⟨g0, off, none⟩) z cap),
             (fun W v => v = .int .i64 (i : Nat)),
             (fun W v => v = .pointer (some ⟨g0, off + i * 4, none⟩)),
             (fun W v => v = .pointer (some ⟨g0, off + i * 4 + 2, none⟩)),
             (fun W v => v = .int .i64 (m : Nat)),
             (fun W v => v = .string M),
             (fun W v => v = .string S7)] (by rfl) (by kernel_rfl) (by kernel_rfl) (by kernel_rfl) (by kernel_rfl) (by rfl) (by kernel_rfl) ?hS ?hp ?hs ?he
        case hS => exact gr_drew (Below.refl _ _)
        case hp => repeat' (first | exact trivial | refine ⟨fun _ _ _ _ h => h, ?_⟩ | refine ⟨fun _ _ _ hb h => ?_, ?_⟩ | (obtain ⟨h', e1, e3⟩ := h; exact ⟨h', e1, e3.kept hb e3.size⟩))
        case hs =>
          simp only [List.take_succ_cons, List.take_zero]
          have C0 := c0
          have C1 := c1
          have C2 := c2
          have C3 := c3
          clear c0 c1 c2 c3
          refine ⟨?_, ?_, ?_, ?_, ?_, ?_, ?_, ?_, ?_, ?_, ?_, ?_, ?_, ?_, ?_, ?_, ?_, ?_, ?_, ?_, ?_, ?_, ?_, ?_, ?_, ?_, ?_, ?_, ?_, ?_, ?_, ?_, ?_, trivial⟩
          · refine ⟨met_none rfl, ?_⟩
            intro a W K hS hd hf hK
            have e3 : a.tmps.getD 3 undef = .string S0 := hf 3 (by kernel_rfl)
            clear hd hf
            go_simp
            exact hK _ _ (Below.refl _ _) hS rfl
          · refine ⟨met_none rfl, ?_⟩
            intro a W K hS hd hf hK
            clear hd hf
            go_simp
            exact hK _ _ ((Below.refl _ _).alloc (Nat.le_refl _) _) (gr_alloc hS _) ⟨_, rfl, BlkIs.made _ _ _⟩
          · refine ⟨met_none rfl, ?_⟩
            intro a W K hS hd hf hK
            have e0 : a.tmps.getD 0 undef = .slice (some ⟨g0, off, none⟩) z cap := hf 0 (by kernel_rfl)
            clear hd hf
            go_simp
            exact hK _ _ (Below.refl _ _) hS rfl
          · refine ⟨met_none rfl, ?_⟩
            intro a W K hS hd hf hK
            have e4 : a.tmps.getD 4 undef = .int .i64 (i : Nat) := hf 4 (by kernel_rfl)
            clear hd hf
            go_simp
            exact hK _ _ (Below.refl _ _) hS rfl
          · refine ⟨met_none rfl, ?_⟩
            intro a W K hS hd hf hK
            have e17 : a.tmps.getD 17 undef = .slice (some ⟨g0, off, none⟩) z cap := hd ⟨2, .data⟩ (by simp) rfl
            have e18 : a.tmps.getD 18 undef = .int .i64 (i : Nat) := hd ⟨3, .data⟩ (by simp) rfl
            clear hd hf
            go_simp
            exact hK _ _ (Below.refl _ _) hS rfl
          · refine ⟨met_none rfl, ?_⟩
            intro a W K hS hd hf hK
            have e19 : a.tmps.getD 19 undef = .pointer (some ⟨g0, off + i * 4, none⟩) := hd ⟨4, .data⟩ (by simp) rfl
            clear hd hf
            go_simp
            exact hK _ _ (Below.refl _ _) hS rfl
          · refine ⟨met_none rfl, ?_⟩
            intro a W K hS hd hf hK
            have e20 : a.tmps.getD 20 undef = .pointer (some ⟨g0, off + i * 4, none⟩) := hd ⟨5, .data⟩ (by simp) rfl
            have c0 := cell_kept hS C0
            clear hd hf
            go_simp
            exact hK _ _ (Below.refl _ _) hS rfl
          · refine ⟨met_none rfl, ?_⟩
            intro a W K hS hd hf hK
            have p16 := hd ⟨1, .data⟩ (by simp) rfl
            have e21 : a.tmps.getD 21 undef = .int .i64 (t : Nat) := hd ⟨6, .data⟩ (by simp) rfl
            obtain ⟨g, e16, hg⟩ := p16
            replace e16 : a.tmps.getD 16 undef = .slice (some ⟨g, 0, none⟩) 3 3 := e16
            clear hd hf
            go_simp
            exact hK _ _ (Below.refl _ _) hS ⟨g, rfl, hg⟩
          · refine ⟨met_none rfl, ?_⟩
            intro a W K hS hd hf hK
            have p22 := hd ⟨7, .data⟩ (by simp) rfl
            obtain ⟨g, e22, hg⟩ := p22
            replace e22 : a.tmps.getD 22 undef = .pointer (some ⟨g, t, none⟩) := e22
            have c0 := hg.cell_some t _ htw
            clear hd hf
            go_simp
            exact hK _ _ (Below.refl _ _) hS rfl
          · refine ⟨met_none rfl, ?_⟩
            intro a W K hS hd hf hK
            have e15 : a.tmps.getD 15 undef = .string S0 := hd ⟨0, .data⟩ (by simp) rfl
            have e23 : a.tmps.getD 23 undef = .string L0 := hd ⟨8, .data⟩ (by simp) rfl
            clear hd hf
            go_simp
            exact hK _ _ (Below.refl _ _) hS rfl
          · refine ⟨met_none rfl, ?_⟩
            intro a W K hS hd hf hK
            have e24 : a.tmps.getD 24 undef = .string S1 := hd ⟨9, .data⟩ (by simp) rfl
            clear hd hf
            go_simp
            exact hK _ _ (Below.refl _ _) hS rfl
          · refine ⟨met_none rfl, ?_⟩
            intro a W K hS hd hf hK
            have e0 : a.tmps.getD 0 undef = .slice (some ⟨g0, off, none⟩) z cap := hf 0 (by kernel_rfl)
            clear hd hf
            go_simp
            exact hK _ _ (Below.refl _ _) hS rfl
          · refine ⟨met_none rfl, ?_⟩
            intro a W K hS hd hf hK
            have e4 : a.tmps.getD 4 undef = .int .i64 (i : Nat) := hf 4 (by kernel_rfl)
            clear hd hf
            go_simp
            exact hK _ _ (Below.refl _ _) hS rfl
          · refine ⟨met_none rfl, ?_⟩
            intro a W K hS hd hf hK
            have e26 : a.tmps.getD 26 undef = .slice (some ⟨g0, off, none⟩) z cap := hd ⟨11, .data⟩ (by simp) rfl
            have e27 : a.tmps.getD 27 undef = .int .i64 (i : Nat) := hd ⟨12, .data⟩ (by simp) rfl
            clear hd hf
            go_simp
            exact hK _ _ (Below.refl _ _) hS rfl
          · refine ⟨met_none rfl, ?_⟩
            intro a W K hS hd hf hK
            have e28 : a.tmps.getD 28 undef = .pointer (some ⟨g0, off + i * 4, none⟩) := hd ⟨13, .data⟩ (by simp) rfl
            clear hd hf
            go_simp
            exact hK _ _ (Below.refl _ _) hS rfl
          · refine ⟨met_none rfl, ?_⟩
            intro a W K hS hd hf hK
            have e29 : a.tmps.getD 29 undef = .pointer (some ⟨g0, off + i * 4 + 1, none⟩) := hd ⟨14, .data⟩ (by simp) rfl
            have c0 := cell_kept hS C1
            clear hd hf
            go_simp
            exact hK _ _ (Below.refl _ _) hS rfl
          · refine ⟨met_none rfl, ?_⟩
            intro a W K hS hd hf hK
            have e30 : a.tmps.getD 30 undef = .int .i64 (f : Nat) := hd ⟨15, .data⟩ (by simp) rfl
            clear hd hf
            go_simp
            go_at_call 27
            refine (hq1.out _).mono ?_
            rintro e w1 ⟨rfl, rfl⟩
            exact hK _ _ (Below.refl _ _) hS rfl
          · refine ⟨met_none rfl, ?_⟩
            intro a W K hS hd hf hK
            have e25 : a.tmps.getD 25 undef = .string S2 := hd ⟨10, .data⟩ (by simp) rfl
            have e31 : a.tmps.getD 31 undef = .string F := hd ⟨16, .data⟩ (by simp) rfl
            clear hd hf
            go_simp
            exact hK _ _ (Below.refl _ _) hS rfl
          · refine ⟨met_none rfl, ?_⟩
            intro a W K hS hd hf hK
            have e32 : a.tmps.getD 32 undef = .string S3 := hd ⟨17, .data⟩ (by simp) rfl
            clear hd hf
            go_simp
            exact hK _ _ (Below.refl _ _) hS rfl
          · refine ⟨met_none rfl, ?_⟩
            intro a W K hS hd hf hK
            have e0 : a.tmps.getD 0 undef = .slice (some ⟨g0, off, none⟩) z cap := hf 0 (by kernel_rfl)
            clear hd hf
            go_simp
            exact hK _ _ (Below.refl _ _) hS rfl
          · refine ⟨met_none rfl, ?_⟩
            intro a W K hS hd hf hK
            have e4 : a.tmps.getD 4 undef = .int .i64 (i : Nat) := hf 4 (by kernel_rfl)
            clear hd hf
            go_simp
            exact hK _ _ (Below.refl _ _) hS rfl
          · refine ⟨met_none rfl, ?_⟩
            intro a W K hS hd hf hK
            have e34 : a.tmps.getD 34 undef = .slice (some ⟨g0, off, none⟩) z cap := hd ⟨19, .data⟩ (by simp) rfl
            have e35 : a.tmps.getD 35 undef = .int .i64 (i : Nat) := hd ⟨20, .data⟩ (by simp) rfl
            clear hd hf
            go_simp
            exact hK _ _ (Below.refl _ _) hS rfl
          · refine ⟨met_none rfl, ?_⟩
            intro a W K hS hd hf hK
            have e36 : a.tmps.getD 36 undef = .pointer (some ⟨g0, off + i * 4, none⟩) := hd ⟨21, .data⟩ (by simp) rfl
            clear hd hf
            go_simp
            exact hK _ _ (Below.refl _ _) hS rfl
          · refine ⟨met_none rfl, ?_⟩
            intro a W K hS hd hf hK
            have e37 : a.tmps.getD 37 undef = .pointer (some ⟨g0, off + i * 4 + 3, none⟩) := hd ⟨22, .data⟩ (by simp) rfl
            have c0 := cell_kept hS C3
            clear hd hf
            go_simp
            exact hK _ _ (Below.refl _ _) hS rfl
          · refine ⟨met_none rfl, ?_⟩
            intro a W K hS hd hf hK
            have e33 : a.tmps.getD 33 undef = .string S4 := hd ⟨18, .data⟩ (by simp) rfl
            have e38 : a.tmps.getD 38 undef = .string W0 := hd ⟨23, .data⟩ (by simp) rfl
            clear hd hf
            go_simp
            exact hK _ _ (Below.refl _ _) hS rfl
          · refine ⟨met_none rfl, ?_⟩
            intro a W K hS hd hf hK
            have e39 : a.tmps.getD 39 undef = .string S5 := hd ⟨24, .data⟩ (by simp) rfl
            clear hd hf
            go_simp
            exact hK _ _ (Below.refl _ _) hS rfl
          · refine ⟨met_none rfl, ?_⟩
            intro a W K hS hd hf hK
            have e0 : a.tmps.getD 0 undef = .slice (some ⟨g0, off, none⟩) z cap := hf 0 (by kernel_rfl)
            clear hd hf
            go_simp
            exact hK _ _ (Below.refl _ _) hS rfl
          · refine ⟨met_none rfl, ?_⟩
            intro a W K hS hd hf hK
            have e4 : a.tmps.getD 4 undef = .int .i64 (i : Nat) := hf 4 (by kernel_rfl)
            clear hd hf
            go_simp
            exact hK _ _ (Below.refl _ _) hS rfl
          · refine ⟨met_none rfl, ?_⟩
            intro a W K hS hd hf hK
            have e41 : a.tmps.getD 41 undef = .slice (some ⟨g0, off, none⟩) z cap := hd ⟨26, .data⟩ (by simp) rfl
            have e42 : a.tmps.getD 42 undef = .int .i64 (i : Nat) := hd ⟨27, .data⟩ (by simp) rfl
            clear hd hf
            go_simp
            exact hK _ _ (Below.refl _ _) hS rfl
          · refine ⟨met_none rfl, ?_⟩
            intro a W K hS hd hf hK
            have e43 : a.tmps.getD 43 undef = .pointer (some ⟨g0, off + i * 4, none⟩) := hd ⟨28, .data⟩ (by simp) rfl
            clear hd hf
            go_simp
            exact hK _ _ (Below.refl _ _) hS rfl
          · refine ⟨met_none rfl, ?_⟩
            intro a W K hS hd hf hK
            have e44 : a.tmps.getD 44 undef = .pointer (some ⟨g0, off + i * 4 + 2, none⟩) := hd ⟨29, .data⟩ (by simp) rfl
            have c0 := cell_kept hS C2
            clear hd hf
            go_simp
            exact hK _ _ (Below.refl _ _) hS rfl
          · refine ⟨met_none rfl, ?_⟩
            intro a W K hS hd hf hK
            have e45 : a.tmps.getD 45 undef = .int .i64 (m : Nat) := hd ⟨30, .data⟩ (by simp) rfl
            clear hd hf
            go_simp
            go_at_call 27
            refine (hq2.out _).mono ?_
            rintro e w1 ⟨rfl, rfl⟩
            exact hK _ _ (Below.refl _ _) hS rfl
          · refine ⟨met_none rfl, ?_⟩
            intro a W K hS hd hf hK
            have e40 : a.tmps.getD 40 undef = .string S6 := hd ⟨25, .data⟩ (by simp) rfl
            have e46 : a.tmps.getD 46 undef = .string M := hd ⟨31, .data⟩ (by simp) rfl
            clear hd hf
            go_simp
            exact hK _ _ (Below.refl _ _) hS rfl
        case he =>
          intro vals w6 K hS6 hV hK
          have e47 := hV 32 (by omega)
          clear hV
          simp only [List.getD_cons_succ, List.getD_cons_zero] at e47
          have hbl6 := gr_call hbl hS6
          clear hS6 hbl c0 c1 c2 c3 hq1 hq2 htw
          refine Later.mk ?_
          simp only [List.append_eq, List.cons_append, List.nil_append, setN, Nat.reduceAdd, List.setIfInBounds_toArray, List.set_cons_succ, List.set_cons_zero]
          rw [e47]
          go_simp
          refine hK _ _ ?_
          clear hK e47
          go_wp2_with fail
          go_roundw
          case rel => exact ⟨i + 1, S7, rfl, by omega, rfl, hbl6, HT⟩
          case measure => simp only [intOf]; omega
    · have hlt' : decide ((i : Int) < (z : Int)) = false := decide_eq_false (by omega)
      have hlt2 : decide (i < z) = false := decide_eq_false hlt
      have HE := Lib.hid (show S = strOf (textL l) from str_eq (by rw [HR.out, List.take_of_length_le (by rw [Hz.out]; omega)]))
      clear HR
      go_wp2_with fail
      go_ret
      exact ⟨by rw [HE.out]; rfl, hbl⟩
end Go.Proofs.YtikdpoekjfbpaaaDoor
