/- Walks over the document's answer for texts: Bad, Valid, Count; what the laws share; the law TextAll. -/
import Derived.Test.YthmmcmpbpfnocaaDoorRefText
namespace Go.Proofs.YthmmcmpbpfnocaaDoor
open Go.RowKit
open TextM
set_option linter.unusedVariables false

theorem refBad_any (S : ByteArray) (hS : S.size ≤ 1000000) (w : World) :
    Calls Tryd.prog 11 #[.string S] w fun e w' => e = .returned (.int .i64 (badI S.data.toList)) ∧ w' = w := by
  obtain ⟨n, hn⟩ : ∃ n, S.size = n := ⟨_, rfl⟩
  obtain ⟨L, hL⟩ : ∃ L, S.data.toList = L := ⟨_, rfl⟩
  have hln := Lib.hid (show L.length = n by rw [← hL, ← hn]; simp)
  have HX := Lib.hid (fun i => (show (S.extract i n).data.toList = L.drop i by rw [← hn, ext_list, hL]))
  have HZ := Lib.hid (fun i (hi : i ≤ n) => (show (S.extract i n).size = n - i by simp; omega))
  rw [hL]
  clear hL
  rw [hn] at hS
  go_enter Tryd.func11, Tryd.ntmps11
  go_wp2_with fail
  go_loop [3] (fun bv => ∃ i k : Nat, bv = .int .i64 (i : Int) ∧ i ≤ n ∧ Hid (rd L = ((rd (L.drop i)).1 + i, (rd (L.drop i)).2.1 + k, (rd (L.drop i)).2.2))) (fun bv => n - (intOf bv).toNat)
  case atStart => exact ⟨0, 0, rfl, by omega, Lib.hid (by simp)⟩
  case round =>
    obtain ⟨i, k, rfl, hi, HR⟩ := hrel
    by_cases hlt : i < n
    · have hlt' : (i : Int) < (n : Int) := by omega
      have hch := sign_any (S.extract i n) (by rw [HZ.out i hi]; omega) (by rw [HZ.out i hi]; omega)
      rw [HX.out i] at hch
      obtain ⟨m, hsz⟩ : ∃ m, sg (L.drop i) = m := ⟨_, rfl⟩
      rw [hsz] at hch
      by_cases hm : m = 0
      · subst hm
        have Hend := Lib.hid (rd_end HR.out hsz (by rw [hln.out]; exact hlt))
        clear hsz
        go_wp2_with fail
        refine (hch _).mono ?_
        rintro e w1 ⟨rfl, rfl⟩
        go_wp2_with fail
        go_ret
        exact ⟨ret_num Hend.out.1.symm, rfl⟩
      · have hst := rd_at HR.out (by rw [hsz]; exact hm)
        have hle := sg_len (L.drop i)
        rw [hsz, List.length_drop, hln.out] at hle
        rw [hsz] at hst
        have Hst := Lib.hid hst
        have hm4 := sg_le (L.drop i)
        rw [hsz] at hm4
        have hmz : ((m : Int) == 0) = false := by rw [beq_eq_false_iff_ne]; omega
        clear hsz hst
        go_wp2_with fail
        refine (hch _).mono ?_
        rintro e w1 ⟨rfl, rfl⟩
        go_wp2_with fail
        go_round
        case rel => exact ⟨i + m, k + 1, by first | rfl | go_num, by omega, Hst⟩
        case measure => simp only [intOf]; omega
    · have hlt' : ¬ (i : Int) < (n : Int) := by omega
      have Hend := Lib.hid (rd_all HR.out (by rw [hln.out]; omega))
      go_wp2_with fail
      go_ret
      exact ⟨ret_num Hend.out.1.symm, rfl⟩
theorem refCount_any (S : ByteArray) (hS : S.size ≤ 1000000) (w : World) :
    Calls Tryd.prog 13 #[.string S] w fun e w' => e = .returned (.int .i64 (cntN S.data.toList : Int)) ∧ w' = w := by
  obtain ⟨n, hn⟩ : ∃ n, S.size = n := ⟨_, rfl⟩
  obtain ⟨L, hL⟩ : ∃ L, S.data.toList = L := ⟨_, rfl⟩
  have hln := Lib.hid (show L.length = n by rw [← hL, ← hn]; simp)
  have HX := Lib.hid (fun i => (show (S.extract i n).data.toList = L.drop i by rw [← hn, ext_list, hL]))
  have HZ := Lib.hid (fun i (hi : i ≤ n) => (show (S.extract i n).size = n - i by simp; omega))
  rw [hL]
  clear hL
  rw [hn] at hS
  go_enter Tryd.func13, Tryd.ntmps13
  go_wp2_with fail
  go_loop [3, 4] (fun kv bv => ∃ i k : Nat, bv = .int .i64 (i : Int) ∧ kv = .int .i64 (k : Int) ∧ i ≤ n ∧ k ≤ i ∧ Hid (rd L = ((rd (L.drop i)).1 + i, (rd (L.drop i)).2.1 + k, (rd (L.drop i)).2.2))) (fun _ bv => n - (intOf bv).toNat)
  case atStart => exact ⟨0, 0, rfl, rfl, by omega, by omega, Lib.hid (by simp)⟩
  case round =>
    obtain ⟨i, k, rfl, rfl, hi, hk, HR⟩ := hrel
    by_cases hlt : i < n
    · have hlt' : (i : Int) < (n : Int) := by omega
      have hch := sign_any (S.extract i n) (by rw [HZ.out i hi]; omega) (by rw [HZ.out i hi]; omega)
      rw [HX.out i] at hch
      obtain ⟨m, hsz⟩ : ∃ m, sg (L.drop i) = m := ⟨_, rfl⟩
      rw [hsz] at hch
      by_cases hm : m = 0
      · subst hm
        have Hend := Lib.hid (rd_end HR.out hsz (by rw [hln.out]; exact hlt))
        clear hsz
        go_wp2_with fail
        refine (hch _).mono ?_
        rintro e w1 ⟨rfl, rfl⟩
        go_wp2_with fail
        go_ret
        exact ⟨ret_num (by rw [Hend.out.2]), rfl⟩
      · have hst := rd_at HR.out (by rw [hsz]; exact hm)
        have hle := sg_len (L.drop i)
        rw [hsz, List.length_drop, hln.out] at hle
        rw [hsz] at hst
        have Hst := Lib.hid hst
        have hm4 := sg_le (L.drop i)
        rw [hsz] at hm4
        have hmz : ((m : Int) == 0) = false := by rw [beq_eq_false_iff_ne]; omega
        clear hsz hst
        go_wp2_with fail
        refine (hch _).mono ?_
        rintro e w1 ⟨rfl, rfl⟩
        go_wp2_with fail
        go_round
        case rel => exact ⟨i + m, k + 1, by first | rfl | go_num, by first | rfl | go_num, by omega, by omega, Hst⟩
        case measure => simp only [intOf]; omega
    · have hlt' : ¬ (i : Int) < (n : Int) := by omega
      have Hend := Lib.hid (rd_all HR.out (by rw [hln.out]; omega))
      go_wp2_with fail
      go_ret
      exact ⟨ret_num (by rw [Hend.out.2]), rfl⟩
theorem refValid_any (S : ByteArray) (hS : S.size ≤ 1000000) (w : World) :
    Calls Tryd.prog 9 #[.string S] w fun e w' => e = .returned (.bool (validB S.data.toList)) ∧ w' = w := by
  have hrd := refBad_any S hS w
  have hv := valid_neg S.data.toList
  generalize badI S.data.toList = x at *
  go_enter Tryd.func9, Tryd.ntmps9
  go_wp2_with fail
  refine hrd.mono ?_
  rintro e w1 ⟨rfl, rfl⟩
  go_wp2_with fail
  go_ret
  exact ⟨rfl, rfl⟩

theorem rd_ff : rd [255] = (0, 0, false) := rd_bad (by decide) (by decide)
theorem rd_aa : rd [97, 195, 164] = (3, 2, true) := by
  have h1 : sg [97, 195, 164] = 1 := by decide
  have h2 : sg [195, 164] = 2 := by decide
  rw [rd_step (by rw [h1]; decide), h1]
  show ((rd [195, 164]).1 + 1, (rd [195, 164]).2.1 + 1, (rd [195, 164]).2.2) = _
  rw [rd_step (by rw [h2]; decide), h2]
  show ((rd []).1 + 2 + 1, (rd []).2.1 + 1 + 1, (rd []).2.2) = _
  rw [rd_nil]
theorem awake_any (w : World) (hA : Amb w) : Calls Tryd.prog 7 #[] w fun e w' => e = .returned (.bool true) ∧ Below w.heap.size w w' := by
  have h1 := bad_any ⟨#[255]⟩ (by decide)
  have h2 := valid_any ⟨#[97, 195, 164]⟩ (by decide)
  have h3 := count_any ⟨#[97, 195, 164]⟩ (by decide)
  rw [show badI (⟨#[255]⟩ : ByteArray).data.toList = 0 by show (if (rd [255]).2.2 then _ else _) = _; rw [rd_ff]; rfl] at h1
  rw [show validB (⟨#[97, 195, 164]⟩ : ByteArray).data.toList = true by show (rd [97, 195, 164]).2.2 = _; rw [rd_aa]] at h2
  rw [show cntN (⟨#[97, 195, 164]⟩ : ByteArray).data.toList = 2 by show (rd [97, 195, 164]).2.1 = _; rw [rd_aa]] at h3
  go_enter Tryd.func7, Tryd.ntmps7
  go_wp2_with fail
  refine (h1 _ hA).mono ?_
  rintro e w1 ⟨rfl, hbw1⟩
  have hzw1 := hbw1.size
  try simp at hzw1
  go_wp2_with fail
  refine (h2 _ (hA.on (by (repeat' (first | exact Below.refl _ _ | assumption | refine gr_drew ?_ | refine gr_drewN ?_ _ | refine gr_alloc ?_ _ | refine gr_set ?_ ?_ _ | refine gr_call ?_ (by assumption)) <;> (try (simp; done)) <;> (try (simp; omega)) <;> (try omega))))).mono ?_
  rintro e w2 ⟨rfl, hbw2⟩
  have hzw2 := hbw2.size
  try simp at hzw2
  go_wp2_with fail
  refine (h3 _ (hA.on (by (repeat' (first | exact Below.refl _ _ | assumption | refine gr_drew ?_ | refine gr_drewN ?_ _ | refine gr_alloc ?_ _ | refine gr_set ?_ ?_ _ | refine gr_call ?_ (by assumption)) <;> (try (simp; done)) <;> (try (simp; omega)) <;> (try omega))))).mono ?_
  rintro e w3 ⟨rfl, hbw3⟩
  have hzw3 := hbw3.size
  try simp at hzw3
  go_wp2_with fail
  go_ret
  exact ⟨rfl, by (repeat' (first | exact Below.refl _ _ | assumption | refine gr_drew ?_ | refine gr_drewN ?_ _ | refine gr_alloc ?_ _ | refine gr_set ?_ ?_ _ | refine gr_call ?_ (by assumption)) <;> (try (simp; done)) <;> (try (simp; omega)) <;> (try omega))⟩
end Go.Proofs.YthmmcmpbpfnocaaDoor
