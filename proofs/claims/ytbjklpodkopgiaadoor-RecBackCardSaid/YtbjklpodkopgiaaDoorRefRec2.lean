/- Walks over the document's answer for records: a record's bytes. -/
import Derived.Test.YtbjklpodkopgiaaDoorRefRec
namespace Go.Proofs.YtbjklpodkopgiaaDoor
open Go.RowKit
open DecM
open RecM
open Go.Lib (decDigits itoa)
set_option linter.unusedVariables false

theorem refRecord_any (K V : ByteArray) (hs : K.size + V.size ≤ 100000) (w : World) :
    Calls Tryd.prog 27 #[.agg #[.string K, .string V]] w fun e w' => e = .returned (.string (strOf (encF K.data.toList V.data.toList))) ∧ Below w.heap.size w w' := by
  obtain ⟨B, hB⟩ : ∃ B : ByteArray, B = (⟨#[32]⟩ : ByteArray) ++ K ++ ⟨#[61]⟩ ++ V ++ ⟨#[10]⟩ := ⟨_, rfl⟩
  obtain ⟨r, hr⟩ : ∃ r, 3 + K.data.toList.length + V.data.toList.length = r := ⟨_, rfl⟩
  have hBl : B.data.toList = 32 :: (K.data.toList ++ 61 :: (V.data.toList ++ [10])) := by rw [hB]; simp
  have hBs : B.size = r := by rw [← len_list, hBl, ← hr]; simp; omega
  have hr1 : r ≤ 100003 := by rw [← hr, len_list, len_list]; omega
  obtain ⟨E, hE⟩ : ∃ E, encF K.data.toList V.data.toList = E := ⟨_, rfl⟩
  have HE := Lib.hid (show decDigits (lenF r) ++ B.data.toList = E by rw [← hE, hBl, ← hr]; rfl)
  have HB := Lib.hid hB
  have HR := Lib.hid (show r = 3 + K.size + V.size by rw [← hr, len_list, len_list])
  rw [hE]
  have hk1 : ¬ 9223372036854775807 < 1 + K.size := by omega
  have hk2 : ¬ 9223372036854775807 < 1 + K.size + 1 := by omega
  have hk3 : ¬ 9223372036854775807 < 1 + K.size + 1 + V.size := by omega
  have hk4 : ¬ 9223372036854775807 < 1 + K.size + 1 + V.size + 1 := by omega
  have hb := lenF_bounds r
  have ht := Lib.hid (lenF_true r (by omega))
  have hl := Lib.hid (lenF_least r)
  clear hr hBl hE hB
  go_enter Tryd.func27, Tryd.ntmps27
  go_wp2_with fail
  go_loopw [4] (fun nv wr => ∃ n : Nat, nv = .int .i64 (n : Int) ∧ r + 1 ≤ n ∧ n ≤ lenF r ∧ Below w.heap.size w wr) (fun nv _ => lenF r - (intOf nv).toNat)
  case atStart => exact ⟨r + 1, by congr 1; have := HR.out; omega, by omega, by omega, by (repeat' (first | exact Below.refl _ _ | assumption | refine gr_drew ?_ | refine gr_drewN ?_ _ | refine gr_alloc ?_ _ | refine gr_set ?_ ?_ _ | refine gr_call ?_ (by assumption)) <;> (try (simp; done)) <;> (try (simp; omega)) <;> (try omega))⟩
  case round =>
    obtain ⟨n, rfl, hn1, hn2, hbl⟩ := hrel
    by_cases hlt : n < lenF r
    · have hne := hl.out n (by omega) hlt
      have hD := dec_digN n (by omega)
      have hdl : (strOf (decDigits n)).size = digN n := by rw [strOf_size, hD]
      have hd6 := digN_bounds n
      have htest : ((n : Int) != 1 + (K.size : Int) + 1 + (V.size : Int) + 1 + ((strOf (decDigits n)).size : Int)) = true := by
        rw [bne_iff_ne]; have := HR.out; omega
      have hd2 : (strOf (decDigits n)).size ≤ 6 := by omega
      have hcall := Lib.hid (refDigits_any n)
      have hn9 : n < 9223372036854775808 := by omega
      have hlt2 : n + 1 ≤ lenF r := hlt
      clear hne hD hlt hdl hd6
      go_wp2_with fail
      refine (hcall.out _ hn9).mono ?_
      rintro e w1 ⟨rfl, hb1⟩
      have hbl1 := gr_call hbl hb1
      go_wp2_with fail
      go_roundw
      case rel => exact ⟨n + 1, by go_num, by omega, by omega, hbl1⟩
      case measure => simp only [intOf]; omega
    · obtain rfl : n = lenF r := by omega
      have hD := dec_digN (lenF r) (by omega)
      have hdl : (strOf (decDigits (lenF r))).size = digN (lenF r) := by rw [strOf_size, hD]
      have hd6 := digN_bounds (lenF r)
      have htest : (((lenF r : Nat) : Int) != 1 + (K.size : Int) + 1 + (V.size : Int) + 1 + ((strOf (decDigits (lenF r))).size : Int)) = false := by
        have := HR.out; have := ht.out
        rw [bne_eq_false_iff_eq]; omega
      have hd2 : (strOf (decDigits (lenF r))).size ≤ 6 := by omega
      have hcall := Lib.hid (refDigits_any (lenF r))
      have hn9 : lenF r < 9223372036854775808 := by omega
      have HL := Lib.hid (show (strOf (decDigits (lenF r)) ++ B) = strOf E by
        apply str_eq
        rw [bytes_list, strOf_list, HE.out])
      rw [HB.out] at HL
      have hcat : ¬ 9223372036854775807 < (strOf (decDigits (lenF r))).size + (1 + K.size + 1 + V.size + 1) := by omega
      generalize lenF r = m at *
      generalize strOf (decDigits m) = D at *
      clear hD hlt hdl hd6
      go_wp2_with fail
      refine (hcall.out _ hn9).mono ?_
      rintro e w1 ⟨rfl, hb1⟩
      have hbl1 := gr_call hbl hb1
      go_wp2_with fail
      refine (hcall.out _ hn9).mono ?_
      rintro e w2 ⟨rfl, hb2⟩
      have hbl2 := gr_call hbl1 hb2
      go_wp2_with fail
      go_ret
      exact ⟨ret_str HL.out, hbl2⟩

theorem refMay_any (K V : ByteArray) (hs : K.size + V.size ≤ 100000) (w : World) :
    Calls Tryd.prog 14 #[.agg #[.string K, .string V]] w fun e w' => e = .returned (.bool (mayB K.data.toList V.data.toList)) ∧ Below w.heap.size w w' := by
  obtain ⟨b, hb⟩ : ∃ b, mayB K.data.toList V.data.toList = b := ⟨_, rfl⟩
  have hm := may_iff K.data.toList V.data.toList
  rw [len_list, len_list] at hm
  have hrec := Lib.hid (refRecord_any K V hs)
  have hlen := enc_length K.data.toList V.data.toList (by rw [len_list, len_list]; omega)
  rw [len_list, len_list] at hlen
  have hlb := lenF_bounds (3 + K.size + V.size)
  have h0 := Lib.hid (refHas_any K 0 0 rfl (by omega))
  have h61 := Lib.hid (refHas_any K 61 61 rfl (by omega))
  rw [hb] at hm ⊢
  have hsz : (strOf (encF K.data.toList V.data.toList)).size = lenF (3 + K.size + V.size) := by rw [strOf_size, hlen]
  generalize strOf (encF K.data.toList V.data.toList) = E at *
  generalize lenF (3 + K.size + V.size) = m at *
  generalize hc0 : K.data.toList.contains (0 : UInt8) = c0 at *
  generalize hc61 : K.data.toList.contains (61 : UInt8) = c61 at *
  have hm0 : (0 : UInt8) ∉ K.data.toList ↔ c0 = false := by rw [← hc0]; simp
  have hm61 : (61 : UInt8) ∉ K.data.toList ↔ c61 = false := by rw [← hc61]; simp
  rw [hm0, hm61] at hm
  have Hm := Lib.hid hm
  clear hm hm0 hm61 hc0 hc61 hlen hb
  by_cases h1 : 1 ≤ K.size
  · have h1' : (0 : Int) < (K.size : Int) := by omega
    by_cases h2 : K.size ≤ 255
    · have h2' : decide ((K.size : Int) ≤ 255) = true := by simp; omega
      cases c0
      · cases c61
        · by_cases h3 : V.size ≤ 65536
          · have h3' : decide ((V.size : Int) ≤ 65536) = true := by simp; omega
            by_cases h4 : m ≤ 65536
            · have h4' : decide ((m : Int) ≤ 65536) = true := by simp; omega
              have Hb := Lib.hid (show b = true by exact Hm.out.2 ⟨h1, h2, rfl, rfl, h4⟩)
              clear Hm
              go_enter Tryd.func14, Tryd.ntmps14
              go_wp2_with fail
              refine (h0.out _).mono ?_
              rintro e w' ⟨rfl, rfl⟩
              go_wp2_with fail
              refine (h61.out _).mono ?_
              rintro e w' ⟨rfl, rfl⟩
              go_wp2_with fail
              refine (hrec.out _).mono ?_
              rintro e w1 ⟨rfl, hb1⟩
              go_wp2_with fail
              go_ret
              exact ⟨ret_bool Hb.out.symm, by (repeat' (first | exact Below.refl _ _ | assumption | refine gr_drew ?_ | refine gr_drewN ?_ _ | refine gr_alloc ?_ _ | refine gr_set ?_ ?_ _ | refine gr_call ?_ (by assumption)) <;> (try (simp; done)) <;> (try (simp; omega)) <;> (try omega))⟩
            · have h4' : decide ((m : Int) ≤ 65536) = false := by simp; omega
              have Hb := Lib.hid (show b = false by cases b with | false => rfl | true => (have hh := Hm.out.1 rfl; first | (simp at hh; done) | (simp at hh; omega) | omega))
              clear Hm
              go_enter Tryd.func14, Tryd.ntmps14
              go_wp2_with fail
              refine (h0.out _).mono ?_
              rintro e w' ⟨rfl, rfl⟩
              go_wp2_with fail
              refine (h61.out _).mono ?_
              rintro e w' ⟨rfl, rfl⟩
              go_wp2_with fail
              refine (hrec.out _).mono ?_
              rintro e w1 ⟨rfl, hb1⟩
              go_wp2_with fail
              go_ret
              exact ⟨ret_bool Hb.out.symm, by (repeat' (first | exact Below.refl _ _ | assumption | refine gr_drew ?_ | refine gr_drewN ?_ _ | refine gr_alloc ?_ _ | refine gr_set ?_ ?_ _ | refine gr_call ?_ (by assumption)) <;> (try (simp; done)) <;> (try (simp; omega)) <;> (try omega))⟩
          · have h3' : decide ((V.size : Int) ≤ 65536) = false := by simp; omega
            have Hb := Lib.hid (show b = false by cases b with | false => rfl | true => (have hh := Hm.out.1 rfl; first | (simp at hh; done) | (simp at hh; omega) | omega))
            clear Hm
            go_enter Tryd.func14, Tryd.ntmps14
            go_wp2_with fail
            refine (h0.out _).mono ?_
            rintro e w' ⟨rfl, rfl⟩
            go_wp2_with fail
            refine (h61.out _).mono ?_
            rintro e w' ⟨rfl, rfl⟩
            go_wp2_with fail
            go_ret
            exact ⟨ret_bool Hb.out.symm, by (repeat' (first | exact Below.refl _ _ | assumption | refine gr_drew ?_ | refine gr_drewN ?_ _ | refine gr_alloc ?_ _ | refine gr_set ?_ ?_ _ | refine gr_call ?_ (by assumption)) <;> (try (simp; done)) <;> (try (simp; omega)) <;> (try omega))⟩
        · skip
          have Hb := Lib.hid (show b = false by cases b with | false => rfl | true => (have hh := Hm.out.1 rfl; first | (simp at hh; done) | (simp at hh; omega) | omega))
          clear Hm
          go_enter Tryd.func14, Tryd.ntmps14
          go_wp2_with fail
          refine (h0.out _).mono ?_
          rintro e w' ⟨rfl, rfl⟩
          go_wp2_with fail
          refine (h61.out _).mono ?_
          rintro e w' ⟨rfl, rfl⟩
          go_wp2_with fail
          go_ret
          exact ⟨ret_bool Hb.out.symm, by (repeat' (first | exact Below.refl _ _ | assumption | refine gr_drew ?_ | refine gr_drewN ?_ _ | refine gr_alloc ?_ _ | refine gr_set ?_ ?_ _ | refine gr_call ?_ (by assumption)) <;> (try (simp; done)) <;> (try (simp; omega)) <;> (try omega))⟩
      · skip
        have Hb := Lib.hid (show b = false by cases b with | false => rfl | true => (have hh := Hm.out.1 rfl; first | (simp at hh; done) | (simp at hh; omega) | omega))
        clear Hm
        go_enter Tryd.func14, Tryd.ntmps14
        go_wp2_with fail
        refine (h0.out _).mono ?_
        rintro e w' ⟨rfl, rfl⟩
        go_wp2_with fail
        go_ret
        exact ⟨ret_bool Hb.out.symm, by (repeat' (first | exact Below.refl _ _ | assumption | refine gr_drew ?_ | refine gr_drewN ?_ _ | refine gr_alloc ?_ _ | refine gr_set ?_ ?_ _ | refine gr_call ?_ (by assumption)) <;> (try (simp; done)) <;> (try (simp; omega)) <;> (try omega))⟩
    · have h2' : decide ((K.size : Int) ≤ 255) = false := by simp; omega
      have Hb := Lib.hid (show b = false by cases b with | false => rfl | true => (have hh := Hm.out.1 rfl; first | (simp at hh; done) | (simp at hh; omega) | omega))
      clear Hm
      go_enter Tryd.func14, Tryd.ntmps14
      go_wp2_with fail
      go_ret
      exact ⟨ret_bool Hb.out.symm, by (repeat' (first | exact Below.refl _ _ | assumption | refine gr_drew ?_ | refine gr_drewN ?_ _ | refine gr_alloc ?_ _ | refine gr_set ?_ ?_ _ | refine gr_call ?_ (by assumption)) <;> (try (simp; done)) <;> (try (simp; omega)) <;> (try omega))⟩
  · have h1' : ¬ (0 : Int) < (K.size : Int) := by omega
    have Hb := Lib.hid (show b = false by cases b with | false => rfl | true => (have hh := Hm.out.1 rfl; first | (simp at hh; done) | (simp at hh; omega) | omega))
    clear Hm
    go_enter Tryd.func14, Tryd.ntmps14
    go_wp2_with fail
    go_ret
    exact ⟨ret_bool Hb.out.symm, by (repeat' (first | exact Below.refl _ _ | assumption | refine gr_drew ?_ | refine gr_drewN ?_ _ | refine gr_alloc ?_ _ | refine gr_set ?_ ?_ _ | refine gr_call ?_ (by assumption)) <;> (try (simp; done)) <;> (try (simp; omega)) <;> (try omega))⟩
theorem refPut_any (K V : ByteArray) (hs : K.size + V.size ≤ 100000) (w : World) :
    Calls Tryd.prog 16 #[.agg #[.string K, .string V]] w fun e w' => e = .returned (.string (strOf (putF K.data.toList V.data.toList))) ∧ Below w.heap.size w w' := by
  have hrec := Lib.hid (refRecord_any K V hs)
  have hmay := Lib.hid (refMay_any K V hs)
  unfold putF
  generalize encF K.data.toList V.data.toList = E at *
  generalize mayB K.data.toList V.data.toList = b at *
  cases b
  · go_enter Tryd.func16, Tryd.ntmps16
    go_wp2_with fail
    refine (hmay.out _).mono ?_
    rintro e w1 ⟨rfl, hb1⟩
    have hg1 := gr_call (gr_alloc (Below.refl _ _) _) hb1
    go_wp2_with fail
    go_ret
    exact ⟨rfl, hg1⟩
  · go_enter Tryd.func16, Tryd.ntmps16
    go_wp2_with fail
    refine (hmay.out _).mono ?_
    rintro e w1 ⟨rfl, hbw1⟩
    have hzw1 := hbw1.size
    try simp at hzw1
    have : w.heap.size < w1.heap.size := by omega
    have : w.heap.size ≤ w1.heap.size := by omega
    have : w1.cell? ⟨w.heap.size, 0, none⟩ = some (.string K) := cell_kept hbw1 (by simp [go_sem, *])
    have : w1.frozen? ⟨w.heap.size, 0, none⟩ = false := free_kept hbw1 (v := .string K) (by simp [go_sem, *]) (by simp [go_sem, *])
    have : w.heap.size < w1.heap.size := by omega
    have : w.heap.size ≤ w1.heap.size := by omega
    have : w1.cell? ⟨w.heap.size, 1, none⟩ = some (.string V) := cell_kept hbw1 (by simp [go_sem, *])
    have : w1.frozen? ⟨w.heap.size, 1, none⟩ = false := free_kept hbw1 (v := .string V) (by simp [go_sem, *]) (by simp [go_sem, *])
    have hg1 := gr_call (gr_alloc (Below.refl _ _) _) hbw1
    go_wp2_with fail
    refine (hrec.out _).mono ?_
    rintro e w2 ⟨rfl, hb2⟩
    have hg2 := gr_call hg1 hb2
    go_wp2_with fail
    go_ret
    exact ⟨rfl, hg2⟩
end Go.Proofs.YtbjklpodkopgiaaDoor
