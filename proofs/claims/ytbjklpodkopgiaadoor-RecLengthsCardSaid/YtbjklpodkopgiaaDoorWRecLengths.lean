/- The law RecLengths, walked. -/
import Derived.Test.YtbjklpodkopgiaaDoorRecAwake
import Derived.Test.YtbjklpodkopgiaaDoorRefRec
import Derived.Test.YtbjklpodkopgiaaDoorMake
namespace Go.Proofs.YtbjklpodkopgiaaDoor
open Go.RowKit
open RecM
open Go.Lib (decDigits)
set_option linter.unusedVariables false

/-- At no record Get says so. -/
theorem get_none (T : ByteArray) (h0 : 1 ≤ T.size) (h1 : T.size ≤ 90000) (hg : getF T.data.toList = none) (w : World) (hA : Amb w) :
    Calls Tryd.prog 9 #[.string T, .int .i64 0] w fun e w' => e = .returned (errV 4) ∧ Below w.heap.size w w' := by
  have h := get_any T 0 (by omega) h1 w hA
  rw [List.drop_zero, hg] at h
  exact h
theorem may_zeros (v : Nat) (h : v ≤ 11000) : mayB [107] (List.replicate v 0) = true := by
  refine (may_iff _ _).2 ⟨by decide, by decide, by decide, by decide, ?_⟩
  have := (lenF_bounds (3 + ([107] : List UInt8).length + (List.replicate v (0 : UInt8)).length)).2
  rw [List.length_replicate] at this ⊢
  simp only [List.length_cons, List.length_nil] at this ⊢
  omega

set_option maxRecDepth 100000 in
set_option maxHeartbeats 3200000 in
theorem recLengths_walk (a0 : Int) (a1 : Bool) (w : World) (hA : Amb w) (w0 : (Lit.int .u16 a0).wf = true) :
    Calls Tryd.prog 5 #[.int .u16 a0, .bool a1] w fun e w' => e = .returned (.bool true) ∧ Below w.heap.size w w' := by
  have hb0 : 0 ≤ a0 ∧ a0 ≤ 65535 := by simpa [Lit.wf, IntKind.min, IntKind.max, IntKind.signed, IntKind.bits] using w0
  have p0 := hb0.1
  have p1 := hb0.2
  obtain ⟨v, hv⟩ : ∃ v : Nat, a0 % 11000 = (v : Int) := ⟨_, (Int.toNat_of_nonneg (by omega)).symm⟩
  have hv9 : v ≤ 11000 := by omega
  have hmv : a0.tmod 11000 = (v : Int) := by rw [Int.tmod_eq_emod_of_nonneg p0]; exact hv
  have hmay := may_zeros v hv9
  obtain ⟨E, hE⟩ : ∃ E, encF [107] (List.replicate v 0) = E := ⟨_, rfl⟩
  obtain ⟨L, hL⟩ : ∃ L, E.length = L := ⟨_, rfl⟩
  have hlen := (may_length hmay).2.1
  rw [hE, hL] at hlen
  have hLb := lenF_bounds (3 + ([107] : List UInt8).length + (List.replicate v (0 : UInt8)).length)
  rw [← hlen, List.length_replicate] at hLb
  simp only [List.length_cons, List.length_nil] at hLb
  have hL5 : 5 ≤ L := by omega
  have hL9 : L ≤ 11010 := by omega
  obtain ⟨D, hD⟩ : ∃ D, decDigits L = D := ⟨_, rfl⟩
  obtain ⟨d, hd⟩ : ∃ d, D.length = d := ⟨_, rfl⟩
  have hd1 : 1 ≤ d := by rw [← hd, ← hD]; exact DecM.dec_pos L
  have hd6 : d ≤ 5 := by rw [← hd, ← hD]; exact DecM.dec_len 4 L (by omega)
  have hDE : ∃ X, E = D ++ 32 :: X := ⟨_, by rw [← hE]; unfold encF; rw [← hlen, hD]⟩
  have hdL : d < L := by
    obtain ⟨X, hX⟩ := hDE
    have := congrArg List.length hX
    rw [hL, List.length_append, List.length_cons, hd] at this
    omega
  have hdig : ∀ c ∈ D, DecM.isDig c = true := by rw [← hD]; exact DecM.dec_dig L
  have hval : DecM.valN D = L := by rw [← hD]; exact DecM.dec_val L
  obtain ⟨SS, hSS⟩ : ∃ SS : ByteArray, strOf E = SS := ⟨_, rfl⟩
  have hSl : SS.data.toList = E := by rw [← hSS, strOf_list]
  have hSz : SS.size = L := by rw [← len_list, hSl, hL]
  have HI := Lib.hid (show ∀ i, i < d → ∃ c : UInt8, DecM.isDig c = true ∧ D[i]? = some c ∧ ∀ w, (Instr.index 9 (.string SS) (.int .i64 (i : Int))).run Tryd.prog w = .ok (.int .u8 (c.toNat : Int)) w by
    intro i hi
    obtain ⟨c, hc, hx⟩ := idxAt Tryd.underlying9 SS i (by omega)
    obtain ⟨X, hX⟩ := hDE
    rw [hSl, hX, List.getElem?_append_left (by omega)] at hc
    exact ⟨c, hdig c (List.mem_of_getElem? hc), hc, hx⟩)
  have H32 : ∀ w, (Instr.index 9 (.string SS) (.int .i64 (d : Int))).run Tryd.prog w = .ok (.int .u8 32) w := by
    obtain ⟨c, hc, hx⟩ := idxAt Tryd.underlying9 SS d (by omega)
    obtain ⟨X, hX⟩ := hDE
    rw [hSl, hX, List.getElem?_append_right (by omega), hd, Nat.sub_self, List.getElem?_cons_zero] at hc
    have : c = 32 := (Option.some.inj hc).symm
    subst this
    exact hx
  obtain ⟨ZV, hZV⟩ : ∃ ZV : ByteArray, (⟨(List.replicate v (0 : UInt8)).toArray⟩ : ByteArray) = ZV := ⟨_, rfl⟩
  have hZl : ZV.data.toList = List.replicate v 0 := by rw [← hZV]
  have hZs : ZV.size ≤ 11000 := by rw [← len_list, hZl, List.length_replicate]; exact hv9
  have HP := Lib.hid (fun W h => put_any ⟨#[107]⟩ ZV (by show 1 + ZV.size ≤ 100000; omega) W h)
  have HM := Lib.hid (fun W h => may_any ⟨#[107]⟩ ZV (by show 1 + ZV.size ≤ 100000; omega) W h)
  rw [hZl] at HP HM
  rw [show (⟨#[107]⟩ : ByteArray).data.toList = [107] from rfl, put_may hmay, hE, hSS] at HP
  rw [show (⟨#[107]⟩ : ByteArray).data.toList = [107] from rfl, hmay] at HM
  obtain ⟨R, hR⟩ : ∃ R : ByteArray, SS.extract d L = R := ⟨_, rfl⟩
  have hRl : R.data.toList = E.drop d := by rw [← hR, ext_mid, hSl, List.take_of_length_le (by omega)]
  obtain ⟨r, hr⟩ : ∃ r, R.size = r := ⟨_, rfl⟩
  have hrd : r + d = L := by rw [← hr, ← len_list, hRl, List.length_drop, hL]; omega
  have hrd2 : (r : Int) + (d : Int) = (L : Int) := by omega
  have hdr2 : (d : Int) + (r : Int) = (L : Int) := by omega
  obtain ⟨l1, hl1⟩ : ∃ l1, L + 1 = l1 := ⟨_, rfl⟩
  have hl12 : (L : Int) + 1 = (l1 : Int) := by omega
  obtain ⟨Q, hQ⟩ : ∃ Q : ByteArray, strOf (decDigits l1) = Q := ⟨_, rfl⟩
  have HQ := Lib.hid (fun W => refDigits_any l1 W (by omega))
  rw [hQ] at HQ
  have hQs : Q.size ≤ 6 := by rw [← hQ, strOf_size]; exact Nat.le_trans (DecM.dec_len 4 l1 (by omega)) (by omega)
  have hQ1 : 1 ≤ Q.size := by rw [← hQ, strOf_size]; exact DecM.dec_pos l1
  have HG1 := Lib.hid (fun W h => get_none (Q ++ R) (by rw [ByteArray.size_append]; omega) (by rw [ByteArray.size_append, hr]; omega) (by
    have := get_longer [107] (List.replicate v 0) hmay
    rw [hE, hL, hD, hd, hl1] at this
    rw [bytes_list, hRl, ← hQ, strOf_list]
    exact this) W h)
  have HG2 := Lib.hid (fun W h => get_none (⟨#[48]⟩ ++ SS) (by rw [ByteArray.size_append]; show 1 ≤ 1 + SS.size; omega) (by rw [ByteArray.size_append]; show 1 + SS.size ≤ 90000; omega) (by
    rw [bytes_list, hSl]
    exact get_zero E) W h)
  have q1 : ¬ 9223372036854775807 < Q.size + r := by omega
  have q2 : ¬ 9223372036854775807 < 1 + L := by omega
  have hL5' : decide ((L : Int) < 5) = false := decide_eq_false (by omega)
  have hL5'' : decide (L < 5) = false := decide_eq_false (by omega)
  have HD := Lib.hid hdig
  have HV := Lib.hid hval
  have Hd := Lib.hid hd
  have HZV := Lib.hid hZV
  clear hb0 w0 hv hmay hE hL hlen hLb hD hd hDE hdig hval hSS hSl hZV hZl hRl hl1 hQ hrd
  go_enter Tryd.func5, Tryd.ntmps5
  go_wp2_with (at_make; refine wp_make rfl _ _ rfl _ v _ _ rfl rfl rfl rfl (by omega) ?_)
  intro w1 hR1 hb1 hcv1
  clear hR1
  have hcv2 : (convert 46 9 (.slice (some ⟨w.heap.size, 0, none⟩) v v)).run Tryd.prog w1 = .ok (.string ZV) w1 := by
    rw [hcv1, ← HZV.out]; simp
  clear hcv1
  go_wp2_with fail
  refine (HP.out _ (hA.on (by (repeat' (first | exact Below.refl _ _ | assumption | refine gr_drew ?_ | refine gr_drewN ?_ _ | refine gr_alloc ?_ _ | refine gr_set ?_ ?_ _ | refine gr_call ?_ (by assumption)) <;> (try (simp; done)) <;> (try (simp; omega)) <;> (try omega))))).mono ?_
  rintro e w2 ⟨rfl, hbw2⟩
  have hzw2 := hbw2.size
  try simp at hzw2
  have : w1.heap.size < w2.heap.size := by omega
  have : w1.heap.size ≤ w2.heap.size := by omega
  have : w2.cell? ⟨w1.heap.size, 0, none⟩ = some (.string ⟨#[107]⟩) := cell_kept hbw2 (by simp [go_sem, *])
  have : w2.frozen? ⟨w1.heap.size, 0, none⟩ = false := free_kept hbw2 (v := .string ⟨#[107]⟩) (by simp [go_sem, *]) (by simp [go_sem, *])
  have : w1.heap.size < w2.heap.size := by omega
  have : w1.heap.size ≤ w2.heap.size := by omega
  have : w2.cell? ⟨w1.heap.size, 1, none⟩ = some (.string ZV) := cell_kept hbw2 (by simp [go_sem, *])
  have : w2.frozen? ⟨w1.heap.size, 1, none⟩ = false := free_kept hbw2 (v := .string ZV) (by simp [go_sem, *]) (by simp [go_sem, *])
  have c0 : w2.cell? ⟨w1.heap.size, 0, none⟩ = some (.string ⟨#[107]⟩) := by assumption
  have c1 : w2.cell? ⟨w1.heap.size, 1, none⟩ = some (.string ZV) := by assumption
  have hB2 : Below w.heap.size w w2 := by (repeat' (first | exact Below.refl _ _ | assumption | refine gr_drew ?_ | refine gr_drewN ?_ _ | refine gr_alloc ?_ _ | refine gr_set ?_ ?_ _ | refine gr_call ?_ (by assumption)) <;> (try (simp; done)) <;> (try (simp; omega)) <;> (try omega))
  clear hbw2 hcv2 hb1
  go_wp2_with fail
  go_loop [8] (fun s8 => ∃ i : Nat, s8 = .int .i64 (i : Int) ∧ i ≤ d) (fun s8 => d - (intOf s8).toNat)
  case atStart => exact ⟨0, rfl, by omega⟩
  case round =>
    obtain ⟨i, rfl, hi⟩ := hrel
    have hiL : decide ((i : Int) < (L : Int)) = true := decide_eq_true (by omega)
    have hiL2 : decide (i < L) = true := decide_eq_true (by omega)
    by_cases hlt : i < d
    · obtain ⟨c, hdg, hc, hx⟩ := HI.out i hlt
      have hne : ((c.toNat : Int) != 32) = true := by
        have h := toNat_ne (dig_ne hdg).1
        rw [show ((32 : UInt8).toNat : Int) = 32 from rfl] at h
        rw [bne, h]; rfl
      clear hdg hc
      go_wp2_with fail
      go_round
      case rel => exact ⟨i + 1, by go_num, by omega⟩
      case measure => simp [intOf]; omega
    · obtain rfl : i = d := by omega
      clear hlt
      go_wp2_with fail
      go_loop [9, 10] (fun s9 s10 => ∃ x j : Nat, s9 = .int .i64 (x : Int) ∧ s10 = .int .i64 (j : Int) ∧ j ≤ i ∧ x ≤ 1000000 ∧ Hid (x = DecM.valN (D.take j))) (fun _ s10 => i - (intOf s10).toNat)
      case atStart => exact ⟨0, 0, rfl, rfl, by omega, by omega, Lib.hid rfl⟩
      case round =>
        obtain ⟨x, j, rfl, rfl, hj, hx9, HX⟩ := hrel
        by_cases hlj : j < i
        · have hlj' : decide ((j : Int) < (i : Int)) = true := decide_eq_true (by omega)
          have hlj2 : decide (j < i) = true := decide_eq_true hlj
          obtain ⟨c, hdg, hc, hxr⟩ := HI.out j hlj
          have hdg' := hdg
          simp only [DecM.isDig, Bool.and_eq_true, decide_eq_true_eq] at hdg'
          have hc1 : 48 ≤ c.toNat := hdg'.1
          have hc2 : c.toNat ≤ 57 := hdg'.2
          have hjD : j < D.length := by rw [Hd.out]; exact hlj
          have hcj : D[j] = c := by rw [List.getElem?_eq_getElem hjD] at hc; exact Option.some.inj hc
          have HX2 := Lib.hid (show x * 10 + (c.toNat - 48) = DecM.valN (D.take (j + 1)) by
            rw [List.take_succ_eq_append_getElem hjD, DecM.valN_snoc, hcj, ← HX.out])
          have hb6 : x * 10 + (c.toNat - 48) ≤ 1000000 := by
            rw [HX2.out]
            have := DecM.valN_lt (D.take (j + 1)) (fun y hy => HD.out y (List.mem_of_mem_take hy))
            rw [List.length_take] at this
            have h5 : 10 ^ (min (j + 1) D.length) ≤ 10 ^ 6 := Nat.pow_le_pow_right (by decide) (by omega)
            have : (10 : Nat) ^ 6 = 1000000 := by decide
            omega
          have hlj3 : j + 1 ≤ i := hlj
          clear hdg hdg' hc hcj HX hlj
          go_wp2_with fail
          go_round
          case rel => exact ⟨x * 10 + (c.toNat - 48), j + 1, by congr 1; omega, by go_num, by omega, hb6, HX2⟩
          case measure => simp [intOf]; omega
        · have hlj' : decide ((j : Int) < (i : Int)) = false := decide_eq_false (by omega)
          have hlj2 : decide (j < i) = false := decide_eq_false hlj
          obtain rfl : x = L := by
            have h := HX.out
            rw [List.take_of_length_le (by rw [Hd.out]; omega), HV.out] at h
            exact h
          clear HX hlj
          go_wp2_with fail
          cases a1
          · skip
            refine (HQ.out _).mono ?_
            rintro e w3 ⟨rfl, hb3⟩
            have hB3 := gr_call hB2 hb3
            have d0 := cell_kept hb3 c0
            have d1 := cell_kept hb3 c1
            clear hb3 c0 c1
            go_wp2_with fail
            refine (HG1.out _ (hA.on hB3)).mono ?_
            rintro e w4 ⟨rfl, hb4⟩
            simp only [errV]
            have hB4 := gr_call hB3 hb4
            have e0 := cell_kept hb4 d0
            have e1 := cell_kept hb4 d1
            clear hb4 d0 d1
            have lw4 : w1.heap.size < w4.heap.size := block_lt e0
            go_wp2_with fail
            refine (HG2.out _ (hA.on (by (repeat' (first | exact Below.refl _ _ | assumption | refine gr_drew ?_ | refine gr_drewN ?_ _ | refine gr_alloc ?_ _ | refine gr_set ?_ ?_ _ | refine gr_call ?_ (by assumption)) <;> (try (simp; done)) <;> (try (simp; omega)) <;> (try omega))))).mono ?_
            rintro e w5 ⟨rfl, hb5⟩
            simp only [errV]
            have g0 : w5.cell? ⟨w1.heap.size, 0, none⟩ = some (.string ⟨#[107]⟩) := cell_kept hb5 ((World.cell?_alloc_lt _ _ _ (show (⟨w1.heap.size, 0, none⟩ : Addr).block < w4.heap.size from lw4)).trans e0)
            have g1 : w5.cell? ⟨w1.heap.size, 1, none⟩ = some (.string ZV) := cell_kept hb5 ((World.cell?_alloc_lt _ _ _ (show (⟨w1.heap.size, 1, none⟩ : Addr).block < w4.heap.size from lw4)).trans e1)
            have hB5 : Below w.heap.size w w5 := by (repeat' (first | exact Below.refl _ _ | assumption | refine gr_drew ?_ | refine gr_drewN ?_ _ | refine gr_alloc ?_ _ | refine gr_set ?_ ?_ _ | refine gr_call ?_ (by assumption)) <;> (try (simp; done)) <;> (try (simp; omega)) <;> (try omega))
            clear hb5 e0 e1
            have lw5 : w1.heap.size < w5.heap.size := block_lt g0
            go_wp2_with fail
            refine (err_any _ _).mono ?_
            rintro e w' ⟨rfl, rfl⟩
            go_wp2_with fail
            refine (err_any _ _).mono ?_
            rintro e w' ⟨rfl, rfl⟩
            go_wp2_with fail
            refine (awake_true _ (hA.on (by (repeat' (first | exact Below.refl _ _ | assumption | refine gr_drew ?_ | refine gr_drewN ?_ _ | refine gr_alloc ?_ _ | refine gr_set ?_ ?_ _ | refine gr_call ?_ (by assumption)) <;> (try (simp; done)) <;> (try (simp; omega)) <;> (try omega))))).mono ?_
            rintro e w7 ⟨rfl, hb7⟩
            go_wp2_with fail
            go_ret
            exact ⟨rfl, by (repeat' (first | exact Below.refl _ _ | assumption | refine gr_drew ?_ | refine gr_drewN ?_ _ | refine gr_alloc ?_ _ | refine gr_set ?_ ?_ _ | refine gr_call ?_ (by assumption)) <;> (try (simp; done)) <;> (try (simp; omega)) <;> (try omega))⟩
          · skip
            refine (HQ.out _).mono ?_
            rintro e w3 ⟨rfl, hb3⟩
            have hB3 := gr_call hB2 hb3
            have d0 := cell_kept hb3 c0
            have d1 := cell_kept hb3 c1
            clear hb3 c0 c1
            go_wp2_with fail
            refine (HG1.out _ (hA.on hB3)).mono ?_
            rintro e w4 ⟨rfl, hb4⟩
            simp only [errV]
            have hB4 := gr_call hB3 hb4
            have e0 := cell_kept hb4 d0
            have e1 := cell_kept hb4 d1
            clear hb4 d0 d1
            have lw4 : w1.heap.size < w4.heap.size := block_lt e0
            go_wp2_with fail
            refine (HG2.out _ (hA.on (by (repeat' (first | exact Below.refl _ _ | assumption | refine gr_drew ?_ | refine gr_drewN ?_ _ | refine gr_alloc ?_ _ | refine gr_set ?_ ?_ _ | refine gr_call ?_ (by assumption)) <;> (try (simp; done)) <;> (try (simp; omega)) <;> (try omega))))).mono ?_
            rintro e w5 ⟨rfl, hb5⟩
            simp only [errV]
            have g0 : w5.cell? ⟨w1.heap.size, 0, none⟩ = some (.string ⟨#[107]⟩) := cell_kept hb5 ((World.cell?_alloc_lt _ _ _ (show (⟨w1.heap.size, 0, none⟩ : Addr).block < w4.heap.size from lw4)).trans e0)
            have g1 : w5.cell? ⟨w1.heap.size, 1, none⟩ = some (.string ZV) := cell_kept hb5 ((World.cell?_alloc_lt _ _ _ (show (⟨w1.heap.size, 1, none⟩ : Addr).block < w4.heap.size from lw4)).trans e1)
            have hB5 : Below w.heap.size w w5 := by (repeat' (first | exact Below.refl _ _ | assumption | refine gr_drew ?_ | refine gr_drewN ?_ _ | refine gr_alloc ?_ _ | refine gr_set ?_ ?_ _ | refine gr_call ?_ (by assumption)) <;> (try (simp; done)) <;> (try (simp; omega)) <;> (try omega))
            clear hb5 e0 e1
            have lw5 : w1.heap.size < w5.heap.size := block_lt g0
            go_wp2_with fail
            refine (err_any _ _).mono ?_
            rintro e w' ⟨rfl, rfl⟩
            go_wp2_with fail
            refine (err_any _ _).mono ?_
            rintro e w' ⟨rfl, rfl⟩
            go_wp2_with fail
            refine (HM.out _ (hA.on (by (repeat' (first | exact Below.refl _ _ | assumption | refine gr_drew ?_ | refine gr_drewN ?_ _ | refine gr_alloc ?_ _ | refine gr_set ?_ ?_ _ | refine gr_call ?_ (by assumption)) <;> (try (simp; done)) <;> (try (simp; omega)) <;> (try omega))))).mono ?_
            rintro e w6 ⟨rfl, hb6⟩
            go_wp2_with fail
            refine (awake_true _ (hA.on (by (repeat' (first | exact Below.refl _ _ | assumption | refine gr_drew ?_ | refine gr_drewN ?_ _ | refine gr_alloc ?_ _ | refine gr_set ?_ ?_ _ | refine gr_call ?_ (by assumption)) <;> (try (simp; done)) <;> (try (simp; omega)) <;> (try omega))))).mono ?_
            rintro e w7 ⟨rfl, hb7⟩
            go_wp2_with fail
            go_ret
            exact ⟨rfl, by (repeat' (first | exact Below.refl _ _ | assumption | refine gr_drew ?_ | refine gr_drewN ?_ _ | refine gr_alloc ?_ _ | refine gr_set ?_ ?_ _ | refine gr_call ?_ (by assumption)) <;> (try (simp; done)) <;> (try (simp; omega)) <;> (try omega))⟩
end Go.Proofs.YtbjklpodkopgiaaDoor
