/- Walks over package stamp: a float as a time. -/
import Derived.Test.YtaobkniecgiplaaDoorFloatWalk
import Derived.Test.YtaobkniecgiplaaDoorStampParse
namespace Go.Proofs.YtaobkniecgiplaaDoor
open Go.RowKit
open FloatM

/-- The word of two to the fortieth; what stands above a whole number; the billionths. -/
theorem V_max : V 4787326403894837248 = 1099511627776 * one := by
  have h := V_pow 40 (by omega)
  have e : (2 : Nat) ^ 40 = 1099511627776 := by decide
  rw [e] at h
  exact h
def restU (b : Nat) : Nat := (U b - flo b * (one : Int)).toNat
def restW (b : Nat) : Nat := W false (restU b)
def prodW (b : Nat) : Nat := W false (V (restW b) * 1000000000)
/-- A word's whole number, from nought on. -/
def whole (P : Nat) : Int := ((V P / one : Nat) : Int)
def nanoF (b : Nat) : Int := min (whole (prodW b)) 999999999
/-- The words whose numbers are times, but for noughts. -/
def Small (b : Nat) : Prop := (0 < b ∧ b ≤ 4787326403894837248) ∨ (9223372036854775808 < b ∧ b ≤ 14010698440749613056)
theorem Small.fin {b : Nat} (h : Small b) : IsFin b := by unfold Small at h; unfold IsFin; omega
theorem up_bd (v : Nat) : v ≤ up v * one ∧ up v * one < v + one ∧ (0 < v → 1 ≤ up v) := by
  unfold up
  have h := Nat.div_add_mod v one
  have h2 := Nat.mod_lt v one_pos
  rw [Nat.mul_comm] at h
  generalize v / one = q at *
  generalize v % one = r at *
  generalize one = O at *
  by_cases hr : r = 0
  · rw [if_pos hr, Nat.add_zero]
    refine ⟨by omega, by omega, fun hv => ?_⟩
    rcases Nat.eq_zero_or_pos q with h0 | h0
    · rw [h0, Nat.zero_mul] at h; omega
    · exact h0
  · rw [if_neg hr, Nat.add_mul, Nat.one_mul]; exact ⟨by omega, by omega, fun _ => by omega⟩
/-- A time's whole seconds; what stands above them. -/
theorem flo_bd (b : Nat) (h : Small b) : -1099511627776 ≤ flo b ∧ flo b ≤ 1099511627776 ∧ U b - flo b * (one : Int) = (restU b : Int) ∧ restU b < one := by
  have key : 0 ≤ U b - flo b * (one : Int) ∧ U b - flo b * (one : Int) < (one : Int) ∧ -1099511627776 ≤ flo b ∧ flo b ≤ 1099511627776 := by
    rcases h with ⟨h0, h1⟩ | ⟨h0, h1⟩
    · unfold U flo
      rw [if_pos (by omega), if_pos (by omega)]
      have h2 : V b ≤ 1099511627776 * one := by rw [← V_max]; exact (V_le_iff _ _).2 h1
      have h3 := Nat.div_add_mod (V b) one
      have h4 := Nat.mod_lt (V b) one_pos
      have h5 : V b / one ≤ 1099511627776 := Nat.div_le_of_le_mul (by rw [Nat.mul_comm]; exact h2)
      rw [Nat.mul_comm] at h3
      generalize V b / one = q at *
      generalize V b % one = r at *
      generalize one = O at *
      have h6 : ((q * O : Nat) : Int) = (q : Int) * (O : Int) := by push_cast; rfl
      rw [← h6]
      exact ⟨by omega, by omega, by omega, by omega⟩
    · unfold U flo
      rw [if_neg (by omega), if_neg (by omega)]
      generalize hc : b - 9223372036854775808 = c
      have h2 : V c ≤ 1099511627776 * one := by rw [← V_max]; exact (V_le_iff _ _).2 (by omega)
      obtain ⟨u1, u2, _⟩ := up_bd (V c)
      have h5 : up (V c) ≤ 1099511627776 := by
        rcases Nat.lt_or_ge 1099511627776 (up (V c)) with hx | hx
        · have : (1099511627776 + 1) * one ≤ up (V c) * one := Nat.mul_le_mul_right _ hx
          rw [Nat.add_mul, Nat.one_mul] at this
          generalize up (V c) * one = y at *
          generalize one = O at *
          omega
        · exact hx
      generalize up (V c) = q at *
      generalize one = O at *
      have h6 : ((q * O : Nat) : Int) = (q : Int) * (O : Int) := by push_cast; rfl
      rw [Int.neg_mul, ← h6]
      exact ⟨by omega, by omega, by omega, by omega⟩
  obtain ⟨k1, k2, k3, k4⟩ := key
  unfold restU
  refine ⟨k3, k4, (Int.toNat_of_nonneg k1).symm, ?_⟩
  generalize U b - flo b * (one : Int) = d at *
  generalize one = O at *
  omega
theorem flo_word (b : Nat) (h : Small b) : floorW b = floatOfInt .f64 (flo b) ∧ IsFin (floorW b) ∧ U (floorW b) = flo b * (one : Int) ∧ (9223372036854775808 ≤ floorW b ↔ 9223372036854775808 < b) := by
  have hbd := flo_bd b h
  rcases h with ⟨h0, h1⟩ | ⟨h0, h1⟩
  · have hf : flo b = ((V b / one : Nat) : Int) := by unfold flo; rw [if_pos (by omega)]
    obtain ⟨r, r1, _, r3, r4⟩ := ofNat_V (V b / one) (by rw [hf] at hbd; omega)
    have hw : floorW b = r := by rw [floorW_pos b (by omega), r1]
    have hU : U r = ((V b / one : Nat) : Int) * (one : Int) := by unfold U; rw [if_pos (by omega), r3]; push_cast; rfl
    refine ⟨?_, by rw [hw]; exact .inl r4, by rw [hw, hf, hU], by rw [hw]; omega⟩
    rw [hw, hf, ← r1]
    show _ = Ieee.double.nearest (decide (((V b / one : Nat) : Int) < 0)) (((V b / one : Nat) : Int)).natAbs 0
    rw [decide_eq_false (Int.not_lt.2 (Int.natCast_nonneg (V b / one))), Int.natAbs_natCast]
  · obtain ⟨c, rfl⟩ : ∃ c, b = 9223372036854775808 + c := ⟨b - 9223372036854775808, by omega⟩
    have hf : flo (9223372036854775808 + c) = -((up (V c) : Nat) : Int) := by unfold flo; rw [if_neg (by omega), show 9223372036854775808 + c - 9223372036854775808 = c by omega]
    have hV : 0 < V c := by have := V_mono 0 c (by omega); rw [V_zero] at this; exact this
    have hu := (up_bd (V c)).2.2 hV
    obtain ⟨r, _, r2, r3, r4⟩ := ofNat_V (up (V c)) (by rw [hf] at hbd; omega)
    have hw : floorW (9223372036854775808 + c) = 9223372036854775808 + r := by rw [floorW_neg c (by omega), r2]
    have hU : U (9223372036854775808 + r) = -((up (V c) : Nat) : Int) * (one : Int) := by
      unfold U; rw [if_neg (by omega), show 9223372036854775808 + r - 9223372036854775808 = r by omega, r3]; push_cast; rw [Int.neg_mul]
    refine ⟨?_, by rw [hw]; exact .inr ⟨by omega, by omega⟩, by rw [hw, hf, hU], by rw [hw]; omega⟩
    rw [hw, hf, ← r2]
    show _ = Ieee.double.nearest (decide (-((up (V c) : Nat) : Int) < 0)) (-((up (V c) : Nat) : Int)).natAbs 0
    rw [show decide (-((up (V c) : Nat) : Int) < 0) = true by simp; omega, Int.natAbs_neg, Int.natAbs_natCast]
theorem rest_is (b : Nat) (h : Small b) : Ieee.double.sub b (floorW b) = some (restW b) := by
  obtain ⟨_, f2, f3, f4⟩ := flo_word b h
  obtain ⟨_, _, d3, _⟩ := flo_bd b h
  rw [sub_U b _ h.fin f2, f3, d3]
  have hs : (if (restU b : Int) = 0 then decide (9223372036854775808 ≤ b) && !decide (9223372036854775808 ≤ floorW b) else decide ((restU b : Int) < 0)) = false := by
    split
    · unfold Small at h
      by_cases hb : 9223372036854775808 ≤ b
      · rw [decide_eq_true (f4.2 (by omega))]; simp
      · rw [decide_eq_false hb]; rfl
    · exact decide_eq_false (Int.not_lt.2 (Int.natCast_nonneg (restU b)))
  rw [hs, Int.natAbs_natCast]
  rfl
theorem rest_le (b : Nat) (h : Small b) : restW b ≤ 4607182418800017408 ∧ V (restW b) ≤ one := by
  have h1 := W_le (restU b) 0 (by omega) (by rw [Nat.pow_zero, Nat.one_mul]; exact (flo_bd b h).2.2.2)
  have h2 := V_le_of (restW b) 0 (by omega) h1
  rw [Nat.pow_zero, Nat.one_mul] at h2
  exact ⟨h1, h2⟩
theorem prod_is (b : Nat) (h : Small b) : Ieee.double.mul (restW b) 4741671816366391296 = some (prodW b) := mul_giga _ (by have := (rest_le b h).1; omega)
theorem prod_lt (b : Nat) (h : Small b) : V (restW b) * 1000000000 < 2 ^ 30 * one := by
  have h0 := (rest_le b h).2
  have e : (2 : Nat) ^ 30 = 1073741824 := by decide
  have o := one_pos
  rw [e]
  generalize V (restW b) = v at *
  generalize one = O at *
  omega
theorem prod_rung (b : Nat) (h : Small b) : prodW b ≤ (30 + 1023) * 4503599627370496 := by
  obtain ⟨k, hk⟩ : ∃ k : Nat, k = 30 := ⟨_, rfl⟩
  have h1 := prod_lt b h
  rw [← hk] at h1
  have h2 := W_le (V (restW b) * 1000000000) k (by omega) h1
  rw [hk] at h2
  exact h2
theorem whole_bd (P : Nat) (h : P ≤ (30 + 1023) * 4503599627370496) : 0 ≤ whole P ∧ whole P ≤ 1073741824 ∧ floatToIntVal .f64 P .i64 = some (whole P) := by
  obtain ⟨k, hk⟩ : ∃ k : Nat, k = 30 := ⟨_, rfl⟩
  rw [← hk] at h
  have h2 := V_le_of P k (by omega) h
  have e : (2 : Nat) ^ k = 1073741824 := by rw [hk]
  rw [e] at h2
  rw [hk] at h
  have h3 : V P / one ≤ 1073741824 := Nat.div_le_of_le_mul (by rw [Nat.mul_comm]; exact h2)
  have h1 : P < 9218868437227405312 := by omega
  have ht : (FloatKind.f64.decode P).toInt .zero = some ((V P / one : Nat) : Int) := toInt_U _ h1
  unfold whole floatToIntVal
  rw [ht]
  generalize V P / one = q at *
  simp only
  have hmin : IntKind.i64.min = -9223372036854775808 := rfl
  have hmax : IntKind.i64.max = 9223372036854775807 := rfl
  rw [hmin, hmax, if_pos (by omega)]
  exact ⟨by omega, by omega, rfl⟩
theorem prod_int (b : Nat) (h : Small b) : floatToIntVal .f64 (prodW b) .i64 = some (whole (prodW b)) := (whole_bd _ (prod_rung b h)).2.2
theorem flo_int (b : Nat) (h : Small b) : floatToIntVal .f64 (floorW b) .i64 = some (flo b) := by
  obtain ⟨f1, f2, f3, f4⟩ := flo_word b h
  obtain ⟨d1, d2, _, _⟩ := flo_bd b h
  unfold floatToIntVal
  have key : (FloatKind.f64.decode (floorW b)).toInt .zero = some (flo b) := by
    rcases f2 with g | ⟨g1, g2⟩
    · have := toInt_U (floorW b) g
      have hU : U (floorW b) = (V (floorW b) : Int) := by unfold U; rw [if_pos (by omega)]
      rw [hU] at f3
      have h0 : 0 ≤ flo b := by
        rcases Int.lt_or_le (flo b) 0 with hn | hn
        · have := Int.mul_neg_of_neg_of_pos hn (show (0 : Int) < (one : Int) by have := one_pos; omega)
          omega
        · exact hn
      obtain ⟨n, hn⟩ := Int.eq_ofNat_of_zero_le h0
      rw [hn] at f3 ⊢
      have : V (floorW b) = n * one := by
        have : ((V (floorW b) : Nat) : Int) = ((n * one : Nat) : Int) := by rw [f3]; push_cast; rfl
        omega
      show (Ieee.double.read (floorW b)).toInt .zero = _
      rw [toInt_U _ g, this, Nat.mul_div_cancel _ one_pos]
    · obtain ⟨c, hc⟩ : ∃ c, floorW b = 9223372036854775808 + c := ⟨floorW b - 9223372036854775808, by omega⟩
      have hU : U (floorW b) = -(V c : Int) := by unfold U; rw [if_neg (by omega), hc, show 9223372036854775808 + c - 9223372036854775808 = c by omega]
      rw [hU] at f3
      have h0 : flo b ≤ 0 := by
        rcases Int.lt_or_le 0 (flo b) with hn | hn
        · have := Int.mul_pos hn (show (0 : Int) < (one : Int) by have := one_pos; omega)
          omega
        · exact hn
      obtain ⟨n, hn⟩ := Int.eq_ofNat_of_zero_le (show 0 ≤ -flo b by omega)
      have hn' : flo b = -(n : Int) := by omega
      rw [hn'] at f3 ⊢
      have : V c = n * one := by
        have : ((V c : Nat) : Int) = ((n * one : Nat) : Int) := by push_cast; rw [Int.neg_mul] at f3; omega
        omega
      show (Ieee.double.read (floorW b)).toInt .zero = _
      rw [hc, toInt_neg c (by omega), this, Nat.mul_div_cancel _ one_pos]
  rw [key]
  simp only
  have hmin : IntKind.i64.min = -9223372036854775808 := rfl
  have hmax : IntKind.i64.max = 9223372036854775807 := rfl
  rw [hmin, hmax, if_pos (by omega)]

theorem c5_run (b c R : Nat) (op : BinOp) (t : TypeId) (h : floatBits op .f64 b c = some R) (w : World) : (binOp op t (.float .f64 b) (.float .f64 c)).run Tryd.prog w = .ok (.float .f64 R) w := run_float_arith w op t .f64 b c R h
theorem order_self (b : Nat) (h : IsFin b) : (FloatKind.f64.format.order b b != some Ordering.eq) = false := by
  have := order_fin b b h h
  show (Ieee.double.order b b != some Ordering.eq) = false
  rw [this, Int.compare_eq_eq.2 rfl]; rfl
theorem isNaN_no (b : Nat) (h : IsFin b) (w : World) :
    Calls Tryd.prog 30 #[.float .f64 b] w fun e w' => e = .returned (.bool false) ∧ w = w' := by
  have h1 := order_self b h
  clear h
  go_enter Tryd.func30, Tryd.ntmps30
  go_wp2
  go_ret
  exact ⟨rfl, rfl⟩
theorem fin_abs (b : Nat) (h : IsFin b) : b < 18446744073709551616 ∧ b % 9223372036854775808 < 9218868437227405312 := by unfold IsFin at h; omega
theorem order_posU (a b : Nat) (ha : a < 9218868437227405312) (hb : b < 9218868437227405312) : Ieee.double.order a b = some (compare a b) := by
  rw [order_fin a b (.inl ha) (.inl hb)]
  have e1 : U a = (V a : Int) := by unfold U; rw [if_pos (by omega)]
  have e2 : U b = (V b : Int) := by unfold U; rw [if_pos (by omega)]
  rw [e1, e2]
  congr 1
  rcases Nat.lt_trichotomy a b with h | h | h
  · rw [Nat.compare_eq_lt.2 h, Int.compare_eq_lt.2 (by have := V_mono a b h; omega)]
  · subst h; rw [Nat.compare_eq_eq.2 rfl, Int.compare_eq_eq.2 rfl]
  · rw [Nat.compare_eq_gt.2 h, Int.compare_eq_gt.2 (by have := V_mono b a h; omega)]
theorem isInf_no (b : Nat) (h : IsFin b) (w : World) :
    Calls Tryd.prog 31 #[.float .f64 b, .int .i64 0] w fun e w' => e = .returned (.bool false) ∧ w = w' := by
  obtain ⟨h1, h2⟩ := fin_abs b h
  have HA := Lib.hid (fun W => abs_any b W h1)
  have h3 : (FloatKind.f64.format.order (b % 9223372036854775808) 9218868437227405311 == some Ordering.gt) = false := by
    show (Ieee.double.order (b % 9223372036854775808) 9218868437227405311 == some Ordering.gt) = false
    rw [order_posU _ _ h2 (by omega)]
    rcases Nat.lt_or_eq_of_le (show b % 9223372036854775808 ≤ 9218868437227405311 by omega) with k | k
    · rw [Nat.compare_eq_lt.2 k]; rfl
    · rw [Nat.compare_eq_eq.2 k]; rfl
  clear h h1 h2
  generalize b % 9223372036854775808 = R at *
  go_enter Tryd.func31, Tryd.ntmps31
  go_wp2_with fail
  refine (HA.out _).mono ?_
  rintro e w' ⟨rfl, rfl⟩
  go_wp2_with fail
  go_ret
  exact ⟨rfl, rfl⟩
theorem fromFloat_ok (b : Nat) (w : World) (h : Small b) :
    Calls Tryd.prog 19 #[.float .f64 b] w fun e w' => e = .returned (.tuple #[.agg #[.int .i64 (flo b), .int .i64 (nanoF b)], .bool true]) ∧ Below w.heap.size w w' := by
  have hf := h.fin
  have HN := Lib.hid (fun W => isNaN_no b hf W)
  have HI := Lib.hid (fun W => isInf_no b hf W)
  have HA := Lib.hid (fun W => abs_any b W (fin_abs b hf).1)
  have HF := Lib.hid (fun W => Floor_any b W hf)
  have h0 : (FloatKind.f64.format.order b 0 == some Ordering.eq) = false := by
    show (Ieee.double.order b 0 == some Ordering.eq) = false
    rw [order_fin b 0 hf (.inl (by omega))]
    have hU : U b ≠ U 0 := by
      have z : U 0 = 0 := rfl
      rw [z]
      unfold U
      rcases h with ⟨a1, a2⟩ | ⟨a1, a2⟩
      · rw [if_pos (by omega)]; have := V_mono 0 b a1; rw [V_zero] at this; omega
      · rw [if_neg (by omega)]; have := V_mono 0 (b - 9223372036854775808) (by omega); rw [V_zero] at this; omega
    cases hc : compare (U b) (U 0) with
    | eq => exact absurd (Int.compare_eq_eq.1 hc) hU
    | lt => rfl
    | gt => rfl
  have h1 : (FloatKind.f64.format.order (b % 9223372036854775808) 4787326403894837248 == some Ordering.gt) = false := by
    show (Ieee.double.order (b % 9223372036854775808) 4787326403894837248 == some Ordering.gt) = false
    rw [order_posU _ _ (fin_abs b hf).2 (by omega)]
    rcases Nat.lt_or_eq_of_le (show b % 9223372036854775808 ≤ 4787326403894837248 by unfold Small at h; omega) with k | k
    · rw [Nat.compare_eq_lt.2 k]; rfl
    · rw [Nat.compare_eq_eq.2 k]; rfl
  have h2 : floatBits .sub .f64 b (floorW b) = some (restW b) := rest_is b h
  have h3 : floatBits .mul .f64 (restW b) 4741671816366391296 = some (prodW b) := prod_is b h
  have h4 := prod_int b h
  have h5 := flo_int b h
  have h6 := (whole_bd _ (prod_rung b h)).1
  have h7 := (whole_bd _ (prod_rung b h)).2.1
  have hn : nanoF b = min (whole (prodW b)) 999999999 := rfl
  rw [hn]
  clear h hf hn
  generalize whole (prodW b) = K at *
  generalize prodW b = P at *
  generalize restW b = R at *
  generalize floorW b = F at *
  generalize flo b = S at *
  generalize b % 9223372036854775808 = B at *
  have r1 := c5_run b F R .sub 34 h2
  have r2 := c5_run R 4741671816366391296 P .mul 34 h3
  have r3 := fun w => run_convert_float_int (P := Tryd.prog) w 34 3 .f64 .i64 P K (by kernel_rfl) Tryd.underlying3 h4
  have r4 := fun w => run_convert_float_int (P := Tryd.prog) w 34 3 .f64 .i64 F S (by kernel_rfl) Tryd.underlying3 h5
  clear h2 h3 h4 h5
  go_enter Tryd.func19, Tryd.ntmps19
  go_wp2_with fail
  refine (HN.out _).mono ?_
  rintro e w' ⟨rfl, rfl⟩
  go_wp2_with fail
  refine (HI.out _).mono ?_
  rintro e w' ⟨rfl, rfl⟩
  go_wp2_with fail
  refine (HA.out _).mono ?_
  rintro e w' ⟨rfl, rfl⟩
  go_wp2_with fail
  refine (HF.out _).mono ?_
  rintro e w' ⟨rfl, rfl⟩
  go_wp2_with fail
  exact bodyPost_ret (v := .tuple #[.agg #[.int .i64 S, .int .i64 (min K 999999999)], .bool true]) (by simp [results, Tryd.results19, go_sem, *]) rfl ⟨rfl, by (repeat' (first | exact Below.refl _ _ | assumption | refine gr_drew ?_ | refine gr_drewN ?_ _ | refine gr_alloc ?_ _ | refine gr_set ?_ ?_ _ | refine gr_call ?_ (by assumption)) <;> (try (simp; done)) <;> (try (simp; omega)) <;> (try omega))⟩
end Go.Proofs.YtaobkniecgiplaaDoor
