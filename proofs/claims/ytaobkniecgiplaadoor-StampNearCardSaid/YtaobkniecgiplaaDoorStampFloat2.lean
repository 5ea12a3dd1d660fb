/- Walks over package stamp and the document's answer: floats that are no times; noughts; the document's way of cutting. -/
import Derived.Test.YtaobkniecgiplaaDoorStampFloat
import Derived.Test.YtaobkniecgiplaaDoorRefStamp3
namespace Go.Proofs.YtaobkniecgiplaaDoor
open Go.RowKit
open FloatM

theorem order_nan (b c : Nat) (h : 9218868437227405312 < b % 9223372036854775808) (h2 : b < 18446744073709551616) : Ieee.double.order b c = none := by
  have hr : ∃ s t, Ieee.double.read b = .nan s t := by
    by_cases hb : b < 9223372036854775808
    · obtain ⟨t, ht⟩ := read_nan b (by omega) hb
      exact ⟨_, t, ht⟩
    · obtain ⟨t, ht⟩ := read_nan (b - 9223372036854775808) (by omega) (by omega)
      have := read_neg (b - 9223372036854775808) (by omega)
      rw [show 9223372036854775808 + (b - 9223372036854775808) = b by omega, ht] at this
      exact ⟨_, t, this⟩
  obtain ⟨s, t, ht⟩ := hr
  unfold Ieee.Format.order
  rw [ht]; rfl
/-- The words that are no times: what is no number, what is without end, what is beyond. -/
def Out (b : Nat) : Prop := 4787326403894837248 < b % 9223372036854775808 ∧ b < 18446744073709551616
theorem isNaN_yes (b : Nat) (h : 9218868437227405312 < b % 9223372036854775808) (h2 : b < 18446744073709551616) (w : World) :
    Calls Tryd.prog 30 #[.float .f64 b] w fun e w' => e = .returned (.bool true) ∧ w = w' := by
  have h1 : (FloatKind.f64.format.order b b != some Ordering.eq) = true := by
    show (Ieee.double.order b b != some Ordering.eq) = true
    rw [order_nan b b h h2]; rfl
  clear h h2
  go_enter Tryd.func30, Tryd.ntmps30
  go_wp2
  go_ret
  exact ⟨rfl, rfl⟩
theorem order_inf : Ieee.double.order 9218868437227405312 9218868437227405312 = some .eq ∧ Ieee.double.order 18442240474082181120 18442240474082181120 = some .eq := by decide +kernel
theorem isNaN_inf (b : Nat) (h : b % 9223372036854775808 = 9218868437227405312) (h2 : b < 18446744073709551616) (w : World) :
    Calls Tryd.prog 30 #[.float .f64 b] w fun e w' => e = .returned (.bool false) ∧ w = w' := by
  have h1 : (FloatKind.f64.format.order b b != some Ordering.eq) = false := by
    show (Ieee.double.order b b != some Ordering.eq) = false
    rcases (show b = 9218868437227405312 ∨ b = 18442240474082181120 by omega) with rfl | rfl
    · rw [order_inf.1]; rfl
    · rw [order_inf.2]; rfl
  clear h h2
  go_enter Tryd.func30, Tryd.ntmps30
  go_wp2
  go_ret
  exact ⟨rfl, rfl⟩
theorem isInf_yes (b : Nat) (h : b % 9223372036854775808 = 9218868437227405312) (h2 : b < 18446744073709551616) (w : World) :
    Calls Tryd.prog 31 #[.float .f64 b, .int .i64 0] w fun e w' => e = .returned (.bool true) ∧ w = w' := by
  have HA := Lib.hid (fun W => by have := abs_any b W h2; rw [h] at this; exact this)
  have h3 : (FloatKind.f64.format.order 9218868437227405312 9218868437227405311 == some Ordering.gt) = true := by decide +kernel
  clear h h2
  go_enter Tryd.func31, Tryd.ntmps31
  go_wp2_with fail
  refine (HA.out _).mono ?_
  rintro e w' ⟨rfl, rfl⟩
  go_wp2_with fail
  go_ret
  exact ⟨rfl, rfl⟩
theorem fromFloat_none (b : Nat) (w : World) (h : Out b) :
    Calls Tryd.prog 19 #[.float .f64 b] w fun e w' => e = .returned (.tuple #[.agg #[.int .i64 0, .int .i64 0], .bool false]) ∧ Below w.heap.size w w' := by
  obtain ⟨ho, hb⟩ := h
  rcases Nat.lt_trichotomy (b % 9223372036854775808) 9218868437227405312 with hc | hc | hc
  · have hf : IsFin b := by unfold IsFin; omega
    have HN := Lib.hid (fun W => isNaN_no b hf W)
    have HI := Lib.hid (fun W => isInf_no b hf W)
    have HA := Lib.hid (fun W => abs_any b W hb)
    have h0 : (FloatKind.f64.format.order b 0 == some Ordering.eq) = false := by
      show (Ieee.double.order b 0 == some Ordering.eq) = false
      rw [order_fin b 0 hf (.inl (by omega))]
      have hU : U b ≠ U 0 := by
        have z : U 0 = 0 := rfl
        rw [z]
        unfold U
        by_cases hp : b < 9223372036854775808
        · rw [if_pos hp]; have := V_mono 0 b (by omega); rw [V_zero] at this; omega
        · rw [if_neg hp]; have := V_mono 0 (b - 9223372036854775808) (by omega); rw [V_zero] at this; omega
      cases hx : compare (U b) (U 0) with
      | eq => exact absurd (Int.compare_eq_eq.1 hx) hU
      | lt => rfl
      | gt => rfl
    have h1 : (FloatKind.f64.format.order (b % 9223372036854775808) 4787326403894837248 == some Ordering.gt) = true := by
      show (Ieee.double.order (b % 9223372036854775808) 4787326403894837248 == some Ordering.gt) = true
      rw [order_posU _ _ hc (by omega), Nat.compare_eq_gt.2 ho]; rfl
    clear ho hb hc hf
    generalize b % 9223372036854775808 = B at *
    go_enter Tryd.func19, Tryd.ntmps19
    go_wp2_with fail
    refine (HN.out _).mono ?_
    rintro e w' ⟨rfl, rfl⟩
    go_wp2_with fail
    refine (HI.out _).mono ?_
    rintro e w' ⟨rfl, rfl⟩
    go_wp2_with fail
    refine (HA.out _).mono ?_
    rintro e w' ⟨rfl, rfl⟩
    go_wp2_with fail
    exact bodyPost_ret (v := .tuple #[.agg #[.int .i64 0, .int .i64 0], .bool false]) (by simp [results, Tryd.results19, go_sem, *]) rfl ⟨rfl, by (repeat' (first | exact Below.refl _ _ | assumption | refine gr_drew ?_ | refine gr_drewN ?_ _ | refine gr_alloc ?_ _ | refine gr_set ?_ ?_ _ | refine gr_call ?_ (by assumption)) <;> (try (simp; done)) <;> (try (simp; omega)) <;> (try omega))⟩
  · have HN := Lib.hid (fun W => isNaN_inf b hc hb W)
    have HI := Lib.hid (fun W => isInf_yes b hc hb W)
    clear ho hb hc
    go_enter Tryd.func19, Tryd.ntmps19
    go_wp2_with fail
    refine (HN.out _).mono ?_
    rintro e w' ⟨rfl, rfl⟩
    go_wp2_with fail
    refine (HI.out _).mono ?_
    rintro e w' ⟨rfl, rfl⟩
    go_wp2_with fail
    exact bodyPost_ret (v := .tuple #[.agg #[.int .i64 0, .int .i64 0], .bool false]) (by simp [results, Tryd.results19, go_sem, *]) rfl ⟨rfl, by (repeat' (first | exact Below.refl _ _ | assumption | refine gr_drew ?_ | refine gr_drewN ?_ _ | refine gr_alloc ?_ _ | refine gr_set ?_ ?_ _ | refine gr_call ?_ (by assumption)) <;> (try (simp; done)) <;> (try (simp; omega)) <;> (try omega))⟩
  · have HN := Lib.hid (fun W => isNaN_yes b hc hb W)
    clear ho hb hc
    go_enter Tryd.func19, Tryd.ntmps19
    go_wp2_with fail
    refine (HN.out _).mono ?_
    rintro e w' ⟨rfl, rfl⟩
    go_wp2_with fail
    exact bodyPost_ret (v := .tuple #[.agg #[.int .i64 0, .int .i64 0], .bool false]) (by simp [results, Tryd.results19, go_sem, *]) rfl ⟨rfl, by (repeat' (first | exact Below.refl _ _ | assumption | refine gr_drew ?_ | refine gr_drewN ?_ _ | refine gr_alloc ?_ _ | refine gr_set ?_ ?_ _ | refine gr_call ?_ (by assumption)) <;> (try (simp; done)) <;> (try (simp; omega)) <;> (try omega))⟩
theorem fromFloat_zero (b : Nat) (w : World) (h : b = 0 ∨ b = 9223372036854775808) :
    Calls Tryd.prog 19 #[.float .f64 b] w fun e w' => e = .returned (.tuple #[.agg #[.int .i64 0, .int .i64 0], .bool true]) ∧ Below w.heap.size w w' := by
  have hf : IsFin b := by unfold IsFin; omega
  have HN := Lib.hid (fun W => isNaN_no b hf W)
  have HI := Lib.hid (fun W => isInf_no b hf W)
  have h0 : (FloatKind.f64.format.order b 0 == some Ordering.eq) = true := by
    rcases h with rfl | rfl
    · decide +kernel
    · decide +kernel
  clear h hf
  go_enter Tryd.func19, Tryd.ntmps19
  go_wp2_with fail
  refine (HN.out _).mono ?_
  rintro e w' ⟨rfl, rfl⟩
  go_wp2_with fail
  refine (HI.out _).mono ?_
  rintro e w' ⟨rfl, rfl⟩
  go_wp2_with fail
  exact bodyPost_ret (v := .tuple #[.agg #[.int .i64 0, .int .i64 0], .bool true]) (by simp [results, Tryd.results19, go_sem, *]) rfl ⟨rfl, by (repeat' (first | exact Below.refl _ _ | assumption | refine gr_drew ?_ | refine gr_drewN ?_ _ | refine gr_alloc ?_ _ | refine gr_set ?_ ?_ _ | refine gr_call ?_ (by assumption)) <;> (try (simp; done)) <;> (try (simp; omega)) <;> (try omega))⟩

/-! the document's answer -/
theorem refFrom_none (b : Nat) (w : World) (h : Out b) :
    Calls Tryd.prog 20 #[.float .f64 b] w fun e w' => e = .returned (.agg #[.int .i64 0, .int .i64 0, .bool false]) ∧ Below w.heap.size w w' := by
  obtain ⟨ho, hb⟩ := h
  have key : (FloatKind.f64.format.order b b != some Ordering.eq) = true ∨ ((FloatKind.f64.format.order b b != some Ordering.eq) = false ∧ (FloatKind.f64.format.order b 4787326403894837248 == some Ordering.gt) = true) ∨
      ((FloatKind.f64.format.order b b != some Ordering.eq) = false ∧ (FloatKind.f64.format.order b 4787326403894837248 == some Ordering.gt) = false ∧ (FloatKind.f64.format.order b 14010698440749613056 == some Ordering.lt) = true) := by
    rcases Nat.lt_trichotomy (b % 9223372036854775808) 9218868437227405312 with hc | hc | hc
    · have hf : IsFin b := by unfold IsFin; omega
      right
      by_cases hp : b < 9223372036854775808
      · left
        refine ⟨order_self b hf, ?_⟩
        show (Ieee.double.order b 4787326403894837248 == some Ordering.gt) = true
        rw [order_posU _ _ (by omega) (by omega), Nat.compare_eq_gt.2 (by omega)]; rfl
      · right
        refine ⟨order_self b hf, ?_, ?_⟩
        · show (Ieee.double.order b 4787326403894837248 == some Ordering.gt) = false
          rw [order_fin b _ hf (.inl (by omega)), Int.compare_eq_lt.2]
          · rfl
          · unfold U; rw [if_neg hp, if_pos (by omega)]
            have := V_mono 0 (b - 9223372036854775808) (by omega); rw [V_zero] at this
            have := V_mono 0 4787326403894837248 (by omega); rw [V_zero] at this
            omega
        · show (Ieee.double.order b 14010698440749613056 == some Ordering.lt) = true
          rw [order_fin b _ hf (.inr ⟨by omega, by omega⟩), Int.compare_eq_lt.2]
          · rfl
          · unfold U; rw [if_neg hp, if_neg (by omega)]
            have := V_mono 4787326403894837248 (b - 9223372036854775808) (by omega)
            rw [show 14010698440749613056 - 9223372036854775808 = 4787326403894837248 by omega]
            omega
    · right
      rcases (show b = 9218868437227405312 ∨ b = 18442240474082181120 by omega) with rfl | rfl
      · left; decide +kernel
      · right; decide +kernel
    · left
      show (Ieee.double.order b b != some Ordering.eq) = true
      rw [order_nan b b hc hb]; rfl
  clear ho hb
  rcases key with h1 | ⟨h1, h2⟩ | ⟨h1, h2, h3⟩
  all_goals
    go_enter Tryd.func20, Tryd.ntmps20
    go_wp2
    exact bodyPost_ret (v := .agg #[.int .i64 0, .int .i64 0, .bool false]) (by simp [results, Tryd.results20, go_sem, *]) rfl ⟨rfl, by (repeat' (first | exact Below.refl _ _ | assumption | refine gr_drew ?_ | refine gr_drewN ?_ _ | refine gr_alloc ?_ _ | refine gr_set ?_ ?_ _ | refine gr_call ?_ (by assumption)) <;> (try (simp; done)) <;> (try (simp; omega)) <;> (try omega))⟩
theorem refFrom_zero (b : Nat) (w : World) (h : b = 0 ∨ b = 9223372036854775808) :
    Calls Tryd.prog 20 #[.float .f64 b] w fun e w' => e = .returned (.agg #[.int .i64 0, .int .i64 0, .bool true]) ∧ Below w.heap.size w w' := by
  have key : (FloatKind.f64.format.order b b != some Ordering.eq) = false ∧ (FloatKind.f64.format.order b 4787326403894837248 == some Ordering.gt) = false ∧ (FloatKind.f64.format.order b 14010698440749613056 == some Ordering.lt) = false ∧
      (FloatKind.f64.format.order 0 b == some Ordering.gt) = false ∧ floatToIntVal .f64 b .i64 = some 0 ∧ floatOfInt .f64 0 = 0 ∧ floatBits .sub .f64 b 0 = some b ∧ floatBits .mul .f64 b 4741671816366391296 = some b := by
    rcases h with rfl | rfl <;> decide +kernel
  obtain ⟨h1, h2, h3, h4, h5, h6, h7, h8⟩ := key
  have r1 := c5_run b 0 b .sub 34 h7
  have r2 := c5_run b 4741671816366391296 b .mul 34 h8
  have r3 := fun w => run_convert_float_int (P := Tryd.prog) w 34 3 .f64 .i64 b 0 (by kernel_rfl) Tryd.underlying3 h5
  have hm0 : min (0 : Int) 999999999 = 0 := rfl
  clear h h5 h7 h8
  go_enter Tryd.func20, Tryd.ntmps20
  go_wp2
  exact bodyPost_ret (v := .agg #[.int .i64 0, .int .i64 0, .bool true]) (by simp [results, Tryd.results20, go_sem, *]) rfl ⟨rfl, by (repeat' (first | exact Below.refl _ _ | assumption | refine gr_drew ?_ | refine gr_drewN ?_ _ | refine gr_alloc ?_ _ | refine gr_set ?_ ?_ _ | refine gr_call ?_ (by assumption)) <;> (try (simp; done)) <;> (try (simp; omega)) <;> (try omega))⟩

theorem word_of (n : Int) (h : -1099511627776 ≤ n ∧ n ≤ 1099511627776) : IsFin (floatOfInt .f64 n) ∧ U (floatOfInt .f64 n) = n * (one : Int) := by
  have hw : floatOfInt .f64 n = Ieee.double.nearest (decide (n < 0)) n.natAbs 0 := rfl
  obtain ⟨r, r1, r2, r3, r4⟩ := ofNat_V n.natAbs (by omega)
  rw [hw]
  rcases Int.lt_or_le n 0 with h0 | h0
  · rw [decide_eq_true h0, r2]
    refine ⟨.inr ⟨by omega, by omega⟩, ?_⟩
    unfold U
    rw [if_neg (by omega), show 9223372036854775808 + r - 9223372036854775808 = r by omega, r3]
    obtain ⟨k, hk⟩ := Int.eq_ofNat_of_zero_le (show 0 ≤ -n by omega)
    have e : n.natAbs = k := by omega
    have e2 : n = -(k : Int) := by omega
    rw [e, e2]; push_cast; rw [Int.neg_mul]
  · rw [decide_eq_false (by omega), r1]
    refine ⟨.inl r4, ?_⟩
    unfold U
    rw [if_pos (by omega), r3]
    obtain ⟨k, rfl⟩ := Int.eq_ofNat_of_zero_le h0
    rw [Int.natAbs_natCast]; push_cast; rfl
/-- Cut towards nought; whether that is above. -/
theorem cut_zero_is (b : Nat) (h : Small b) : (floatToIntVal .f64 b .i64 = some (flo b) ∧ (FloatKind.f64.format.order (floatOfInt .f64 (flo b)) b == some Ordering.gt) = false) ∨
    (floatToIntVal .f64 b .i64 = some (flo b + 1) ∧ (FloatKind.f64.format.order (floatOfInt .f64 (flo b + 1)) b == some Ordering.gt) = true ∧ flo b + 1 ≤ 0) := by
  obtain ⟨d1, d2, d3, d4⟩ := flo_bd b h
  have hmin : IntKind.i64.min = -9223372036854775808 := rfl
  have hmax : IntKind.i64.max = 9223372036854775807 := rfl
  have le_not : ∀ n : Int, -1099511627776 ≤ n ∧ n ≤ 1099511627776 → n * (one : Int) ≤ U b → (FloatKind.f64.format.order (floatOfInt .f64 n) b == some Ordering.gt) = false := by
    intro n hn hle
    obtain ⟨w1, w2⟩ := word_of n hn
    show (Ieee.double.order _ b == some Ordering.gt) = false
    rw [order_fin _ b w1 h.fin, w2]
    rcases Int.lt_or_eq_of_le hle with k | k
    · rw [Int.compare_eq_lt.2 k]; rfl
    · rw [Int.compare_eq_eq.2 k]; rfl
  have gt_is : ∀ n : Int, -1099511627776 ≤ n ∧ n ≤ 1099511627776 → U b < n * (one : Int) → (FloatKind.f64.format.order (floatOfInt .f64 n) b == some Ordering.gt) = true := by
    intro n hn hlt
    obtain ⟨w1, w2⟩ := word_of n hn
    show (Ieee.double.order _ b == some Ordering.gt) = true
    rw [order_fin _ b w1 h.fin, w2, Int.compare_eq_gt.2 hlt]; rfl
  have hle : flo b * (one : Int) ≤ U b := by
    have := Int.natCast_nonneg (restU b)
    generalize (restU b : Int) = r at *
    omega
  rcases h with ⟨h0, h1⟩ | ⟨h0, h1⟩
  · left
    refine ⟨?_, le_not _ ⟨d1, d2⟩ hle⟩
    have hf : flo b = ((V b / one : Nat) : Int) := by unfold flo; rw [if_pos (by omega)]
    have ht : (FloatKind.f64.decode b).toInt .zero = some (flo b) := by
      rw [hf]; exact toInt_U b (by omega)
    unfold floatToIntVal
    rw [ht]
    simp only
    rw [hmin, hmax, if_pos (by omega)]
  · obtain ⟨c, rfl⟩ : ∃ c, b = 9223372036854775808 + c := ⟨b - 9223372036854775808, by omega⟩
    have hf : flo (9223372036854775808 + c) = -((up (V c) : Nat) : Int) := by unfold flo; rw [if_neg (by omega), show 9223372036854775808 + c - 9223372036854775808 = c by omega]
    have ht : (FloatKind.f64.decode (9223372036854775808 + c)).toInt .zero = some (-((V c / one : Nat) : Int)) := toInt_neg c (by omega)
    have hU : U (9223372036854775808 + c) = -(V c : Int) := by unfold U; rw [if_neg (by omega), show 9223372036854775808 + c - 9223372036854775808 = c by omega]
    have hdm := Nat.div_add_mod (V c) one
    have hml := Nat.mod_lt (V c) one_pos
    rw [Nat.mul_comm] at hdm
    by_cases hz : V c % one = 0
    · left
      refine ⟨?_, le_not _ ⟨d1, d2⟩ hle⟩
      have hu : up (V c) = V c / one := by unfold up; rw [if_pos hz, Nat.add_zero]
      rw [hu] at hf
      unfold floatToIntVal
      rw [ht, ← hf]
      simp only
      rw [hmin, hmax, if_pos (by omega)]
    · right
      have hu : up (V c) = V c / one + 1 := by unfold up; rw [if_neg hz]
      have hn : flo (9223372036854775808 + c) + 1 = -((V c / one : Nat) : Int) := by rw [hf, hu]; push_cast; omega
      have hgt : U (9223372036854775808 + c) < (flo (9223372036854775808 + c) + 1) * (one : Int) := by
        rw [hn, hU, Int.neg_mul]
        have e : ((V c / one * one : Nat) : Int) = ((V c / one : Nat) : Int) * (one : Int) := by push_cast; rfl
        rw [← e]
        generalize V c / one * one = y at *
        generalize V c % one = z at *
        omega
      have hb0 : flo (9223372036854775808 + c) + 1 ≤ 0 := by rw [hn]; have := Int.natCast_nonneg (V c / one); omega
      refine ⟨?_, gt_is _ ⟨by omega, by omega⟩ hgt, hb0⟩
      unfold floatToIntVal
      rw [ht, ← hn]
      simp only
      rw [hmin, hmax, if_pos (by omega)]
theorem refFrom_ok (b : Nat) (w : World) (h : Small b) :
    Calls Tryd.prog 20 #[.float .f64 b] w fun e w' => e = .returned (.agg #[.int .i64 (flo b), .int .i64 (nanoF b), .bool true]) ∧ Below w.heap.size w w' := by
  have hf := h.fin
  have q1 := order_self b hf
  have q2 : (FloatKind.f64.format.order b 4787326403894837248 == some Ordering.gt) = false := by
    show (Ieee.double.order b 4787326403894837248 == some Ordering.gt) = false
    rw [order_fin b _ hf (.inl (by omega))]
    have hc : U 4787326403894837248 = (V 4787326403894837248 : Int) := rfl
    rw [hc]
    have hle : U b ≤ (V 4787326403894837248 : Int) := by
      unfold U
      rcases h with ⟨h0, h1⟩ | ⟨h0, h1⟩
      · rw [if_pos (by omega)]; have := (V_le_iff b 4787326403894837248).2 h1; omega
      · rw [if_neg (by omega)]; omega
    rcases Int.lt_or_eq_of_le hle with k | k
    · rw [Int.compare_eq_lt.2 k]; rfl
    · rw [Int.compare_eq_eq.2 k]; rfl
  have q3 : (FloatKind.f64.format.order b 14010698440749613056 == some Ordering.lt) = false := by
    show (Ieee.double.order b 14010698440749613056 == some Ordering.lt) = false
    rw [order_fin b _ hf (.inr ⟨by omega, by omega⟩)]
    have hc : U 14010698440749613056 = -(V 4787326403894837248 : Int) := rfl
    rw [hc]
    have hle : -(V 4787326403894837248 : Int) ≤ U b := by
      unfold U
      rcases h with ⟨h0, h1⟩ | ⟨h0, h1⟩
      · rw [if_pos (by omega)]; omega
      · rw [if_neg (by omega)]; have := (V_le_iff (b - 9223372036854775808) 4787326403894837248).2 (by omega); omega
    rcases Int.lt_or_eq_of_le hle with k | k
    · rw [Int.compare_eq_gt.2 k]; rfl
    · rw [Int.compare_eq_eq.2 k.symm]; rfl
  have h2 : floatBits .sub .f64 b (floorW b) = some (restW b) := rest_is b h
  have h3 : floatBits .mul .f64 (restW b) 4741671816366391296 = some (prodW b) := prod_is b h
  have h4 := prod_int b h
  have h6 := (whole_bd _ (prod_rung b h)).1
  have h7 := (whole_bd _ (prod_rung b h)).2.1
  have hd1 := (flo_bd b h).1
  have hd2 := (flo_bd b h).2.1
  have hk := cut_zero_is b h
  have hn : nanoF b = min (whole (prodW b)) 999999999 := rfl
  rw [(flo_word b h).1] at h2
  rw [hn]
  clear h hf hn
  generalize whole (prodW b) = K at *
  generalize prodW b = P at *
  generalize restW b = R at *
  generalize flo b = S at *
  have r2 := c5_run R 4741671816366391296 P .mul 34 h3
  have r3 := fun w => run_convert_float_int (P := Tryd.prog) w 34 3 .f64 .i64 P K (by kernel_rfl) Tryd.underlying3 h4
  rcases hk with ⟨k1, k2⟩ | ⟨k1, k2, k3⟩
  · have r1 := c5_run b (floatOfInt .f64 S) R .sub 34 h2
    have r4 := fun w => run_convert_float_int (P := Tryd.prog) w 34 3 .f64 .i64 b S (by kernel_rfl) Tryd.underlying3 k1
    clear h2 h3 h4 k1
    go_enter Tryd.func20, Tryd.ntmps20
    go_wp2
    exact bodyPost_ret (v := .agg #[.int .i64 S, .int .i64 (min K 999999999), .bool true]) (by simp [results, Tryd.results20, go_sem, *]) rfl ⟨rfl, by (repeat' (first | exact Below.refl _ _ | assumption | refine gr_drew ?_ | refine gr_drewN ?_ _ | refine gr_alloc ?_ _ | refine gr_set ?_ ?_ _ | refine gr_call ?_ (by assumption)) <;> (try (simp; done)) <;> (try (simp; omega)) <;> (try omega))⟩
  · obtain ⟨S1, hS⟩ : ∃ S1, S = S1 - 1 := ⟨S + 1, by omega⟩
    subst hS
    rw [show S1 - 1 + 1 = S1 by omega] at k1 k2 k3
    have r1 := c5_run b (floatOfInt .f64 (S1 - 1)) R .sub 34 h2
    have r4 := fun w => run_convert_float_int (P := Tryd.prog) w 34 3 .f64 .i64 b S1 (by kernel_rfl) Tryd.underlying3 k1
    clear h2 h3 h4 k1
    go_enter Tryd.func20, Tryd.ntmps20
    go_wp2
    exact bodyPost_ret (v := .agg #[.int .i64 (S1 - 1), .int .i64 (min K 999999999), .bool true]) (by simp [results, Tryd.results20, go_sem, *]) rfl ⟨rfl, by (repeat' (first | exact Below.refl _ _ | assumption | refine gr_drew ?_ | refine gr_drewN ?_ _ | refine gr_alloc ?_ _ | refine gr_set ?_ ?_ _ | refine gr_call ?_ (by assumption)) <;> (try (simp; done)) <;> (try (simp; omega)) <;> (try omega))⟩
end Go.Proofs.YtaobkniecgiplaaDoor
