/- The walk of the law StampEdges. -/
import Derived.Test.YtaobkniecgiplaaDoorStampAwake
import Derived.Test.YtaobkniecgiplaaDoorStampFloat3
namespace Go.Proofs.YtaobkniecgiplaaDoor
open Go.RowKit
open StampM
open FloatM

/-- 0/0: some number that is none. -/
theorem quo_nan (t : TypeId) (w : World) : ∃ nb : Nat, (binOp .quo t (.float .f64 0) (.float .f64 0)).run Tryd.prog w = .ok (.float .f64 nb) w.drew ∧ Out nb := by
  have hd : FloatKind.f64.format.div 0 0 = none := by decide +kernel
  refine ⟨(Question.nanBits .f64 0 0).cut (w.tape w.drawn (Question.nanBits .f64 0 0)), ?_, ?_⟩
  · simp [binOp, Op.floatArith, hd, run_choose_drew, Question.forced]
  · generalize w.tape w.drawn (Question.nanBits .f64 0 0) = x
    have e : (Question.nanBits .f64 0 0).cut x = (x % 2) * 2 ^ 63 + 0x7ff0000000000000 + 1 + (x / 2) % (2 ^ 52 - 1) := rfl
    rw [e]
    have e1 : (2 : Nat) ^ 63 = 9223372036854775808 := by decide
    have e2 : (2 : Nat) ^ 52 - 1 = 4503599627370495 := by decide
    rw [e1, e2]
    have h1 : x % 2 ≤ 1 := by omega
    have h2 : x / 2 % 4503599627370495 < 4503599627370495 := Nat.mod_lt _ (by decide)
    generalize x % 2 = y at *
    generalize x / 2 % 4503599627370495 = z at *
    unfold Out
    rcases (show y = 0 ∨ y = 1 by omega) with rfl | rfl
    · omega
    · omega
/-- The powers of two, as far as they go. -/
def pw (j : Nat) : Nat := min (1023 + j) 2047 * 4503599627370496
theorem read_two : Ieee.double.read 4611686018427387904 = .number false (2 ^ 1 * 2 ^ 51) (-51) := by decide +kernel
theorem mul_two (a : Nat) (ha : a < 9218868437227405312) : Ieee.double.mul a 4611686018427387904 = some (W false (V a * 2)) := by
  obtain ⟨m, e, hr, hv, _⟩ := read_V a ha
  unfold Ieee.Format.mul
  rw [hr, read_two]
  unfold Ieee.Datum.product
  simp only [Option.map_some]
  refine congrArg some ?_
  show Ieee.double.nearest (false ^^ false) (m * (2 ^ 1 * 2 ^ 51)) (-1074 + (e : Int) + -51) = _
  have := W_deep false (m * 2) e 51
  rw [Nat.pow_one, ← Nat.mul_assoc, show (-1074 + (e : Int) + -51) = -1074 + (e : Int) - ((51 : Nat) : Int) by omega]
  rw [show (false ^^ false) = false from rfl, this, ← hv, Nat.mul_right_comm]
theorem V_pw (k : Nat) (hk : k ≤ 1023) : V ((k + 1023) * 4503599627370496) = 2 ^ k * one := by
  have h1 : ¬ (k + 1023) * 4503599627370496 < 4503599627370496 := Nat.not_lt.2 (by
    calc 4503599627370496 = 1 * 4503599627370496 := (Nat.one_mul _).symm
      _ ≤ (k + 1023) * 4503599627370496 := Nat.mul_le_mul_right _ (by omega))
  have h2 : (k + 1023) * 4503599627370496 % 4503599627370496 = 0 := Nat.mul_mod_left _ _
  have h3 : (k + 1023) * 4503599627370496 / 4503599627370496 = k + 1023 := Nat.mul_div_cancel _ (by decide)
  unfold V
  rw [if_neg h1, h2, h3, one_up k (k + 1074) rfl, Nat.add_zero]
  obtain ⟨t, ht⟩ : ∃ t : Nat, t = 52 := ⟨_, rfl⟩
  have e52 : 4503599627370496 = 2 ^ t := ht ▸ pow52.symm
  rw [e52, ← Nat.pow_add, show t + (k + 1023 - 1) = k + 1074 by omega]
theorem two_last : Ieee.double.mul 9214364837600034816 4611686018427387904 = some 9218868437227405312 := by decide +kernel
theorem two_inf : Ieee.double.mul 9218868437227405312 4611686018427387904 = some 9218868437227405312 := by decide +kernel
theorem pw_step (j : Nat) : floatBits .mul .f64 (pw j) 4611686018427387904 = some (pw (j + 1)) := by
  show Ieee.double.mul (pw j) 4611686018427387904 = _
  rcases Nat.lt_trichotomy j 1023 with h | h | h
  · have e0 : pw j = (j + 1023) * 4503599627370496 := by unfold pw; rw [Nat.min_eq_left (by omega), Nat.add_comm]
    have e1 : pw (j + 1) = (j + 1 + 1023) * 4503599627370496 := by unfold pw; rw [Nat.min_eq_left (by omega), Nat.add_comm]
    have hlt : pw j < 9218868437227405312 := by rw [e0]; omega
    have hlt1 : pw (j + 1) < 9218868437227405312 := by rw [e1]; omega
    rw [mul_two _ hlt]
    have hV : V (pw j) * 2 = V (pw (j + 1)) := by
      rw [e0, e1, V_pw j (by omega), V_pw (j + 1) (by omega), Nat.pow_succ, Nat.mul_right_comm]
    rw [hV, W_V false _ hlt1, word_false]
  · subst h
    have e0 : pw 1023 = 9214364837600034816 := by decide
    have e1 : pw (1023 + 1) = 9218868437227405312 := by decide
    rw [e0, e1]; exact two_last
  · have e0 : pw j = 9218868437227405312 := by unfold pw; rw [Nat.min_eq_right (by omega)]
    have e1 : pw (j + 1) = 9218868437227405312 := by unfold pw; rw [Nat.min_eq_right (by omega)]
    rw [e0, e1]; exact two_inf
theorem pw_out (j : Nat) (h : 41 ≤ j) : Out (pw j) ∧ Out (9223372036854775808 + pw j) ∧ pw j < 9223372036854775808 := by
  have h1 : 1064 ≤ min (1023 + j) 2047 := by omega
  have h2 : min (1023 + j) 2047 ≤ 2047 := Nat.min_le_right _ _
  unfold Out pw
  generalize min (1023 + j) 2047 = q at *
  omega
theorem whole_float (b : Nat) (n : Int) (h : Small b) (hU : U b = n * (one : Int)) : flo b = n ∧ nanoF b = 0 := by
  obtain ⟨_, _, d3, d4⟩ := flo_bd b h
  have ho := one_pos
  have hf : flo b = n := by
    rw [hU, ← Int.sub_mul] at d3
    have hk : n - flo b = 0 := by
      have h1 : 0 ≤ (n - flo b) * (one : Int) := by rw [d3]; exact Int.natCast_nonneg _
      have h2 : (n - flo b) * (one : Int) < (one : Int) := by rw [d3]; generalize one = O at *; omega
      generalize n - flo b = x at *
      generalize one = O at *
      rcases Int.lt_trichotomy x 0 with hx | hx | hx
      · have := Int.mul_neg_of_neg_of_pos hx (show (0 : Int) < (O : Int) by omega); omega
      · exact hx
      · have : (1 : Int) * (O : Int) ≤ x * (O : Int) := Int.mul_le_mul_of_nonneg_right (by omega) (by omega)
        omega
    omega
  have hr : restU b = 0 := by
    unfold restU; rw [hU, hf, Int.sub_self]; rfl
  have hp : prodW b = 0 := by
    unfold prodW restW
    rw [hr, W_zero, word_false, V_zero, Nat.zero_mul, W_zero]; rfl
  refine ⟨hf, ?_⟩
  unfold nanoF
  rw [hp]
  unfold whole
  rw [V_zero, Nat.zero_div]; rfl
/-- A whole number's float. -/
theorem int_small (n : Int) (h : -1099511627776 ≤ n ∧ n ≤ 1099511627776) (h0 : n ≠ 0) : Small (floatOfInt .f64 n) ∧ U (floatOfInt .f64 n) = n * (one : Int) := by
  obtain ⟨w1, w2⟩ := word_of n h
  refine ⟨?_, w2⟩
  have ho := one_pos
  have hm := V_max
  generalize floatOfInt .f64 n = b at *
  unfold Small
  unfold U at w2
  unfold IsFin at w1
  by_cases hb : b < 9223372036854775808
  · left
    rw [if_pos hb] at w2
    have hn : 0 < n := by
      rcases Int.lt_or_le 0 n with hx | hx
      · exact hx
      · have : n * (one : Int) < 0 := Int.mul_neg_of_neg_of_pos (by omega) (by generalize one = O at *; omega)
        have := Int.natCast_nonneg (V b); omega
    obtain ⟨k, rfl⟩ := Int.eq_ofNat_of_zero_le (show 0 ≤ n by omega)
    have hv : V b = k * one := by
      have e : ((V b : Nat) : Int) = ((k * one : Nat) : Int) := by rw [w2]; push_cast; rfl
      exact Int.ofNat.inj e
    have hle : V b ≤ V 4787326403894837248 := by rw [hv, hm]; exact Nat.mul_le_mul_right _ (by omega)
    refine ⟨?_, (V_le_iff _ _).1 hle⟩
    rcases Nat.eq_zero_or_pos b with hz | hz
    · rw [hz, V_zero] at hv
      have := Nat.mul_pos (show 0 < k by omega) ho; omega
    · exact hz
  · right
    rw [if_neg hb] at w2
    obtain ⟨c, rfl⟩ : ∃ c, b = 9223372036854775808 + c := ⟨b - 9223372036854775808, by omega⟩
    rw [show 9223372036854775808 + c - 9223372036854775808 = c by omega] at w2
    have hn : n < 0 := by
      rcases Int.lt_or_le n 0 with hx | hx
      · exact hx
      · have : 0 < n * (one : Int) := Int.mul_pos (by omega) (by generalize one = O at *; omega)
        have := Int.natCast_nonneg (V c); omega
    obtain ⟨k, hk⟩ := Int.eq_ofNat_of_zero_le (show 0 ≤ -n by omega)
    have hn' : n = -(k : Int) := by omega
    have hv : V c = k * one := by
      have e : ((V c : Nat) : Int) = ((k * one : Nat) : Int) := by rw [hn', Int.neg_mul] at w2; push_cast; omega
      exact Int.ofNat.inj e
    have hle : V c ≤ V 4787326403894837248 := by rw [hv, hm]; exact Nat.mul_le_mul_right _ (by omega)
    have hc := (V_le_iff _ _).1 hle
    refine ⟨?_, by omega⟩
    rcases Nat.eq_zero_or_pos c with hz | hz
    · rw [hz, V_zero] at hv
      have := Nat.mul_pos (show 0 < k by omega) ho; omega
    · omega
theorem flt_whole (n : Int) (h : -1099511627776 ≤ n ∧ n ≤ 1099511627776) : fltW n 0 = floatOfInt .f64 n := by
  have hq : fltQ 0 = 0 := by decide +kernel
  unfold fltW
  rw [hq]
  by_cases h0 : n = 0
  · subst h0; decide +kernel
  · obtain ⟨hs, hU⟩ := int_small n h h0
    generalize floatOfInt .f64 n = b at *
    rw [add_U b 0 hs.fin (.inl (by omega))]
    have z : U 0 = 0 := rfl
    rw [z, Int.add_zero]
    have hne : U b ≠ 0 := by
      unfold U
      rcases hs with ⟨a1, a2⟩ | ⟨a1, a2⟩
      · rw [if_pos (by omega)]; have := V_mono 0 b a1; rw [V_zero] at this; omega
      · rw [if_neg (by omega)]; have := V_mono 0 (b - 9223372036854775808) (by omega); rw [V_zero] at this; omega
    rw [if_neg hne, Option.getD_some]
    rcases hs with ⟨a1, a2⟩ | ⟨a1, a2⟩
    · have e : U b = (V b : Int) := by unfold U; rw [if_pos (by omega)]
      rw [e, decide_eq_false (Int.not_lt.2 (Int.natCast_nonneg _)), Int.natAbs_natCast, W_V false b (by omega), word_false]
    · obtain ⟨c, rfl⟩ : ∃ c, b = 9223372036854775808 + c := ⟨b - 9223372036854775808, by omega⟩
      have e : U (9223372036854775808 + c) = -(V c : Int) := by unfold U; rw [if_neg (by omega), show 9223372036854775808 + c - 9223372036854775808 = c by omega]
      have hV : 0 < V c := by have := V_mono 0 c (by omega); rw [V_zero] at this; exact this
      rw [e, decide_eq_true (by omega), Int.natAbs_neg, Int.natAbs_natCast, W_V true c (by omega), word_true]
/-- A whole number's float as a time. -/
theorem from_int (n : Int) (h : -1099511627776 ≤ n ∧ n ≤ 1099511627776) (w : World) :
    Calls Tryd.prog 19 #[.float .f64 (floatOfInt .f64 n)] w fun e w' => e = .returned (.tuple #[.agg #[.int .i64 n, .int .i64 0], .bool true]) ∧ Below w.heap.size w w' := by
  by_cases h0 : n = 0
  · subst h0
    exact fromFloat_zero _ w (.inl (by decide +kernel))
  · obtain ⟨hs, hU⟩ := int_small n h h0
    obtain ⟨e1, e2⟩ := whole_float _ n hs hU
    have := fromFloat_ok _ w hs
    rw [e1, e2] at this
    exact this
theorem neg_run (b : Nat) (h : b < 9223372036854775808) (w : World) : (Op.unary .neg (.float .f64 b)).run Tryd.prog w = .ok (.float .f64 (9223372036854775808 + b)) w := by
  have hn : Op.negFloat .f64 b = 9223372036854775808 + b := by
    have e : (2 : Nat) ^ 63 = 9223372036854775808 := by decide
    show b ^^^ 2 ^ 63 = _
    have hb : b < 2 ^ 63 := by omega
    have h2 := Nat.two_pow_add_eq_or_of_lt hb 1
    rw [Nat.mul_one] at h2
    rw [← e, h2]
    apply Nat.eq_of_testBit_eq
    intro i
    rw [Nat.testBit_xor, Nat.testBit_or, Nat.testBit_two_pow]
    by_cases hi : 63 = i
    · subst hi; rw [Nat.testBit_lt_two_pow hb]; rfl
    · simp [hi]
  show (pure (Value.float .f64 (Op.negFloat .f64 b)) : Sem Value).run Tryd.prog w = _
  rw [hn]; rfl
theorem max_word : floatOfInt .f64 1099511627776 = 4787326403894837248 := by decide +kernel

set_option maxRecDepth 100000 in
set_option maxHeartbeats 1000000 in
theorem stampEdges_walk (a0 : Int) (a1 : Int) (w : World) (hA : Amb w) (w0 : (Lit.int .i32 a0).wf = true) (w1 : (Lit.int .u8 a1).wf = true) :
    Calls Tryd.prog 5 #[.int .i32 a0, .int .u8 a1] w fun e w' => e = .returned (.bool true) ∧ Below w.heap.size w w' := by
  have hb0 := boundsI32 w0
  have hb1 := boundsU8 w1
  obtain ⟨g, rfl⟩ := Int.eq_ofNat_of_zero_le hb1.1
  have hg : g ≤ 255 := by omega
  obtain ⟨nb, hnan, hout⟩ := quo_nan 34 w
  obtain ⟨p1, p2, p3⟩ := pw_out (41 + g * 4) (by omega)
  have HNan := Lib.hid (fun W => fromFloat_none nb W hout)
  have HUp := Lib.hid (fun W => fromFloat_none _ W p1)
  have HDn := Lib.hid (fun W => fromFloat_none _ W p2)
  have HInf := Lib.hid (fun W => fromFloat_none 9218868437227405312 W ⟨by decide, by decide⟩)
  have HZ := Lib.hid (fun W => fromFloat_zero 9223372036854775808 W (.inr rfl))
  have HN := Lib.hid (fun W => from_int a0 (by omega) W)
  have HM := Lib.hid (fun W => by have := from_int 1099511627776 (by omega) W; rw [max_word] at this; exact this)
  have HF := Lib.hid (fun W => by have := float_any a0 0 W (by omega) (by omega); rw [flt_whole a0 (by omega)] at this; exact this)
  have heq := order_self _ (word_of a0 (by omega)).1
  have heq2 : (FloatKind.f64.format.order (floatOfInt .f64 a0) (floatOfInt .f64 a0) == some Ordering.eq) = true := by
    show (Ieee.double.order _ _ == some Ordering.eq) = true
    have := order_fin _ _ (word_of a0 (by omega)).1 (word_of a0 (by omega)).1
    rw [this, Int.compare_eq_eq.2 rfl]; rfl
  have hinf := c5_run 4607182418800017408 0 9218868437227405312 .quo 34 (by decide +kernel)
  have hst := fun j => Lib.hid (c5_run _ _ _ .mul 34 (pw_step j))
  have HS := Lib.hid hst
  have hng := neg_run (pw (41 + g * 4)) p3
  have hng0 := neg_run 0 (by omega)
  clear w0 w1 hout p1 p2 p3 heq hst
  go_enter Tryd.func5, Tryd.ntmps5
  go_wp2_with fail
  go_loop [7, 8] (fun uv iv => ∃ k : Nat, k ≤ 40 + g * 4 ∧ iv = .int .i64 k ∧ uv = .float .f64 (pw k)) (fun _ iv => 40 + g * 4 - (intOf iv).toNat)
  case atStart => exact ⟨0, by omega, rfl, by rw [show pw 0 = 4607182418800017408 by decide]⟩
  case round =>
    obtain ⟨k, hk, rfl, rfl⟩ := hrel
    by_cases hlt : k < 40 + g * 4
    · have h1 := (HS.out k).out
      have hlt' : (k : Int) < 40 + (g : Int) * 4 := by omega
      go_wp2
      go_round
      case rel => exact ⟨k + 1, by omega, by go_num, rfl⟩
      case measure => simp [intOf]; omega
    · obtain rfl : k = 40 + g * 4 := by omega
      have h1 := (HS.out (40 + g * 4)).out
      rw [show 40 + g * 4 + 1 = 41 + g * 4 by omega] at h1
      have hlt' : ¬ (((40 + g * 4 : Nat) : Int) < 40 + (g : Int) * 4) := by omega
      clear hlt
      generalize pw (40 + g * 4) = P at *
      generalize pw (41 + g * 4) = Q at *
      go_wp2_with fail
      refine (HNan.out _).mono ?_
      rintro e w1 ⟨rfl, hbw1⟩
      have hzw1 := hbw1.size
      try simp at hzw1
      go_wp2_with fail
      refine (HUp.out _).mono ?_
      rintro e w2 ⟨rfl, hbw2⟩
      have hzw2 := hbw2.size
      try simp at hzw2
      go_wp2_with fail
      refine (HDn.out _).mono ?_
      rintro e w3 ⟨rfl, hbw3⟩
      have hzw3 := hbw3.size
      try simp at hzw3
      go_wp2_with fail
      refine (HInf.out _).mono ?_
      rintro e w4 ⟨rfl, hbw4⟩
      have hzw4 := hbw4.size
      try simp at hzw4
      go_wp2_with fail
      refine (HZ.out _).mono ?_
      rintro e w5 ⟨rfl, hbw5⟩
      have hzw5 := hbw5.size
      try simp at hzw5
      go_wp2_with fail
      refine (HN.out _).mono ?_
      rintro e w6 ⟨rfl, hbw6⟩
      have hzw6 := hbw6.size
      try simp at hzw6
      have : w5.heap.size < w6.heap.size := by omega
      have : w5.heap.size ≤ w6.heap.size := by omega
      have : w6.cell? ⟨w5.heap.size, 0, none⟩ = some (.int .i64 0) := cell_kept hbw6 (by simp [go_sem, *])
      have : w6.frozen? ⟨w5.heap.size, 0, none⟩ = false := free_kept hbw6 (v := .int .i64 0) (by simp [go_sem, *]) (by simp [go_sem, *])
      have : w5.heap.size < w6.heap.size := by omega
      have : w5.heap.size ≤ w6.heap.size := by omega
      have : w6.cell? ⟨w5.heap.size, 1, none⟩ = some (.int .i64 0) := cell_kept hbw6 (by simp [go_sem, *])
      have : w6.frozen? ⟨w5.heap.size, 1, none⟩ = false := free_kept hbw6 (v := .int .i64 0) (by simp [go_sem, *]) (by simp [go_sem, *])
      go_wp2_with fail
      refine (HM.out _).mono ?_
      rintro e w7 ⟨rfl, hbw7⟩
      have hzw7 := hbw7.size
      try simp at hzw7
      have : w5.heap.size < w7.heap.size := by omega
      have : w5.heap.size ≤ w7.heap.size := by omega
      have : w7.cell? ⟨w5.heap.size, 0, none⟩ = some (.int .i64 0) := cell_kept hbw7 (by simp [go_sem, *])
      have : w7.frozen? ⟨w5.heap.size, 0, none⟩ = false := free_kept hbw7 (v := .int .i64 0) (by simp [go_sem, *]) (by simp [go_sem, *])
      have : w5.heap.size < w7.heap.size := by omega
      have : w5.heap.size ≤ w7.heap.size := by omega
      have : w7.cell? ⟨w5.heap.size, 1, none⟩ = some (.int .i64 0) := cell_kept hbw7 (by simp [go_sem, *])
      have : w7.frozen? ⟨w5.heap.size, 1, none⟩ = false := free_kept hbw7 (v := .int .i64 0) (by simp [go_sem, *]) (by simp [go_sem, *])
      have : w6.heap.size < w7.heap.size := by omega
      have : w6.heap.size ≤ w7.heap.size := by omega
      have : w7.cell? ⟨w6.heap.size, 0, none⟩ = some (.int .i64 a0) := cell_kept hbw7 (by simp [go_sem, *])
      have : w7.frozen? ⟨w6.heap.size, 0, none⟩ = false := free_kept hbw7 (v := .int .i64 a0) (by simp [go_sem, *]) (by simp [go_sem, *])
      have : w6.heap.size < w7.heap.size := by omega
      have : w6.heap.size ≤ w7.heap.size := by omega
      have : w7.cell? ⟨w6.heap.size, 1, none⟩ = some (.int .i64 0) := cell_kept hbw7 (by simp [go_sem, *])
      have : w7.frozen? ⟨w6.heap.size, 1, none⟩ = false := free_kept hbw7 (v := .int .i64 0) (by simp [go_sem, *]) (by simp [go_sem, *])
      go_wp2_with fail
      refine (HF.out _).mono ?_
      rintro e w8 ⟨rfl, hbw8⟩
      have hzw8 := hbw8.size
      try simp at hzw8
      have : w7.heap.size < w8.heap.size := by omega
      have : w7.heap.size ≤ w8.heap.size := by omega
      have : w8.cell? ⟨w7.heap.size, 0, none⟩ = some (.int .i64 1099511627776) := cell_kept hbw8 (by simp [go_sem, *])
      have : w8.frozen? ⟨w7.heap.size, 0, none⟩ = false := free_kept hbw8 (v := .int .i64 1099511627776) (by simp [go_sem, *]) (by simp [go_sem, *])
      have : w7.heap.size < w8.heap.size := by omega
      have : w7.heap.size ≤ w8.heap.size := by omega
      have : w8.cell? ⟨w7.heap.size, 1, none⟩ = some (.int .i64 0) := cell_kept hbw8 (by simp [go_sem, *])
      have : w8.frozen? ⟨w7.heap.size, 1, none⟩ = false := free_kept hbw8 (v := .int .i64 0) (by simp [go_sem, *]) (by simp [go_sem, *])
      go_wp2_with fail
      refine (awake_any _ (hA.on (by (repeat' (first | exact Below.refl _ _ | assumption | refine gr_drew ?_ | refine gr_drewN ?_ _ | refine gr_alloc ?_ _ | refine gr_set ?_ ?_ _ | refine gr_call ?_ (by assumption)) <;> (try (simp; done)) <;> (try (simp; omega)) <;> (try omega))))).mono ?_
      rintro e w9 ⟨rfl, hbw9⟩
      have hzw9 := hbw9.size
      try simp at hzw9
      go_wp2_with fail
      go_ret
      exact ⟨rfl, by (repeat' (first | exact Below.refl _ _ | assumption | refine gr_drew ?_ | refine gr_drewN ?_ _ | refine gr_alloc ?_ _ | refine gr_set ?_ ?_ _ | refine gr_call ?_ (by assumption)) <;> (try (simp; done)) <;> (try (simp; omega)) <;> (try omega))⟩
end Go.Proofs.YtaobkniecgiplaaDoor
