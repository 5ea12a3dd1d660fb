/- The walk of the law StampNear. -/
import Derived.Test.YtaobkniecgiplaaDoorWStampEdges
namespace Go.Proofs.YtaobkniecgiplaaDoor
open Go.RowKit
open StampM
open FloatM

/-- The units of a 65536th. -/
def IsH (H : Nat) : Prop := ∃ e : Nat, e = 1058 ∧ H = 2 ^ e
theorem isH : ∃ H, IsH H := by
  obtain ⟨e, he⟩ : ∃ e : Nat, e = 1058 := ⟨_, rfl⟩
  exact ⟨2 ^ e, e, he, rfl⟩
theorem HH_pos {HH : Nat} (hH : IsH HH) : 0 < HH := by
  obtain ⟨e, _, rfl⟩ := hH
  exact Nat.two_pow_pos e
theorem one_H {HH : Nat} (hH : IsH HH) : one = 65536 * HH := by
  obtain ⟨e, he, rfl⟩ := hH
  have h : (2 : Nat) ^ 16 = 65536 := by decide
  rw [← h]
  exact one_split 16 e (by omega)
theorem exact_H {HH : Nat} (hH : IsH HH) (u : Nat) (h0 : u < 9007199254740992) : ∃ r, W false (u * HH) = r ∧ W true (u * HH) = 9223372036854775808 + r ∧ V r = u * HH ∧ r < 9218868437227405312 := by
  by_cases h : u = 0
  · subst h
    rw [Nat.zero_mul]
    exact ⟨0, W_zero false, W_zero true, rfl, by omega⟩
  · have hL : u.log2 ≤ 52 := by
      obtain ⟨l1, _⟩ := log2_bd u h
      have : ¬ 53 ≤ u.log2 := by
        intro h
        have := Nat.pow_le_pow_right (show 0 < 2 by omega) h
        have e53 : (2 : Nat) ^ 53 = 9007199254740992 := by decide
        omega
      omega
    obtain ⟨e, he, ho⟩ := hH
    obtain ⟨r, h2, h3, h4⟩ := nearest_exact false u e (by omega) h0 (by omega)
    rw [W_of, ← ho] at h2
    rw [← ho] at h3
    rw [word_false] at h2
    have h5 := W_V true r h4
    rw [h3, word_true] at h5
    exact ⟨r, h2, h5, h3, h4⟩
/-- The word of N 65536ths. -/
def hw (HH : Nat) (N : Int) : Nat := W (decide (N < 0)) (N.natAbs * HH)
theorem hw_is {HH : Nat} (hH : IsH HH) (N : Int) (h : N.natAbs < 9007199254740992) : IsFin (hw HH N) ∧ U (hw HH N) = N * (HH : Int) ∧ (0 ≤ N → hw HH N < 9218868437227405312 ∧ V (hw HH N) = N.toNat * HH) := by
  obtain ⟨r, r1, r2, r3, r4⟩ := exact_H hH N.natAbs h
  unfold hw
  rcases Int.lt_or_le N 0 with h0 | h0
  · rw [decide_eq_true h0, r2]
    refine ⟨.inr ⟨by omega, by omega⟩, ?_, by intro h; omega⟩
    unfold U
    rw [if_neg (by omega), show 9223372036854775808 + r - 9223372036854775808 = r by omega, r3]
    obtain ⟨k, hk⟩ := Int.eq_ofNat_of_zero_le (show 0 ≤ -N by omega)
    have e : N.natAbs = k := by omega
    have e2 : N = -(k : Int) := by omega
    rw [e, e2]; push_cast; rw [Int.neg_mul]
  · rw [decide_eq_false (by omega), r1]
    refine ⟨.inl r4, ?_, fun _ => ⟨r4, ?_⟩⟩
    · unfold U
      rw [if_pos (by omega), r3]
      obtain ⟨k, rfl⟩ := Int.eq_ofNat_of_zero_le h0
      rw [Int.natAbs_natCast]; push_cast; rfl
    · rw [r3]; congr 1; omega
theorem hw_add {HH : Nat} (hH : IsH HH) (a b : Nat) (x y : Int) (ha : IsFin a) (hb : b < 9218868437227405312) (hx : U a = x * (HH : Int)) (hy : U b = y * (HH : Int)) : Ieee.double.add a b = some (hw HH (x + y)) := by
  rw [add_U a b ha (.inl hb), hx, hy, ← Int.add_mul]
  have hd : decide (9223372036854775808 ≤ b) = false := by simp; omega
  rw [hd, Bool.and_false]
  have hp := HH_pos hH
  have hz : ((x + y) * (HH : Int) = 0) ↔ x + y = 0 := by
    constructor
    · intro h; rcases Int.mul_eq_zero.1 h with h | h
      · exact h
      · generalize HH = O at *; omega
    · intro h; rw [h]; simp
  have hl : ((x + y) * (HH : Int) < 0) ↔ x + y < 0 := by
    constructor
    · intro h
      rcases Int.lt_or_le (x + y) 0 with h2 | h2
      · exact h2
      · have := Int.mul_nonneg h2 (Int.natCast_nonneg HH); omega
    · intro h; exact Int.mul_neg_of_neg_of_pos h (by generalize HH = O at *; omega)
  have hn : ((x + y) * (HH : Int)).natAbs = (x + y).natAbs * HH := by rw [Int.natAbs_mul, Int.natAbs_natCast]
  rw [hn]
  unfold hw
  congr 2
  by_cases h : x + y = 0
  · rw [if_pos (hz.2 h), h]; rfl
  · rw [if_neg (fun e => h (hz.1 e))]
    exact decide_eq_decide.2 hl
theorem read_64k : Ieee.double.read 4679240012837945344 = .number false 4503599627370496 (-36) := by decide +kernel
theorem log_52 : (4503599627370496 : Nat).log2 = 52 := by decide +kernel
theorem div_64k (a : Nat) (ha : a < 9218868437227405312) (hbig : 4607182418800017408 ≤ a) : ∃ u, Ieee.double.div a 4679240012837945344 = some (W false u) ∧ u * 65536 = V a := by
  obtain ⟨m, e, hr, hv, hm, hm2, _, he⟩ := read_V a ha
  have he1 : 1022 ≤ e := by omega
  have hm0 : 4503599627370496 ≤ m := hm2 (by omega)
  have hL : m.log2 ≤ 52 := by
    obtain ⟨l1, _⟩ := log2_bd m (by omega)
    have : ¬ 53 ≤ m.log2 := by
      intro h
      have := Nat.pow_le_pow_right (show 0 < 2 by omega) h
      have e53 : (2 : Nat) ^ 53 = 9007199254740992 := by decide
      omega
    omega
  refine ⟨m * 2 ^ (e - 16), ?_, ?_⟩
  · unfold Ieee.Format.div
    rw [hr, read_64k]
    unfold Ieee.Datum.quotient
    simp only
    rw [if_neg (by decide), log_52]
    simp only [Option.map_some]
    refine congrArg some ?_
    have hfb : Ieee.double.fractionBits + 2 + 52 - m.log2 = (54 - m.log2) + 52 := by
      show 52 + 2 + 52 - m.log2 = _
      omega
    rw [hfb]
    have hsh : m <<< (54 - m.log2 + 52) = m * 2 ^ (54 - m.log2) * 4503599627370496 := by
      rw [Nat.shiftLeft_eq, Nat.pow_add, pow52, Nat.mul_assoc]
    rw [hsh, Nat.mul_div_cancel _ (by decide), Nat.mul_mod_left]
    show Ieee.double.nearest (false ^^ false) (2 * (m * 2 ^ (54 - m.log2)) + 0) (-1074 + (e : Int) - -36 - ((54 - m.log2 + 52 : Nat) : Int) - 1) = _
    rw [show (false ^^ false) = false from rfl, Nat.add_zero]
    have e2 : 2 * (m * 2 ^ (54 - m.log2)) = m * 2 ^ (55 - m.log2) := by
      rw [show 55 - m.log2 = (54 - m.log2) + 1 by omega, Nat.pow_succ, ← Nat.mul_assoc m, Nat.mul_comm 2]
    have e3 : (-1074 + (e : Int) - -36 - ((54 - m.log2 + 52 : Nat) : Int) - 1) = -1074 + ((e - 16 : Nat) : Int) - ((55 - m.log2 : Nat) : Int) := by omega
    rw [e2, e3, W_deep]
  · rw [← hv]
    have h16 : (2 : Nat) ^ 16 = 65536 := by decide
    rw [← h16, Nat.mul_assoc, ← Nat.pow_add, show e - 16 + 16 = e by omega]
theorem frac_word {HH : Nat} (hH : IsH HH) (k : Nat) (hk : k < 65536) : floatBits .quo .f64 (floatOfInt .f64 (k : Int)) 4679240012837945344 = some (hw HH (k : Int)) := by
  show Ieee.double.div _ _ = _
  have hh : hw HH (k : Int) = W false (k * HH) := by
    unfold hw; rw [decide_eq_false (Int.not_lt.2 (Int.natCast_nonneg k)), Int.natAbs_natCast]
  rw [hh]
  by_cases h0 : k = 0
  · subst h0
    rw [Nat.zero_mul, W_zero]
    decide +kernel
  · obtain ⟨r, r1, _, r3, r4⟩ := ofNat_V k (by omega)
    have hw0 : floatOfInt .f64 (k : Int) = r := by
      show Ieee.double.nearest (decide ((k : Int) < 0)) (k : Int).natAbs 0 = r
      rw [decide_eq_false (Int.not_lt.2 (Int.natCast_nonneg k)), Int.natAbs_natCast, r1]
    rw [hw0]
    have hbig : 4607182418800017408 ≤ r := by
      have h1 := V_pow 0 (by omega)
      rw [Nat.pow_zero, Nat.one_mul] at h1
      have h2 : V ((0 + 1023) * 4503599627370496) ≤ V r := by
        rw [h1, r3]
        calc one = 1 * one := (Nat.one_mul _).symm
          _ ≤ k * one := Nat.mul_le_mul_right _ (by omega)
      exact (V_le_iff _ _).1 h2
    obtain ⟨u, hu, hu2⟩ := div_64k r r4 hbig
    rw [hu]
    have : u = k * HH := by
      rw [r3, one_H hH] at hu2
      have : u * 65536 = k * HH * 65536 := by rw [hu2, Nat.mul_comm 65536, Nat.mul_assoc]
      exact Nat.eq_of_mul_eq_mul_right (by omega) this
    rw [this]
theorem word_H {HH : Nat} (hH : IsH HH) (n : Int) (h : -1099511627776 ≤ n ∧ n ≤ 1099511627776) : U (floatOfInt .f64 n) = n * 65536 * (HH : Int) := by
  rw [(word_of n h).2, one_H hH]
  have : ((65536 * HH : Nat) : Int) = 65536 * (HH : Int) := Int.natCast_mul 65536 HH
  rw [this, Int.mul_assoc]
theorem small_units (b : Nat) (N : Int) (O C : Nat) (hp : 0 < O) (h0 : N ≠ 0) (f1 : IsFin b) (f2 : U b = N * (O : Int)) (hmx : V 4787326403894837248 = C * O) (hC : N.natAbs ≤ C) : Small b := by
  unfold Small
  unfold U at f2
  unfold IsFin at f1
  by_cases hb : b < 9223372036854775808
  · left
    rw [if_pos hb] at f2
    have hn : 0 < N := by
      rcases Int.lt_or_le 0 N with hx | hx
      · exact hx
      · have : N * (O : Int) < 0 := Int.mul_neg_of_neg_of_pos (by omega) (by omega)
        have := Int.natCast_nonneg (V b); omega
    obtain ⟨k, rfl⟩ := Int.eq_ofNat_of_zero_le (show 0 ≤ N by omega)
    have hv : V b = k * O := by
      have e : ((V b : Nat) : Int) = ((k * O : Nat) : Int) := by rw [f2]; exact (Int.natCast_mul k O).symm
      exact Int.ofNat.inj e
    have hle : V b ≤ V 4787326403894837248 := by rw [hv, hmx]; exact Nat.mul_le_mul_right _ (by omega)
    refine ⟨?_, (V_le_iff _ _).1 hle⟩
    rcases Nat.eq_zero_or_pos b with hz | hz
    · rw [hz, V_zero] at hv
      have := Nat.mul_pos (show 0 < k by omega) hp; omega
    · exact hz
  · right
    rw [if_neg hb] at f2
    obtain ⟨c, rfl⟩ : ∃ c, b = 9223372036854775808 + c := ⟨b - 9223372036854775808, by omega⟩
    rw [show 9223372036854775808 + c - 9223372036854775808 = c by omega] at f2
    have hn : N < 0 := by
      rcases Int.lt_or_le N 0 with hx | hx
      · exact hx
      · have : 0 < N * (O : Int) := Int.mul_pos (by omega) (by omega)
        have := Int.natCast_nonneg (V c); omega
    obtain ⟨k, hk⟩ := Int.eq_ofNat_of_zero_le (show 0 ≤ -N by omega)
    have hn' : N = -(k : Int) := by omega
    have hv : V c = k * O := by
      have e : ((V c : Nat) : Int) = ((k * O : Nat) : Int) := by
        rw [hn', Int.neg_mul] at f2
        have := Int.natCast_mul k O
        omega
      exact Int.ofNat.inj e
    have hle : V c ≤ V 4787326403894837248 := by rw [hv, hmx]; exact Nat.mul_le_mul_right _ (by omega)
    have hc := (V_le_iff _ _).1 hle
    refine ⟨?_, by omega⟩
    rcases Nat.eq_zero_or_pos c with hz | hz
    · rw [hz, V_zero] at hv
      have := Nat.mul_pos (show 0 < k by omega) hp; omega
    · omega
/-- The billionths of so many 65536ths. -/
def bil (k : Nat) : Int := ((k * 1000000000 / 65536 : Nat) : Int)
theorem flo_units {HH : Nat} (hH : IsH HH) (b : Nat) (N : Int) (hs : Small b) (f2 : U b = N * (HH : Int)) : flo b = N / 65536 ∧ restU b = (N % 65536).toNat * HH := by
  obtain ⟨_, _, d3, d4⟩ := flo_bd b hs
  have hp := HH_pos hH
  have hoI : (one : Int) = 65536 * (HH : Int) := by rw [one_H hH]; exact Int.natCast_mul 65536 HH
  rw [f2, hoI, ← Int.mul_assoc, ← Int.sub_mul] at d3
  rw [one_H hH] at d4
  clear f2 hoI hs hH
  generalize restU b = x at *
  generalize flo b = y at *
  have hHp : (0 : Int) < (HH : Int) := by omega
  have h1 : 0 ≤ (N - y * 65536) * (HH : Int) := by rw [d3]; exact Int.natCast_nonneg _
  have h2 : (N - y * 65536) * (HH : Int) < 65536 * (HH : Int) := by
    rw [d3]
    have : ((65536 * HH : Nat) : Int) = 65536 * (HH : Int) := Int.natCast_mul 65536 HH
    rw [← this]; exact Int.ofNat_lt.2 d4
  have h3 : N - y * 65536 < 65536 := Int.lt_of_mul_lt_mul_right h2 (Int.le_of_lt hHp)
  have h4 : 0 ≤ N - y * 65536 := by
    rcases Int.lt_or_le (N - y * 65536) 0 with hx | hx
    · have := Int.mul_neg_of_neg_of_pos hx hHp; omega
    · exact hx
  have hy : y = N / 65536 := by omega
  refine ⟨hy, ?_⟩
  obtain ⟨q, hq⟩ := Int.eq_ofNat_of_zero_le h4
  have hq2 : (N % 65536).toNat = q := by omega
  rw [hq] at d3
  have : ((q * HH : Nat) : Int) = (x : Int) := by rw [← d3]; exact Int.natCast_mul q HH
  rw [hq2]
  exact (Int.ofNat.inj this).symm
theorem whole_bil {HH : Nat} (hH : IsH HH) (p q : Nat) (p3 : V p = q * 1000000000 * HH) : whole p = bil q := by
  have hp := HH_pos hH
  unfold whole bil
  rw [p3, one_H hH]
  exact congrArg (fun x : Nat => (x : Int)) (Nat.mul_div_mul_right _ _ hp)
theorem prod_of {HH : Nat} (b q r p : Nat) (hr : restU b = q * HH) (r1 : W false (q * HH) = r) (r3 : V r = q * HH) (p1 : W false (q * 1000000000 * HH) = p) : prodW b = p := by
  have e1 : restW b = r := (congrArg (W false) hr).trans r1
  have e2 : V (restW b) * 1000000000 = q * 1000000000 * HH := by rw [e1, r3, Nat.mul_right_comm]
  exact (congrArg (W false) e2).trans p1
theorem nano_min (b : Nat) (k : Nat) (hk : k < 65536) (h : whole (prodW b) = bil k) : nanoF b = bil k := by
  have e : nanoF b = min (whole (prodW b)) 999999999 := rfl
  have h2 : bil k ≤ 999999999 := by unfold bil; omega
  rw [e, h]
  exact Int.min_eq_left h2
theorem nano_units {HH : Nat} (hH : IsH HH) (b q : Nat) (hq : q < 65536) (hr : restU b = q * HH) : nanoF b = bil q := by
  obtain ⟨r, r1, _, r3, _⟩ := exact_H hH q (Nat.lt_trans hq (by decide))
  obtain ⟨p, p1, _, p3, _⟩ := exact_H hH (q * 1000000000) (by omega)
  refine nano_min b q hq ?_
  rw [prod_of b q r p hr r1 r3 p1]
  exact whole_bil hH p q p3
theorem hw_from {HH : Nat} (hH : IsH HH) (N : Int) (h : -1000000000000000 ≤ N ∧ N ≤ 1000000000000000) (h0 : N ≠ 0) : Small (hw HH N) ∧ flo (hw HH N) = N / 65536 ∧ nanoF (hw HH N) = bil (N % 65536).toNat := by
  obtain ⟨f1, f2, _⟩ := hw_is hH N (by omega)
  have hmx : V 4787326403894837248 = 72057594037927936 * HH := by
    rw [V_max, one_H hH, ← Nat.mul_assoc]
  have hs : Small (hw HH N) := small_units _ N HH 72057594037927936 (HH_pos hH) h0 f1 f2 hmx (by omega)
  clear hmx f1
  generalize hw HH N = b at *
  obtain ⟨g1, g2⟩ := flo_units hH b N hs f2
  exact ⟨hs, g1, nano_units hH b _ (by omega) g2⟩
theorem near_from {HH : Nat} (hH : IsH HH) (N : Int) (h : -1000000000000000 ≤ N ∧ N ≤ 1000000000000000) (w : World) :
    Calls Tryd.prog 19 #[.float .f64 (hw HH N)] w fun e w' => e = .returned (.tuple #[.agg #[.int .i64 (N / 65536), .int .i64 (bil (N % 65536).toNat)], .bool true]) ∧ Below w.heap.size w w' := by
  by_cases h0 : N = 0
  · subst h0
    have hz : hw HH 0 = 0 := by
      unfold hw
      rw [show (0 : Int).natAbs = 0 from rfl, Nat.zero_mul, W_zero]; rfl
    rw [hz]
    exact fromFloat_zero 0 w (.inl rfl)
  · obtain ⟨e1, e2, e3⟩ := hw_from hH N h h0
    have := fromFloat_ok _ w e1
    rw [e2, e3] at this
    exact this
theorem bil_bd (k : Nat) (h : k < 65536) : 0 ≤ bil k ∧ bil k ≤ 999999999 := by unfold bil; omega
theorem bil_mono (a b : Nat) (h : a ≤ b) : bil a ≤ bil b := by
  unfold bil
  have : a * 1000000000 / 65536 ≤ b * 1000000000 / 65536 := Nat.div_le_div_right (Nat.mul_le_mul_right _ h)
  omega
theorem near_cmp (N M : Int) (h : N ≤ M) : cmpF (N / 65536) (bil (N % 65536).toNat) (M / 65536) (bil (M % 65536).toNat) ≤ 0 := by
  unfold cmpF orF Lib.compareInt
  rcases Int.lt_trichotomy (N / 65536) (M / 65536) with k | k | k
  · simp [k]
  · rw [k]
    have hm := bil_mono (N % 65536).toNat (M % 65536).toNat (by omega)
    generalize bil (N % 65536).toNat = x at *
    generalize bil (M % 65536).toNat = y at *
    simp
    rcases Int.lt_or_eq_of_le hm with j | j
    · simp [j]
    · simp [j]
  · omega

set_option maxRecDepth 100000 in
set_option maxHeartbeats 1000000 in
theorem near_walk (n : Int) (k m : Nat) (F G Q P : Nat) (S M K L : Int) (w : World) (hA : Amb w) (hn : -2147483648 ≤ n ∧ n ≤ 2147483647) (hk : (k : Int) ≤ 65535) (hm : (m : Int) ≤ 65535)
    (r1 : floatBits .quo .f64 (floatOfInt .f64 (k : Int)) 4679240012837945344 = some P) (r2 : floatBits .add .f64 (floatOfInt .f64 n) P = some F)
    (r3 : floatBits .quo .f64 (floatOfInt .f64 (m : Int)) 4679240012837945344 = some Q) (r4 : floatBits .add .f64 F Q = some G)
    (hF : ∀ W, Calls Tryd.prog 19 #[.float .f64 F] W fun e w' => e = .returned (.tuple #[.agg #[.int .i64 n, .int .i64 K], .bool true]) ∧ Below W.heap.size W w')
    (hG : ∀ W, Calls Tryd.prog 19 #[.float .f64 G] W fun e w' => e = .returned (.tuple #[.agg #[.int .i64 S, .int .i64 M], .bool true]) ∧ Below W.heap.size W w')
    (hK : (k : Int) * 1000000000 / 65536 = K) (hL : cmpF n K S M = L) (hL0 : L ≤ 0) (hmay : mayF n K = true) (hKb : 0 ≤ K ∧ K ≤ 999999999) :
    Calls Tryd.prog 8 #[.int .i32 n, .int .u16 k, .int .u16 m] w fun e w' => e = .returned (.bool true) ∧ Below w.heap.size w w' := by
  have s1 := c5_run _ _ _ .quo 34 r1
  have s2 := c5_run _ _ _ .add 34 r2
  have s3 := c5_run _ _ _ .quo 34 r3
  have s4 := c5_run _ _ _ .add 34 r4
  have HF := Lib.hid hF
  have HG := Lib.hid hG
  have HC := Lib.hid (fun W => by have := cmp_any n K S M W; rw [hL] at this; exact this)
  have HM := Lib.hid (fun W => may_yes n K W hmay)
  have hKK : K - K = 0 := by omega
  clear r1 r2 r3 r4 hF hG hL hmay
  go_enter Tryd.func8, Tryd.ntmps8
  go_wp2_with fail
  refine (HF.out _).mono ?_
  rintro e w1 ⟨rfl, hbw1⟩
  have hzw1 := hbw1.size
  try simp at hzw1
  go_wp2_with fail
  refine (HG.out _).mono ?_
  rintro e w2 ⟨rfl, hbw2⟩
  have hzw2 := hbw2.size
  try simp at hzw2
  have : w1.heap.size < w2.heap.size := by omega
  have : w1.heap.size ≤ w2.heap.size := by omega
  have : w2.cell? ⟨w1.heap.size, 0, none⟩ = some (.int .i64 n) := cell_kept hbw2 (by simp [go_sem, *])
  have : w2.frozen? ⟨w1.heap.size, 0, none⟩ = false := free_kept hbw2 (v := .int .i64 n) (by simp [go_sem, *]) (by simp [go_sem, *])
  have : w1.heap.size < w2.heap.size := by omega
  have : w1.heap.size ≤ w2.heap.size := by omega
  have : w2.cell? ⟨w1.heap.size, 1, none⟩ = some (.int .i64 K) := cell_kept hbw2 (by simp [go_sem, *])
  have : w2.frozen? ⟨w1.heap.size, 1, none⟩ = false := free_kept hbw2 (v := .int .i64 K) (by simp [go_sem, *]) (by simp [go_sem, *])
  go_wp2_with fail
  refine (HC.out _).mono ?_
  rintro e w3 ⟨rfl, hbw3⟩
  have hzw3 := hbw3.size
  try simp at hzw3
  have : w1.heap.size < w3.heap.size := by omega
  have : w1.heap.size ≤ w3.heap.size := by omega
  have : w3.cell? ⟨w1.heap.size, 0, none⟩ = some (.int .i64 n) := cell_kept hbw3 (by simp [go_sem, *])
  have : w3.frozen? ⟨w1.heap.size, 0, none⟩ = false := free_kept hbw3 (v := .int .i64 n) (by simp [go_sem, *]) (by simp [go_sem, *])
  have : w1.heap.size < w3.heap.size := by omega
  have : w1.heap.size ≤ w3.heap.size := by omega
  have : w3.cell? ⟨w1.heap.size, 1, none⟩ = some (.int .i64 K) := cell_kept hbw3 (by simp [go_sem, *])
  have : w3.frozen? ⟨w1.heap.size, 1, none⟩ = false := free_kept hbw3 (v := .int .i64 K) (by simp [go_sem, *]) (by simp [go_sem, *])
  go_wp2_with fail
  refine (HM.out _).mono ?_
  rintro e w4 ⟨rfl, hbw4⟩
  have hzw4 := hbw4.size
  try simp at hzw4
  go_wp2_with fail
  refine (awake_any _ (hA.on (by (repeat' (first | exact Below.refl _ _ | assumption | refine gr_drew ?_ | refine gr_drewN ?_ _ | refine gr_alloc ?_ _ | refine gr_set ?_ ?_ _ | refine gr_call ?_ (by assumption)) <;> (try (simp; done)) <;> (try (simp; omega)) <;> (try omega))))).mono ?_
  rintro e w5 ⟨rfl, hbw5⟩
  have hzw5 := hbw5.size
  try simp at hzw5
  go_wp2_with fail
  go_ret
  exact ⟨rfl, by (repeat' (first | exact Below.refl _ _ | assumption | refine gr_drew ?_ | refine gr_drewN ?_ _ | refine gr_alloc ?_ _ | refine gr_set ?_ ?_ _ | refine gr_call ?_ (by assumption)) <;> (try (simp; done)) <;> (try (simp; omega)) <;> (try omega))⟩
theorem stampNear_walk (a0 : Int) (a1 : Int) (a2 : Int) (w : World) (hA : Amb w) (w0 : (Lit.int .i32 a0).wf = true) (w1 : (Lit.int .u16 a1).wf = true) (w2 : (Lit.int .u16 a2).wf = true) :
    Calls Tryd.prog 8 #[.int .i32 a0, .int .u16 a1, .int .u16 a2] w fun e w' => e = .returned (.bool true) ∧ Below w.heap.size w w' := by
  have hb0 := boundsI32 w0
  have hb1 := boundsU16 w1
  have hb2 := boundsU16 w2
  obtain ⟨k, rfl⟩ := Int.eq_ofNat_of_zero_le hb1.1
  obtain ⟨m, rfl⟩ := Int.eq_ofNat_of_zero_le hb2.1
  obtain ⟨HH, hH⟩ := isH
  have r1 := frac_word hH k (by omega)
  have r3 := frac_word hH m (by omega)
  obtain ⟨k1, k2, k3⟩ := hw_is hH (k : Int) (by omega)
  obtain ⟨m1, m2, m3⟩ := hw_is hH (m : Int) (by omega)
  have hw0 := word_of a0 (by omega)
  have r2 : floatBits .add .f64 (floatOfInt .f64 a0) (hw HH (k : Int)) = some (hw HH (a0 * 65536 + k)) := hw_add hH _ _ _ _ hw0.1 (k3 (by omega)).1 (word_H hH a0 (by omega)) k2
  obtain ⟨f1, f2, _⟩ := hw_is hH (a0 * 65536 + k) (by omega)
  have r4 : floatBits .add .f64 (hw HH (a0 * 65536 + k)) (hw HH (m : Int)) = some (hw HH (a0 * 65536 + k + m)) := hw_add hH _ _ _ _ f1 (m3 (by omega)).1 f2 m2
  have hF := near_from hH (a0 * 65536 + k) (by omega)
  have hG := near_from hH (a0 * 65536 + k + m) (by omega)
  have hc := near_cmp (a0 * 65536 + k) (a0 * 65536 + k + m) (by omega)
  have e1 : (a0 * 65536 + (k : Int)) / 65536 = a0 := by omega
  have e2 : ((a0 * 65536 + (k : Int)) % 65536).toNat = k := by omega
  rw [e1, e2] at hF hc
  have hbk := bil_bd k (by omega)
  exact near_walk a0 k m _ _ _ _ _ _ _ _ w hA (by omega) (by omega) (by omega) r1 r2 r3 r4 hF hG (by unfold bil; omega) rfl hc (by rw [may_iff]; omega) hbk
end Go.Proofs.YtaobkniecgiplaaDoor
