/- Words of float64 and what they stand for: units of the least place; how they stand; whole numbers; what is rounded. -/
import Derived.Laws.FloatArith
import Derived.RowKit
namespace Go.Proofs.YtaobkniecgiplaaDoor
namespace FloatM
open Ieee

/-- How many least units a rung of float64 stands for. -/
def V (r : Nat) : Nat := if r < 4503599627370496 then r else (4503599627370496 + r % 4503599627370496) * 2 ^ (r / 4503599627370496 - 1)

theorem inf_eq : double.infRung = 9218868437227405312 := by decide
theorem sw_eq : double.signWeight = 9223372036854775808 := by decide
theorem bin_eq : double.binade = 4503599627370496 := by decide
theorem lp_eq : double.leastPlace = -1074 := by decide

theorem read_sub (r : Nat) (h : r < 4503599627370496) : double.read r = .number false r (-1074) := by
  unfold Format.read
  simp only [sw_eq, bin_eq, lp_eq]
  have h1 : r / 9223372036854775808 % 2 = 0 := by omega
  have h2 : r % 9223372036854775808 = r := by omega
  rw [h2, if_pos h, h1]; rfl
theorem read_norm (r : Nat) (h : 4503599627370496 ≤ r) (h2 : r < 9218868437227405312) :
    double.read r = .number false (4503599627370496 + r % 4503599627370496) (-1074 + (r / 4503599627370496 - 1 : Nat)) := by
  unfold Format.read
  simp only [sw_eq, bin_eq, lp_eq, inf_eq]
  have h3 : r / 9223372036854775808 % 2 = 0 := by omega
  have h4 : r % 9223372036854775808 = r := by omega
  rw [h4, if_neg (by omega), if_pos h2, h3]; rfl
theorem read_neg (r : Nat) (h2 : r < 9223372036854775808) : double.read (9223372036854775808 + r) = (double.read r).opposite := by
  unfold Format.read
  simp only [sw_eq, bin_eq, lp_eq, inf_eq]
  have h3 : r / 9223372036854775808 % 2 = 0 := by omega
  have h4 : r % 9223372036854775808 = r := by omega
  have h5 : (9223372036854775808 + r) / 9223372036854775808 % 2 = 1 := by omega
  have h6 : (9223372036854775808 + r) % 9223372036854775808 = r := by omega
  rw [h3, h4, h5, h6]
  split
  · rfl
  · split
    · rfl
    · split <;> rfl
theorem read_inf : double.read 9218868437227405312 = .infinity false := by decide +kernel
theorem read_nan (r : Nat) (h : 9218868437227405312 < r) (h2 : r < 9223372036854775808) : ∃ t, double.read r = .nan false t := by
  unfold Format.read
  simp only [sw_eq, bin_eq, lp_eq, inf_eq]
  have h3 : r / 9223372036854775808 % 2 = 0 := by omega
  have h4 : r % 9223372036854775808 = r := by omega
  rw [h4, if_neg (by omega), if_neg (by omega), if_neg (by omega), h3]
  exact ⟨_, rfl⟩

/-- A word's number, as magnitude and place; its units. -/
theorem read_V (r : Nat) (h : r < 9218868437227405312) : ∃ m : Nat, ∃ e : Nat, double.read r = .number false m (-1074 + (e : Int)) ∧ m * 2 ^ e = V r ∧ m < 9007199254740992 ∧ (1 ≤ e → 4503599627370496 ≤ m) ∧ e ≤ 2045 ∧ e = r / 4503599627370496 - 1 := by
  unfold V
  split
  · rename_i hs
    exact ⟨r, 0, by rw [read_sub r hs]; rfl, by simp, by omega, by omega, by omega, by omega⟩
  · rename_i hs
    refine ⟨_, r / 4503599627370496 - 1, read_norm r (by omega) h, rfl, by omega, by omega, by omega, rfl⟩

theorem V_zero : V 0 = 0 := rfl
theorem V_mono (a b : Nat) (h : a < b) : V a < V b := by
  have key : ∀ r, 4503599627370496 ≤ r → V r = (4503599627370496 + r % 4503599627370496) * 2 ^ (r / 4503599627370496 - 1) := by
    intro r hr; unfold V; rw [if_neg (by omega)]
  by_cases ha : a < 4503599627370496
  · have e1 : V a = a := by unfold V; rw [if_pos ha]
    by_cases hb : b < 4503599627370496
    · have e2 : V b = b := by unfold V; rw [if_pos hb]
      omega
    · rw [e1, key b (by omega)]
      have : 1 ≤ 2 ^ (b / 4503599627370496 - 1) := Nat.one_le_two_pow
      calc a < 4503599627370496 * 1 := by omega
        _ ≤ (4503599627370496 + b % 4503599627370496) * 2 ^ (b / 4503599627370496 - 1) := Nat.mul_le_mul (by omega) this
  · rw [key a (by omega), key b (by omega)]
    rcases Nat.lt_or_ge (a / 4503599627370496) (b / 4503599627370496) with h1 | h1
    · obtain ⟨d, hd⟩ := Nat.exists_eq_add_of_lt h1
      have e : b / 4503599627370496 - 1 = (a / 4503599627370496 - 1) + (d + 1) := by omega
      rw [e, Nat.pow_add, Nat.pow_succ]
      have p1 : 1 ≤ 2 ^ d := Nat.one_le_two_pow
      have p0 : 1 ≤ 2 ^ (a / 4503599627370496 - 1) := Nat.one_le_two_pow
      generalize 2 ^ (a / 4503599627370496 - 1) = P at *
      generalize 2 ^ d = D at *
      calc (4503599627370496 + a % 4503599627370496) * P < 9007199254740992 * P := Nat.mul_lt_mul_of_pos_right (by omega) (by omega)
        _ = 4503599627370496 * (P * 2) := by omega
        _ ≤ (4503599627370496 + b % 4503599627370496) * (P * (D * 2)) := Nat.mul_le_mul (by omega) (Nat.mul_le_mul_left _ (by omega))
    · have e : a / 4503599627370496 = b / 4503599627370496 := by omega
      rw [e]
      exact Nat.mul_lt_mul_of_pos_right (by omega) (Nat.two_pow_pos _)
theorem V_lt_iff (a b : Nat) : V a < V b ↔ a < b := by
  constructor
  · intro h
    rcases Nat.lt_trichotomy a b with h1 | h1 | h1
    · exact h1
    · subst h1; omega
    · have := V_mono b a h1; omega
  · exact V_mono a b
theorem V_inj (a b : Nat) (h : V a = V b) : a = b := by
  rcases Nat.lt_trichotomy a b with h1 | h1 | h1
  · have := V_mono a b h1; omega
  · exact h1
  · have := V_mono b a h1; omega

theorem signed_shift (s : Bool) (m k j : Nat) : signed s m (k + j) = signed s m k * 2 ^ j := by
  unfold signed
  rw [Nat.shiftLeft_eq, Nat.shiftLeft_eq, Nat.pow_add, ← Nat.mul_assoc]
  have : ((m * 2 ^ k * 2 ^ j : Nat) : Int) = ((m * 2 ^ k : Nat) : Int) * 2 ^ j := by push_cast; rfl
  split
  · rw [this, Int.neg_mul]
  · exact this
/-- How two numbers stand: by their units. -/
theorem order_units (s t : Bool) (m n : Nat) (e f : Nat) : (Datum.number s m (-1074 + (e : Int))).order (.number t n (-1074 + (f : Int))) = some (compare (signed s m e) (signed t n f)) := by
  unfold Datum.order
  simp only
  congr 1
  have h1 : ∀ g : Nat, g ≤ e → g ≤ f → compare (signed s m (e - g)) (signed t n (f - g)) = compare (signed s m e) (signed t n f) := by
    intro g he hf
    have a1 := signed_shift s m (e - g) g
    have a2 := signed_shift t n (f - g) g
    rw [Nat.sub_add_cancel he] at a1
    rw [Nat.sub_add_cancel hf] at a2
    rw [a1, a2]
    have hp : (0 : Int) < 2 ^ g := Int.pow_pos (by omega)
    generalize signed s m (e - g) = x
    generalize signed t n (f - g) = y
    rcases Int.lt_trichotomy x y with h | h | h
    · rw [Int.compare_eq_lt.2 h, Int.compare_eq_lt.2 (Int.mul_lt_mul_of_pos_right h hp)]
    · subst h; simp
    · rw [Int.compare_eq_gt.2 h, Int.compare_eq_gt.2 (Int.mul_lt_mul_of_pos_right h hp)]
  rcases Nat.le_total e f with h | h
  · have e1 : min (-1074 + (e : Int)) (-1074 + (f : Int)) = -1074 + (e : Int) := by omega
    rw [e1, show (-1074 + (e : Int) - (-1074 + (e : Int))).toNat = e - e by omega, show (-1074 + (f : Int) - (-1074 + (e : Int))).toNat = f - e by omega]
    exact h1 e (Nat.le_refl _) h
  · have e1 : min (-1074 + (e : Int)) (-1074 + (f : Int)) = -1074 + (f : Int) := by omega
    rw [e1, show (-1074 + (e : Int) - (-1074 + (f : Int))).toNat = e - f by omega, show (-1074 + (f : Int) - (-1074 + (f : Int))).toNat = f - f by omega]
    exact h1 f h (Nat.le_refl _)
theorem signed_pos (m e : Nat) : signed false m e = ((m * 2 ^ e : Nat) : Int) := by unfold signed; rw [Nat.shiftLeft_eq]; rfl
theorem signed_neg (m e : Nat) : signed true m e = -((m * 2 ^ e : Nat) : Int) := by unfold signed; rw [Nat.shiftLeft_eq]; rfl
/-- A finite word's units, with its sign. -/
def U (b : Nat) : Int := if b < 9223372036854775808 then (V b : Int) else -(V (b - 9223372036854775808) : Int)
def IsFin (b : Nat) : Prop := b < 9218868437227405312 ∨ (9223372036854775808 ≤ b ∧ b < 18442240474082181120)
theorem read_U (b : Nat) (h : IsFin b) : ∃ s m, ∃ e : Nat, double.read b = .number s m (-1074 + (e : Int)) ∧ signed s m e = U b := by
  unfold U
  rcases h with h | ⟨h1, h2⟩
  · obtain ⟨m, e, hr, hv, _⟩ := read_V b h
    exact ⟨false, m, e, hr, by rw [if_pos (by omega), signed_pos, hv]⟩
  · obtain ⟨m, e, hr, hv, _⟩ := read_V (b - 9223372036854775808) (by omega)
    have := read_neg (b - 9223372036854775808) (by omega)
    rw [show 9223372036854775808 + (b - 9223372036854775808) = b by omega, hr] at this
    exact ⟨true, m, e, this, by rw [if_neg (by omega), signed_neg, hv]⟩
theorem order_fin (a b : Nat) (ha : IsFin a) (hb : IsFin b) : double.order a b = some (compare (U a) (U b)) := by
  obtain ⟨s, m, e, h1, h2⟩ := read_U a ha
  obtain ⟨t, n, f, h3, h4⟩ := read_U b hb
  unfold Format.order
  rw [h1, h3, order_units, h2, h4]

theorem cut_zero (way : Toward) (s : Bool) (n : Nat) : way.cut s n 0 = n := by
  unfold Toward.cut
  have h : min 0 (n.log2 + 2) = 0 := by omega
  rw [h]
  simp only [Nat.shiftLeft_zero, Nat.div_one, Nat.mod_one]
  cases way <;> simp
theorem log2_bd (m : Nat) (h : m ≠ 0) : 2 ^ m.log2 ≤ m ∧ m < 2 ^ (m.log2 + 1) := ⟨Nat.log2_self_le h, Nat.lt_log2_self⟩
theorem pow52 : (2 : Nat) ^ 52 = 4503599627370496 := by decide
theorem word_false (r : Nat) : double.word false r = r := rfl
theorem word_true (r : Nat) : double.word true r = 9223372036854775808 + r := by unfold Format.word; rw [sw_eq]; rfl
/-- A number of no more than 53 digits is written as it is. -/
theorem nearest_exact (s : Bool) (m e : Nat) (h0 : 0 < m) (h1 : m < 9007199254740992) (h2 : e + m.log2 ≤ 2097) : ∃ r, double.nearest s m (-1074 + (e : Int)) = double.word s r ∧ V r = m * 2 ^ e ∧ r < 9218868437227405312 := by
  obtain ⟨l1, l2⟩ := log2_bd m (by omega)
  have hL : m.log2 ≤ 52 := by
    have : ¬ 53 ≤ m.log2 := by
      intro h
      have := Nat.pow_le_pow_right (show 0 < 2 by omega) h
      have e53 : (2 : Nat) ^ 53 = 9007199254740992 := by decide
      omega
    omega
  unfold Format.nearest
  rw [if_neg (by omega)]
  simp only [lp_eq, bin_eq, inf_eq]
  have hfb : (double.fractionBits : Int) = 52 := rfl
  rw [hfb]
  by_cases hc : e + m.log2 ≤ 52
  · have el : max (-1074 + (e : Int) + (m.log2 : Int) - 52) (-1074) = -1074 := by omega
    rw [el, show (-1074 + (e : Int) - -1074).toNat = e by omega, show (-1074 - (-1074 + (e : Int))).toNat = 0 by omega, cut_zero, Nat.shiftLeft_eq]
    have hk : m * 2 ^ e < 9007199254740992 := by
      have : m * 2 ^ e < 2 ^ (m.log2 + 1) * 2 ^ e := Nat.mul_lt_mul_of_pos_right l2 (Nat.two_pow_pos _)
      rw [← Nat.pow_add] at this
      have h3 := Nat.pow_le_pow_right (show 0 < 2 by omega) (show m.log2 + 1 + e ≤ 53 by omega)
      have e53 : (2 : Nat) ^ 53 = 9007199254740992 := by decide
      omega
    refine ⟨m * 2 ^ e, congrArg (double.word s) (by rw [show (-1074 - -1074 : Int).toNat = 0 from rfl]; omega), ?_, by omega⟩
    unfold V
    split
    · rfl
    · have : m * 2 ^ e / 4503599627370496 - 1 = 0 := by omega
      rw [this]; omega
  · have el : max (-1074 + (e : Int) + (m.log2 : Int) - 52) (-1074) = -1074 + ((e + m.log2 - 52 : Nat) : Int) := by omega
    rw [el, show (-1074 + (e : Int) - (-1074 + ((e + m.log2 - 52 : Nat) : Int))).toNat = 52 - m.log2 by omega, show (-1074 + ((e + m.log2 - 52 : Nat) : Int) - (-1074 + (e : Int))).toNat = 0 by omega, cut_zero, Nat.shiftLeft_eq,
      show (-1074 + ((e + m.log2 - 52 : Nat) : Int) - -1074).toNat = e + m.log2 - 52 by omega]
    have hlo : 4503599627370496 ≤ m * 2 ^ (52 - m.log2) := by
      have : 2 ^ m.log2 * 2 ^ (52 - m.log2) ≤ m * 2 ^ (52 - m.log2) := Nat.mul_le_mul_right _ l1
      rw [← Nat.pow_add, show m.log2 + (52 - m.log2) = 52 by omega, pow52] at this
      exact this
    have hhi : m * 2 ^ (52 - m.log2) < 9007199254740992 := by
      have : m * 2 ^ (52 - m.log2) < 2 ^ (m.log2 + 1) * 2 ^ (52 - m.log2) := Nat.mul_lt_mul_of_pos_right l2 (Nat.two_pow_pos _)
      rw [← Nat.pow_add, show m.log2 + 1 + (52 - m.log2) = 53 by omega] at this
      have e53 : (2 : Nat) ^ 53 = 9007199254740992 := by decide
      omega
    generalize hx : m * 2 ^ (52 - m.log2) = x at *
    generalize hq : e + m.log2 - 52 = q at *
    have hq2 : q ≤ 2045 := by omega
    refine ⟨q * 4503599627370496 + x, congrArg (double.word s) (Nat.min_eq_left (by omega)), ?_, by omega⟩
    unfold V
    rw [if_neg (by omega), show (q * 4503599627370496 + x) / 4503599627370496 - 1 = q by omega, show 4503599627370496 + (q * 4503599627370496 + x) % 4503599627370496 = x by omega, ← hx, ← hq, Nat.mul_assoc, ← Nat.pow_add]
    congr 2; omega

def P2 (k : Nat) : Nat := 2 ^ k
def one : Nat := P2 1074
theorem P2_pos (k : Nat) : 0 < P2 k := Nat.two_pow_pos k
theorem one_pos : 0 < one := P2_pos 1074
theorem P2_add (a b : Nat) : P2 (a + b) = 2 ^ a * 2 ^ b := Nat.pow_add 2 a b
theorem one_split (a b : Nat) (h : a + b = 1074) : one = 2 ^ a * 2 ^ b := by
  show P2 1074 = _
  rw [← h]; exact P2_add a b
theorem one_up (a e : Nat) (h : a + 1074 = e) : 2 ^ a * one = 2 ^ e := by
  obtain ⟨t, ht⟩ : ∃ t : Nat, t = 1074 := ⟨_, rfl⟩
  have ho : one = 2 ^ t := by rw [ht]; rfl
  rw [ho, ← h, ← Nat.pow_add, ht]
/-- float64(n). -/
theorem ofNat_V (n : Nat) (h1 : n < 9007199254740992) : ∃ r, double.nearest false n 0 = r ∧ double.nearest true n 0 = 9223372036854775808 + r ∧ V r = n * one ∧ r < 9218868437227405312 := by
  by_cases h0 : n = 0
  · subst h0
    exact ⟨0, by unfold Format.nearest; rfl, by unfold Format.nearest; rw [if_pos rfl, word_true], by simp [V], by omega⟩
  · have hL : n.log2 ≤ 52 := by
      obtain ⟨l1, _⟩ := log2_bd n h0
      have : ¬ 53 ≤ n.log2 := by
        intro h
        have := Nat.pow_le_pow_right (show 0 < 2 by omega) h
        have e53 : (2 : Nat) ^ 53 = 9007199254740992 := by decide
        omega
      omega
    obtain ⟨e, he⟩ : ∃ e : Nat, e = 1074 := ⟨_, rfl⟩
    have ho : one = 2 ^ e := by rw [he]; rfl
    obtain ⟨r, h2, h3, h4⟩ := nearest_exact false n e (by omega) h1 (by omega)
    obtain ⟨r', k2, k3, _⟩ := nearest_exact true n e (by omega) h1 (by omega)
    have : r' = r := V_inj _ _ (k3.trans h3.symm)
    subst this
    rw [word_true] at k2
    rw [show (-1074 + (e : Int)) = 0 by omega] at h2 k2
    rw [ho]
    exact ⟨r', h2, k2, h3, h4⟩

/-- Cut towards nought. -/
theorem toInt_V (s : Bool) (m e : Nat) : (Datum.number s m (-1074 + (e : Int))).toInt .zero = some (if s then -((m * 2 ^ e / one : Nat) : Int) else ((m * 2 ^ e / one : Nat) : Int)) := by
  unfold Datum.toInt Datum.integral
  simp only
  congr 1
  have hcut : Toward.zero.cut s (m <<< (-1074 + (e : Int)).toNat) (-(-1074 + (e : Int))).toNat = m * 2 ^ e / one := by
    by_cases he : 1074 ≤ e
    · rw [show (-(-1074 + (e : Int))).toNat = 0 by omega, cut_zero, Nat.shiftLeft_eq, show (-1074 + (e : Int)).toNat = e - 1074 by omega]
      have : m * 2 ^ e = m * 2 ^ (e - 1074) * one := by
        rw [Nat.mul_assoc, one_up (e - 1074) e (by omega)]
      rw [this, Nat.mul_div_cancel _ one_pos]
    · rw [show (-1074 + (e : Int)).toNat = 0 by omega, Nat.shiftLeft_zero, show (-(-1074 + (e : Int))).toNat = 1074 - e by omega]
      have hdiv : m * 2 ^ e / one = m / 2 ^ (1074 - e) := by
        have : one = 2 ^ (1074 - e) * 2 ^ e := one_split _ _ (by omega)
        rw [this, Nat.mul_div_mul_right _ _ (Nat.two_pow_pos _)]
      rw [hdiv]
      unfold Toward.cut
      simp only [Bool.toNat_false, Nat.add_zero]
      by_cases hm : 1074 - e ≤ m.log2 + 2
      · rw [Nat.min_eq_left hm, Nat.shiftLeft_eq, Nat.one_mul]
      · rw [Nat.min_eq_right (by omega), Nat.shiftLeft_eq, Nat.one_mul]
        have h1 : m < 2 ^ (m.log2 + 2) := Nat.lt_trans Nat.lt_log2_self (Nat.pow_lt_pow_right (by omega) (by omega))
        have h2 : m < 2 ^ (1074 - e) := Nat.lt_of_lt_of_le h1 (Nat.pow_le_pow_right (by omega) (by omega))
        rw [Nat.div_eq_of_lt h1, Nat.div_eq_of_lt h2]
  rw [hcut]
  unfold signed
  rw [Nat.shiftLeft_zero]
/-- What a word's lower bits struck stand for. -/
theorem trunc_V (r : Nat) (h1 : 1023 ≤ r / 4503599627370496) (h2 : r / 4503599627370496 ≤ 1074) :
    V (r - r % 2 ^ (1075 - r / 4503599627370496)) = V r / one * one := by
  generalize hE : r / 4503599627370496 = E at *
  generalize hm : r % 4503599627370496 = m
  have hd := Nat.pow_add 2 (1075 - E) (E - 1023)
  rw [show 1075 - E + (E - 1023) = 52 by omega, pow52] at hd
  have hr : r = E * 4503599627370496 + m := by omega
  have hmod : r % 2 ^ (1075 - E) = m % 2 ^ (1075 - E) := by
    rw [hr, hd, ← Nat.mul_assoc, Nat.mul_comm E, Nat.mul_assoc, Nat.mul_add_mod]
  have hVr : V r = (4503599627370496 + m) * 2 ^ (E - 1) := by
    unfold V; rw [if_neg (by omega), hE, hm]
  have hone : one = 2 ^ (1075 - E) * 2 ^ (E - 1) := one_split _ _ (by omega)
  have hle : m % 2 ^ (1075 - E) ≤ m := Nat.mod_le _ _
  have hV2 : V (r - r % 2 ^ (1075 - E)) = (4503599627370496 + (m - m % 2 ^ (1075 - E))) * 2 ^ (E - 1) := by
    rw [hmod]
    unfold V
    rw [if_neg (by omega), show (r - m % 2 ^ (1075 - E)) / 4503599627370496 = E by omega, show (r - m % 2 ^ (1075 - E)) % 4503599627370496 = m - m % 2 ^ (1075 - E) by omega]
  have hmm : (4503599627370496 + m) % 2 ^ (1075 - E) = m % 2 ^ (1075 - E) := by
    rw [hd, Nat.mul_add_mod]
  have := Nat.div_add_mod (4503599627370496 + m) (2 ^ (1075 - E))
  rw [hmm, Nat.mul_comm] at this
  have hAB : 4503599627370496 + (m - m % 2 ^ (1075 - E)) = (4503599627370496 + m) / 2 ^ (1075 - E) * 2 ^ (1075 - E) := by omega
  rw [hV2, hVr, hone, Nat.mul_div_mul_right _ _ (Nat.two_pow_pos _), ← Nat.mul_assoc, hAB]

/-- What is rounded stays below a power of two. -/
theorem nearest_le (m : Nat) (p : Int) (k : Nat) (h0 : m ≠ 0) (h : (m.log2 : Int) + 1 + p ≤ (k : Int)) (hk : k ≤ 1000) : double.nearest false m p ≤ (k + 1023) * 4503599627370496 := by
  obtain ⟨l1, l2⟩ := log2_bd m h0
  unfold Format.nearest
  rw [if_neg h0]
  simp only [lp_eq, bin_eq, inf_eq]
  have hfb : (double.fractionBits : Int) = 52 := rfl
  rw [hfb, word_false]
  refine Nat.le_trans (Nat.min_le_left _ _) ?_
  generalize hlast : max (p + (m.log2 : Int) - 52) (-1074) = last
  -- what is kept is no more than the least power of two above the number
  have hkept : ∀ t : Nat, (m.log2 : Int) + 1 + p - last ≤ (t : Int) → Toward.even.cut false (m <<< (p - last).toNat) (last - p).toNat ≤ 2 ^ t := by
    intro t ht
    by_cases hpl : last ≤ p
    · rw [show (last - p).toNat = 0 by omega, cut_zero, Nat.shiftLeft_eq]
      have : m * 2 ^ (p - last).toNat ≤ 2 ^ (m.log2 + 1) * 2 ^ (p - last).toNat := Nat.mul_le_mul_right _ (by omega)
      rw [← Nat.pow_add] at this
      exact Nat.le_trans this (Nat.pow_le_pow_right (by omega) (by omega))
    · rw [show (p - last).toNat = 0 by omega, Nat.shiftLeft_zero]
      generalize hdr : (last - p).toNat = d
      unfold Toward.cut
      simp only
      rw [Nat.shiftLeft_eq, Nat.one_mul]
      by_cases hm : d ≤ m.log2 + 2
      · rw [Nat.min_eq_left hm]
        have hlt : m < 2 ^ t * 2 ^ d := by
          rw [← Nat.pow_add]
          exact Nat.lt_of_lt_of_le l2 (Nat.pow_le_pow_right (by omega) (by omega))
        have hq : m / 2 ^ d < 2 ^ t := (Nat.div_lt_iff_lt_mul (Nat.two_pow_pos _)).2 hlt
        have : (decide (2 ^ d < 2 * (m % 2 ^ d)) || (2 ^ d == 2 * (m % 2 ^ d) && m / 2 ^ d % 2 == 1)).toNat ≤ 1 := Bool.toNat_le _
        omega
      · rw [Nat.min_eq_right (by omega)]
        have h1 : m < 2 ^ (m.log2 + 1) := l2
        have h2 : 2 ^ (m.log2 + 2) = 2 ^ (m.log2 + 1) * 2 := Nat.pow_succ ..
        rw [Nat.div_eq_of_lt (by omega), Nat.mod_eq_of_lt (by omega)]
        have e1 : decide (2 ^ (m.log2 + 2) < 2 * m) = false := by simp; omega
        have e2 : (0 % 2 == 1) = false := rfl
        rw [e1, e2]; simp
  by_cases hc : p + (m.log2 : Int) - 52 ≤ -1074
  · have el : last = -1074 := by omega
    have := hkept 53 (by omega)
    have e53 : (2 : Nat) ^ 53 = 9007199254740992 := by decide
    rw [e53] at this
    clear hkept hlast l1 l2 e53
    generalize Toward.even.cut false (m <<< (p - last).toNat) (last - p).toNat = kept at *
    rw [el, show (-1074 - -1074 : Int).toNat = 0 from rfl, Nat.zero_mul, Nat.zero_add]
    calc kept ≤ 2 * 4503599627370496 := this
      _ ≤ (k + 1023) * 4503599627370496 := Nat.mul_le_mul_right _ (by omega)
  · have el : last = p + (m.log2 : Int) - 52 := by omega
    have := hkept 53 (by omega)
    have e53 : (2 : Nat) ^ 53 = 9007199254740992 := by decide
    rw [e53] at this
    clear hkept hlast l1 l2 e53
    generalize Toward.even.cut false (m <<< (p - last).toNat) (last - p).toNat = kept at *
    have h3 : (last - -1074).toNat + 2 ≤ k + 1023 := by omega
    calc (last - -1074).toNat * 4503599627370496 + kept ≤ (last - -1074).toNat * 4503599627370496 + 2 * 4503599627370496 := Nat.add_le_add_left this _
      _ = ((last - -1074).toNat + 2) * 4503599627370496 := (Nat.add_mul ..).symm
      _ ≤ (k + 1023) * 4503599627370496 := Nat.mul_le_mul_right _ h3
theorem V_pow (k : Nat) (hk : k ≤ 1000) : V ((k + 1023) * 4503599627370496) = 2 ^ k * one := by
  have h1 : ¬ (k + 1023) * 4503599627370496 < 4503599627370496 := Nat.not_lt.2 (by
    calc 4503599627370496 = 1 * 4503599627370496 := (Nat.one_mul _).symm
      _ ≤ (k + 1023) * 4503599627370496 := Nat.mul_le_mul_right _ (by omega))
  have h2 : (k + 1023) * 4503599627370496 % 4503599627370496 = 0 := Nat.mul_mod_left _ _
  have h3 : (k + 1023) * 4503599627370496 / 4503599627370496 = k + 1023 := Nat.mul_div_cancel _ (by decide)
  unfold V
  rw [if_neg h1, h2, h3, one_up k (k + 1074) rfl, Nat.add_zero]
  obtain ⟨t, ht⟩ : ∃ t : Nat, t = 52 := ⟨_, rfl⟩
  have e52 : 4503599627370496 = 2 ^ t := ht ▸ pow52.symm
  rw [e52, ← Nat.pow_add, show t + (k + 1023 - 1) = k + 1074 by omega]
theorem V_le_iff (a b : Nat) : V a ≤ V b ↔ a ≤ b := by
  have := V_lt_iff b a
  omega

theorem log2_mul (m j : Nat) (h : m ≠ 0) : (m * 2 ^ j).log2 = m.log2 + j := by
  obtain ⟨l1, l2⟩ := log2_bd m h
  have hp := Nat.two_pow_pos j
  refine (Nat.log2_eq_iff (by exact Nat.mul_ne_zero h (by omega))).2 ⟨?_, ?_⟩
  · rw [Nat.pow_add]; exact Nat.mul_le_mul_right _ l1
  · rw [show m.log2 + j + 1 = (m.log2 + 1) + j by omega, Nat.pow_add]; exact Nat.mul_lt_mul_of_pos_right l2 hp
theorem cut_scale (s : Bool) (n drop j : Nat) (h : n ≠ 0) : Toward.even.cut s (n * 2 ^ j) (drop + j) = Toward.even.cut s n drop := by
  unfold Toward.cut
  simp only
  have hp := Nat.two_pow_pos j
  have hg : 1 <<< min (drop + j) ((n * 2 ^ j).log2 + 2) = 1 <<< min drop (n.log2 + 2) * 2 ^ j := by
    rw [log2_mul n j h, Nat.shiftLeft_eq, Nat.shiftLeft_eq, Nat.one_mul, Nat.one_mul, ← Nat.pow_add]
    congr 1; omega
  rw [hg, Nat.mul_div_mul_right _ _ hp, Nat.mul_mod_mul_right]
  generalize 1 <<< min drop (n.log2 + 2) = g
  generalize n % g = r
  generalize n / g = q
  have e1 : decide (g * 2 ^ j < 2 * (r * 2 ^ j)) = decide (g < 2 * r) := by
    rw [← Nat.mul_assoc]
    by_cases hx : g < 2 * r
    · rw [decide_eq_true (Nat.mul_lt_mul_of_pos_right hx hp), decide_eq_true hx]
    · rw [decide_eq_false hx, decide_eq_false (Nat.not_lt.2 (Nat.mul_le_mul_right _ (by omega)))]
  have e2 : (g * 2 ^ j == 2 * (r * 2 ^ j)) = (g == 2 * r) := by
    rw [← Nat.mul_assoc]
    by_cases hx : g = 2 * r
    · rw [hx]; simp
    · have : g * 2 ^ j ≠ 2 * r * 2 ^ j := fun e => hx (Nat.eq_of_mul_eq_mul_right hp e)
      rw [beq_eq_false_iff_ne.2 this, beq_eq_false_iff_ne.2 hx]
  rw [e1, e2]
/-- What a number is written as hangs on its value alone. -/
theorem nearest_scale (s : Bool) (m j : Nat) (p : Int) : double.nearest s (m * 2 ^ j) (p - (j : Int)) = double.nearest s m p := by
  by_cases h : m = 0
  · subst h; rw [Nat.zero_mul]; unfold Format.nearest; rw [if_pos rfl, if_pos rfl]
  have hp := Nat.two_pow_pos j
  unfold Format.nearest
  rw [if_neg (Nat.mul_ne_zero h (by omega)), if_neg h]
  simp only
  rw [log2_mul m j h]
  have el : p - (j : Int) + ((m.log2 + j : Nat) : Int) - (double.fractionBits : Int) = p + (m.log2 : Int) - (double.fractionBits : Int) := by omega
  rw [el]
  generalize max (p + (m.log2 : Int) - (double.fractionBits : Int)) double.leastPlace = last
  have hk : Toward.even.cut s ((m * 2 ^ j) <<< (p - (j : Int) - last).toNat) (last - (p - (j : Int))).toNat = Toward.even.cut s (m <<< (p - last).toNat) (last - p).toNat := by
    by_cases h1 : p ≤ last
    · rw [show (p - (j : Int) - last).toNat = 0 by omega, show (p - last).toNat = 0 by omega, Nat.shiftLeft_zero, Nat.shiftLeft_zero, show (last - (p - (j : Int))).toNat = (last - p).toNat + j by omega, cut_scale s m _ j h]
    · by_cases h2 : (j : Int) ≤ p - last
      · rw [show (last - (p - (j : Int))).toNat = 0 by omega, show (last - p).toNat = 0 by omega, cut_zero, cut_zero, Nat.shiftLeft_eq, Nat.shiftLeft_eq, Nat.mul_assoc, ← Nat.pow_add]
        congr 2; omega
      · rw [show (p - (j : Int) - last).toNat = 0 by omega, Nat.shiftLeft_zero, show (last - p).toNat = 0 by omega, cut_zero, Nat.shiftLeft_eq]
        obtain ⟨a, ha⟩ : ∃ a : Nat, a = (p - last).toNat := ⟨_, rfl⟩
        obtain ⟨b, hb⟩ : ∃ b : Nat, b = (last - (p - (j : Int))).toNat := ⟨_, rfl⟩
        rw [← ha, ← hb]
        have hj : j = a + b := by omega
        have : Toward.even.cut s (m * 2 ^ a * 2 ^ b) (0 + b) = _ := cut_scale s (m * 2 ^ a) 0 b (Nat.mul_ne_zero h (by have := Nat.two_pow_pos a; omega))
        rw [cut_zero, Nat.zero_add, Nat.mul_assoc, ← Nat.pow_add, ← hj] at this
        exact this
  rw [hk]
/-- The word of u units of the least place (rounded, where it has none). -/
def W (s : Bool) (u : Nat) : Nat := double.nearest s u (-1074)
theorem W_of (s : Bool) (m e : Nat) : double.nearest s m (-1074 + (e : Int)) = W s (m * 2 ^ e) := by
  unfold W
  rw [← nearest_scale s m e, show (-1074 + (e : Int) - (e : Int)) = -1074 by omega]
theorem W_deep (s : Bool) (m e j : Nat) : double.nearest s (m * 2 ^ j) (-1074 + (e : Int) - (j : Int)) = W s (m * 2 ^ e) := by
  rw [nearest_scale, W_of]
theorem W_zero (s : Bool) : W s 0 = double.word s 0 := by unfold W Format.nearest; rw [if_pos rfl]
theorem W_V (s : Bool) (r : Nat) (h : r < 9218868437227405312) : W s (V r) = double.word s r := by
  obtain ⟨m, e, _, hv, hm, _, he, _⟩ := read_V r h
  by_cases h0 : m = 0
  · subst h0
    rw [Nat.zero_mul] at hv
    have : r = 0 := V_inj _ _ (by rw [← hv]; rfl)
    subst this
    exact W_zero s
  · have hL : m.log2 ≤ 52 := by
      obtain ⟨l1, _⟩ := log2_bd m h0
      have : ¬ 53 ≤ m.log2 := by
        intro h
        have := Nat.pow_le_pow_right (show 0 < 2 by omega) h
        have e53 : (2 : Nat) ^ 53 = 9007199254740992 := by decide
        omega
      omega
    obtain ⟨r', h2, h3, _⟩ := nearest_exact s m e (by omega) hm (by omega)
    have : r' = r := V_inj _ _ (h3.trans hv)
    subst this
    rw [W_of, hv] at h2
    exact h2
theorem read_U' (b : Nat) (h : IsFin b) : ∃ m, ∃ e : Nat, double.read b = .number (decide (9223372036854775808 ≤ b)) m (-1074 + (e : Int)) ∧ signed (decide (9223372036854775808 ≤ b)) m e = U b ∧ m < 9007199254740992 := by
  unfold U
  rcases h with h | ⟨h1, h2⟩
  · obtain ⟨m, e, hr, hv, hm, _⟩ := read_V b h
    have hd : decide (9223372036854775808 ≤ b) = false := by simp; omega
    rw [hd]
    exact ⟨m, e, hr, by rw [if_pos (by omega), signed_pos, hv], hm⟩
  · obtain ⟨m, e, hr, hv, hm, _⟩ := read_V (b - 9223372036854775808) (by omega)
    have := read_neg (b - 9223372036854775808) (by omega)
    rw [show 9223372036854775808 + (b - 9223372036854775808) = b by omega, hr] at this
    have hd : decide (9223372036854775808 ≤ b) = true := by simp; omega
    rw [hd]
    exact ⟨m, e, this, by rw [if_neg (by omega), signed_neg, hv], hm⟩
theorem sum_units (s t : Bool) (m k e f : Nat) (x y : Int) (hx : signed s m e = x) (hy : signed t k f = y) :
    ((Datum.number s m (-1074 + (e : Int))).sum (.number t k (-1074 + (f : Int)))).map double.write = some (W (if x + y = 0 then s && t else decide (x + y < 0)) (x + y).natAbs) := by
  unfold Datum.sum
  simp only [Option.map_some]
  congr 1
  obtain ⟨g, hg, hge, hgf⟩ : ∃ g : Nat, min (-1074 + (e : Int)) (-1074 + (f : Int)) = -1074 + (g : Int) ∧ g ≤ e ∧ g ≤ f := ⟨min e f, by omega, by omega, by omega⟩
  rw [hg, show (-1074 + (e : Int) - (-1074 + (g : Int))).toNat = e - g by omega, show (-1074 + (f : Int) - (-1074 + (g : Int))).toNat = f - g by omega]
  have b1 := signed_shift s m (e - g) g
  have b2 := signed_shift t k (f - g) g
  rw [Nat.sub_add_cancel hge] at b1
  rw [Nat.sub_add_cancel hgf] at b2
  rw [hx] at b1
  rw [hy] at b2
  generalize signed s m (e - g) = p at *
  generalize signed t k (f - g) = q at *
  have hsum : x + y = (p + q) * 2 ^ g := by rw [b1, b2, Int.add_mul]
  have hp : (0 : Int) < 2 ^ g := Int.pow_pos (by omega)
  have hz : (p + q = 0) = (x + y = 0) := by
    rw [hsum]; apply propext; constructor
    · intro h; rw [h]; simp
    · intro h; rcases Int.mul_eq_zero.1 h with h | h
      · exact h
      · omega
  have hl : (p + q < 0) = (x + y < 0) := by
    rw [hsum]; apply propext; constructor
    · intro h; exact Int.mul_neg_of_neg_of_pos h hp
    · intro h
      rcases Int.lt_or_le (p + q) 0 with h2 | h2
      · exact h2
      · have := Int.mul_nonneg h2 (Int.le_of_lt hp); omega
  have hn : (p + q).natAbs * 2 ^ g = (x + y).natAbs := by
    rw [hsum, Int.natAbs_mul]
    congr 1
  show double.nearest _ _ _ = _
  rw [W_of, hn]
  simp only [hz, hl]
theorem add_U (a b : Nat) (ha : IsFin a) (hb : IsFin b) : double.add a b = some (W (if U a + U b = 0 then decide (9223372036854775808 ≤ a) && decide (9223372036854775808 ≤ b) else decide (U a + U b < 0)) (U a + U b).natAbs) := by
  obtain ⟨m, e, h1, h2, _⟩ := read_U' a ha
  obtain ⟨k, f, h3, h4, _⟩ := read_U' b hb
  unfold Format.add
  rw [h1, h3]
  exact sum_units _ _ m k e f _ _ h2 h4
theorem signed_not (t : Bool) (k f : Nat) : signed (!t) k f = -signed t k f := by
  cases t
  · rw [Bool.not_false, signed_neg, signed_pos]
  · rw [Bool.not_true, signed_neg, signed_pos]; omega
theorem sub_U (a b : Nat) (ha : IsFin a) (hb : IsFin b) : double.sub a b = some (W (if U a - U b = 0 then decide (9223372036854775808 ≤ a) && !decide (9223372036854775808 ≤ b) else decide (U a - U b < 0)) (U a - U b).natAbs) := by
  obtain ⟨m, e, h1, h2, _⟩ := read_U' a ha
  obtain ⟨k, f, h3, h4, _⟩ := read_U' b hb
  unfold Format.sub
  rw [h1, h3]
  have := sum_units _ (!decide (9223372036854775808 ≤ b)) m k e f _ _ h2 ((signed_not _ k f).trans (by rw [h4]))
  rw [← Int.sub_eq_add_neg] at this
  exact this
/-- Ten to the ninth. -/
theorem read_giga : double.read 4741671816366391296 = .number false (1000000000 * 2 ^ 23) (-23) := by decide +kernel
theorem mul_giga (a : Nat) (ha : a < 9218868437227405312) : double.mul a 4741671816366391296 = some (W false (V a * 1000000000)) := by
  obtain ⟨m, e, hr, hv, _⟩ := read_V a ha
  unfold Format.mul
  rw [hr, read_giga]
  unfold Datum.product
  simp only [Option.map_some]
  refine congrArg some ?_
  show double.nearest (false ^^ false) (m * (1000000000 * 2 ^ 23)) (-1074 + (e : Int) + -23) = _
  have := W_deep false (m * 1000000000) e 23
  rw [← Nat.mul_assoc]
  rw [show (-1074 + (e : Int) + -23) = -1074 + (e : Int) - ((23 : Nat) : Int) by omega]
  rw [show (false ^^ false) = false from rfl, this, ← hv, Nat.mul_right_comm]
theorem W_le (u k : Nat) (hk : k ≤ 1000) (h : u < 2 ^ k * one) : W false u ≤ (k + 1023) * 4503599627370496 := by
  by_cases h0 : u = 0
  · subst h0; rw [W_zero]; exact Nat.zero_le _
  · unfold W
    refine nearest_le u _ k h0 ?_ hk
    obtain ⟨l1, _⟩ := log2_bd u h0
    rw [one_up k (k + 1074) rfl] at h
    have : u.log2 < k + 1074 := (Nat.pow_lt_pow_iff_right (by omega)).1 (Nat.lt_of_le_of_lt l1 h)
    omega
theorem V_le_of (r k : Nat) (hk : k ≤ 1000) (h : r ≤ (k + 1023) * 4503599627370496) : V r ≤ 2 ^ k * one := by
  rw [← V_pow k hk]; exact (V_le_iff _ _).2 h
/-- What is cut off to a whole number. -/
theorem toInt_U (b : Nat) (hb : b < 9218868437227405312) : (double.read b).toInt .zero = some ((V b / one : Nat) : Int) := by
  obtain ⟨m, e, hr, hv, _⟩ := read_V b hb
  rw [hr, toInt_V, hv]; rfl
theorem toInt_neg (b : Nat) (hb : b < 9218868437227405312) : (double.read (9223372036854775808 + b)).toInt .zero = some (-((V b / one : Nat) : Int)) := by
  obtain ⟨m, e, hr, hv, _⟩ := read_V b hb
  rw [read_neg b (by omega), hr]
  show (Datum.number true m (-1074 + (e : Int))).toInt .zero = _
  rw [toInt_V, hv]; rfl
/-- A word that W writes is a number, or without end. -/
theorem nearest_rung (f : Format) (mag : Nat) (place : Int) : f.nearest false mag place ≤ f.infRung := by
  unfold Format.nearest
  dsimp only
  split
  · exact Nat.zero_le _
  · exact Nat.min_le_right _ _
theorem W_rung (u : Nat) : W false u ≤ 9218868437227405312 := by
  have h := nearest_rung double u (-1074)
  rw [inf_eq] at h
  exact h
end FloatM
end Go.Proofs.YtaobkniecgiplaaDoor
