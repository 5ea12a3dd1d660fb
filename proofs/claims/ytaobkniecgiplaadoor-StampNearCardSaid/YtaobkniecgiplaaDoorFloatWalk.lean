/- Walks over package math, as far as stamp calls it. -/
import Derived.Test.YtaobkniecgiplaaDoorAmb
import Derived.Test.YtaobkniecgiplaaDoorFloatM
import Derived.Laws.Cover2
import Derived.Laws.FloatArith
import Derived.Outline
namespace Go.Proofs.YtaobkniecgiplaaDoor
open Go.RowKit
open FloatM

theorem bits_run (b : Nat) (w : World) : (callFunc 42 #[.float .f64 b]).run Tryd.prog w = .ok (.value (.int .u64 (b : Int))) w := by
  rw [run_callFunc_extern Tryd.func42 (by kernel_rfl) (by kernel_rfl) (by kernel_rfl) (e := Extern.MathFloatBits.float64bits) (by kernel_rfl)]
  rfl
theorem frombits_run (b : Nat) (w : World) : (callFunc 41 #[.int .u64 (b : Int)]).run Tryd.prog w = .ok (.value (.float .f64 b)) w := by
  rw [run_callFunc_extern Tryd.func41 (by kernel_rfl) (by kernel_rfl) (by kernel_rfl) (e := Extern.MathFloatBits.float64frombits) (by kernel_rfl)]
  rfl
theorem u64_nat (x : Nat) (h : x < 18446744073709551616) : (BitVec.ofInt 64 (x : Int)) = BitVec.ofNat 64 x := BitVec.ofInt_natCast ..
theorem back_u64 (x : Nat) (h : x < 18446744073709551616) : IntKind.u64.wrap (x : Int) = x := by rw [IntKind.wrap_u64]; omega
theorem andNot_sign (x : Nat) (h : x < 18446744073709551616) : bits .andNot .u64 (x : Int) 9223372036854775808 = ((x % 9223372036854775808 : Nat) : Int) := by
  show IntKind.u64.wrap ((BitVec.ofInt 64 (x : Int) &&& ~~~BitVec.ofInt 64 ((9223372036854775808 : Nat) : Int)).toNat : Int) = _
  rw [u64_nat x h, u64_nat _ (by omega), BitVec.toNat_and, BitVec.toNat_ofNat, Nat.mod_eq_of_lt h]
  have e : (~~~BitVec.ofNat 64 9223372036854775808).toNat = 2 ^ 63 - 1 := by decide
  rw [e, Nat.and_two_pow_sub_one_eq_mod, show (2 : Nat) ^ 63 = 9223372036854775808 from by decide]
  exact back_u64 _ (by omega)
theorem abs_any (b : Nat) (w : World) (hb : b < 18446744073709551616) :
    Calls Tryd.prog 32 #[.float .f64 b] w fun e w' => e = .returned (.float .f64 (b % 9223372036854775808)) ∧ w = w' := by
  have hb' : (b : Int) ≤ 18446744073709551615 := by omega
  have h1 := bits_run b
  have h2 : ∀ w, (callFunc 41 #[.int .u64 (bits .andNot .u64 (b : Int) 9223372036854775808)]).run Tryd.prog w = .ok (.value (.float .f64 (b % 9223372036854775808))) w := by
    intro w; rw [andNot_sign b hb]; exact frombits_run _ w
  generalize b % 9223372036854775808 = R at *
  go_enter Tryd.func32, Tryd.ntmps32
  go_wp2
  go_ret
  exact ⟨rfl, rfl⟩

def floorW (b : Nat) : Nat := Ieee.double.write ((Ieee.double.read b).integral .down)
theorem floor_run (b : Nat) (w : World) (hb : IsFin b) : (callFunc 43 #[.float .f64 b]).run Tryd.prog w = .ok (.value (.float .f64 (floorW b))) w := by
  rw [run_callFunc_extern Tryd.func43 (by kernel_rfl) (by kernel_rfl) (by kernel_rfl) (e := Extern.MathFloor.toIntegral "math.archFloor" .down) (by kernel_rfl)]
  obtain ⟨s, m, e, hr, _⟩ := read_U b hb
  have hd : FloatKind.f64.decode b = .number s m (-1074 + (e : Int)) := hr
  have h : Extern.MathFloor.toIntegral "math.archFloor" .down #[.float .f64 b] = pure (.float .f64 (FloatKind.f64.encode ((FloatKind.f64.decode b).integral .down))) := by
    show (match FloatKind.f64.decode b with
      | .nan s t => if FloatKind.f64.format.quiet t = t then pure (Value.float .f64 b) else (choose (.extern "math.Floor,Ceil,Trunc,RoundToEven.signallingNaN kept" 2) >>= fun kept => pure (.float .f64 (if kept == 1 then b else FloatKind.f64.encode (.nan s (FloatKind.f64.format.quiet t)))))
      | d => pure (.float .f64 (FloatKind.f64.encode (d.integral .down))) : Sem Value) = _
    rw [hd]
  rw [h]
  rfl
theorem Floor_any (b : Nat) (w : World) (hb : IsFin b) :
    Calls Tryd.prog 33 #[.float .f64 b] w fun e w' => e = .returned (.float .f64 (floorW b)) ∧ w = w' := by
  have h1 := fun w => floor_run b w hb
  have Hb := Lib.hid hb
  clear hb
  go_enter Tryd.func33, Tryd.ntmps33
  go_wp2
  go_ret
  exact ⟨rfl, rfl⟩

/-- The least whole number of units that is no smaller. -/
def up (v : Nat) : Nat := v / one + (if v % one = 0 then 0 else 1)
theorem cut_down (s : Bool) (m e : Nat) : Ieee.Toward.down.cut s (m <<< (-1074 + (e : Int)).toNat) (-(-1074 + (e : Int))).toNat = if s = true then up (m * 2 ^ e) else m * 2 ^ e / one := by
  unfold up
  by_cases he : 1074 ≤ e
  · rw [show (-(-1074 + (e : Int))).toNat = 0 by omega, cut_zero, Nat.shiftLeft_eq, show (-1074 + (e : Int)).toNat = e - 1074 by omega]
    have : m * 2 ^ e = m * 2 ^ (e - 1074) * one := by
      rw [Nat.mul_assoc, one_up (e - 1074) e (by omega)]
    rw [this, Nat.mul_div_cancel _ one_pos, Nat.mul_mod_left]
    simp
  · rw [show (-1074 + (e : Int)).toNat = 0 by omega, Nat.shiftLeft_zero, show (-(-1074 + (e : Int))).toNat = 1074 - e by omega]
    have ho : one = 2 ^ (1074 - e) * 2 ^ e := one_split _ _ (by omega)
    have hp := Nat.two_pow_pos e
    rw [ho, Nat.mul_div_mul_right _ _ hp, Nat.mul_mod_mul_right]
    have hz : (m % 2 ^ (1074 - e) * 2 ^ e = 0) = (m % 2 ^ (1074 - e) = 0) := by
      apply propext; constructor
      · intro h; rcases Nat.mul_eq_zero.1 h with h | h
        · exact h
        · omega
      · intro h; rw [h]; simp
    simp only [hz]
    generalize 1074 - e = d
    unfold Ieee.Toward.cut
    simp only
    rw [Nat.shiftLeft_eq, Nat.one_mul]
    by_cases hm : d ≤ m.log2 + 2
    · rw [Nat.min_eq_left hm]
      cases s
      · simp
      · by_cases h0 : m % 2 ^ d = 0
        · simp [h0]
        · simp [h0]
    · rw [Nat.min_eq_right (by omega)]
      have h1 : m < 2 ^ (m.log2 + 2) := Nat.lt_trans Nat.lt_log2_self (Nat.pow_lt_pow_right (by omega) (by omega))
      have h2 : m < 2 ^ d := Nat.lt_of_lt_of_le h1 (Nat.pow_le_pow_right (by omega) (by omega))
      rw [Nat.div_eq_of_lt h1, Nat.div_eq_of_lt h2, Nat.mod_eq_of_lt h1, Nat.mod_eq_of_lt h2]
      cases s
      · simp
      · by_cases h0 : m = 0
        · simp [h0]
        · simp [h0]
/-- The greatest whole number that is not above. -/
def flo (b : Nat) : Int := if b < 9223372036854775808 then ((V b / one : Nat) : Int) else -((up (V (b - 9223372036854775808)) : Nat) : Int)
theorem floorW_pos (b : Nat) (hb : b < 9218868437227405312) : floorW b = Ieee.double.nearest false (V b / one) 0 := by
  obtain ⟨m, e, hr, hv, _⟩ := read_V b hb
  unfold floorW
  rw [hr]
  unfold Ieee.Datum.integral
  simp only
  rw [cut_down, hv]
  rfl
theorem floorW_neg (b : Nat) (hb : b < 9218868437227405312) : floorW (9223372036854775808 + b) = Ieee.double.nearest true (up (V b)) 0 := by
  obtain ⟨m, e, hr, hv, _⟩ := read_V b hb
  unfold floorW
  rw [read_neg b (by omega), hr]
  show Ieee.double.write ((Ieee.Datum.number true m (-1074 + (e : Int))).integral .down) = _
  unfold Ieee.Datum.integral
  simp only
  rw [cut_down, hv]
  rfl
end Go.Proofs.YtaobkniecgiplaaDoor
