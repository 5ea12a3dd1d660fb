/- Walks over package stamp and the document's answer: a time as a float. -/
import Derived.Test.YtaobkniecgiplaaDoorStampFloat2
namespace Go.Proofs.YtaobkniecgiplaaDoor
open Go.RowKit
open FloatM

def fltQ (n : Int) : Nat := (Ieee.double.div (floatOfInt .f64 n) 4741671816366391296).getD 0
def fltW (s n : Int) : Nat := (Ieee.double.add (floatOfInt .f64 s) (fltQ n)).getD 0
theorem word_rung (s : Bool) (m : Nat) (p : Int) : ∃ r, Ieee.double.nearest s m p = Ieee.double.word s r ∧ r ≤ 9218868437227405312 := by
  rw [← inf_eq]
  generalize Ieee.double = f
  unfold Ieee.Format.nearest
  dsimp only
  split
  · exact ⟨0, rfl, Nat.zero_le _⟩
  · exact ⟨_, rfl, Nat.min_le_right _ _⟩
theorem read_word (s : Bool) (r : Nat) (h : r ≤ 9218868437227405312) : (∃ m p, Ieee.double.read (Ieee.double.word s r) = .number s m p) ∨ Ieee.double.read (Ieee.double.word s r) = .infinity s := by
  rcases Nat.lt_or_eq_of_le h with k | k
  · left
    obtain ⟨m, e, hr, _⟩ := read_V r k
    cases s
    · rw [word_false]; exact ⟨m, _, hr⟩
    · rw [word_true, read_neg r (by omega), hr]; exact ⟨m, _, rfl⟩
  · right
    subst k
    cases s
    · rw [word_false]; exact read_inf
    · rw [word_true, read_neg _ (by omega), read_inf]; rfl
theorem write_self (s : Bool) (r : Nat) (h : r ≤ 9218868437227405312) : Ieee.double.order (Ieee.double.word s r) (Ieee.double.word s r) = some .eq := by
  rcases Nat.lt_or_eq_of_le h with k | k
  · have hf : IsFin (Ieee.double.word s r) := by
      cases s
      · rw [word_false]; exact .inl k
      · rw [word_true]; exact .inr ⟨by omega, by omega⟩
    rw [order_fin _ _ hf hf, Int.compare_eq_eq.2 rfl]
  · subst k
    cases s
    · rw [word_false]; exact order_inf.1
    · rw [word_true]; exact order_inf.2
theorem quot_is (n : Int) (h : -1099511627776 ≤ n ∧ n ≤ 1099511627776) : floatBits .quo .f64 (floatOfInt .f64 n) 4741671816366391296 = some (fltQ n) ∧ ∃ s r, fltQ n = Ieee.double.word s r ∧ r ≤ 9218868437227405312 := by
  obtain ⟨w1, _⟩ := word_of n h
  obtain ⟨s, m, e, hr, _⟩ := read_U _ w1
  have hd : ∃ x, Ieee.double.div (floatOfInt .f64 n) 4741671816366391296 = some x ∧ ∃ s r, x = Ieee.double.word s r ∧ r ≤ 9218868437227405312 := by
    unfold Ieee.Format.div
    rw [hr, read_giga]
    unfold Ieee.Datum.quotient
    simp only
    rw [if_neg (by decide)]
    simp only [Option.map_some]
    refine ⟨_, rfl, ?_⟩
    obtain ⟨r, h1, h2⟩ := word_rung (s ^^ false) _ _
    exact ⟨_, r, h1, h2⟩
  obtain ⟨x, hx, hs⟩ := hd
  have hq : fltQ n = x := by unfold fltQ; rw [hx]; rfl
  rw [hq]
  exact ⟨hx, hs⟩
theorem sum_is (s n : Int) (hs : -1099511627776 ≤ s ∧ s ≤ 1099511627776) (hn : -1099511627776 ≤ n ∧ n ≤ 1099511627776) : floatBits .add .f64 (floatOfInt .f64 s) (fltQ n) = some (fltW s n) ∧ (FloatKind.f64.format.order (fltW s n) (fltW s n) == some Ordering.eq) = true := by
  obtain ⟨w1, _⟩ := word_of s hs
  obtain ⟨t, m, e, hr, _⟩ := read_U _ w1
  obtain ⟨_, t2, r2, hq, hle⟩ := quot_is n hn
  have hd : ∃ x, Ieee.double.add (floatOfInt .f64 s) (fltQ n) = some x ∧ ∃ s r, x = Ieee.double.word s r ∧ r ≤ 9218868437227405312 := by
    unfold Ieee.Format.add
    rw [hr, hq]
    rcases read_word t2 r2 hle with ⟨m2, p2, h2⟩ | h2
    · rw [h2]
      unfold Ieee.Datum.sum
      simp only [Option.map_some]
      refine ⟨_, rfl, ?_⟩
      obtain ⟨r, h1, h3⟩ := word_rung _ _ _
      exact ⟨_, r, h1, h3⟩
    · rw [h2]
      unfold Ieee.Datum.sum
      simp only [Option.map_some]
      refine ⟨_, rfl, t2, 9218868437227405312, ?_, Nat.le_refl _⟩
      rw [← inf_eq]; rfl
  obtain ⟨x, hx, s3, r3, h3, h4⟩ := hd
  have hq : fltW s n = x := by unfold fltW; rw [hx]; rfl
  rw [hq]
  refine ⟨hx, ?_⟩
  show (Ieee.double.order x x == some Ordering.eq) = true
  rw [h3, write_self s3 r3 h4]; rfl
theorem float_any (s n : Int) (w : World) (hs : -1099511627776 ≤ s ∧ s ≤ 1099511627776) (hn : -1099511627776 ≤ n ∧ n ≤ 1099511627776) :
    Calls Tryd.prog 21 #[.agg #[.int .i64 s, .int .i64 n]] w fun e w' => e = .returned (.float .f64 (fltW s n)) ∧ Below w.heap.size w w' := by
  have r1 := c5_run _ _ _ .quo 34 (quot_is n hn).1
  have r2 := c5_run _ _ _ .add 34 (sum_is s n hs hn).1
  generalize fltW s n = R at *
  generalize fltQ n = Q at *
  go_enter Tryd.func21, Tryd.ntmps21
  go_wp2
  go_ret
  exact ⟨rfl, by (repeat' (first | exact Below.refl _ _ | assumption | refine gr_drew ?_ | refine gr_drewN ?_ _ | refine gr_alloc ?_ _ | refine gr_set ?_ ?_ _ | refine gr_call ?_ (by assumption)) <;> (try (simp; done)) <;> (try (simp; omega)) <;> (try omega))⟩
theorem refFloat_any (s n : Int) (w : World) (hs : -1099511627776 ≤ s ∧ s ≤ 1099511627776) (hn : -1099511627776 ≤ n ∧ n ≤ 1099511627776) :
    Calls Tryd.prog 22 #[.agg #[.int .i64 s, .int .i64 n]] w fun e w' => e = .returned (.float .f64 (fltW s n)) ∧ Below w.heap.size w w' := by
  have r1 := c5_run _ _ _ .quo 34 (quot_is n hn).1
  have r2 := c5_run _ _ _ .add 34 (sum_is s n hs hn).1
  generalize fltW s n = R at *
  generalize fltQ n = Q at *
  go_enter Tryd.func22, Tryd.ntmps22
  go_wp2
  go_ret
  exact ⟨rfl, by (repeat' (first | exact Below.refl _ _ | assumption | refine gr_drew ?_ | refine gr_drewN ?_ _ | refine gr_alloc ?_ _ | refine gr_set ?_ ?_ _ | refine gr_call ?_ (by assumption)) <;> (try (simp; done)) <;> (try (simp; omega)) <;> (try omega))⟩
theorem float_kinds (b : Nat) (h : b < 18446744073709551616) : Out b ∨ (b = 0 ∨ b = 9223372036854775808) ∨ Small b := by
  unfold Out Small; omega
end Go.Proofs.YtaobkniecgiplaaDoor
