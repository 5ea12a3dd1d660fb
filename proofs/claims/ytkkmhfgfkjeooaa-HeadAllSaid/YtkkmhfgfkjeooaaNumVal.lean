/- Walks over package num: what a string is as a number. -/
import Derived.Test.YtkkmhfgfkjeooaaNumTell
namespace Go.Proofs.Ytkkmhfgfkjeooaa
open Go.RowKit
open NumM

/-- The number that octalValue makes of digits: any byte is taken for one. -/
def octV (l : List UInt8) : Int := l.foldl (fun a c => a * 8 + (c.toNat : Int) - 48) 0
theorem octV_snoc (l : List UInt8) (c : UInt8) : octV (l ++ [c]) = octV l * 8 + (c.toNat : Int) - 48 := by simp [octV]
theorem octV_bound (l : List UInt8) : -7 * (8 ^ l.length - 1) ≤ octV l ∧ octV l ≤ 30 * (8 ^ l.length - 1) := by
  rw [← List.reverse_reverse l]
  generalize l.reverse = r
  induction r with
  | nil => simp [octV]
  | cons c r ih =>
    have hc := c.toNat_lt
    rw [List.reverse_cons, octV_snoc, List.length_append, List.length_singleton, Int.pow_succ]
    omega
theorem octV_small (l : List UInt8) (h : l.length ≤ 11) : -1000000000000 ≤ octV l ∧ octV l ≤ 1000000000000 := by
  have hb := octV_bound l
  have hp : (8 : Int) ^ l.length ≤ 8 ^ 11 := by
    have := Nat.pow_le_pow_right (n := 8) (by decide) h
    exact_mod_cast this
  omega
theorem take_more (s : ByteArray) (k : Nat) (h : k < s.size) : s.data.toList.take (k + 1) = s.data.toList.take k ++ [s[k]] := by
  rw [List.take_succ_eq_append_getElem (by simpa using h)]; rfl

theorem octalValue_any (s : ByteArray) (w : World) (h1 : 1 ≤ s.size) (h2 : s.size ≤ 12) :
    Calls Try.prog 85 #[.string s] w fun e w' => e = .returned (.int .i64 (octV (s.data.toList.take (s.size - 1)))) ∧ w = w' := by
  go_enter Try.func85, Try.ntmps85
  go_wp2
  go_loop [3, 4] (fun n i => ∃ k : Nat, k + 1 ≤ s.size ∧ i = .int .i64 k ∧ n = .int .i64 (octV (s.data.toList.take k))) (fun _ i => s.size - (intOf i).toNat)
  case atStart => exact ⟨0, h1, rfl, rfl⟩
  case round =>
    obtain ⟨k, hk, rfl, rfl⟩ := hrel
    have hb := octV_small (s.data.toList.take k) (by have := List.length_take_le k s.data.toList; omega)
    by_cases hlt : k + 1 < s.size
    · have Hs := Lib.hid (octV_snoc (s.data.toList.take k) s[k])
      rw [← take_more s k (by omega)] at Hs
      generalize octV (s.data.toList.take k) = m at *
      have hd : (k : Int) < (s.size : Int) - 1 := by omega
      have hc : ((s[k]'(by omega)).toNat : Int) ≤ 255 := by have := (s[k]'(by omega)).toNat_lt; omega
      go_wp2
      all_goals
        go_round
        case rel => exact ⟨k + 1, by omega, by go_num, by rw [Hs.out]⟩
        case measure => simp [intOf]; omega
    · have hd : ¬ (k : Int) < (s.size : Int) - 1 := by omega
      obtain rfl : k = s.size - 1 := by omega
      go_wp2
      go_ret
      exact ⟨rfl, rfl⟩
end Go.Proofs.Ytkkmhfgfkjeooaa
