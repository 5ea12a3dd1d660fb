/- Walks over package text: low, length, further, named. -/
import Derived.Test.YthmmcmpbpfnocaaDoorTextAmb
import Derived.Deep.QuietTactic
import Derived.BigQuiet
import Derived.Recover
namespace Go.Proofs.YthmmcmpbpfnocaaDoor
open Go.RowKit
open TextM
set_option linter.unusedVariables false

theorem low_any (c : UInt8) (b : Nat) (hb : b = 3 ∨ b = 4 ∨ b = 5 ∨ b = 6 ∨ b = 7) (x : Int) (hx : x = (b : Int)) (w : World) :
    Calls Tryd.prog 20 #[.int .u8 (c.toNat : Int), .int .i64 x] w fun e w' => e = .returned (.int .i64 ((c.toNat % 2 ^ b : Nat) : Int)) ∧ w' = w := by
  subst hx
  obtain ⟨n, hn⟩ : ∃ n, c.toNat = n := ⟨_, rfl⟩
  have hn2 : n < 256 := by have := c.toNat_lt; omega
  have ha : bits .and .i64 (n : Int) ((2 ^ b - 1 : Nat) : Int) = ((n % 2 ^ b : Nat) : Int) := by
    rw [and_i64 _ _ (by omega) (by rcases hb with rfl | rfl | rfl | rfl | rfl <;> decide), Nat.and_two_pow_sub_one_eq_mod]
  rw [hn]
  rcases hb with rfl | rfl | rfl | rfl | rfl
  all_goals
    have ha' := ha
    simp at ha'
    go_enter Tryd.func20, Tryd.ntmps20
    go_wp2_with fail
    go_ret
    exact ⟨ret_num (by simp), rfl⟩

theorem named_any (n : Nat) (hn : n < 4611686018427387904) (w : World) :
    Calls Tryd.prog 22 #[.int .i64 (n : Int)] w fun e w' => e = .returned (.bool (named n)) ∧ w' = w := by
  have hd : named n = (decide ((n : Int) ≤ 1114111) && (decide ((n : Int) < 55296) || decide (57343 < (n : Int)))) := by
    unfold named
    rw [Bool.eq_iff_iff]
    simp only [Bool.and_eq_true, Bool.or_eq_true, decide_eq_true_eq]
    omega
  have Hd := Lib.hid hd
  clear hd
  obtain ⟨x, hx⟩ : ∃ x : Int, (n : Int) = x := ⟨_, rfl⟩
  rw [hx] at Hd ⊢
  clear hx hn
  by_cases h1 : x ≤ 1114111
  · by_cases h2 : x < 55296
    · go_enter Tryd.func22, Tryd.ntmps22
      go_wp2_with fail
      go_ret
      exact ⟨ret_bool (by rw [Hd.out, Bool.eq_iff_iff]; simp; omega), rfl⟩
    · go_enter Tryd.func22, Tryd.ntmps22
      go_wp2_with fail
      go_ret
      exact ⟨ret_bool (by rw [Hd.out, Bool.eq_iff_iff]; simp; omega), rfl⟩
  · go_enter Tryd.func22, Tryd.ntmps22
    go_wp2_with fail
    go_ret
    exact ⟨ret_bool (by rw [Hd.out, Bool.eq_iff_iff]; simp; omega), rfl⟩

/-- What ends the reading. -/
def endsEarly : List PanicEntry := [{ v := .iface 44 (.agg #[]), recovered := false }]
/-- The letter at a place of a string. -/
theorem idx_at {P : Program} {t : TypeId} (ht : P.underlying t = some .string) (S : ByteArray) (i : Nat) (h : i < S.size) : ∃ c : UInt8, S.data.toList[i]? = some c ∧ ∀ w, (Instr.index t (.string S) (.int .i64 (i : Int))).run P w = .ok (.int .u8 (c.toNat : Int)) w := by
  refine ⟨S[i], ?_, ?_⟩
  · rw [List.getElem?_eq_getElem (by simpa using h)]; rfl
  · intro w
    simp [go_sem, ht, h]
theorem drop_at {l : List UInt8} {i : Nat} {c : UInt8} (h : l[i]? = some c) : l.drop i = c :: l.drop (i + 1) := by
  obtain ⟨hi, rfl⟩ := List.getElem?_eq_some_iff.1 h
  exact List.drop_eq_getElem_cons hi
/-- The bits of the further byte at a place. -/
def furAt (l : List UInt8) (p : Nat) : Option Nat := (l[p]?).bind fun c => if c.toNat / 64 = 2 then some (c.toNat % 64) else none

theorem further_yes (S : ByteArray) (hS : S.size ≤ 1000000) (p : Nat) (k : Nat) (h : furAt S.data.toList p = some k) (x : Int) (hx : x = (p : Int)) (w : World) :
    Calls Tryd.prog 21 #[.string S, .int .i64 x] w fun e w' => e = .returned (.int .i64 (k : Int)) ∧ w' = w := by
  subst hx
  obtain ⟨c, hc, hk⟩ := Option.bind_eq_some_iff.1 h
  have hc2 : c.toNat / 64 = 2 ∧ c.toNat % 64 = k := by
    split at hk
    · exact ⟨by assumption, Option.some.inj hk⟩
    · cases hk
  obtain ⟨n, hn⟩ : ∃ n, S.size = n := ⟨_, rfl⟩
  have hp : p < S.size := by have := (List.getElem?_eq_some_iff.1 hc).1; simpa using this
  obtain ⟨c', hc', hidx⟩ := idx_at Tryd.underlying9 S p hp
  obtain rfl : c' = c := by rw [hc] at hc'; exact (Option.some.inj hc').symm
  have hlow := low_any c' 6 (by omega)
  rw [show c'.toNat % 2 ^ 6 = k from hc2.2] at hlow
  have h2 : ¬ (n : Int) ≤ (p : Int) := by omega
  have h3 := hc2.1
  have h4 : ((c'.toNat : Int) / 64 != 2) = false := by
    have : (c'.toNat : Int) / 64 = 2 := by omega
    rw [this]; rfl
  clear h hc hc' hk hc2 h3
  go_enter Tryd.func21, Tryd.ntmps21
  go_wp2_with fail
  refine (hlow _ rfl _).mono ?_
  rintro e w4 ⟨rfl, rfl⟩
  go_wp2_with fail
  go_ret
  exact ⟨rfl, rfl⟩
theorem further_no (S : ByteArray) (hS : S.size ≤ 1000000) (p : Nat) (h : furAt S.data.toList p = none) (x : Int) (hx : x = (p : Int)) (w : World) :
    Calls Tryd.prog 21 #[.string S, .int .i64 x] w fun e w' => e = .panicked endsEarly ∧ w' = w := by
  subst hx
  obtain ⟨n, hn⟩ : ∃ n, S.size = n := ⟨_, rfl⟩
  by_cases hp : p < S.size
  · obtain ⟨c, hc, hidx⟩ := idx_at Tryd.underlying9 S p hp
    have hk : ¬ c.toNat / 64 = 2 := by unfold furAt at h; rw [hc] at h; intro h2; rw [Option.bind_some, if_pos h2] at h; cases h
    have h4 : ((c.toNat : Int) / 64 != 2) = true := by
      rw [bne_iff_ne]
      intro h5; apply hk; omega
    have h2 : ¬ (n : Int) ≤ (p : Int) := by omega
    clear h hc hk
    go_enter Tryd.func21, Tryd.ntmps21
    go_wp2_with fail
    exact ⟨rfl, rfl, rfl⟩
  · have h2 : (n : Int) ≤ (p : Int) := by omega
    clear h hp
    go_enter Tryd.func21, Tryd.ntmps21
    go_wp2_with fail
    exact ⟨rfl, rfl, rfl⟩
end Go.Proofs.YthmmcmpbpfnocaaDoor
