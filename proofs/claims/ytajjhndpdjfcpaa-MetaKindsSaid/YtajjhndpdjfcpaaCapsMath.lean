/- A file's capabilities as the document has them, in plain Lean: which may be, their bytes, what any bytes say. -/
import Derived.Test.YtajjhndpdjfcpaaKit
namespace Go.Proofs.Ytajjhndpdjfcpaa.CapsM
set_option linter.unusedVariables false

structure Cap where
  v : Int
  p : Nat
  i : Nat
  e : Bool
  r : Int

/-- All that a number of the machine can be. -/
def Fits (c : Cap) : Prop := c.p < 18446744073709551616 ∧ c.i < 18446744073709551616
def none0 : Cap := ⟨0, 0, 0, false, 0⟩
/-- Whether they may be. -/
def may (c : Cap) : Bool :=
  if c.v = 0 then decide (c.p = 0 ∧ c.i = 0 ∧ c.e = false ∧ c.r = 0)
  else if c.v = 2 then decide (c.r = 0)
  else if c.v = 3 then decide (0 ≤ c.r ∧ c.r ≤ 2147483647) else false
/-- A number's four bytes, the lowest first. -/
def four (n : Nat) : List UInt8 := [UInt8.ofNat n, UInt8.ofNat (n / 256), UInt8.ofNat (n / 65536), UInt8.ofNat (n / 16777216)]
/-- The first number. -/
def first (c : Cap) : Nat := c.v.toNat * 16777216 + if c.e then 1 else 0
/-- The numbers that the bytes hold. -/
def nums (c : Cap) : List Nat := first c :: c.p % 4294967296 :: c.i % 4294967296 :: c.p / 4294967296 :: c.i / 4294967296 :: if c.v = 3 then [c.r.toNat] else []
def bytesOf (l : List Nat) : List UInt8 := l.flatMap four
def putL (c : Cap) : List UInt8 := if may c = true ∧ c.v ≠ 0 then bytesOf (nums c) else []
/-- The number that four bytes say; nought where there are less. -/
def le4 : List UInt8 → Nat
  | a :: b :: c :: d :: _ => a.toNat + b.toNat * 256 + c.toNat * 65536 + d.toNat * 16777216
  | _ => 0
def guess (l : List UInt8) (r : Nat) : Cap :=
  ⟨(le4 l / 16777216 : Nat), le4 (l.drop 4) + le4 (l.drop 12) * 4294967296, le4 (l.drop 8) + le4 (l.drop 16) * 4294967296, decide (le4 l % 2 = 1), (r : Nat)⟩
open Classical in
noncomputable def getL (l : List UInt8) : Option Cap :=
  if l = [] then some none0 else if putL (guess l (le4 (l.drop 20))) = l then some (guess l (le4 (l.drop 20))) else none

theorem four_length (n : Nat) : (four n).length = 4 := rfl
theorem four_mod (n : Nat) : four (n % 4294967296) = four n := by
  unfold four
  have h : ∀ a b : Nat, a % 256 = b % 256 → UInt8.ofNat a = UInt8.ofNat b := fun a b h => UInt8.toNat_inj.1 (by simpa using h)
  rw [h _ n (by omega), h (n % 4294967296 / 256) (n / 256) (by omega), h (n % 4294967296 / 65536) (n / 65536) (by omega), h (n % 4294967296 / 16777216) (n / 16777216) (by omega)]
theorem le4_lt (l : List UInt8) : le4 l < 4294967296 := by
  unfold le4
  split
  · rename_i a b c d r
    have := a.toNat_lt; have := b.toNat_lt; have := c.toNat_lt; have := d.toNat_lt
    omega
  · decide
theorem le4_four (n : Nat) (hn : n < 4294967296) (l : List UInt8) : le4 (four n ++ l) = n := by
  show (UInt8.ofNat n).toNat + (UInt8.ofNat (n / 256)).toNat * 256 + (UInt8.ofNat (n / 65536)).toNat * 65536 + (UInt8.ofNat (n / 16777216)).toNat * 16777216 = n
  simp only [UInt8.toNat_ofNat']
  omega
theorem le4_short {l : List UInt8} (h : l.length < 4) : le4 l = 0 := by
  match l, h with
  | [], _ => rfl
  | [_], _ => rfl
  | [_, _], _ => rfl
  | [_, _, _], _ => rfl
theorem bytesOf_length (l : List Nat) : (bytesOf l).length = 4 * l.length := by
  induction l with
  | nil => rfl
  | cons a l ih => simp only [bytesOf, List.flatMap_cons, List.length_append, four_length, List.length_cons] at ih ⊢; omega
theorem nums_length (c : Cap) : (nums c).length = if c.v = 3 then 6 else 5 := by
  unfold nums; split <;> rfl
theorem may_ver {c : Cap} (h : may c = true) : c.v = 0 ∨ c.v = 2 ∨ c.v = 3 := by
  unfold may at h
  split at h
  · exact .inl ‹_›
  · split at h
    · exact .inr (.inl ‹_›)
    · split at h
      · exact .inr (.inr ‹_›)
      · cases h
theorem may_root {c : Cap} (h : may c = true) : 0 ≤ c.r ∧ c.r ≤ 2147483647 ∧ (c.v = 2 → c.r = 0) := by
  unfold may at h
  split at h
  · have := of_decide_eq_true h
    omega
  · split at h
    · have := of_decide_eq_true h
      omega
    · split at h
      · have := of_decide_eq_true h
        omega
      · cases h
theorem may_zero {c : Cap} (h : may c = true) (hv : c.v = 0) : c = none0 := by
  unfold may at h
  rw [if_pos hv] at h
  obtain ⟨h1, h2, h3, h4⟩ := of_decide_eq_true h
  obtain ⟨v, p, i, e, r⟩ := c
  simp only at hv h1 h2 h3 h4
  subst hv h1 h2 h3 h4
  rfl
theorem putL_length {c : Cap} (h : may c = true) (hv : c.v ≠ 0) : (putL c).length = if c.v = 3 then 24 else 20 := by
  unfold putL
  rw [if_pos ⟨h, hv⟩, bytesOf_length, nums_length]
  split <;> rfl
theorem putL_none {c : Cap} (h : ¬ (may c = true ∧ c.v ≠ 0)) : putL c = [] := by unfold putL; rw [if_neg h]
theorem putL_some {c : Cap} (h : putL c ≠ []) : may c = true ∧ c.v ≠ 0 := by
  by_cases hc : may c = true ∧ c.v ≠ 0
  · exact hc
  · exact absurd (putL_none hc) h
theorem putL_size (c : Cap) : (putL c).length ≤ 24 := by
  by_cases hc : may c = true ∧ c.v ≠ 0
  · rw [putL_length hc.1 hc.2]; split <;> omega
  · rw [putL_none hc]; simp

theorem drop_4 (a : Nat) (l : List UInt8) : (four a ++ l).drop 4 = l := rfl
theorem drop_8 (a b : Nat) (l : List UInt8) : (four a ++ (four b ++ l)).drop 8 = l := rfl
theorem drop_12 (a b c : Nat) (l : List UInt8) : (four a ++ (four b ++ (four c ++ l))).drop 12 = l := rfl
theorem drop_16 (a b c d : Nat) (l : List UInt8) : (four a ++ (four b ++ (four c ++ (four d ++ l)))).drop 16 = l := rfl
theorem drop_20 (a b c d e : Nat) (l : List UInt8) : (four a ++ (four b ++ (four c ++ (four d ++ (four e ++ l))))).drop 20 = l := rfl
theorem cap_ext {c : Cap} {v : Int} {p i : Nat} {e : Bool} {r : Int} (h1 : v = c.v) (h2 : p = c.p) (h3 : i = c.i) (h4 : e = c.e) (h5 : r = c.r) : (⟨v, p, i, e, r⟩ : Cap) = c := by subst h1 h2 h3 h4 h5; rfl
theorem first_lt {c : Cap} (h : c.v = 2 ∨ c.v = 3) : first c < 4294967296 := by
  unfold first
  split <;> omega
theorem first_ver {c : Cap} (h : c.v = 2 ∨ c.v = 3) : ((first c / 16777216 : Nat) : Int) = c.v := by
  unfold first
  split <;> omega
theorem first_odd (c : Cap) : decide (first c % 2 = 1) = c.e := by
  unfold first
  cases c.e
  · rw [if_neg (by simp)]; exact decide_eq_false (by omega)
  · rw [if_pos rfl]; exact decide_eq_true (by omega)
theorem putL_eq {c : Cap} (h : may c = true) (hv : c.v ≠ 0) : putL c = four (first c) ++ (four (c.p % 4294967296) ++ (four (c.i % 4294967296) ++ (four (c.p / 4294967296) ++ (four (c.i / 4294967296) ++ bytesOf (if c.v = 3 then [c.r.toNat] else []))))) := by
  unfold putL
  rw [if_pos ⟨h, hv⟩]
  rfl
/-- What the bytes of any say. -/
theorem guess_put (c : Cap) (hf : Fits c) (h : may c = true) (hv : c.v ≠ 0) (r : Nat) (hr : (r : Int) = c.r) : guess (putL c) r = c := by
  have hv2 : c.v = 2 ∨ c.v = 3 := by
    rcases may_ver h with e | e | e
    · exact absurd e hv
    · exact .inl e
    · exact .inr e
  obtain ⟨hp, hi⟩ := hf
  have hfst := first_lt hv2
  rw [putL_eq h hv]
  generalize bytesOf (if c.v = 3 then [c.r.toNat] else []) = l
  unfold guess
  rw [drop_4, drop_8, drop_12, drop_16, le4_four _ hfst, le4_four _ (by omega), le4_four _ (by omega), le4_four _ (by omega), le4_four _ (by omega)]
  exact cap_ext (first_ver hv2) (by omega) (by omega) (first_odd c) hr
theorem root_put (c : Cap) (h : may c = true) (h3 : c.v = 3) : (le4 ((putL c).drop 20) : Int) = c.r := by
  obtain ⟨k1, k2, _⟩ := may_root h
  unfold putL
  rw [if_pos ⟨h, by omega⟩]
  unfold nums bytesOf
  rw [if_pos h3]
  simp only [List.flatMap_cons]
  rw [drop_20, le4_four _ (by omega)]
  omega
theorem root_put2 (c : Cap) (h : may c = true) (h2 : c.v = 2) : (le4 ((putL c).drop 20) : Int) = c.r := by
  have hl := putL_length h (by omega)
  rw [if_neg (by omega)] at hl
  rw [le4_short (by simp [hl])]
  exact ((may_root h).2.2 h2).symm
/-- They are told again. -/
theorem get_put (c : Cap) (hf : Fits c) (h : may c = true) : getL (putL c) = some c := by
  unfold getL
  by_cases hv : c.v = 0
  · rw [putL_none (by simp [hv]), if_pos rfl, may_zero h hv]
  · have hl := putL_length h hv
    have hne : putL c ≠ [] := by intro e; rw [e] at hl; simp at hl; split at hl <;> omega
    have hr : (le4 ((putL c).drop 20) : Int) = c.r := by
      rcases may_ver h with e | e | e
      · exact absurd e hv
      · exact root_put2 c h e
      · exact root_put c h e
    have hg := guess_put c hf h hv _ hr
    rw [if_neg hne, hg, if_pos rfl]
theorem guess_fits (l : List UInt8) (r : Nat) : Fits (guess l r) := by
  have h1 := le4_lt (l.drop 4)
  have h2 := le4_lt (l.drop 12)
  have h3 := le4_lt (l.drop 8)
  have h4 := le4_lt (l.drop 16)
  unfold Fits guess
  simp only
  omega
/-- What any bytes say has these bytes. -/
theorem get_says {l : List UInt8} {c : Cap} (h : getL l = some c) : may c = true ∧ putL c = l ∧ Fits c := by
  unfold getL at h
  split at h
  · obtain rfl := Option.some.inj h
    subst_vars
    exact ⟨rfl, rfl, by decide, by decide⟩
  · split at h
    · obtain rfl := Option.some.inj h
      rename_i h0 h1
      exact ⟨(putL_some (by rw [h1]; exact h0)).1, h1, guess_fits _ _⟩
    · cases h
theorem get_none {l : List UInt8} (h : getL l = none) (c : Cap) (hf : Fits c) (hm : may c = true) : putL c ≠ l := by
  intro e
  rw [← e, get_put c hf hm] at h
  cases h
/-- What the program guesses, number by number. -/
def gval (l : List UInt8) : Cap := guess l (if le4 l / 16777216 = 3 then le4 (l.drop 20) else 0)
theorem gval_len {l : List UInt8} (h : putL (gval l) = l) (h0 : l ≠ []) : 20 ≤ l.length ∧ (le4 l / 16777216 = 3 → 24 ≤ l.length) := by
  obtain ⟨k1, k2⟩ := putL_some (by rw [h]; exact h0)
  have hl := putL_length k1 k2
  rw [h] at hl
  have hv : (gval l).v = (le4 l / 16777216 : Nat) := rfl
  constructor
  · rw [hl]; split <;> omega
  · intro e
    rw [hl, if_pos (by rw [hv, e]; rfl)]
    omega
theorem getL_gval (l : List UInt8) (h0 : l ≠ []) : getL l = if putL (gval l) = l then some (gval l) else none := by
  unfold getL
  rw [if_neg h0]
  by_cases h3 : le4 l / 16777216 = 3
  · have : gval l = guess l (le4 (l.drop 20)) := by unfold gval; rw [if_pos h3]
    rw [this]
  · have hg : gval l = guess l 0 := by unfold gval; rw [if_neg h3]
    rw [hg]
    by_cases hl : l.length < 24
    · rw [le4_short (l := l.drop 20) (by simp; omega)]
    · have hv : ∀ r, (guess l r).v = (le4 l / 16777216 : Nat) := fun r => rfl
      have hne : ∀ r, putL (guess l r) ≠ l := by
        intro r e
        obtain ⟨k1, k2⟩ := putL_some (by rw [e]; exact h0)
        have hl2 := putL_length k1 k2
        rw [e, hv, if_neg (by omega)] at hl2
        omega
      rw [if_neg (hne _), if_neg (hne _)]
end Go.Proofs.Ytajjhndpdjfcpaa.CapsM
