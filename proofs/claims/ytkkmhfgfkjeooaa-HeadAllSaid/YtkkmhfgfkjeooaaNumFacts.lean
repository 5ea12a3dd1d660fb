/- What the fields are, as plain mathematics: a field is read again. -/
import Derived.Test.YtkkmhfgfkjeooaaNumRead
namespace Go.Proofs.Ytkkmhfgfkjeooaa
open Go.RowKit
open NumM

theorem wrap_step (x c : Int) : wrap64 (wrap64 x * 256 + c) = wrap64 (x * 256 + c) := by unfold wrap64; omega
theorem emod_step (n P : Int) (hP : 0 < P) : n % (P * 256) = n / 256 % P * 256 + n % 256 := by
  have h1 := Int.mul_ediv_add_emod n 256
  have h2 := Int.mul_ediv_add_emod (n / 256) P
  have h3 : n = (P * 256) * (n / 256 / P) + (n / 256 % P * 256 + n % 256) := by
    have e : (P * 256) * (n / 256 / P) = 256 * (P * (n / 256 / P)) := by rw [Int.mul_comm P 256, Int.mul_assoc]
    rw [e]
    generalize P * (n / 256 / P) = y at *
    omega
  have h4 := Int.emod_nonneg n (b := 256) (by decide)
  have h5 := Int.emod_lt_of_pos n (b := 256) (by decide)
  have h6 := Int.emod_nonneg (n / 256) (b := P) (by omega)
  have h7 := Int.emod_lt_of_pos (n / 256) hP
  have h8 : 0 ≤ n / 256 % P * 256 + n % 256 ∧ n / 256 % P * 256 + n % 256 < P * 256 := by omega
  generalize n / 256 % P * 256 + n % 256 = r at *
  rw [h3, Int.mul_add_emod_self_left, Int.emod_eq_of_lt h8.1 h8.2]

theorem basVs_bes (a : Int) (ha : a = 0 ∨ a = -1) (k : Nat) (n : Int) : basVs a (bes k n) = wrap64 (a * 256 ^ k + n % 256 ^ k) := by
  induction k generalizing n with
  | zero => rcases ha with rfl | rfl <;> simp [bes, basVs, wrap64]
  | succ k ih =>
    have h1 : bes (k + 1) n = bes k (n / 256) ++ [UInt8.ofNat (n % 256).toNat] := rfl
    rw [h1, basVs_snoc, ih, byte_of, wrap_step, Int.pow_succ, emod_step n (256 ^ k) (Int.pow_pos (by decide))]
    congr 1
    rw [Int.add_mul, ← Int.mul_assoc]
    omega

theorem octV_digs (k n : Nat) : octV (digs k n) = ((n % 8 ^ k : Nat) : Int) := by
  induction k generalizing n with
  | zero => simp [digs, octV, Nat.mod_one]
  | succ k ih =>
    have h1 : digs (k + 1) n = digs k (n / 8) ++ [UInt8.ofNat (48 + n % 8)] := rfl
    have h2 : (UInt8.ofNat (48 + n % 8)).toNat = 48 + n % 8 := by simp; omega
    rw [h1, octV_snoc, ih, h2, Nat.pow_succ, Nat.mul_comm (8 ^ k) 8, Nat.mod_mul]
    omega

theorem octO_form {n v : Int} {l : List UInt8} (h : octO n v = some l) : ∃ (m d : Nat), n = m ∧ v = (d : Int) + 1 ∧ (d = 7 ∨ d = 11) ∧ m < 8 ^ d ∧ l = digs d m ++ [0] := by
  unfold octO at h
  split at h
  · rename_i hc
    injection h with h
    subst h
    simp only [Bool.and_eq_true, decide_eq_true_eq] at hc
    obtain ⟨⟨hv, h0⟩, h1⟩ := hc
    obtain ⟨m, rfl⟩ := Int.eq_ofNat_of_zero_le h0
    have h : v = 8 ∨ v = 12 := by simpa [isW] using hv
    rcases h with rfl | rfl
    · exact ⟨m, 7, rfl, rfl, .inl rfl, by have h2 : (m : Int) < 2097152 := h1; omega, rfl⟩
    · exact ⟨m, 11, rfl, rfl, .inr rfl, by have h2 : (m : Int) < 8589934592 := h1; omega, rfl⟩
  · cases h
theorem basO_form {n v : Int} {l : List UInt8} (h : basO n v = some l) : ∃ d : Nat, v = (d : Int) + 1 ∧ ((d = 7 ∧ -72057594037927936 ≤ n ∧ n < 72057594037927936) ∨ d = 11) ∧ l = (if n < 0 then 255 else 128) :: bes d n := by
  unfold basO at h
  split at h
  · rename_i hc
    injection h with h
    subst h
    simp only [Bool.and_eq_true, Bool.or_eq_true, decide_eq_true_eq, beq_iff_eq] at hc
    obtain ⟨hv, hr⟩ := hc
    have h : v = 8 ∨ v = 12 := by simpa [isW] using hv
    rcases h with rfl | rfl
    · exact ⟨7, rfl, .inl ⟨rfl, by omega, by omega⟩, rfl⟩
    · exact ⟨11, rfl, .inr rfl, rfl⟩
  · cases h

theorem octO_length {n v : Int} {l : List UInt8} (h : octO n v = some l) : (l.length : Int) = v := by
  obtain ⟨m, d, _, rfl, _, _, rfl⟩ := octO_form h
  simp [digs_length]
theorem basO_length {n v : Int} {l : List UInt8} (h : basO n v = some l) : (l.length : Int) = v := by
  obtain ⟨d, rfl, _, rfl⟩ := basO_form h
  simp [bes_length]
theorem fieldO_cases {n v : Int} {l : List UInt8} (h : fieldO n v = some l) : octO n v = some l ∨ (octO n v = none ∧ basO n v = some l) := by
  unfold fieldO at h
  rcases ho : octO n v with _ | m
  · rw [ho] at h; exact .inr ⟨rfl, h⟩
  · rw [ho] at h; exact .inl h
theorem fieldO_length {n v : Int} {l : List UInt8} (h : fieldO n v = some l) : (l.length : Int) = v := by
  rcases fieldO_cases h with h | ⟨_, h⟩
  · exact octO_length h
  · exact basO_length h

/-- The first byte of each form. -/
theorem octO_head {n v : Int} {l : List UInt8} (h : octO n v = some l) : ∃ c r, l = c :: r ∧ 48 ≤ c.toNat ∧ c.toNat ≤ 55 := by
  obtain ⟨m, d, _, _, hd, _, rfl⟩ := octO_form h
  obtain ⟨k, rfl⟩ : ∃ k, d = k + 1 := ⟨d - 1, by omega⟩
  rw [digs_cons]
  exact ⟨_, _, rfl, by simp; omega, by simp; omega⟩
theorem basO_head {n v : Int} {l : List UInt8} (h : basO n v = some l) : ∃ c r, l = c :: r ∧ ((n < 0 ∧ c = 255) ∨ (0 ≤ n ∧ c = 128)) := by
  obtain ⟨d, _, _, rfl⟩ := basO_form h
  by_cases h0 : n < 0
  · exact ⟨_, _, rfl, .inl ⟨h0, if_pos h0⟩⟩
  · exact ⟨_, _, rfl, .inr ⟨by omega, if_neg h0⟩⟩

/-- What octal digits say is what they were made of. -/
theorem octW_of {n v : Int} {l : List UInt8} (h : octO n v = some l) : octW l = n := by
  obtain ⟨m, d, rfl, _, _, hm, rfl⟩ := octO_form h
  unfold octW
  rw [List.length_append, List.length_singleton, Nat.add_sub_cancel, List.take_left', octV_digs, Nat.mod_eq_of_lt hm]
  rfl
theorem basV_of {n v : Int} {l : List UInt8} (hn : -9223372036854775808 ≤ n ∧ n ≤ 9223372036854775807) (h : basO n v = some l) : basV l = n := by
  obtain ⟨d, _, hd, rfl⟩ := basO_form h
  unfold basV
  have hs : basStart ((if n < 0 then 255 else 128) :: bes d n) = if n < 0 then -1 else 0 := by
    by_cases h0 : n < 0 <;> simp [basStart, h0]
  rw [hs, List.drop_succ_cons, List.drop_zero]
  by_cases h0 : n < 0
  · rw [if_pos h0, basVs_bes _ (.inr rfl)]
    rcases hd with ⟨rfl, h1, h2⟩ | rfl
    · unfold wrap64; omega
    · unfold wrap64; omega
  · rw [if_neg h0, basVs_bes _ (.inl rfl)]
    rcases hd with ⟨rfl, h1, h2⟩ | rfl
    · unfold wrap64; omega
    · unfold wrap64; omega

theorem fldV_oct {l : List UInt8} {c : UInt8} {r : List UInt8} (h : l = c :: r) (hc : c.toNat < 128) : fldV l = octW l := by
  subst h; simp [fldV, octW, hc]
theorem fldV_bas {l : List UInt8} {c : UInt8} {r : List UInt8} (h : l = c :: r) (hc : 128 ≤ c.toNat) : fldV l = basV l := by
  subst h
  have : ¬ c.toNat < 128 := by omega
  simp [fldV, this]
theorem fldV_of {n v : Int} {l : List UInt8} (hn : -9223372036854775808 ≤ n ∧ n ≤ 9223372036854775807) (h : fieldO n v = some l) : fldV l = n := by
  rcases fieldO_cases h with h | ⟨_, h⟩
  · obtain ⟨c, r, hl, h1, h2⟩ := octO_head h
    rw [fldV_oct hl (by omega), octW_of h]
  · obtain ⟨c, r, hl, hc⟩ := basO_head h
    rw [fldV_bas hl (by rcases hc with ⟨_, rfl⟩ | ⟨_, rfl⟩ <;> decide), basV_of hn h]

/-- A field is read again. -/
theorem rdFld_of {n v : Int} {l : List UInt8} (hn : -9223372036854775808 ≤ n ∧ n ≤ 9223372036854775807) (h : fieldO n v = some l) : rdFld l = some n := by
  unfold rdFld rdO
  rw [fldV_of hn h, fieldO_length h, if_pos h]
theorem rdFld_form {v : Int} {l : List UInt8} (h : rdFld l = some v) : fieldO v l.length = some l := by
  unfold rdFld rdO at h
  split at h
  · injection h with h; subst h; assumption
  · cases h
theorem rdFld_short {l : List UInt8} (h : isW l.length = false) : rdFld l = none := by
  unfold rdFld rdO
  rw [fieldO_bad _ _ h]
  simp
theorem fieldO_none {n v : Int} (hv : isW v = true) (h : fieldO n v = none) : v = 8 ∧ (n < -72057594037927936 ∨ 72057594037927936 ≤ n) := by
  have h2 : basO n v = none := by
    unfold fieldO at h
    rcases ho : octO n v with _ | m
    · rw [ho] at h; exact h
    · rw [ho] at h; cases h
  have hv' : v = 8 ∨ v = 12 := by simpa [isW] using hv
  rcases hv' with rfl | rfl
  · simp [basO, hv] at h2
    exact ⟨rfl, by omega⟩
  · simp [basO, hv] at h2
end Go.Proofs.Ytkkmhfgfkjeooaa
