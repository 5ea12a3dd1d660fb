/- The walk of the law NumOrder. -/
import Derived.Test.YtdjphejeaonpgaaNumAwake
namespace Go.Proofs.Ytdjphejeaonpgaa
open Go.RowKit
open NumM
set_option linter.unusedVariables false

/-- k places of n, to the base B, each written by f. -/
def dg (B : Nat) (f : Nat → UInt8) : Nat → Nat → List UInt8
  | 0, _ => []
  | k + 1, n => f (n / B ^ k % B) :: dg B f k n
theorem digs_dg (k n : Nat) : digs k n = dg 8 (fun d => UInt8.ofNat (48 + d)) k n := by
  induction k with
  | zero => rfl
  | succ k ih => rw [digs_cons, ih]; rfl
theorem bes_dg (k n : Nat) : bes k (n : Int) = dg 256 UInt8.ofNat k n := by
  induction k with
  | zero => rfl
  | succ k ih =>
    rw [bes_cons, ih]
    have : ((n : Int) / 256 ^ k % 256).toNat = n / 256 ^ k % 256 := by
      have e : (256 : Int) ^ k = ((256 ^ k : Nat) : Int) := by simp
      rw [e]
      omega
    rw [this]
    rfl
theorem lex_lt (P a b r s : Nat) (hr : r < P) (hs : s < P) : (r + P * a < s + P * b) ↔ (a < b ∨ (a = b ∧ r < s)) := by
  rcases Nat.lt_trichotomy a b with h | h | h
  · have : P * (a + 1) ≤ P * b := Nat.mul_le_mul_left P h
    rw [Nat.mul_add, Nat.mul_one] at this
    constructor
    · intro _; exact .inl h
    · intro _; omega
  · subst h
    omega
  · have : P * (b + 1) ≤ P * a := Nat.mul_le_mul_left P h
    rw [Nat.mul_add, Nat.mul_one] at this
    constructor
    · intro _; omega
    · intro _; omega
theorem dg_less (B : Nat) (hB : 0 < B) (f : Nat → UInt8) (hf : ∀ a b, a < B → b < B → (f a < f b ↔ a < b)) (hi : ∀ a b, a < B → b < B → (f a = f b ↔ a = b)) (k x y : Nat) :
    Op.bytesLess (dg B f k x) (dg B f k y) = decide (x % B ^ k < y % B ^ k) := by
  induction k with
  | zero => simp [dg, Op.bytesLess, Nat.mod_one]
  | succ k ih =>
    have hP : 0 < B ^ k := Nat.pow_pos hB
    show (decide (f (x / B ^ k % B) < f (y / B ^ k % B)) || (f (x / B ^ k % B) == f (y / B ^ k % B) && Op.bytesLess (dg B f k x) (dg B f k y))) = _
    rw [ih, Nat.pow_succ, Nat.mod_mul, Nat.mod_mul, Bool.eq_iff_iff]
    have h1 := Nat.mod_lt (x / B ^ k) hB
    have h2 := Nat.mod_lt (y / B ^ k) hB
    simp only [Bool.or_eq_true, Bool.and_eq_true, decide_eq_true_eq, beq_iff_eq]
    rw [hf _ _ h1 h2, hi _ _ h1 h2, lex_lt _ _ _ _ _ (Nat.mod_lt _ hP) (Nat.mod_lt _ hP)]

theorem less_append (a b c : List UInt8) (h : a.length = b.length) : Op.bytesLess (a ++ c) (b ++ c) = Op.bytesLess a b := by
  induction a generalizing b with
  | nil =>
    rcases b with _ | ⟨d, b⟩
    · have hc : ∀ l : List UInt8, Op.bytesLess l l = false := by
        intro l
        induction l with
        | nil => rfl
        | cons e l ih => simp [Op.bytesLess, ih]
      simp [hc]
    · simp at h
  | cons e a ih =>
    rcases b with _ | ⟨d, b⟩
    · simp at h
    · simp only [List.cons_append, Op.bytesLess]
      rw [ih b (by simpa using h)]
theorem less_cons (c : UInt8) (a b : List UInt8) : Op.bytesLess (c :: a) (c :: b) = Op.bytesLess a b := by simp [Op.bytesLess]

theorem oct_less (k x y : Nat) (hx : x < 8 ^ k) (hy : y < 8 ^ k) : Op.bytesLess (digs k x ++ [0]) (digs k y ++ [0]) = decide ((x : Int) < (y : Int)) := by
  rw [less_append _ _ _ (by rw [digs_length, digs_length]), digs_dg, digs_dg, dg_less 8 (by decide) _ _ _, Nat.mod_eq_of_lt hx, Nat.mod_eq_of_lt hy]
  · simp
  · intro a b ha hb
    rw [UInt8.lt_iff_toNat_lt]; simp; omega
  · intro a b ha hb
    rw [← UInt8.toNat_inj]; simp; omega
theorem bas_less (k x y : Nat) (hx : x < 256 ^ k) (hy : y < 256 ^ k) : Op.bytesLess (128 :: bes k x) (128 :: bes k y) = decide ((x : Int) < (y : Int)) := by
  rw [less_cons, bes_dg, bes_dg, dg_less 256 (by decide) _ _ _, Nat.mod_eq_of_lt hx, Nat.mod_eq_of_lt hy]
  · simp
  · intro a b ha hb
    rw [UInt8.lt_iff_toNat_lt]; simp; omega
  · intro a b ha hb
    rw [← UInt8.toNat_inj]; simp; omega

theorem basO_pos (d n : Nat) (hd : d = 7 ∨ d = 11) (h1 : n < 72057594037927936) : basO n ((d : Int) + 1) = some (128 :: bes d n) := by
  have h2 : (n : Int) < 72057594037927936 := by omega
  have h3 : ¬ (n : Int) < 0 := by omega
  rcases hd with rfl | rfl
  · simp [basO, isW, h2, h3]
  · simp [basO, isW, h3]
theorem octO_pos (d n : Nat) (hd : d = 7 ∨ d = 11) (h1 : n < 2097152) : octO n ((d : Int) + 1) = some (digs d n ++ [0]) := by
  rcases hd with rfl | rfl
  · have h2 : (n : Int) < 2097152 := by omega
    simp [octO, isW, h2]
  · have h2 : (n : Int) < 8589934592 := by omega
    simp [octO, isW, h2]

theorem numOrder_core (x y : Nat) (d : Nat) (hd : d = 7 ∨ d = 11) (hx : x < 72057594037927936) (hy : y < 72057594037927936) :
    ∃ (p q s t : ByteArray) (b1 b2 : Bool),
      (∀ W, Calls Try.prog 10 #[.int .i64 x, .int .i64 ((d : Int) + 1)] W fun e w' => e = .returned (.tuple #[.string p, .bool true]) ∧ Below W.heap.size W w') ∧
      (∀ W, Calls Try.prog 10 #[.int .i64 y, .int .i64 ((d : Int) + 1)] W fun e w' => e = .returned (.tuple #[.string q, .bool true]) ∧ Below W.heap.size W w') ∧
      (∀ W, Calls Try.prog 9 #[.int .i64 ((x : Int) % 2097152), .int .i64 ((d : Int) + 1)] W fun e w' => e = .returned (.tuple #[.string s, .bool true]) ∧ Below W.heap.size W w') ∧
      (∀ W, Calls Try.prog 9 #[.int .i64 ((y : Int) % 2097152), .int .i64 ((d : Int) + 1)] W fun e w' => e = .returned (.tuple #[.string t, .bool true]) ∧ Below W.heap.size W w') ∧
      Op.bytesLess p.toList q.toList = b1 ∧ decide ((x : Int) < (y : Int)) = b1 ∧
      Op.bytesLess s.toList t.toList = b2 ∧ decide ((x : Int) % 2097152 < (y : Int) % 2097152) = b2 := by
  have hpw : 2097152 ≤ 8 ^ d ∧ 72057594037927936 ≤ 256 ^ d := by rcases hd with rfl | rfl <;> decide
  refine ⟨_, _, _, _, _, _, Base_yes _ _ _ (basO_pos d x hd hx), Base_yes _ _ _ (basO_pos d y hd hy), Octal_yes _ _ _ (octO_pos d (x % 2097152) hd (by omega)), Octal_yes _ _ _ (octO_pos d (y % 2097152) hd (by omega)), ?_, rfl, ?_, rfl⟩
  · rw [Lib.toList_data, Lib.toList_data]
    exact bas_less d x y (by omega) (by omega)
  · rw [Lib.toList_data, Lib.toList_data]
    exact oct_less d (x % 2097152) (y % 2097152) (by omega) (by omega)

theorem numOrder_8 (a0 a1 X Y : Int) (w : World) (wide : Bool) (hwide : wide = false) (hx : a0 / 256 = X) (hy : a1 / 256 = Y) (ha : 0 ≤ a0 ∧ a0 ≤ 18446744073709551615) (hb : 0 ≤ a1 ∧ a1 ≤ 18446744073709551615) (hx1 : 0 ≤ X) (hx2 : X < 72057594037927936) (hy1 : 0 ≤ Y) (hy2 : Y < 72057594037927936) :
    Calls Try.prog 6 #[.int .u64 a0, .int .u64 a1, .bool wide] w fun e w' => e = .returned (.bool true) ∧ Below w.heap.size w w' := by
  subst hwide
  obtain ⟨p, q, s, t, b1, b2, h1, h2, h3, h4, h5, h6, h7, h8⟩ := numOrder_core X.toNat Y.toNat 7 (.inl rfl) (by omega) (by omega)
  rw [Int.toNat_of_nonneg hx1] at h1 h3 h6 h8
  rw [Int.toNat_of_nonneg hy1] at h2 h4 h6 h8
  have H1 := Lib.hid h1
  have H2 := Lib.hid h2
  have H3 := Lib.hid h3
  have H4 := Lib.hid h4
  have H5 := Lib.hid (fun W => Octal_no (-1 - X) 8 (octO_neg _ _ (by omega)) W)
  clear h1 h2 h3 h4
  go_enter Try.func6, Try.ntmps6
  go_wp2_with fail
  refine (H1.out _).mono ?_
  rintro e w1 ⟨rfl, hb1⟩
  go_wp2_with fail
  refine (H2.out _).mono ?_
  rintro e w2 ⟨rfl, hb2⟩
  go_wp2_with fail
  refine (H3.out _).mono ?_
  rintro e w3 ⟨rfl, hb3⟩
  go_wp2_with fail
  refine (H4.out _).mono ?_
  rintro e w4 ⟨rfl, hb4⟩
  go_wp2_with fail
  refine (H5.out _).mono ?_
  rintro e w5 ⟨rfl, hb5⟩
  go_wp2_with fail
  refine (awake_true _).mono ?_
  rintro e w6 ⟨rfl, hb6⟩
  go_wp2_with fail
  go_ret
  exact ⟨rfl, bthen (bthen (bthen (bthen (bthen hb1 hb2) hb3) hb4) hb5) hb6⟩
theorem numOrder_12 (a0 a1 X Y : Int) (w : World) (wide : Bool) (hwide : wide = true) (hx : a0 / 256 = X) (hy : a1 / 256 = Y) (ha : 0 ≤ a0 ∧ a0 ≤ 18446744073709551615) (hb : 0 ≤ a1 ∧ a1 ≤ 18446744073709551615) (hx1 : 0 ≤ X) (hx2 : X < 72057594037927936) (hy1 : 0 ≤ Y) (hy2 : Y < 72057594037927936) :
    Calls Try.prog 6 #[.int .u64 a0, .int .u64 a1, .bool wide] w fun e w' => e = .returned (.bool true) ∧ Below w.heap.size w w' := by
  subst hwide
  obtain ⟨p, q, s, t, b1, b2, h1, h2, h3, h4, h5, h6, h7, h8⟩ := numOrder_core X.toNat Y.toNat 11 (.inr rfl) (by omega) (by omega)
  rw [Int.toNat_of_nonneg hx1] at h1 h3 h6 h8
  rw [Int.toNat_of_nonneg hy1] at h2 h4 h6 h8
  have H1 := Lib.hid h1
  have H2 := Lib.hid h2
  have H3 := Lib.hid h3
  have H4 := Lib.hid h4
  have H5 := Lib.hid (fun W => Octal_no (-1 - X) 12 (octO_neg _ _ (by omega)) W)
  clear h1 h2 h3 h4
  go_enter Try.func6, Try.ntmps6
  go_wp2_with fail
  refine (H1.out _).mono ?_
  rintro e w1 ⟨rfl, hb1⟩
  go_wp2_with fail
  refine (H2.out _).mono ?_
  rintro e w2 ⟨rfl, hb2⟩
  go_wp2_with fail
  refine (H3.out _).mono ?_
  rintro e w3 ⟨rfl, hb3⟩
  go_wp2_with fail
  refine (H4.out _).mono ?_
  rintro e w4 ⟨rfl, hb4⟩
  go_wp2_with fail
  refine (H5.out _).mono ?_
  rintro e w5 ⟨rfl, hb5⟩
  go_wp2_with fail
  refine (awake_true _).mono ?_
  rintro e w6 ⟨rfl, hb6⟩
  go_wp2_with fail
  go_ret
  exact ⟨rfl, bthen (bthen (bthen (bthen (bthen hb1 hb2) hb3) hb4) hb5) hb6⟩
theorem numOrder_walk (a0 : Int) (a1 : Int) (a2 : Bool) (w : World) (w0 : (Lit.int .u64 a0).wf = true) (w1 : (Lit.int .u64 a1).wf = true) :
    Calls Try.prog 6 #[.int .u64 a0, .int .u64 a1, .bool a2] w fun e w' => e = .returned (.bool true) ∧ Below w.heap.size w w' := by
  have ha := boundsU64 w0
  have hb := boundsU64 w1
  rcases a2 with _ | _
  · exact numOrder_8 a0 a1 _ _ w _ rfl rfl rfl ha hb (by omega) (by omega) (by omega) (by omega)
  · exact numOrder_12 a0 a1 _ _ w _ rfl rfl rfl ha hb (by omega) (by omega) (by omega) (by omega)
end Go.Proofs.Ytdjphejeaonpgaa
