/- Walks over package num: octal. -/
import Derived.Test.YtkkmhfgfkjeooaaNumWalk
namespace Go.Proofs.Ytkkmhfgfkjeooaa
open Go.RowKit
open NumM

/-- The row of the field of width d + 1, behind j digits. -/
def oRow (d n j : Nat) : List UInt8 := List.replicate (d - j) 0 ++ digs j n ++ [0]
theorem oRow_length (d n j : Nat) (h : j ≤ d) : (oRow d n j).length = d + 1 := by simp [oRow, digs_length]; omega
theorem oRow_at (d n j k : Nat) (h : j + k + 1 = d) : (oRow d n j)[k]? = some 0 := by
  unfold oRow
  rw [List.append_assoc, List.getElem?_append_left (by simp; omega), List.getElem?_replicate, if_pos (by omega)]
theorem oRow_set (d n j k : Nat) (h : j + k + 1 = d) : (oRow d n j).set k (UInt8.ofNat (48 + n / 8 ^ j % 8)) = oRow d n (j + 1) := by
  unfold oRow
  rw [digs_cons, List.append_assoc, List.set_append_left _ _ (by simp; omega)]
  have h1 : d - j = k + 1 := by omega
  have h2 : d - (j + 1) = k := by omega
  rw [h1, h2, List.replicate_succ', List.set_append_right _ _ (by simp)]
  simp

theorem digit_and (m : Nat) (h : m < 9223372036854775808) : bits .and .i64 (m : Int) 7 = ((m % 8 : Nat) : Int) := by
  have := and_i64 m 7 h (by omega)
  rw [Nat.and_two_pow_sub_one_eq_mod m 3] at this
  exact this

theorem oct_eight (n : Nat) (w : World) (h1 : n < 2097152) :
    Calls Try.prog 66 #[.int .i64 n, .int .i64 8] w fun e w' => e = .returned (.string ⟨(digs 7 n ++ [0]).toArray⟩) ∧ Below w.heap.size w w' := by
  have hmk : ∀ w, (Instr.makeSlice 43 (.int .i64 8) (.int .i64 8)).run Try.prog w = .ok (.slice (some ⟨w.heap.size, 0, none⟩) 8 8) (w.alloc (.cells (cellsOf (oRow 7 n 0)) 5)) := fun _ => by kernel_rfl
  have h2 : ((n : Int) / 2097152 != 0) = false := by simp; omega
  have h3 : decide ((n : Int) < 0) = false := by simp
  go_enter Try.func66, Try.ntmps66
  go_wp2_with (go_at_call 80; refine (checkWidth_ok 8 (by decide) _).mono ?_; rintro e w' ⟨rfl, rfl⟩)
  go_loopw [0, 7] (fun nv iv wr => ∃ j k : Nat, j + k = 7 ∧ nv = .int .i64 ((n / 8 ^ j : Nat) : Int) ∧ iv = .int .i64 ((k : Int) - 1) ∧ BlkIs wr w.heap.size 5 (cellsOf (oRow 7 n j)) ∧ Below w.heap.size w wr) (fun _ iv _ => (intOf iv + 1).toNat)
  case atStart => exact ⟨0, 7, rfl, by simp, rfl, BlkIs.made _ _ _, (Below.refl _ _).alloc (Nat.le_refl _) _⟩
  case round =>
    obtain ⟨j, k, hjk, hn, hi, hb, hbl⟩ := hrel
    rcases k with _ | k
    · obtain rfl : j = 7 := by omega
      rw [show (((0 : Nat) : Int) - 1) = -1 from rfl] at hi
      subst hi hn
      have hcv := conv_back (P := Try.prog) (src := 43) (dst := 9) (oRow 7 n 7) 8 hb Try.underlying43 Try.underlying5 Try.underlying9
      rw [oRow_length 7 n 7 (Nat.le_refl _)] at hcv
      clear hb hmk
      go_wp2
      go_ret
      exact ⟨ret_str (by simp [oRow]), hbl⟩
    · rw [show (((k + 1 : Nat) : Int) - 1) = (k : Int) from by omega] at hi
      subst hi
      have hlt : n / 8 ^ j < 2097152 := Nat.lt_of_le_of_lt (Nat.div_le_self _ _) h1
      have hs := oRow_set 7 n j k (by omega)
      have hc := hb.cell_some k (.int .u8 0) (by rw [cellsOf_at, oRow_at 7 n j k (by omega)]; rfl)
      have hf := hb.free k
      have Hb := hb.put k (.int .u8 ((UInt8.ofNat (48 + n / 8 ^ j % 8)).toNat : Int))
      rw [cellsOf_set, hs] at Hb
      have hd : (UInt8.ofNat (48 + n / 8 ^ j % 8)).toNat = 48 + n / 8 ^ j % 8 := by simp; omega
      rw [hd] at Hb
      have hnx : n / 8 ^ (j + 1) = n / 8 ^ j / 8 := by rw [Nat.div_div_eq_div_mul, Nat.pow_succ]
      have Hnx := Lib.hid hnx
      clear hb hs hd hnx
      generalize n / 8 ^ j = m at *
      subst hn
      have hand := digit_and m (by omega)
      have hm8 : m % 8 < 8 := Nat.mod_lt _ (by omega)
      have hk : k < 8 := by omega
      go_wp2
      all_goals
        go_roundw
        case rel => exact ⟨j + 1, k, by omega, by rw [Hnx.out]; go_num, by go_num, Hb, hbl.setCell (Nat.le_refl _) _⟩
        case measure => simp [intOf]
theorem oct_twelve (n : Nat) (w : World) (h1 : n < 8589934592) :
    Calls Try.prog 66 #[.int .i64 n, .int .i64 12] w fun e w' => e = .returned (.string ⟨(digs 11 n ++ [0]).toArray⟩) ∧ Below w.heap.size w w' := by
  have hmk : ∀ w, (Instr.makeSlice 43 (.int .i64 12) (.int .i64 12)).run Try.prog w = .ok (.slice (some ⟨w.heap.size, 0, none⟩) 12 12) (w.alloc (.cells (cellsOf (oRow 11 n 0)) 5)) := fun _ => by kernel_rfl
  have h2 : ((n : Int) / 8589934592 != 0) = false := by simp; omega
  have h3 : decide ((n : Int) < 0) = false := by simp
  go_enter Try.func66, Try.ntmps66
  go_wp2_with (go_at_call 80; refine (checkWidth_ok 12 (by decide) _).mono ?_; rintro e w' ⟨rfl, rfl⟩)
  go_loopw [0, 7] (fun nv iv wr => ∃ j k : Nat, j + k = 11 ∧ nv = .int .i64 ((n / 8 ^ j : Nat) : Int) ∧ iv = .int .i64 ((k : Int) - 1) ∧ BlkIs wr w.heap.size 5 (cellsOf (oRow 11 n j)) ∧ Below w.heap.size w wr) (fun _ iv _ => (intOf iv + 1).toNat)
  case atStart => exact ⟨0, 11, rfl, by simp, rfl, BlkIs.made _ _ _, (Below.refl _ _).alloc (Nat.le_refl _) _⟩
  case round =>
    obtain ⟨j, k, hjk, hn, hi, hb, hbl⟩ := hrel
    rcases k with _ | k
    · obtain rfl : j = 11 := by omega
      rw [show (((0 : Nat) : Int) - 1) = -1 from rfl] at hi
      subst hi hn
      have hcv := conv_back (P := Try.prog) (src := 43) (dst := 9) (oRow 11 n 11) 12 hb Try.underlying43 Try.underlying5 Try.underlying9
      rw [oRow_length 11 n 11 (Nat.le_refl _)] at hcv
      clear hb hmk
      go_wp2
      go_ret
      exact ⟨ret_str (by simp [oRow]), hbl⟩
    · rw [show (((k + 1 : Nat) : Int) - 1) = (k : Int) from by omega] at hi
      subst hi
      have hlt : n / 8 ^ j < 8589934592 := Nat.lt_of_le_of_lt (Nat.div_le_self _ _) h1
      have hs := oRow_set 11 n j k (by omega)
      have hc := hb.cell_some k (.int .u8 0) (by rw [cellsOf_at, oRow_at 11 n j k (by omega)]; rfl)
      have hf := hb.free k
      have Hb := hb.put k (.int .u8 ((UInt8.ofNat (48 + n / 8 ^ j % 8)).toNat : Int))
      rw [cellsOf_set, hs] at Hb
      have hd : (UInt8.ofNat (48 + n / 8 ^ j % 8)).toNat = 48 + n / 8 ^ j % 8 := by simp; omega
      rw [hd] at Hb
      have hnx : n / 8 ^ (j + 1) = n / 8 ^ j / 8 := by rw [Nat.div_div_eq_div_mul, Nat.pow_succ]
      have Hnx := Lib.hid hnx
      clear hb hs hd hnx
      generalize n / 8 ^ j = m at *
      subst hn
      have hand := digit_and m (by omega)
      have hm8 : m % 8 < 8 := Nat.mod_lt _ (by omega)
      have hk : k < 12 := by omega
      go_wp2
      all_goals
        go_roundw
        case rel => exact ⟨j + 1, k, by omega, by rw [Hnx.out]; go_num, by go_num, Hb, hbl.setCell (Nat.le_refl _) _⟩
        case measure => simp [intOf]

theorem oct_bad (n v : Int) (hv : isW v = false) (w : World) :
    Calls Try.prog 66 #[.int .i64 n, .int .i64 v] w fun e w' => e = noFieldPanic ∧ Below w.heap.size w w' := by
  go_enter Try.func66, Try.ntmps66
  go_wp2_with (go_at_call 80; refine (checkWidth_no v hv _).mono ?_; rintro e w' ⟨rfl, rfl⟩)
  exact ⟨rfl, rfl, Below.refl _ _⟩

theorem oct_neg (n v : Int) (hv : isW v = true) (hn : n < 0) (w : World) :
    Calls Try.prog 66 #[.int .i64 n, .int .i64 v] w fun e w' => e = noFieldPanic ∧ Below w.heap.size w w' := by
  have h3 : decide (n < 0) = true := by simpa using hn
  have h : v = 8 ∨ v = 12 := by simpa [isW] using hv
  clear hv
  rcases h with rfl | rfl
  all_goals
    go_enter Try.func66, Try.ntmps66
    go_wp2_with (go_at_call 80; refine (checkWidth_ok _ (by decide) _).mono ?_; rintro e w' ⟨rfl, rfl⟩)
    exact ⟨rfl, rfl, Below.refl _ _⟩

theorem oct_big (n v : Int) (hv : isW v = true) (hn : 8 ^ (v.toNat - 1) ≤ n) (w : World) :
    Calls Try.prog 66 #[.int .i64 n, .int .i64 v] w fun e w' => e = noFieldPanic ∧ Below w.heap.size w w' := by
  have h : v = 8 ∨ v = 12 := by simpa [isW] using hv
  clear hv
  rcases h with rfl | rfl
  · have hn' : 2097152 ≤ n := hn
    clear hn
    have h3 : decide (n < 0) = false := by simp; omega
    have h2 : (n / 2097152 != 0) = true := by simp; omega
    go_enter Try.func66, Try.ntmps66
    go_wp2_with (go_at_call 80; refine (checkWidth_ok _ (by decide) _).mono ?_; rintro e w' ⟨rfl, rfl⟩)
    exact ⟨rfl, rfl, Below.refl _ _⟩
  · have hn' : 8589934592 ≤ n := hn
    clear hn
    have h3 : decide (n < 0) = false := by simp; omega
    have h2 : (n / 8589934592 != 0) = true := by simp; omega
    go_enter Try.func66, Try.ntmps66
    go_wp2_with (go_at_call 80; refine (checkWidth_ok _ (by decide) _).mono ?_; rintro e w' ⟨rfl, rfl⟩)
    exact ⟨rfl, rfl, Below.refl _ _⟩

theorem octO_bad (n v : Int) (h : isW v = false) : octO n v = none := by simp [octO, h]
theorem octO_neg (n v : Int) (h : n < 0) : octO n v = none := by simp [octO]; omega
theorem octO_big (n v : Int) (h : 8 ^ (v.toNat - 1) ≤ n) : octO n v = none := by simp [octO]; omega

/-- octal: the field, or num's panic. -/
theorem octal_yes (n v : Int) (l : List UInt8) (h : octO n v = some l) (w : World) :
    Calls Try.prog 66 #[.int .i64 n, .int .i64 v] w fun e w' => e = .returned (.string ⟨l.toArray⟩) ∧ Below w.heap.size w w' := by
  unfold octO at h
  split at h
  · rename_i hc
    injection h with h
    subst h
    simp only [Bool.and_eq_true, decide_eq_true_eq] at hc
    obtain ⟨⟨hv, h0⟩, h1⟩ := hc
    obtain ⟨m, rfl⟩ := Int.eq_ofNat_of_zero_le h0
    have h : v = 8 ∨ v = 12 := by simpa [isW] using hv
    rcases h with rfl | rfl
    · exact oct_eight m w (by have h2 : (m : Int) < 2097152 := h1; omega)
    · exact oct_twelve m w (by have h2 : (m : Int) < 8589934592 := h1; omega)
  · cases h
theorem octal_no (n v : Int) (h : octO n v = none) (w : World) :
    Calls Try.prog 66 #[.int .i64 n, .int .i64 v] w fun e w' => e = noFieldPanic ∧ Below w.heap.size w w' := by
  rcases hv : isW v with _ | _
  · exact oct_bad n v hv w
  · by_cases h0 : n < 0
    · exact oct_neg n v hv h0 w
    · refine oct_big n v hv ?_ w
      by_cases h1 : n < 8 ^ (v.toNat - 1)
      · have h2 : 0 ≤ n := by omega
        simp [octO, hv, h2, h1] at h
      · omega
end Go.Proofs.Ytkkmhfgfkjeooaa
