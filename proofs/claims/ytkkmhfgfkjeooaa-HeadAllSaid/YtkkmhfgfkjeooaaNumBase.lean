/- Walks over package num: base. -/
import Derived.Test.YtkkmhfgfkjeooaaNumOctal
namespace Go.Proofs.Ytkkmhfgfkjeooaa
open Go.RowKit
open NumM

/-- The row of a binary field of d + 1 bytes, behind j bytes. -/
def bRow (h : UInt8) (d : Nat) (n : Int) (j : Nat) : List UInt8 := h :: (List.replicate (d - j) 0 ++ bes j n)
theorem bRow_length (h : UInt8) (d : Nat) (n : Int) (j : Nat) (hj : j ≤ d) : (bRow h d n j).length = d + 1 := by simp [bRow, bes_length]; omega
theorem bRow_at (h : UInt8) (d : Nat) (n : Int) (j k : Nat) (hk : j + k + 1 = d) : (bRow h d n j)[k + 1]? = some 0 := by
  unfold bRow
  rw [List.getElem?_cons_succ, List.getElem?_append_left (by simp; omega), List.getElem?_replicate, if_pos (by omega)]
theorem bRow_set (h : UInt8) (d : Nat) (n : Int) (j k : Nat) (hk : j + k + 1 = d) : (bRow h d n j).set (k + 1) (UInt8.ofNat (n / 256 ^ j % 256).toNat) = bRow h d n (j + 1) := by
  unfold bRow
  rw [bes_cons, List.set_cons_succ, List.set_append_left _ _ (by simp; omega)]
  have h1 : d - j = k + 1 := by omega
  have h2 : d - (j + 1) = k := by omega
  rw [h1, h2, List.replicate_succ', List.set_append_right _ _ (by simp)]
  simp
theorem byte_of (m : Int) : ((UInt8.ofNat (m % 256).toNat).toNat : Int) = m % 256 := by
  have h1 := Int.emod_nonneg m (b := 256) (by decide)
  have h2 := Int.emod_lt_of_pos m (b := 256) (by decide)
  simp; omega
theorem shr_step (n : Int) (j : Nat) : n / 256 ^ (j + 1) = n / 256 ^ j / 256 := by
  rw [Int.pow_succ, Int.ediv_ediv_of_nonneg (Int.pow_nonneg (by decide))]

theorem base8p (n : Int) (w : World) (h0 : 0 ≤ n) (hx : n < 72057594037927936) :
    Calls Try.prog 79 #[.int .i64 n, .int .i64 8] w fun e w' => e = .returned (.string ⟨(128 :: bes 7 n).toArray⟩) ∧ Below w.heap.size w w' := by
  have hmk : ∀ w, (Instr.makeSlice 43 (.int .i64 8) (.int .i64 8)).run Try.prog w = .ok (.slice (some ⟨w.heap.size, 0, none⟩) 8 8) (w.alloc (.cells (cellsOf (bRow 0 7 n 0)) 5)) := fun _ => by kernel_rfl
  have h1 : decide (n < 0) = false := by simpa using h0
  have h2 : (n / 72057594037927936 != 0) = false := by simp; omega
  have hz0 : (cellsOf (bRow 0 7 n 0))[0]? = some (.int .u8 0) := rfl
  go_enter Try.func79, Try.ntmps79
  go_wp2_with (go_at_call 80; refine (checkWidth_ok 8 (by decide) _).mono ?_; rintro e w' ⟨rfl, rfl⟩)
  go_loopw [0, 7] (fun nv iv wr => ∃ j k : Nat, j + k = 7 ∧ nv = .int .i64 (n / 256 ^ j) ∧ iv = .int .i64 (k : Int) ∧ BlkIs wr w.heap.size 5 (cellsOf (bRow 128 7 n j)) ∧ Below w.heap.size w wr) (fun _ iv _ => (intOf iv).toNat)
  case atStart => exact ⟨0, 7, rfl, by simp, rfl, (by have h := BlkIs.made w 5 ((cellsOf (bRow 0 7 n 0)).setIfInBounds 0 (.int .u8 ((128 : UInt8).toNat : Int))); rw [cellsOf_set] at h; exact h), (Below.refl _ _).alloc (Nat.le_refl _) _⟩
  case round =>
    obtain ⟨j, k, hjk, hn, hi, hb, hbl⟩ := hrel
    rcases k with _ | k
    · obtain rfl : j = 7 := by omega
      rw [show ((0 : Nat) : Int) = 0 from rfl] at hi
      subst hi hn
      have hcv := conv_back (P := Try.prog) (src := 43) (dst := 9) (bRow 128 7 n 7) 8 hb Try.underlying43 Try.underlying5 Try.underlying9
      rw [bRow_length 128 7 n 7 (Nat.le_refl _)] at hcv
      clear hb hmk
      go_wp2
      go_ret
      exact ⟨ret_str (by simp [bRow]), hbl⟩
    · rw [show ((k + 1 : Nat) : Int) = (k : Int) + 1 from rfl] at hi
      subst hi
      have hs := bRow_set 128 7 n j k (by omega)
      have hc := hb.cell_some (k + 1) (.int .u8 0) (by rw [cellsOf_at, bRow_at 128 7 n j k (by omega)]; rfl)
      have hf := hb.free (k + 1)
      have Hb := hb.put (k + 1) (.int .u8 ((UInt8.ofNat (n / 256 ^ j % 256).toNat).toNat : Int))
      rw [cellsOf_set, hs, byte_of] at Hb
      have Hnx := Lib.hid (shr_step n j)
      clear hb hs
      generalize n / 256 ^ j = m at *
      subst hn
      have hk : k + 1 < 8 := by omega
      go_wp2
      all_goals
        go_roundw
        case rel => exact ⟨j + 1, k, by omega, by rw [Hnx.out], rfl, Hb, hbl.setCell (Nat.le_refl _) _⟩
        case measure => simp [intOf]

theorem base8n (n : Int) (w : World) (h0 : n < 0) (hx : -72057594037927936 ≤ n) :
    Calls Try.prog 79 #[.int .i64 n, .int .i64 8] w fun e w' => e = .returned (.string ⟨(255 :: bes 7 n).toArray⟩) ∧ Below w.heap.size w w' := by
  have hmk : ∀ w, (Instr.makeSlice 43 (.int .i64 8) (.int .i64 8)).run Try.prog w = .ok (.slice (some ⟨w.heap.size, 0, none⟩) 8 8) (w.alloc (.cells (cellsOf (bRow 0 7 n 0)) 5)) := fun _ => by kernel_rfl
  have h1 : decide (n < 0) = true := by simpa using h0
  have h2 : (n / 72057594037927936 != 0) = true := by simp; omega
  have h3 : (n / 72057594037927936 != -1) = false := by simp; omega
  have hz0 : (cellsOf (bRow 0 7 n 0))[0]? = some (.int .u8 0) := rfl
  go_enter Try.func79, Try.ntmps79
  go_wp2_with (go_at_call 80; refine (checkWidth_ok 8 (by decide) _).mono ?_; rintro e w' ⟨rfl, rfl⟩)
  go_loopw [0, 7] (fun nv iv wr => ∃ j k : Nat, j + k = 7 ∧ nv = .int .i64 (n / 256 ^ j) ∧ iv = .int .i64 (k : Int) ∧ BlkIs wr w.heap.size 5 (cellsOf (bRow 255 7 n j)) ∧ Below w.heap.size w wr) (fun _ iv _ => (intOf iv).toNat)
  case atStart => exact ⟨0, 7, rfl, by simp, rfl, (by have h := BlkIs.made w 5 ((cellsOf (bRow 0 7 n 0)).setIfInBounds 0 (.int .u8 ((255 : UInt8).toNat : Int))); rw [cellsOf_set] at h; exact h), (Below.refl _ _).alloc (Nat.le_refl _) _⟩
  case round =>
    obtain ⟨j, k, hjk, hn, hi, hb, hbl⟩ := hrel
    rcases k with _ | k
    · obtain rfl : j = 7 := by omega
      rw [show ((0 : Nat) : Int) = 0 from rfl] at hi
      subst hi hn
      have hcv := conv_back (P := Try.prog) (src := 43) (dst := 9) (bRow 255 7 n 7) 8 hb Try.underlying43 Try.underlying5 Try.underlying9
      rw [bRow_length 255 7 n 7 (Nat.le_refl _)] at hcv
      clear hb hmk
      go_wp2
      go_ret
      exact ⟨ret_str (by simp [bRow]), hbl⟩
    · rw [show ((k + 1 : Nat) : Int) = (k : Int) + 1 from rfl] at hi
      subst hi
      have hs := bRow_set 255 7 n j k (by omega)
      have hc := hb.cell_some (k + 1) (.int .u8 0) (by rw [cellsOf_at, bRow_at 255 7 n j k (by omega)]; rfl)
      have hf := hb.free (k + 1)
      have Hb := hb.put (k + 1) (.int .u8 ((UInt8.ofNat (n / 256 ^ j % 256).toNat).toNat : Int))
      rw [cellsOf_set, hs, byte_of] at Hb
      have Hnx := Lib.hid (shr_step n j)
      clear hb hs
      generalize n / 256 ^ j = m at *
      subst hn
      have hk : k + 1 < 8 := by omega
      go_wp2
      all_goals
        go_roundw
        case rel => exact ⟨j + 1, k, by omega, by rw [Hnx.out], rfl, Hb, hbl.setCell (Nat.le_refl _) _⟩
        case measure => simp [intOf]

theorem base12p (n : Int) (w : World) (h0 : 0 ≤ n) :
    Calls Try.prog 79 #[.int .i64 n, .int .i64 12] w fun e w' => e = .returned (.string ⟨(128 :: bes 11 n).toArray⟩) ∧ Below w.heap.size w w' := by
  have hmk : ∀ w, (Instr.makeSlice 43 (.int .i64 12) (.int .i64 12)).run Try.prog w = .ok (.slice (some ⟨w.heap.size, 0, none⟩) 12 12) (w.alloc (.cells (cellsOf (bRow 0 11 n 0)) 5)) := fun _ => by kernel_rfl
  have h1 : decide (n < 0) = false := by simpa using h0
  have hz0 : (cellsOf (bRow 0 11 n 0))[0]? = some (.int .u8 0) := rfl
  go_enter Try.func79, Try.ntmps79
  go_wp2_with (go_at_call 80; refine (checkWidth_ok 12 (by decide) _).mono ?_; rintro e w' ⟨rfl, rfl⟩)
  go_loopw [0, 7] (fun nv iv wr => ∃ j k : Nat, j + k = 11 ∧ nv = .int .i64 (n / 256 ^ j) ∧ iv = .int .i64 (k : Int) ∧ BlkIs wr w.heap.size 5 (cellsOf (bRow 128 11 n j)) ∧ Below w.heap.size w wr) (fun _ iv _ => (intOf iv).toNat)
  case atStart => exact ⟨0, 11, rfl, by simp, rfl, (by have h := BlkIs.made w 5 ((cellsOf (bRow 0 11 n 0)).setIfInBounds 0 (.int .u8 ((128 : UInt8).toNat : Int))); rw [cellsOf_set] at h; exact h), (Below.refl _ _).alloc (Nat.le_refl _) _⟩
  case round =>
    obtain ⟨j, k, hjk, hn, hi, hb, hbl⟩ := hrel
    rcases k with _ | k
    · obtain rfl : j = 11 := by omega
      rw [show ((0 : Nat) : Int) = 0 from rfl] at hi
      subst hi hn
      have hcv := conv_back (P := Try.prog) (src := 43) (dst := 9) (bRow 128 11 n 11) 12 hb Try.underlying43 Try.underlying5 Try.underlying9
      rw [bRow_length 128 11 n 11 (Nat.le_refl _)] at hcv
      clear hb hmk
      go_wp2
      go_ret
      exact ⟨ret_str (by simp [bRow]), hbl⟩
    · rw [show ((k + 1 : Nat) : Int) = (k : Int) + 1 from rfl] at hi
      subst hi
      have hs := bRow_set 128 11 n j k (by omega)
      have hc := hb.cell_some (k + 1) (.int .u8 0) (by rw [cellsOf_at, bRow_at 128 11 n j k (by omega)]; rfl)
      have hf := hb.free (k + 1)
      have Hb := hb.put (k + 1) (.int .u8 ((UInt8.ofNat (n / 256 ^ j % 256).toNat).toNat : Int))
      rw [cellsOf_set, hs, byte_of] at Hb
      have Hnx := Lib.hid (shr_step n j)
      clear hb hs
      generalize n / 256 ^ j = m at *
      subst hn
      have hk : k + 1 < 12 := by omega
      go_wp2
      all_goals
        go_roundw
        case rel => exact ⟨j + 1, k, by omega, by rw [Hnx.out], rfl, Hb, hbl.setCell (Nat.le_refl _) _⟩
        case measure => simp [intOf]

theorem base12n (n : Int) (w : World) (h0 : n < 0) :
    Calls Try.prog 79 #[.int .i64 n, .int .i64 12] w fun e w' => e = .returned (.string ⟨(255 :: bes 11 n).toArray⟩) ∧ Below w.heap.size w w' := by
  have hmk : ∀ w, (Instr.makeSlice 43 (.int .i64 12) (.int .i64 12)).run Try.prog w = .ok (.slice (some ⟨w.heap.size, 0, none⟩) 12 12) (w.alloc (.cells (cellsOf (bRow 0 11 n 0)) 5)) := fun _ => by kernel_rfl
  have h1 : decide (n < 0) = true := by simpa using h0
  have hz0 : (cellsOf (bRow 0 11 n 0))[0]? = some (.int .u8 0) := rfl
  go_enter Try.func79, Try.ntmps79
  go_wp2_with (go_at_call 80; refine (checkWidth_ok 12 (by decide) _).mono ?_; rintro e w' ⟨rfl, rfl⟩)
  go_loopw [0, 7] (fun nv iv wr => ∃ j k : Nat, j + k = 11 ∧ nv = .int .i64 (n / 256 ^ j) ∧ iv = .int .i64 (k : Int) ∧ BlkIs wr w.heap.size 5 (cellsOf (bRow 255 11 n j)) ∧ Below w.heap.size w wr) (fun _ iv _ => (intOf iv).toNat)
  case atStart => exact ⟨0, 11, rfl, by simp, rfl, (by have h := BlkIs.made w 5 ((cellsOf (bRow 0 11 n 0)).setIfInBounds 0 (.int .u8 ((255 : UInt8).toNat : Int))); rw [cellsOf_set] at h; exact h), (Below.refl _ _).alloc (Nat.le_refl _) _⟩
  case round =>
    obtain ⟨j, k, hjk, hn, hi, hb, hbl⟩ := hrel
    rcases k with _ | k
    · obtain rfl : j = 11 := by omega
      rw [show ((0 : Nat) : Int) = 0 from rfl] at hi
      subst hi hn
      have hcv := conv_back (P := Try.prog) (src := 43) (dst := 9) (bRow 255 11 n 11) 12 hb Try.underlying43 Try.underlying5 Try.underlying9
      rw [bRow_length 255 11 n 11 (Nat.le_refl _)] at hcv
      clear hb hmk
      go_wp2
      go_ret
      exact ⟨ret_str (by simp [bRow]), hbl⟩
    · rw [show ((k + 1 : Nat) : Int) = (k : Int) + 1 from rfl] at hi
      subst hi
      have hs := bRow_set 255 11 n j k (by omega)
      have hc := hb.cell_some (k + 1) (.int .u8 0) (by rw [cellsOf_at, bRow_at 255 11 n j k (by omega)]; rfl)
      have hf := hb.free (k + 1)
      have Hb := hb.put (k + 1) (.int .u8 ((UInt8.ofNat (n / 256 ^ j % 256).toNat).toNat : Int))
      rw [cellsOf_set, hs, byte_of] at Hb
      have Hnx := Lib.hid (shr_step n j)
      clear hb hs
      generalize n / 256 ^ j = m at *
      subst hn
      have hk : k + 1 < 12 := by omega
      go_wp2
      all_goals
        go_roundw
        case rel => exact ⟨j + 1, k, by omega, by rw [Hnx.out], rfl, Hb, hbl.setCell (Nat.le_refl _) _⟩
        case measure => simp [intOf]

theorem base_bad (n v : Int) (hv : isW v = false) (w : World) :
    Calls Try.prog 79 #[.int .i64 n, .int .i64 v] w fun e w' => e = noFieldPanic ∧ Below w.heap.size w w' := by
  go_enter Try.func79, Try.ntmps79
  go_wp2_with (go_at_call 80; refine (checkWidth_no v hv _).mono ?_; rintro e w' ⟨rfl, rfl⟩)
  exact ⟨rfl, rfl, Below.refl _ _⟩
theorem base_far (n : Int) (hn : n < -72057594037927936 ∨ 72057594037927936 ≤ n) (w : World) :
    Calls Try.prog 79 #[.int .i64 n, .int .i64 8] w fun e w' => e = noFieldPanic ∧ Below w.heap.size w w' := by
  have h2 : (n / 72057594037927936 != 0) = true := by simp; omega
  have h3 : (n / 72057594037927936 != -1) = true := by simp; omega
  clear hn
  go_enter Try.func79, Try.ntmps79
  go_wp2_with (go_at_call 80; refine (checkWidth_ok _ (by decide) _).mono ?_; rintro e w' ⟨rfl, rfl⟩)
  exact ⟨rfl, rfl, Below.refl _ _⟩

/-- base: the field, or num's panic. -/
theorem base_yes (n v : Int) (l : List UInt8) (h : basO n v = some l) (w : World) :
    Calls Try.prog 79 #[.int .i64 n, .int .i64 v] w fun e w' => e = .returned (.string ⟨l.toArray⟩) ∧ Below w.heap.size w w' := by
  unfold basO at h
  split at h
  · rename_i hc
    injection h with h
    subst h
    simp only [Bool.and_eq_true, Bool.or_eq_true, decide_eq_true_eq, beq_iff_eq] at hc
    obtain ⟨hv, hr⟩ := hc
    have h : v = 8 ∨ v = 12 := by simpa [isW] using hv
    rcases h with rfl | rfl
    · by_cases h0 : n < 0
      · rw [if_pos h0]
        exact base8n n w h0 (by omega)
      · rw [if_neg h0]
        exact base8p n w (by omega) (by omega)
    · by_cases h0 : n < 0
      · rw [if_pos h0]
        exact base12n n w h0
      · rw [if_neg h0]
        exact base12p n w (by omega)
  · cases h
theorem base_no (n v : Int) (h : basO n v = none) (w : World) :
    Calls Try.prog 79 #[.int .i64 n, .int .i64 v] w fun e w' => e = noFieldPanic ∧ Below w.heap.size w w' := by
  rcases hv : isW v with _ | _
  · exact base_bad n v hv w
  · have hv' : v = 8 ∨ v = 12 := by simpa [isW] using hv
    rcases hv' with rfl | rfl
    · refine base_far n ?_ w
      simp [basO, hv] at h
      omega
    · simp [basO, hv] at h
end Go.Proofs.Ytkkmhfgfkjeooaa
