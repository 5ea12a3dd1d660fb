/- Walks over the document's answer for package num: Base, Field. -/
import Derived.Test.YtbhnhoenjoagbaaGreatDoorPk05
import Derived.Test.YtbhnhoenjoagbaaGreatDoorPk02
namespace Go.Proofs.YtbhnhoenjoagbaaGreatDoor.HeadW
open Go.RowKit
open NumM
set_option linter.unusedVariables false

def fRow (h : UInt8) (L : List UInt8) (j : Nat) : List UInt8 := h :: (L.take j ++ List.replicate (L.length - j) 0)
theorem fRow_length (h : UInt8) (L : List UInt8) (j : Nat) (hj : j ≤ L.length) : (fRow h L j).length = L.length + 1 := by simp [fRow]; omega
theorem fRow_at (h : UInt8) (L : List UInt8) (j : Nat) (hj : j < L.length) : (fRow h L j)[j + 1]? = some 0 := by
  unfold fRow
  rw [List.getElem?_cons_succ, List.getElem?_append_right (by simp; omega), List.getElem?_replicate, if_pos (by simp; omega)]
theorem fRow_set (h : UInt8) (L : List UInt8) (j : Nat) (b : UInt8) (hb : L[j]? = some b) : (fRow h L j).set (j + 1) b = fRow h L (j + 1) := by
  have hj : j < L.length := (List.getElem?_eq_some_iff.1 hb).1
  have hb' : L[j] = b := (List.getElem?_eq_some_iff.1 hb).2
  unfold fRow
  rw [List.set_cons_succ, List.set_append_right _ _ (by simp; omega)]
  have h1 : L.length - j = (L.length - (j + 1)) + 1 := by omega
  rw [h1, List.replicate_succ, List.take_succ_eq_append_getElem hj, hb']
  have h2 : j - (L.take j).length = 0 := by simp; omega
  rw [h2]
  simp
theorem fRow_same (h : UInt8) (L : List UInt8) (j : Nat) (hb : L[j]? = some 0) : fRow h L (j + 1) = fRow h L j := by
  rw [← fRow_set h L j 0 hb]
  have hj : j < L.length := (List.getElem?_eq_some_iff.1 hb).1
  have := fRow_at h L j hj
  obtain ⟨h1, h2⟩ := List.getElem?_eq_some_iff.1 this
  conv => lhs; rw [← h2]
  exact List.set_getElem_self h1
theorem bes_at (d : Nat) (n : Int) (j : Nat) (hj : j < d) : (bes d n)[j]? = some (UInt8.ofNat (n / 256 ^ (d - 1 - j) % 256).toNat) := by
  induction d generalizing j with
  | zero => omega
  | succ d ih =>
    rw [bes_cons]
    rcases j with _ | j
    · simp
    · rw [List.getElem?_cons_succ, ih j (by omega)]
      congr 6
      omega
theorem high_byte (n : Int) (hn : -9223372036854775808 ≤ n ∧ n ≤ 9223372036854775807) (e : Nat) (he : 8 ≤ e) : n / 256 ^ e = if n < 0 then -1 else 0 := by
  obtain ⟨k, rfl⟩ : ∃ k, e = 8 + k := ⟨e - 8, by omega⟩
  rw [Int.pow_add, ← Int.ediv_ediv_of_nonneg (by decide)]
  have h1 : (n / 256 ^ 8 = if n < 0 then -1 else 0) := by
    have : (256 : Int) ^ 8 = 18446744073709551616 := by decide
    rw [this]
    split <;> omega
  rw [h1]
  have hp : (0 : Int) < 256 ^ k := Int.pow_pos (by decide)
  split
  · show Int.negSucc 0 / _ = _
    rw [Int.negSucc_ediv 0 hp]
    show -((0 : Int) / 256 ^ k + 1) = -1
    rw [Int.zero_ediv]; rfl
  · exact Int.zero_ediv _

set_option maxHeartbeats 1600000 in
theorem refBase8_p (n : Int) (w : World) (hn : -9223372036854775808 ≤ n ∧ n ≤ 9223372036854775807) (h0 : 0 ≤ n) (hx : n < 72057594037927936) :
    Calls Tryz.prog 97 #[.int .i64 n, .int .i64 8] w fun e w' => e = .returned (saidOf (some (128 :: bes 7 n))) ∧ Below w.heap.size w w' := by
  have hmk : ∀ w, (Instr.makeSlice 49 (.int .i64 8) (.int .i64 8)).run Tryz.prog w = .ok (.slice (some ⟨w.heap.size, 0, none⟩) 8 8) (w.alloc (.cells (cellsOf (fRow 0 (bes 7 n) 0)) 5)) := fun _ => by kernel_rfl
  have hz0 : (cellsOf (fRow 0 (bes 7 n) 0))[0]? = some (.int .u8 0) := rfl
  have h1 : decide (n < 0) = false := by simpa using h0
  have h2 : decide (72057594037927936 ≤ n) = false := by simpa using hx
  have h3 : decide (n < -72057594037927936) = false := by simp; omega
  go_enter Tryz.func97, Tryz.ntmps97
  go_wp2_with fail
  go_loopw [6] (fun iv wr => ∃ j : Nat, j ≤ 7 ∧ iv = .int .i64 ((j + 1 : Nat) : Int) ∧ BlkIs wr (w.heap.size + 1) 5 (cellsOf (fRow 128 (bes 7 n) j)) ∧ BlkIs wr w.heap.size 72 #[.string { data := #[] }, .bool false] ∧ Below w.heap.size w wr) (fun iv _ => 8 - (intOf iv).toNat)
  case atStart =>
    refine ⟨0, by omega, rfl, ?_, ?_, ?_⟩
    · exact BlkIs.made_at _ _ _ _ _ (by simp) (cellsOf_set (fRow 0 (bes 7 n) 0) 0 128)
    · exact (BlkIs.made w 72 #[.string { data := #[] }, .bool false]).alloc _
    · exact ((Below.refl _ _).alloc (Nat.le_refl _) _).alloc (by simp) _
  case round =>
    obtain ⟨j, hj, hi, hb, hs, hbl⟩ := hrel
    have hgs := hs.size
    by_cases hlt : j < 7
    · have hL : (bes 7 n).length = 7 := bes_length _ _
      have hc := hb.cell_some (j + 1) (.int .u8 0) (by rw [cellsOf_at, fRow_at _ _ _ (by omega)]; rfl)
      have hf := hb.free (j + 1)
      have Hb := hb.put (j + 1) (.int .u8 ((UInt8.ofNat (n / 256 ^ (7 - 1 - j) % 256).toNat).toNat : Int))
      rw [cellsOf_set, fRow_set _ _ _ _ (bes_at 7 n j hlt), byte_of] at Hb
      have Hs := hs.other (p := ⟨w.heap.size + 1, j + 1, none⟩) (by simp) (.int .u8 (n / 256 ^ (7 - 1 - j) % 256))
      have Hbl := hbl.setCell (p := ⟨w.heap.size + 1, j + 1, none⟩) (by simp) (.int .u8 (n / 256 ^ (7 - 1 - j) % 256))

      have HR : ∀ W, BlkIs W (w.heap.size + 1) 5 (cellsOf (fRow 128 (bes 7 n) (j + 1))) → BlkIs W w.heap.size 72 #[.string { data := #[] }, .bool false] → Below w.heap.size w W →
          ∃ j' : Nat, j' ≤ 7 ∧ Value.int .i64 (((j + 1 : Nat) : Int) + 1) = .int .i64 ((j' + 1 : Nat) : Int) ∧ BlkIs W (w.heap.size + 1) 5 (cellsOf (fRow 128 (bes 7 n) j')) ∧ BlkIs W w.heap.size 72 #[.string { data := #[] }, .bool false] ∧ Below w.heap.size w W :=
        fun W a b c => ⟨j + 1, by omega, rfl, a, b, c⟩
      have Hr := Lib.hid HR
      clear HR hmk hz0 hb hs hL hn h0 hx
      generalize hP : (256 : Int) ^ (7 - 1 - j) = P at *
      generalize hI : ((j + 1 : Nat) : Int) = I at *
      generalize ho : j + 1 = o at *
      have hcs : j = 0 ∨ j = 1 ∨ j = 2 ∨ j = 3 ∨ j = 4 ∨ j = 5 ∨ j = 6 := by omega
      rcases hcs with rfl | rfl | rfl | rfl | rfl | rfl | rfl
      all_goals
        simp at hP hI ho
        subst hP hI ho hi
        try simp only [Int.ediv_one] at Hb Hs Hbl
        go_wp2
        all_goals
          go_roundw
          case rel => exact Hr.out _ Hb Hs Hbl
          case measure => simp [intOf]
    · obtain rfl : j = 7 := by omega
      rw [show (((7 + 1 : Nat) : Nat) : Int) = 8 from rfl] at hi
      subst hi
      have hcv := conv_back (P := Tryz.prog) (src := 49) (dst := 9) (fRow 128 (bes 7 n) 7) 8 hb Tryz.underlying49 Tryz.underlying5 Tryz.underlying9
      rw [fRow_length _ _ _ (by rw [bes_length]; exact Nat.le_refl _), bes_length] at hcv
      have he : fRow 128 (bes 7 n) 7 = 128 :: bes 7 n := by simp [fRow, bes_length, List.take_of_length_le]
      rw [he] at hcv
      have hc0 := hs.cell_some 0 (.string { data := #[] }) rfl
      have hc1 := hs.cell_some 1 (.bool false) rfl
      have hf0 := hs.free 0
      have hf1 := hs.free 1
      clear hb hs hmk hz0 hlt he
      go_wp2
      refine bodyPost_ret (v := .agg #[.string ⟨(128 :: bes 7 n).toArray⟩, .bool true]) (by simp [results, Tryz.results97, go_sem, hc0, hc1]) rfl ⟨rfl, ?_⟩
      exact (hbl.setCell (Nat.le_refl _) _).setCell (Nat.le_refl _) _

set_option maxHeartbeats 1600000 in
theorem refBase8_n (n : Int) (w : World) (hn : -9223372036854775808 ≤ n ∧ n ≤ 9223372036854775807) (h0 : n < 0) (hx : -72057594037927936 ≤ n) :
    Calls Tryz.prog 97 #[.int .i64 n, .int .i64 8] w fun e w' => e = .returned (saidOf (some (255 :: bes 7 n))) ∧ Below w.heap.size w w' := by
  have hmk : ∀ w, (Instr.makeSlice 49 (.int .i64 8) (.int .i64 8)).run Tryz.prog w = .ok (.slice (some ⟨w.heap.size, 0, none⟩) 8 8) (w.alloc (.cells (cellsOf (fRow 0 (bes 7 n) 0)) 5)) := fun _ => by kernel_rfl
  have hz0 : (cellsOf (fRow 0 (bes 7 n) 0))[0]? = some (.int .u8 0) := rfl
  have h1 : decide (n < 0) = true := by simpa using h0
  have h2 : decide (72057594037927936 ≤ n) = false := by simp; omega
  have h3 : decide (n < -72057594037927936) = false := by simpa using hx
  go_enter Tryz.func97, Tryz.ntmps97
  go_wp2_with fail
  go_loopw [6] (fun iv wr => ∃ j : Nat, j ≤ 7 ∧ iv = .int .i64 ((j + 1 : Nat) : Int) ∧ BlkIs wr (w.heap.size + 1) 5 (cellsOf (fRow 255 (bes 7 n) j)) ∧ BlkIs wr w.heap.size 72 #[.string { data := #[] }, .bool false] ∧ Below w.heap.size w wr) (fun iv _ => 8 - (intOf iv).toNat)
  case atStart =>
    refine ⟨0, by omega, rfl, ?_, ?_, ?_⟩
    · exact BlkIs.made_at _ _ _ _ _ (by simp) (cellsOf_set (fRow 0 (bes 7 n) 0) 0 255)
    · exact (BlkIs.made w 72 #[.string { data := #[] }, .bool false]).alloc _
    · exact ((Below.refl _ _).alloc (Nat.le_refl _) _).alloc (by simp) _
  case round =>
    obtain ⟨j, hj, hi, hb, hs, hbl⟩ := hrel
    have hgs := hs.size
    by_cases hlt : j < 7
    · have hL : (bes 7 n).length = 7 := bes_length _ _
      have hc := hb.cell_some (j + 1) (.int .u8 0) (by rw [cellsOf_at, fRow_at _ _ _ (by omega)]; rfl)
      have hf := hb.free (j + 1)
      have Hb := hb.put (j + 1) (.int .u8 ((UInt8.ofNat (n / 256 ^ (7 - 1 - j) % 256).toNat).toNat : Int))
      rw [cellsOf_set, fRow_set _ _ _ _ (bes_at 7 n j hlt), byte_of] at Hb
      have Hs := hs.other (p := ⟨w.heap.size + 1, j + 1, none⟩) (by simp) (.int .u8 (n / 256 ^ (7 - 1 - j) % 256))
      have Hbl := hbl.setCell (p := ⟨w.heap.size + 1, j + 1, none⟩) (by simp) (.int .u8 (n / 256 ^ (7 - 1 - j) % 256))

      have HR : ∀ W, BlkIs W (w.heap.size + 1) 5 (cellsOf (fRow 255 (bes 7 n) (j + 1))) → BlkIs W w.heap.size 72 #[.string { data := #[] }, .bool false] → Below w.heap.size w W →
          ∃ j' : Nat, j' ≤ 7 ∧ Value.int .i64 (((j + 1 : Nat) : Int) + 1) = .int .i64 ((j' + 1 : Nat) : Int) ∧ BlkIs W (w.heap.size + 1) 5 (cellsOf (fRow 255 (bes 7 n) j')) ∧ BlkIs W w.heap.size 72 #[.string { data := #[] }, .bool false] ∧ Below w.heap.size w W :=
        fun W a b c => ⟨j + 1, by omega, rfl, a, b, c⟩
      have Hr := Lib.hid HR
      clear HR hmk hz0 hb hs hL hn h0 hx
      generalize hP : (256 : Int) ^ (7 - 1 - j) = P at *
      generalize hI : ((j + 1 : Nat) : Int) = I at *
      generalize ho : j + 1 = o at *
      have hcs : j = 0 ∨ j = 1 ∨ j = 2 ∨ j = 3 ∨ j = 4 ∨ j = 5 ∨ j = 6 := by omega
      rcases hcs with rfl | rfl | rfl | rfl | rfl | rfl | rfl
      all_goals
        simp at hP hI ho
        subst hP hI ho hi
        try simp only [Int.ediv_one] at Hb Hs Hbl
        go_wp2
        all_goals
          go_roundw
          case rel => exact Hr.out _ Hb Hs Hbl
          case measure => simp [intOf]
    · obtain rfl : j = 7 := by omega
      rw [show (((7 + 1 : Nat) : Nat) : Int) = 8 from rfl] at hi
      subst hi
      have hcv := conv_back (P := Tryz.prog) (src := 49) (dst := 9) (fRow 255 (bes 7 n) 7) 8 hb Tryz.underlying49 Tryz.underlying5 Tryz.underlying9
      rw [fRow_length _ _ _ (by rw [bes_length]; exact Nat.le_refl _), bes_length] at hcv
      have he : fRow 255 (bes 7 n) 7 = 255 :: bes 7 n := by simp [fRow, bes_length, List.take_of_length_le]
      rw [he] at hcv
      have hc0 := hs.cell_some 0 (.string { data := #[] }) rfl
      have hc1 := hs.cell_some 1 (.bool false) rfl
      have hf0 := hs.free 0
      have hf1 := hs.free 1
      clear hb hs hmk hz0 hlt he
      go_wp2
      refine bodyPost_ret (v := .agg #[.string ⟨(255 :: bes 7 n).toArray⟩, .bool true]) (by simp [results, Tryz.results97, go_sem, hc0, hc1]) rfl ⟨rfl, ?_⟩
      exact (hbl.setCell (Nat.le_refl _) _).setCell (Nat.le_refl _) _

set_option maxHeartbeats 1600000 in
theorem refBase12_p (n : Int) (w : World) (hn : -9223372036854775808 ≤ n ∧ n ≤ 9223372036854775807) (h0 : 0 ≤ n) :
    Calls Tryz.prog 97 #[.int .i64 n, .int .i64 12] w fun e w' => e = .returned (saidOf (some (128 :: bes 11 n))) ∧ Below w.heap.size w w' := by
  have hmk : ∀ w, (Instr.makeSlice 49 (.int .i64 12) (.int .i64 12)).run Tryz.prog w = .ok (.slice (some ⟨w.heap.size, 0, none⟩) 12 12) (w.alloc (.cells (cellsOf (fRow 0 (bes 11 n) 0)) 5)) := fun _ => by kernel_rfl
  have hz0 : (cellsOf (fRow 0 (bes 11 n) 0))[0]? = some (.int .u8 0) := rfl
  have h1 : decide (n < 0) = false := by simpa using h0
  go_enter Tryz.func97, Tryz.ntmps97
  go_wp2_with fail
  go_loopw [6] (fun iv wr => ∃ j : Nat, j ≤ 11 ∧ iv = .int .i64 ((j + 1 : Nat) : Int) ∧ BlkIs wr (w.heap.size + 1) 5 (cellsOf (fRow 128 (bes 11 n) j)) ∧ BlkIs wr w.heap.size 72 #[.string { data := #[] }, .bool false] ∧ Below w.heap.size w wr) (fun iv _ => 12 - (intOf iv).toNat)
  case atStart =>
    refine ⟨0, by omega, rfl, ?_, ?_, ?_⟩
    · exact BlkIs.made_at _ _ _ _ _ (by simp) (cellsOf_set (fRow 0 (bes 11 n) 0) 0 128)
    · exact (BlkIs.made w 72 #[.string { data := #[] }, .bool false]).alloc _
    · exact ((Below.refl _ _).alloc (Nat.le_refl _) _).alloc (by simp) _
  case round =>
    obtain ⟨j, hj, hi, hb, hs, hbl⟩ := hrel
    have hgs := hs.size
    by_cases hlt : j < 11
    · have hL : (bes 11 n).length = 11 := bes_length _ _
      have hc := hb.cell_some (j + 1) (.int .u8 0) (by rw [cellsOf_at, fRow_at _ _ _ (by omega)]; rfl)
      have hf := hb.free (j + 1)
      have Hb := hb.put (j + 1) (.int .u8 ((UInt8.ofNat (n / 256 ^ (11 - 1 - j) % 256).toNat).toNat : Int))
      rw [cellsOf_set, fRow_set _ _ _ _ (bes_at 11 n j hlt), byte_of] at Hb
      have Hs := hs.other (p := ⟨w.heap.size + 1, j + 1, none⟩) (by simp) (.int .u8 (n / 256 ^ (11 - 1 - j) % 256))
      have Hbl := hbl.setCell (p := ⟨w.heap.size + 1, j + 1, none⟩) (by simp) (.int .u8 (n / 256 ^ (11 - 1 - j) % 256))
      have Hsame : Hid (j ≤ 2 → BlkIs wr (w.heap.size + 1) 5 (cellsOf (fRow 128 (bes 11 n) (j + 1)))) := fun h => by
        rw [fRow_same _ _ _ (by
          rw [bes_at 11 n j hlt, high_byte n hn _ (by omega), if_neg (by omega)]; rfl)]
        exact hb
      have Hs0 := Lib.hid hs
      have Hbl0 := Lib.hid hbl
      have HR : ∀ W, BlkIs W (w.heap.size + 1) 5 (cellsOf (fRow 128 (bes 11 n) (j + 1))) → BlkIs W w.heap.size 72 #[.string { data := #[] }, .bool false] → Below w.heap.size w W →
          ∃ j' : Nat, j' ≤ 11 ∧ Value.int .i64 (((j + 1 : Nat) : Int) + 1) = .int .i64 ((j' + 1 : Nat) : Int) ∧ BlkIs W (w.heap.size + 1) 5 (cellsOf (fRow 128 (bes 11 n) j')) ∧ BlkIs W w.heap.size 72 #[.string { data := #[] }, .bool false] ∧ Below w.heap.size w W :=
        fun W a b c => ⟨j + 1, by omega, rfl, a, b, c⟩
      have Hr := Lib.hid HR
      clear HR hmk hz0 hb hs hL hn h0
      generalize hP : (256 : Int) ^ (11 - 1 - j) = P at *
      generalize hI : ((j + 1 : Nat) : Int) = I at *
      generalize ho : j + 1 = o at *
      have hcs : j = 0 ∨ j = 1 ∨ j = 2 ∨ j = 3 ∨ j = 4 ∨ j = 5 ∨ j = 6 ∨ j = 7 ∨ j = 8 ∨ j = 9 ∨ j = 10 := by omega
      rcases hcs with rfl | rfl | rfl | rfl | rfl | rfl | rfl | rfl | rfl | rfl | rfl
      all_goals
        simp at hP hI ho
        subst hP hI ho hi
        try simp only [Int.ediv_one] at Hb Hs Hbl
        go_wp2
        all_goals
          go_roundw
          case rel => first | exact Hr.out _ Hb Hs Hbl | exact Hr.out _ (Hsame.out (by decide)) Hs0.out Hbl0.out
          case measure => simp [intOf]
    · obtain rfl : j = 11 := by omega
      rw [show (((11 + 1 : Nat) : Nat) : Int) = 12 from rfl] at hi
      subst hi
      have hcv := conv_back (P := Tryz.prog) (src := 49) (dst := 9) (fRow 128 (bes 11 n) 11) 12 hb Tryz.underlying49 Tryz.underlying5 Tryz.underlying9
      rw [fRow_length _ _ _ (by rw [bes_length]; exact Nat.le_refl _), bes_length] at hcv
      have he : fRow 128 (bes 11 n) 11 = 128 :: bes 11 n := by simp [fRow, bes_length, List.take_of_length_le]
      rw [he] at hcv
      have hc0 := hs.cell_some 0 (.string { data := #[] }) rfl
      have hc1 := hs.cell_some 1 (.bool false) rfl
      have hf0 := hs.free 0
      have hf1 := hs.free 1
      clear hb hs hmk hz0 hlt he
      go_wp2
      refine bodyPost_ret (v := .agg #[.string ⟨(128 :: bes 11 n).toArray⟩, .bool true]) (by simp [results, Tryz.results97, go_sem, hc0, hc1]) rfl ⟨rfl, ?_⟩
      exact (hbl.setCell (Nat.le_refl _) _).setCell (Nat.le_refl _) _

set_option maxHeartbeats 1600000 in
theorem refBase12_n (n : Int) (w : World) (hn : -9223372036854775808 ≤ n ∧ n ≤ 9223372036854775807) (h0 : n < 0) :
    Calls Tryz.prog 97 #[.int .i64 n, .int .i64 12] w fun e w' => e = .returned (saidOf (some (255 :: bes 11 n))) ∧ Below w.heap.size w w' := by
  have hmk : ∀ w, (Instr.makeSlice 49 (.int .i64 12) (.int .i64 12)).run Tryz.prog w = .ok (.slice (some ⟨w.heap.size, 0, none⟩) 12 12) (w.alloc (.cells (cellsOf (fRow 0 (bes 11 n) 0)) 5)) := fun _ => by kernel_rfl
  have hz0 : (cellsOf (fRow 0 (bes 11 n) 0))[0]? = some (.int .u8 0) := rfl
  have h1 : decide (n < 0) = true := by simpa using h0
  go_enter Tryz.func97, Tryz.ntmps97
  go_wp2_with fail
  go_loopw [6] (fun iv wr => ∃ j : Nat, j ≤ 11 ∧ iv = .int .i64 ((j + 1 : Nat) : Int) ∧ BlkIs wr (w.heap.size + 1) 5 (cellsOf (fRow 255 (bes 11 n) j)) ∧ BlkIs wr w.heap.size 72 #[.string { data := #[] }, .bool false] ∧ Below w.heap.size w wr) (fun iv _ => 12 - (intOf iv).toNat)
  case atStart =>
    refine ⟨0, by omega, rfl, ?_, ?_, ?_⟩
    · exact BlkIs.made_at _ _ _ _ _ (by simp) (cellsOf_set (fRow 0 (bes 11 n) 0) 0 255)
    · exact (BlkIs.made w 72 #[.string { data := #[] }, .bool false]).alloc _
    · exact ((Below.refl _ _).alloc (Nat.le_refl _) _).alloc (by simp) _
  case round =>
    obtain ⟨j, hj, hi, hb, hs, hbl⟩ := hrel
    have hgs := hs.size
    by_cases hlt : j < 11
    · have hL : (bes 11 n).length = 11 := bes_length _ _
      have hc := hb.cell_some (j + 1) (.int .u8 0) (by rw [cellsOf_at, fRow_at _ _ _ (by omega)]; rfl)
      have hf := hb.free (j + 1)
      have Hb := hb.put (j + 1) (.int .u8 ((UInt8.ofNat (n / 256 ^ (11 - 1 - j) % 256).toNat).toNat : Int))
      rw [cellsOf_set, fRow_set _ _ _ _ (bes_at 11 n j hlt), byte_of] at Hb
      have Hs := hs.other (p := ⟨w.heap.size + 1, j + 1, none⟩) (by simp) (.int .u8 (n / 256 ^ (11 - 1 - j) % 256))
      have Hbl := hbl.setCell (p := ⟨w.heap.size + 1, j + 1, none⟩) (by simp) (.int .u8 (n / 256 ^ (11 - 1 - j) % 256))
      have H255 : Hid (j ≤ 2 → BlkIs (wr.setCell ⟨w.heap.size + 1, j + 1, none⟩ (.int .u8 255)) (w.heap.size + 1) 5 (cellsOf (fRow 255 (bes 11 n) (j + 1)))) := fun h => by
        have := hb.put (j + 1) (.int .u8 ((255 : UInt8).toNat : Int))
        rw [cellsOf_set, fRow_set _ _ _ 255 (by
          rw [bes_at 11 n j hlt, high_byte n hn _ (by omega), if_pos h0]; rfl)] at this
        exact this
      have Hs0 := Lib.hid (hs.other (p := ⟨w.heap.size + 1, j + 1, none⟩) (by simp) (.int .u8 255))
      have Hbl0 := Lib.hid (hbl.setCell (p := ⟨w.heap.size + 1, j + 1, none⟩) (by simp) (.int .u8 255))
      have HR : ∀ W, BlkIs W (w.heap.size + 1) 5 (cellsOf (fRow 255 (bes 11 n) (j + 1))) → BlkIs W w.heap.size 72 #[.string { data := #[] }, .bool false] → Below w.heap.size w W →
          ∃ j' : Nat, j' ≤ 11 ∧ Value.int .i64 (((j + 1 : Nat) : Int) + 1) = .int .i64 ((j' + 1 : Nat) : Int) ∧ BlkIs W (w.heap.size + 1) 5 (cellsOf (fRow 255 (bes 11 n) j')) ∧ BlkIs W w.heap.size 72 #[.string { data := #[] }, .bool false] ∧ Below w.heap.size w W :=
        fun W a b c => ⟨j + 1, by omega, rfl, a, b, c⟩
      have Hr := Lib.hid HR
      clear HR hmk hz0 hb hs hL hn h0
      generalize hP : (256 : Int) ^ (11 - 1 - j) = P at *
      generalize hI : ((j + 1 : Nat) : Int) = I at *
      generalize ho : j + 1 = o at *
      have hcs : j = 0 ∨ j = 1 ∨ j = 2 ∨ j = 3 ∨ j = 4 ∨ j = 5 ∨ j = 6 ∨ j = 7 ∨ j = 8 ∨ j = 9 ∨ j = 10 := by omega
      rcases hcs with rfl | rfl | rfl | rfl | rfl | rfl | rfl | rfl | rfl | rfl | rfl
      all_goals
        simp at hP hI ho
        subst hP hI ho hi
        try simp only [Int.ediv_one] at Hb Hs Hbl
        go_wp2
        all_goals
          go_roundw
          case rel => first | exact Hr.out _ Hb Hs Hbl | exact Hr.out _ (H255.out (by decide)) Hs0.out Hbl0.out
          case measure => simp [intOf]
    · obtain rfl : j = 11 := by omega
      rw [show (((11 + 1 : Nat) : Nat) : Int) = 12 from rfl] at hi
      subst hi
      have hcv := conv_back (P := Tryz.prog) (src := 49) (dst := 9) (fRow 255 (bes 11 n) 11) 12 hb Tryz.underlying49 Tryz.underlying5 Tryz.underlying9
      rw [fRow_length _ _ _ (by rw [bes_length]; exact Nat.le_refl _), bes_length] at hcv
      have he : fRow 255 (bes 11 n) 11 = 255 :: bes 11 n := by simp [fRow, bes_length, List.take_of_length_le]
      rw [he] at hcv
      have hc0 := hs.cell_some 0 (.string { data := #[] }) rfl
      have hc1 := hs.cell_some 1 (.bool false) rfl
      have hf0 := hs.free 0
      have hf1 := hs.free 1
      clear hb hs hmk hz0 hlt he
      go_wp2
      refine bodyPost_ret (v := .agg #[.string ⟨(255 :: bes 11 n).toArray⟩, .bool true]) (by simp [results, Tryz.results97, go_sem, hc0, hc1]) rfl ⟨rfl, ?_⟩
      exact (hbl.setCell (Nat.le_refl _) _).setCell (Nat.le_refl _) _

theorem refBase_bad (n v : Int) (w : World) (h : isW v = false) :
    Calls Tryz.prog 97 #[.int .i64 n, .int .i64 v] w fun e w' => e = .returned (saidOf none) ∧ Below w.heap.size w w' := by
  have h : v ≠ 8 ∧ v ≠ 12 := by simpa [isW] using h
  have h1 : (v != 8) = true := by simpa using h.1
  have h2 : (v != 12) = true := by simpa using h.2
  clear h
  go_enter Tryz.func97, Tryz.ntmps97
  go_wp2
  refine bodyPost_ret (v := .agg #[.string { data := #[] }, .bool false]) (by simp [results, Tryz.results97, go_sem]) rfl ⟨rfl, ?_⟩
  exact (Below.refl _ _).alloc (Nat.le_refl _) _
theorem refBase_far (n : Int) (w : World) (h : n < -72057594037927936 ∨ 72057594037927936 ≤ n) :
    Calls Tryz.prog 97 #[.int .i64 n, .int .i64 8] w fun e w' => e = .returned (saidOf none) ∧ Below w.heap.size w w' := by
  have hcase : decide (72057594037927936 ≤ n) = true ∨ (decide (72057594037927936 ≤ n) = false ∧ decide (n < -72057594037927936) = true) := by
    rcases h with h | h
    · right; refine ⟨?_, ?_⟩ <;> simp <;> omega
    · left; simpa using h
  clear h
  rcases hcase with h1 | ⟨h1, h2⟩
  all_goals
    go_enter Tryz.func97, Tryz.ntmps97
    go_wp2
    refine bodyPost_ret (v := .agg #[.string { data := #[] }, .bool false]) (by simp [results, Tryz.results97, go_sem]) rfl ⟨rfl, ?_⟩
    exact (Below.refl _ _).alloc (Nat.le_refl _) _

theorem refBase_any (n v : Int) (hn : -9223372036854775808 ≤ n ∧ n ≤ 9223372036854775807) (w : World) :
    Calls Tryz.prog 97 #[.int .i64 n, .int .i64 v] w fun e w' => e = .returned (saidOf (basO n v)) ∧ Below w.heap.size w w' := by
  rcases hb : basO n v with _ | l
  · rcases hv : isW v with _ | _
    · exact refBase_bad n v w hv
    · have hv' : v = 8 ∨ v = 12 := by simpa [isW] using hv
      rcases hv' with rfl | rfl
      · refine refBase_far n w ?_
        simp [basO, hv] at hb
        omega
      · simp [basO, hv] at hb
  · obtain ⟨d, rfl, hd, rfl⟩ := basO_form hb
    by_cases h0 : n < 0
    · rw [if_pos h0]
      rcases hd with ⟨rfl, h1, h2⟩ | rfl
      · exact refBase8_n n w hn h0 h1
      · exact refBase12_n n w hn h0
    · rw [if_neg h0]
      rcases hd with ⟨rfl, h1, h2⟩ | rfl
      · exact refBase8_p n w hn (by omega) h2
      · exact refBase12_p n w hn (by omega)

theorem refField_first (n v : Int) (b : ByteArray) (h1 : ∀ W, Calls Tryz.prog 96 #[.int .i64 n, .int .i64 v] W fun e w' => e = .returned (.agg #[.string b, .bool true]) ∧ Below W.heap.size W w') (w : World) :
    Calls Tryz.prog 34 #[.int .i64 n, .int .i64 v] w fun e w' => e = .returned (.agg #[.string b, .bool true]) ∧ Below w.heap.size w w' := by
  have H1 := Lib.hid h1; clear h1
  go_enter Tryz.func34, Tryz.ntmps34
  go_wp2_with fail
  refine (H1.out _).mono ?_
  rintro e w1 ⟨rfl, hb1⟩
  have hs1 := (BlkIs.made w 72 #[.string { data := #[] }, .bool false]).kept hb1 (by simp)
  have hb2 : Below w.heap.size w w1 := ((Below.refl _ _).alloc (Nat.le_refl _) _).trans (hb1.mono (by simp))
  have hsz := hs1.size
  have hc0 := hs1.cell_some 0 (.string { data := #[] }) rfl
  have hc1 := hs1.cell_some 1 (.bool false) rfl
  have hf0 := hs1.free 0
  have hf1 := hs1.free 1
  clear hb1 hs1
  go_wp2_with fail
  refine bodyPost_ret (v := .agg #[.string b, .bool true]) (by simp [results, Tryz.results34, go_sem, hc0, hc1, hsz]) rfl ⟨rfl, ?_⟩
  exact ((hb2.setCell (Nat.le_refl _) _).setCell (Nat.le_refl _) _).alloc (by simpa using hb2.size) _
theorem refField_second (n v : Int) (b0 b : ByteArray) (is : Bool) (h1 : ∀ W, Calls Tryz.prog 96 #[.int .i64 n, .int .i64 v] W fun e w' => e = .returned (.agg #[.string b0, .bool false]) ∧ Below W.heap.size W w')
    (h2 : ∀ W, Calls Tryz.prog 97 #[.int .i64 n, .int .i64 v] W fun e w' => e = .returned (.agg #[.string b, .bool is]) ∧ Below W.heap.size W w') (w : World) :
    Calls Tryz.prog 34 #[.int .i64 n, .int .i64 v] w fun e w' => e = .returned (.agg #[.string b, .bool is]) ∧ Below w.heap.size w w' := by
  have H1 := Lib.hid h1; clear h1
  have H2 := Lib.hid h2; clear h2
  go_enter Tryz.func34, Tryz.ntmps34
  go_wp2_with fail
  refine (H1.out _).mono ?_
  rintro e w1 ⟨rfl, hb1⟩
  have hs1 := (BlkIs.made w 72 #[.string { data := #[] }, .bool false]).kept hb1 (by simp)
  have hb2 : Below w.heap.size w w1 := ((Below.refl _ _).alloc (Nat.le_refl _) _).trans (hb1.mono (by simp))
  have hsz := hs1.size
  clear hb1
  go_wp2_with fail
  refine (H2.out _).mono ?_
  rintro e w2 ⟨rfl, hb3⟩
  have hs2 := (hs1.alloc _).kept hb3 (by simp; omega)
  have hb4 : Below w.heap.size w w2 := (hb2.alloc hb2.size _).trans (hb3.mono (by simp; omega))
  have hc0 := hs2.cell_some 0 (.string { data := #[] }) rfl
  have hc1 := hs2.cell_some 1 (.bool false) rfl
  have hf0 := hs2.free 0
  have hf1 := hs2.free 1
  clear hb2 hb3 hs1 hs2 hsz
  go_wp2_with fail
  refine bodyPost_ret (v := .agg #[.string b, .bool is]) (by simp [results, Tryz.results34, go_sem, hc0, hc1]) rfl ⟨rfl, ?_⟩
  exact (hb4.setCell (Nat.le_refl _) _).setCell (Nat.le_refl _) _

theorem refField_any (n v : Int) (hn : -9223372036854775808 ≤ n ∧ n ≤ 9223372036854775807) (w : World) :
    Calls Tryz.prog 34 #[.int .i64 n, .int .i64 v] w fun e w' => e = .returned (saidOf (fieldO n v)) ∧ Below w.heap.size w w' := by
  rcases ho : octO n v with _ | l
  · have hf : fieldO n v = basO n v := by simp [fieldO, ho]
    rw [hf]
    have h1 := fun W => refOctal_any n v hn.2 W
    rw [ho] at h1
    exact refField_second n v _ _ _ h1 (fun W => refBase_any n v hn W) w
  · have hf : fieldO n v = some l := by simp [fieldO, ho]
    rw [hf]
    have h1 := fun W => refOctal_any n v hn.2 W
    rw [ho] at h1
    exact refField_first n v _ h1 w
end Go.Proofs.YtbhnhoenjoagbaaGreatDoor.HeadW
