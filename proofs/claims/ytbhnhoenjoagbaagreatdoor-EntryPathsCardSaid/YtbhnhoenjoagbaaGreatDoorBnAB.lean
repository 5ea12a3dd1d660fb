/- Bundle of 6 texts. -/
import Derived.Test.YtbhnhoenjoagbaaGreatDoorBnAA
import Derived.Defers
import Derived.Recover
import Derived.Lib.Strings
/- Walks over package num: base. -/
namespace Go.Proofs.YtbhnhoenjoagbaaGreatDoor.HeadW
open Go.RowKit
open NumM

/-- The row of a binary field of d + 1 bytes, behind j bytes. -/
def bRow (h : UInt8) (d : Nat) (n : Int) (j : Nat) : List UInt8 := h :: (List.replicate (d - j) 0 ++ bes j n)
theorem bRow_length (h : UInt8) (d : Nat) (n : Int) (j : Nat) (hj : j ≤ d) : (bRow h d n j).length = d + 1 := by simp [bRow, bes_length]; omega
theorem bRow_at (h : UInt8) (d : Nat) (n : Int) (j k : Nat) (hk : j + k + 1 = d) : (bRow h d n j)[k + 1]? = some 0 := by
  unfold bRow
  rw [List.getElem?_cons_succ, List.getElem?_append_left (by simp; omega), List.getElem?_replicate, if_pos (by omega)]
theorem bRow_set (h : UInt8) (d : Nat) (n : Int) (j k : Nat) (hk : j + k + 1 = d) : (bRow h d n j).set (k + 1) (UInt8.ofNat (n / 256 ^ j % 256).toNat) = bRow h d n (j + 1) := by
  unfold bRow
  rw [bes_cons, List.set_cons_succ, List.set_append_left _ _ (by simp; omega)]
  have h1 : d - j = k + 1 := by omega
  have h2 : d - (j + 1) = k := by omega
  rw [h1, h2, List.replicate_succ', List.set_append_right _ _ (by simp)]
  simp
theorem byte_of (m : Int) : ((UInt8.ofNat (m % 256).toNat).toNat : Int) = m % 256 := by
  have h1 := Int.emod_nonneg m (b := 256) (by decide)
  have h2 := Int.emod_lt_of_pos m (b := 256) (by decide)
  simp; omega
theorem shr_step (n : Int) (j : Nat) : n / 256 ^ (j + 1) = n / 256 ^ j / 256 := by
  rw [Int.pow_succ, Int.ediv_ediv_of_nonneg (Int.pow_nonneg (by decide))]

theorem base8p (n : Int) (w : World) (h0 : 0 ≤ n) (hx : n < 72057594037927936) :
    Calls Tryz.prog 294 #[.int .i64 n, .int .i64 8] w fun e w' => e = .returned (.string ⟨(128 :: bes 7 n).toArray⟩) ∧ Below w.heap.size w w' := by
  have hmk : ∀ w, (Instr.makeSlice 49 (.int .i64 8) (.int .i64 8)).run Tryz.prog w = .ok (.slice (some ⟨w.heap.size, 0, none⟩) 8 8) (w.alloc (.cells (cellsOf (bRow 0 7 n 0)) 5)) := fun _ => by kernel_rfl
  have h1 : decide (n < 0) = false := by simpa using h0
  have h2 : (n / 72057594037927936 != 0) = false := by simp; omega
  have hz0 : (cellsOf (bRow 0 7 n 0))[0]? = some (.int .u8 0) := rfl
  go_enter Tryz.func294, Tryz.ntmps294
  go_wp2_with (go_at_call 295; refine (checkWidth_ok 8 (by decide) _).mono ?_; rintro e w' ⟨rfl, rfl⟩)
  go_loopw [0, 7] (fun nv iv wr => ∃ j k : Nat, j + k = 7 ∧ nv = .int .i64 (n / 256 ^ j) ∧ iv = .int .i64 (k : Int) ∧ BlkIs wr w.heap.size 5 (cellsOf (bRow 128 7 n j)) ∧ Below w.heap.size w wr) (fun _ iv _ => (intOf iv).toNat)
  case atStart => exact ⟨0, 7, rfl, by simp, rfl, (by have h := BlkIs.made w 5 ((cellsOf (bRow 0 7 n 0)).setIfInBounds 0 (.int .u8 ((128 : UInt8).toNat : Int))); rw [cellsOf_set] at h; exact h), (Below.refl _ _).alloc (Nat.le_refl _) _⟩
  case round =>
    obtain ⟨j, k, hjk, hn, hi, hb, hbl⟩ := hrel
    rcases k with _ | k
    · obtain rfl : j = 7 := by omega
      rw [show ((0 : Nat) : Int) = 0 from rfl] at hi
      subst hi hn
      have hcv := conv_back (P := Tryz.prog) (src := 49) (dst := 9) (bRow 128 7 n 7) 8 hb Tryz.underlying49 Tryz.underlying5 Tryz.underlying9
      rw [bRow_length 128 7 n 7 (Nat.le_refl _)] at hcv
      clear hb hmk
      go_wp2
      go_ret
      exact ⟨ret_str (by simp [bRow]), hbl⟩
    · rw [show ((k + 1 : Nat) : Int) = (k : Int) + 1 from rfl] at hi
      subst hi
      have hs := bRow_set 128 7 n j k (by omega)
      have hc := hb.cell_some (k + 1) (.int .u8 0) (by rw [cellsOf_at, bRow_at 128 7 n j k (by omega)]; rfl)
      have hf := hb.free (k + 1)
      have Hb := hb.put (k + 1) (.int .u8 ((UInt8.ofNat (n / 256 ^ j % 256).toNat).toNat : Int))
      rw [cellsOf_set, hs, byte_of] at Hb
      have Hnx := Lib.hid (shr_step n j)
      clear hb hs
      generalize n / 256 ^ j = m at *
      subst hn
      have hk : k + 1 < 8 := by omega
      go_wp2
      all_goals
        go_roundw
        case rel => exact ⟨j + 1, k, by omega, by rw [Hnx.out], rfl, Hb, hbl.setCell (Nat.le_refl _) _⟩
        case measure => simp [intOf]

theorem base8n (n : Int) (w : World) (h0 : n < 0) (hx : -72057594037927936 ≤ n) :
    Calls Tryz.prog 294 #[.int .i64 n, .int .i64 8] w fun e w' => e = .returned (.string ⟨(255 :: bes 7 n).toArray⟩) ∧ Below w.heap.size w w' := by
  have hmk : ∀ w, (Instr.makeSlice 49 (.int .i64 8) (.int .i64 8)).run Tryz.prog w = .ok (.slice (some ⟨w.heap.size, 0, none⟩) 8 8) (w.alloc (.cells (cellsOf (bRow 0 7 n 0)) 5)) := fun _ => by kernel_rfl
  have h1 : decide (n < 0) = true := by simpa using h0
  have h2 : (n / 72057594037927936 != 0) = true := by simp; omega
  have h3 : (n / 72057594037927936 != -1) = false := by simp; omega
  have hz0 : (cellsOf (bRow 0 7 n 0))[0]? = some (.int .u8 0) := rfl
  go_enter Tryz.func294, Tryz.ntmps294
  go_wp2_with (go_at_call 295; refine (checkWidth_ok 8 (by decide) _).mono ?_; rintro e w' ⟨rfl, rfl⟩)
  go_loopw [0, 7] (fun nv iv wr => ∃ j k : Nat, j + k = 7 ∧ nv = .int .i64 (n / 256 ^ j) ∧ iv = .int .i64 (k : Int) ∧ BlkIs wr w.heap.size 5 (cellsOf (bRow 255 7 n j)) ∧ Below w.heap.size w wr) (fun _ iv _ => (intOf iv).toNat)
  case atStart => exact ⟨0, 7, rfl, by simp, rfl, (by have h := BlkIs.made w 5 ((cellsOf (bRow 0 7 n 0)).setIfInBounds 0 (.int .u8 ((255 : UInt8).toNat : Int))); rw [cellsOf_set] at h; exact h), (Below.refl _ _).alloc (Nat.le_refl _) _⟩
  case round =>
    obtain ⟨j, k, hjk, hn, hi, hb, hbl⟩ := hrel
    rcases k with _ | k
    · obtain rfl : j = 7 := by omega
      rw [show ((0 : Nat) : Int) = 0 from rfl] at hi
      subst hi hn
      have hcv := conv_back (P := Tryz.prog) (src := 49) (dst := 9) (bRow 255 7 n 7) 8 hb Tryz.underlying49 Tryz.underlying5 Tryz.underlying9
      rw [bRow_length 255 7 n 7 (Nat.le_refl _)] at hcv
      clear hb hmk
      go_wp2
      go_ret
      exact ⟨ret_str (by simp [bRow]), hbl⟩
    · rw [show ((k + 1 : Nat) : Int) = (k : Int) + 1 from rfl] at hi
      subst hi
      have hs := bRow_set 255 7 n j k (by omega)
      have hc := hb.cell_some (k + 1) (.int .u8 0) (by rw [cellsOf_at, bRow_at 255 7 n j k (by omega)]; rfl)
      have hf := hb.free (k + 1)
      have Hb := hb.put (k + 1) (.int .u8 ((UInt8.ofNat (n / 256 ^ j % 256).toNat).toNat : Int))
      rw [cellsOf_set, hs, byte_of] at Hb
      have Hnx := Lib.hid (shr_step n j)
      clear hb hs
      generalize n / 256 ^ j = m at *
      subst hn
      have hk : k + 1 < 8 := by omega
      go_wp2
      all_goals
        go_roundw
        case rel => exact ⟨j + 1, k, by omega, by rw [Hnx.out], rfl, Hb, hbl.setCell (Nat.le_refl _) _⟩
        case measure => simp [intOf]

theorem base12p (n : Int) (w : World) (h0 : 0 ≤ n) :
    Calls Tryz.prog 294 #[.int .i64 n, .int .i64 12] w fun e w' => e = .returned (.string ⟨(128 :: bes 11 n).toArray⟩) ∧ Below w.heap.size w w' := by
  have hmk : ∀ w, (Instr.makeSlice 49 (.int .i64 12) (.int .i64 12)).run Tryz.prog w = .ok (.slice (some ⟨w.heap.size, 0, none⟩) 12 12) (w.alloc (.cells (cellsOf (bRow 0 11 n 0)) 5)) := fun _ => by kernel_rfl
  have h1 : decide (n < 0) = false := by simpa using h0
  have hz0 : (cellsOf (bRow 0 11 n 0))[0]? = some (.int .u8 0) := rfl
  go_enter Tryz.func294, Tryz.ntmps294
  go_wp2_with (go_at_call 295; refine (checkWidth_ok 12 (by decide) _).mono ?_; rintro e w' ⟨rfl, rfl⟩)
  go_loopw [0, 7] (fun nv iv wr => ∃ j k : Nat, j + k = 11 ∧ nv = .int .i64 (n / 256 ^ j) ∧ iv = .int .i64 (k : Int) ∧ BlkIs wr w.heap.size 5 (cellsOf (bRow 128 11 n j)) ∧ Below w.heap.size w wr) (fun _ iv _ => (intOf iv).toNat)
  case atStart => exact ⟨0, 11, rfl, by simp, rfl, (by have h := BlkIs.made w 5 ((cellsOf (bRow 0 11 n 0)).setIfInBounds 0 (.int .u8 ((128 : UInt8).toNat : Int))); rw [cellsOf_set] at h; exact h), (Below.refl _ _).alloc (Nat.le_refl _) _⟩
  case round =>
    obtain ⟨j, k, hjk, hn, hi, hb, hbl⟩ := hrel
    rcases k with _ | k
    · obtain rfl : j = 11 := by omega
      rw [show ((0 : Nat) : Int) = 0 from rfl] at hi
      subst hi hn
      have hcv := conv_back (P := Tryz.prog) (src := 49) (dst := 9) (bRow 128 11 n 11) 12 hb Tryz.underlying49 Tryz.underlying5 Tryz.underlying9
      rw [bRow_length 128 11 n 11 (Nat.le_refl _)] at hcv
      clear hb hmk
      go_wp2
      go_ret
      exact ⟨ret_str (by simp [bRow]), hbl⟩
    · rw [show ((k + 1 : Nat) : Int) = (k : Int) + 1 from rfl] at hi
      subst hi
      have hs := bRow_set 128 11 n j k (by omega)
      have hc := hb.cell_some (k + 1) (.int .u8 0) (by rw [cellsOf_at, bRow_at 128 11 n j k (by omega)]; rfl)
      have hf := hb.free (k + 1)
      have Hb := hb.put (k + 1) (.int .u8 ((UInt8.ofNat (n / 256 ^ j % 256).toNat).toNat : Int))
      rw [cellsOf_set, hs, byte_of] at Hb
      have Hnx := Lib.hid (shr_step n j)
      clear hb hs
      generalize n / 256 ^ j = m at *
      subst hn
      have hk : k + 1 < 12 := by omega
      go_wp2
      all_goals
        go_roundw
        case rel => exact ⟨j + 1, k, by omega, by rw [Hnx.out], rfl, Hb, hbl.setCell (Nat.le_refl _) _⟩
        case measure => simp [intOf]

theorem base12n (n : Int) (w : World) (h0 : n < 0) :
    Calls Tryz.prog 294 #[.int .i64 n, .int .i64 12] w fun e w' => e = .returned (.string ⟨(255 :: bes 11 n).toArray⟩) ∧ Below w.heap.size w w' := by
  have hmk : ∀ w, (Instr.makeSlice 49 (.int .i64 12) (.int .i64 12)).run Tryz.prog w = .ok (.slice (some ⟨w.heap.size, 0, none⟩) 12 12) (w.alloc (.cells (cellsOf (bRow 0 11 n 0)) 5)) := fun _ => by kernel_rfl
  have h1 : decide (n < 0) = true := by simpa using h0
  have hz0 : (cellsOf (bRow 0 11 n 0))[0]? = some (.int .u8 0) := rfl
  go_enter Tryz.func294, Tryz.ntmps294
  go_wp2_with (go_at_call 295; refine (checkWidth_ok 12 (by decide) _).mono ?_; rintro e w' ⟨rfl, rfl⟩)
  go_loopw [0, 7] (fun nv iv wr => ∃ j k : Nat, j + k = 11 ∧ nv = .int .i64 (n / 256 ^ j) ∧ iv = .int .i64 (k : Int) ∧ BlkIs wr w.heap.size 5 (cellsOf (bRow 255 11 n j)) ∧ Below w.heap.size w wr) (fun _ iv _ => (intOf iv).toNat)
  case atStart => exact ⟨0, 11, rfl, by simp, rfl, (by have h := BlkIs.made w 5 ((cellsOf (bRow 0 11 n 0)).setIfInBounds 0 (.int .u8 ((255 : UInt8).toNat : Int))); rw [cellsOf_set] at h; exact h), (Below.refl _ _).alloc (Nat.le_refl _) _⟩
  case round =>
    obtain ⟨j, k, hjk, hn, hi, hb, hbl⟩ := hrel
    rcases k with _ | k
    · obtain rfl : j = 11 := by omega
      rw [show ((0 : Nat) : Int) = 0 from rfl] at hi
      subst hi hn
      have hcv := conv_back (P := Tryz.prog) (src := 49) (dst := 9) (bRow 255 11 n 11) 12 hb Tryz.underlying49 Tryz.underlying5 Tryz.underlying9
      rw [bRow_length 255 11 n 11 (Nat.le_refl _)] at hcv
      clear hb hmk
      go_wp2
      go_ret
      exact ⟨ret_str (by simp [bRow]), hbl⟩
    · rw [show ((k + 1 : Nat) : Int) = (k : Int) + 1 from rfl] at hi
      subst hi
      have hs := bRow_set 255 11 n j k (by omega)
      have hc := hb.cell_some (k + 1) (.int .u8 0) (by rw [cellsOf_at, bRow_at 255 11 n j k (by omega)]; rfl)
      have hf := hb.free (k + 1)
      have Hb := hb.put (k + 1) (.int .u8 ((UInt8.ofNat (n / 256 ^ j % 256).toNat).toNat : Int))
      rw [cellsOf_set, hs, byte_of] at Hb
      have Hnx := Lib.hid (shr_step n j)
      clear hb hs
      generalize n / 256 ^ j = m at *
      subst hn
      have hk : k + 1 < 12 := by omega
      go_wp2
      all_goals
        go_roundw
        case rel => exact ⟨j + 1, k, by omega, by rw [Hnx.out], rfl, Hb, hbl.setCell (Nat.le_refl _) _⟩
        case measure => simp [intOf]

theorem base_bad (n v : Int) (hv : isW v = false) (w : World) :
    Calls Tryz.prog 294 #[.int .i64 n, .int .i64 v] w fun e w' => e = noFieldPanic ∧ Below w.heap.size w w' := by
  go_enter Tryz.func294, Tryz.ntmps294
  go_wp2_with (go_at_call 295; refine (checkWidth_no v hv _).mono ?_; rintro e w' ⟨rfl, rfl⟩)
  exact ⟨rfl, rfl, Below.refl _ _⟩
theorem base_far (n : Int) (hn : n < -72057594037927936 ∨ 72057594037927936 ≤ n) (w : World) :
    Calls Tryz.prog 294 #[.int .i64 n, .int .i64 8] w fun e w' => e = noFieldPanic ∧ Below w.heap.size w w' := by
  have h2 : (n / 72057594037927936 != 0) = true := by simp; omega
  have h3 : (n / 72057594037927936 != -1) = true := by simp; omega
  clear hn
  go_enter Tryz.func294, Tryz.ntmps294
  go_wp2_with (go_at_call 295; refine (checkWidth_ok _ (by decide) _).mono ?_; rintro e w' ⟨rfl, rfl⟩)
  exact ⟨rfl, rfl, Below.refl _ _⟩

/-- base: the field, or num's panic. -/
theorem base_yes (n v : Int) (l : List UInt8) (h : basO n v = some l) (w : World) :
    Calls Tryz.prog 294 #[.int .i64 n, .int .i64 v] w fun e w' => e = .returned (.string ⟨l.toArray⟩) ∧ Below w.heap.size w w' := by
  unfold basO at h
  split at h
  · rename_i hc
    injection h with h
    subst h
    simp only [Bool.and_eq_true, Bool.or_eq_true, decide_eq_true_eq, beq_iff_eq] at hc
    obtain ⟨hv, hr⟩ := hc
    have h : v = 8 ∨ v = 12 := by simpa [isW] using hv
    rcases h with rfl | rfl
    · by_cases h0 : n < 0
      · rw [if_pos h0]
        exact base8n n w h0 (by omega)
      · rw [if_neg h0]
        exact base8p n w (by omega) (by omega)
    · by_cases h0 : n < 0
      · rw [if_pos h0]
        exact base12n n w h0
      · rw [if_neg h0]
        exact base12p n w (by omega)
  · cases h
theorem base_no (n v : Int) (h : basO n v = none) (w : World) :
    Calls Tryz.prog 294 #[.int .i64 n, .int .i64 v] w fun e w' => e = noFieldPanic ∧ Below w.heap.size w w' := by
  rcases hv : isW v with _ | _
  · exact base_bad n v hv w
  · have hv' : v = 8 ∨ v = 12 := by simpa [isW] using hv
    rcases hv' with rfl | rfl
    · refine base_far n ?_ w
      simp [basO, hv] at h
      omega
    · simp [basO, hv] at h
end Go.Proofs.YtbhnhoenjoagbaaGreatDoor.HeadW

/- Walks over package num: attempt, its deferred closure. -/
namespace Go.Proofs.YtbhnhoenjoagbaaGreatDoor.HeadW
open Go.RowKit
open NumM

theorem catchS_panic (p : Addr) (x : Bool) (u : TypeId) (pv : Value) (older : List PanicEntry) (w : World) (hc : w.cell? p = some (.bool x)) (hz : w.frozen? p = false) :
    CallsD Tryz.prog 293 #[.pointer (some p)] (.panicking ({ v := .iface u pv, recovered := false } :: older)) w fun e u' w' =>
      e = .returned (.tuple #[]) ∧ u' = .panicking ({ v := .iface u pv, recovered := true } :: older) ∧ w' = w.setCell p (.bool false) := by
  refine callsD_of_wpS Tryz.func293 rfl fun c₀ cs hu => ?_
  apply wpS_region
  simp [wpOpsS, go_sem, recoverD, hu, Tryz.ntmps293, hc, hz, bodyPostS, results]

theorem catchS_idle (p : Addr) (x : Bool) (w : World) (hc : w.cell? p = some (.bool x)) (hz : w.frozen? p = false) :
    CallsD Tryz.prog 293 #[.pointer (some p)] .returning w fun e u' w' => e = .returned (.tuple #[]) ∧ u' = .returning ∧ w' = w.setCell p (.bool true) := by
  refine callsD_of_wpS Tryz.func293 rfl fun c₀ cs hu => ?_
  apply wpS_region
  simp [wpOpsS, go_sem, recoverD, hu, Tryz.ntmps293, hc, hz, bodyPostS, results]
  cases c₀
  simp_all

/-- attempt, where what it is handed returns. -/
theorem attemptS_ret (K : FuncId) (cap : Array Value) (s : ByteArray) (w : World) (hK : ∀ w, (callFunc K cap).run Tryz.prog w = .ok (.enter K cap) w) (hc : ∀ W, Below w.heap.size w W → Calls Tryz.prog K cap W fun e W' => e = .returned (.string s) ∧ Below W.heap.size W W') :
    Calls Tryz.prog 253 #[.func (Fn.func K) #[] cap] w fun e w' => e = .returned (.tuple #[.string s, .bool true]) ∧ Below w.heap.size w w' := by
  have hmf : ∀ (fn : Fn) (first cap : Array Value) (w : World), (Instr.makeFunc fn first cap).run Tryz.prog w = .ok (.func fn first cap) w := fun _ _ _ _ => rfl
  have Hc := Lib.hid hc; clear hc
  go_enter_defers Tryz.func253, Tryz.ntmps253
  go_wp2_with fail
  refine (Hc.out _ ((Below.refl _ _).alloc (Nat.le_refl _) _)).mono ?_
  rintro e w1 ⟨rfl, hb⟩
  have h0 : w1.cell? ⟨w.heap.size, 0, none⟩ = some (.bool false) := (hb.cell (p := ⟨w.heap.size, 0, none⟩) (by simp)).trans (by simp [go_sem])
  have h1 : w1.frozen? ⟨w.heap.size, 0, none⟩ = false := (hb.frozen (p := ⟨w.heap.size, 0, none⟩) (by simp)).trans (by simp [go_sem])
  have hb0 : Below w.heap.size w w1 := ((Below.refl _ _).alloc (Nat.le_refl _) _).trans (hb.mono (by simp))
  have hsz : w.heap.size < w1.heap.size := by have := hb.size; simp at this; omega
  clear hb
  go_wp2_with fail
  refine leaves_cons (f := 293) (args := #[.pointer (some ⟨w.heap.size, 0, none⟩)]) (by simp) (by simp [go_sem]) ?_
  refine (catchS_idle ⟨w.heap.size, 0, none⟩ true _ ?_ ?_).mono ?_
  · simp [go_sem, h0]
  · simp [go_sem, h1]
  rintro e u' w'' ⟨rfl, rfl, rfl⟩
  simp [Leaves, settle, results, Tryz.results253, go_sem, h0]
  exact (hb0.setCell (Nat.le_refl _) _).setCell (Nat.le_refl _) _

/-- attempt, where what it is handed panics with num's value. -/
theorem attemptS_panic (K : FuncId) (cap : Array Value) (w : World) (hK : ∀ w, (callFunc K cap).run Tryz.prog w = .ok (.enter K cap) w) (hc : ∀ W, Below w.heap.size w W → Calls Tryz.prog K cap W fun e W' => e = noFieldPanic ∧ Below W.heap.size W W') :
    Calls Tryz.prog 253 #[.func (Fn.func K) #[] cap] w fun e w' => e = .returned (.tuple #[.string { data := #[] }, .bool false]) ∧ Below w.heap.size w w' := by
  have hmf : ∀ (fn : Fn) (first cap : Array Value) (w : World), (Instr.makeFunc fn first cap).run Tryz.prog w = .ok (.func fn first cap) w := fun _ _ _ _ => rfl
  have Hc := Lib.hid hc; clear hc
  go_enter_defers Tryz.func253, Tryz.ntmps253
  go_wp2_with fail
  refine (Hc.out _ ((Below.refl _ _).alloc (Nat.le_refl _) _)).mono ?_
  rintro e w1 ⟨rfl, hb⟩
  have h0 : w1.cell? ⟨w.heap.size, 0, none⟩ = some (.bool false) := (hb.cell (p := ⟨w.heap.size, 0, none⟩) (by simp)).trans (by simp [go_sem])
  have h1 : w1.frozen? ⟨w.heap.size, 0, none⟩ = false := (hb.frozen (p := ⟨w.heap.size, 0, none⟩) (by simp)).trans (by simp [go_sem])
  have hb0 : Below w.heap.size w w1 := ((Below.refl _ _).alloc (Nat.le_refl _) _).trans (hb.mono (by simp))
  clear hb
  go_wp2_with fail
  refine leaves_cons (f := 293) (args := #[.pointer (some ⟨w.heap.size, 0, none⟩)]) (by simp) (by simp [go_sem]) ?_
  refine (catchS_panic ⟨w.heap.size, 0, none⟩ false _ _ [] _ h0 h1).mono ?_
  rintro e u' w'' ⟨rfl, rfl, rfl⟩
  simp [Leaves, settle, results, Tryz.results253, go_sem, h0]
  exact hb0.setCell (Nat.le_refl _) _

end Go.Proofs.YtbhnhoenjoagbaaGreatDoor.HeadW

/- Walks over package num: Octal, Base, Field. -/
namespace Go.Proofs.YtbhnhoenjoagbaaGreatDoor.HeadW
open Go.RowKit
open NumM

theorem enterK (K : FuncId) (cap : Array Value) (h : ∀ w, (callFunc K cap).run Tryz.prog w = .ok (.enter K cap) w) : ∀ w, (callFunc K cap).run Tryz.prog w = .ok (.enter K cap) w := h

theorem Octal_clo_yes (n v : Int) (a b : Addr) (l : List UInt8) (w : World) (h : octO n v = some l) (ha : w.cell? a = some (.int .i64 n)) (hb : w.cell? b = some (.int .i64 v)) :
    Calls Tryz.prog 256 #[.pointer (some a), .pointer (some b)] w fun e w' => e = .returned (.string ⟨l.toArray⟩) ∧ Below w.heap.size w w' := by
  have H := Lib.hid h; clear h
  go_enter Tryz.func256, Tryz.ntmps256
  go_wp2_with fail
  refine (octal_yes n v l H.out _).mono ?_
  rintro e w' ⟨rfl, hbl⟩
  go_wp2_with fail
  go_ret
  exact ⟨rfl, hbl⟩
theorem Octal_clo_no (n v : Int) (a b : Addr) (w : World) (h : octO n v = none) (ha : w.cell? a = some (.int .i64 n)) (hb : w.cell? b = some (.int .i64 v)) :
    Calls Tryz.prog 256 #[.pointer (some a), .pointer (some b)] w fun e w' => e = noFieldPanic ∧ Below w.heap.size w w' := by
  have H := Lib.hid h; clear h
  go_enter Tryz.func256, Tryz.ntmps256
  go_wp2_with fail
  refine (octal_no n v H.out _).mono ?_
  rintro e w' ⟨rfl, hbl⟩
  go_wp2_with fail
  exact ⟨rfl, rfl, hbl⟩

/-- Octal: the field and true. -/
theorem Octal_yes (n v : Int) (l : List UInt8) (h : octO n v = some l) (w : World) :
    Calls Tryz.prog 205 #[.int .i64 n, .int .i64 v] w fun e w' => e = .returned (.tuple #[.string ⟨l.toArray⟩, .bool true]) ∧ Below w.heap.size w w' := by
  have hmf : ∀ (fn : Fn) (first cap : Array Value) (w : World), (Instr.makeFunc fn first cap).run Tryz.prog w = .ok (.func fn first cap) w := fun _ _ _ _ => rfl
  have H := Lib.hid h; clear h
  go_enter Tryz.func205, Tryz.ntmps205
  go_wp2_with fail
  refine (attemptS_ret 256 _ ⟨l.toArray⟩ _ (fun _ => by simp [go_sem]) (fun W hW => Octal_clo_yes n v _ _ l W H.out ((hW.cell (by simp <;> omega)).trans (by simp [go_sem])) ((hW.cell (by simp <;> omega)).trans (by simp [go_sem])))).mono ?_
  rintro e w' ⟨rfl, hbl⟩
  go_wp2_with fail
  go_ret2
  exact ⟨rfl, (((Below.refl _ _).alloc (Nat.le_refl _) _).alloc (by simp) _).trans (hbl.mono (by simp <;> omega))⟩
/-- Octal: nothing and false. -/
theorem Octal_no (n v : Int) (h : octO n v = none) (w : World) :
    Calls Tryz.prog 205 #[.int .i64 n, .int .i64 v] w fun e w' => e = .returned (.tuple #[.string { data := #[] }, .bool false]) ∧ Below w.heap.size w w' := by
  have hmf : ∀ (fn : Fn) (first cap : Array Value) (w : World), (Instr.makeFunc fn first cap).run Tryz.prog w = .ok (.func fn first cap) w := fun _ _ _ _ => rfl
  have H := Lib.hid h; clear h
  go_enter Tryz.func205, Tryz.ntmps205
  go_wp2_with fail
  refine (attemptS_panic 256 _ _ (fun _ => by simp [go_sem]) (fun W hW => Octal_clo_no n v _ _ W H.out ((hW.cell (by simp <;> omega)).trans (by simp [go_sem])) ((hW.cell (by simp <;> omega)).trans (by simp [go_sem])))).mono ?_
  rintro e w' ⟨rfl, hbl⟩
  go_wp2_with fail
  go_ret2
  exact ⟨rfl, (((Below.refl _ _).alloc (Nat.le_refl _) _).alloc (by simp) _).trans (hbl.mono (by simp <;> omega))⟩



theorem field_oct (n v : Int) (l : List UInt8) (h : octO n v = some l) (w : World) :
    Calls Tryz.prog 255 #[.int .i64 n, .int .i64 v] w fun e w' => e = .returned (.string ⟨l.toArray⟩) ∧ Below w.heap.size w w' := by
  have H := Lib.hid h; clear h
  go_enter Tryz.func255, Tryz.ntmps255
  go_wp2_with fail
  refine (Octal_yes n v l H.out _).mono ?_
  rintro e w' ⟨rfl, hbl⟩
  go_wp2_with fail
  go_ret
  exact ⟨rfl, hbl⟩
theorem field_bas (n v : Int) (l : List UInt8) (h : octO n v = none) (h2 : basO n v = some l) (w : World) :
    Calls Tryz.prog 255 #[.int .i64 n, .int .i64 v] w fun e w' => e = .returned (.string ⟨l.toArray⟩) ∧ Below w.heap.size w w' := by
  have H := Lib.hid h; clear h
  have H2 := Lib.hid h2; clear h2
  go_enter Tryz.func255, Tryz.ntmps255
  go_wp2_with fail
  refine (Octal_no n v H.out _).mono ?_
  rintro e w1 ⟨rfl, hbl⟩
  go_wp2_with fail
  refine (base_yes n v l H2.out _).mono ?_
  rintro e w2 ⟨rfl, hbl2⟩
  go_wp2_with fail
  go_ret
  exact ⟨rfl, hbl.trans (hbl2.mono hbl.size)⟩
theorem field_none (n v : Int) (h : octO n v = none) (h2 : basO n v = none) (w : World) :
    Calls Tryz.prog 255 #[.int .i64 n, .int .i64 v] w fun e w' => e = noFieldPanic ∧ Below w.heap.size w w' := by
  have H := Lib.hid h; clear h
  have H2 := Lib.hid h2; clear h2
  go_enter Tryz.func255, Tryz.ntmps255
  go_wp2_with fail
  refine (Octal_no n v H.out _).mono ?_
  rintro e w1 ⟨rfl, hbl⟩
  go_wp2_with fail
  refine (base_no n v H2.out _).mono ?_
  rintro e w2 ⟨rfl, hbl2⟩
  go_wp2_with fail
  exact ⟨rfl, rfl, hbl.trans (hbl2.mono hbl.size)⟩
theorem field_yes (n v : Int) (l : List UInt8) (h : fieldO n v = some l) (w : World) :
    Calls Tryz.prog 255 #[.int .i64 n, .int .i64 v] w fun e w' => e = .returned (.string ⟨l.toArray⟩) ∧ Below w.heap.size w w' := by
  unfold fieldO at h
  rcases ho : octO n v with _ | m
  · rw [ho] at h
    exact field_bas n v l ho h w
  · rw [ho] at h
    exact field_oct n v l (by rw [ho]; exact h) w
theorem field_no (n v : Int) (h : fieldO n v = none) (w : World) :
    Calls Tryz.prog 255 #[.int .i64 n, .int .i64 v] w fun e w' => e = noFieldPanic ∧ Below w.heap.size w w' := by
  unfold fieldO at h
  rcases ho : octO n v with _ | m
  · rw [ho] at h
    exact field_none n v ho h w
  · rw [ho] at h
    cases h

theorem Field_clo_yes (n v : Int) (a b : Addr) (l : List UInt8) (w : World) (h : fieldO n v = some l) (ha : w.cell? a = some (.int .i64 n)) (hb : w.cell? b = some (.int .i64 v)) :
    Calls Tryz.prog 254 #[.pointer (some a), .pointer (some b)] w fun e w' => e = .returned (.string ⟨l.toArray⟩) ∧ Below w.heap.size w w' := by
  have H := Lib.hid h; clear h
  go_enter Tryz.func254, Tryz.ntmps254
  go_wp2_with fail
  refine (field_yes n v l H.out _).mono ?_
  rintro e w' ⟨rfl, hbl⟩
  go_wp2_with fail
  go_ret
  exact ⟨rfl, hbl⟩
theorem Field_clo_no (n v : Int) (a b : Addr) (w : World) (h : fieldO n v = none) (ha : w.cell? a = some (.int .i64 n)) (hb : w.cell? b = some (.int .i64 v)) :
    Calls Tryz.prog 254 #[.pointer (some a), .pointer (some b)] w fun e w' => e = noFieldPanic ∧ Below w.heap.size w w' := by
  have H := Lib.hid h; clear h
  go_enter Tryz.func254, Tryz.ntmps254
  go_wp2_with fail
  refine (field_no n v H.out _).mono ?_
  rintro e w' ⟨rfl, hbl⟩
  go_wp2_with fail
  exact ⟨rfl, rfl, hbl⟩

/-- Field: the field and true. -/
theorem Field_yes (n v : Int) (l : List UInt8) (h : fieldO n v = some l) (w : World) :
    Calls Tryz.prog 204 #[.int .i64 n, .int .i64 v] w fun e w' => e = .returned (.tuple #[.string ⟨l.toArray⟩, .bool true]) ∧ Below w.heap.size w w' := by
  have hmf : ∀ (fn : Fn) (first cap : Array Value) (w : World), (Instr.makeFunc fn first cap).run Tryz.prog w = .ok (.func fn first cap) w := fun _ _ _ _ => rfl
  have H := Lib.hid h; clear h
  go_enter Tryz.func204, Tryz.ntmps204
  go_wp2_with fail
  refine (attemptS_ret 254 _ ⟨l.toArray⟩ _ (fun _ => by simp [go_sem]) (fun W hW => Field_clo_yes n v _ _ l W H.out ((hW.cell (by simp <;> omega)).trans (by simp [go_sem])) ((hW.cell (by simp <;> omega)).trans (by simp [go_sem])))).mono ?_
  rintro e w' ⟨rfl, hbl⟩
  go_wp2_with fail
  go_ret2
  exact ⟨rfl, (((Below.refl _ _).alloc (Nat.le_refl _) _).alloc (by simp) _).trans (hbl.mono (by simp <;> omega))⟩
/-- Field: nothing and false. -/
theorem Field_no (n v : Int) (h : fieldO n v = none) (w : World) :
    Calls Tryz.prog 204 #[.int .i64 n, .int .i64 v] w fun e w' => e = .returned (.tuple #[.string { data := #[] }, .bool false]) ∧ Below w.heap.size w w' := by
  have hmf : ∀ (fn : Fn) (first cap : Array Value) (w : World), (Instr.makeFunc fn first cap).run Tryz.prog w = .ok (.func fn first cap) w := fun _ _ _ _ => rfl
  have H := Lib.hid h; clear h
  go_enter Tryz.func204, Tryz.ntmps204
  go_wp2_with fail
  refine (attemptS_panic 254 _ _ (fun _ => by simp [go_sem]) (fun W hW => Field_clo_no n v _ _ W H.out ((hW.cell (by simp <;> omega)).trans (by simp [go_sem])) ((hW.cell (by simp <;> omega)).trans (by simp [go_sem])))).mono ?_
  rintro e w' ⟨rfl, hbl⟩
  go_wp2_with fail
  go_ret2
  exact ⟨rfl, (((Below.refl _ _).alloc (Nat.le_refl _) _).alloc (by simp) _).trans (hbl.mono (by simp <;> omega))⟩
end Go.Proofs.YtbhnhoenjoagbaaGreatDoor.HeadW

/- Walks over package num: what a string is as a number. -/
namespace Go.Proofs.YtbhnhoenjoagbaaGreatDoor.HeadW
open Go.RowKit
open NumM

/-- The number that octalValue makes of digits: any byte is taken for one. -/
def octV (l : List UInt8) : Int := l.foldl (fun a c => a * 8 + (c.toNat : Int) - 48) 0
theorem octV_snoc (l : List UInt8) (c : UInt8) : octV (l ++ [c]) = octV l * 8 + (c.toNat : Int) - 48 := by simp [octV]
theorem octV_bound (l : List UInt8) : -7 * (8 ^ l.length - 1) ≤ octV l ∧ octV l ≤ 30 * (8 ^ l.length - 1) := by
  rw [← List.reverse_reverse l]
  generalize l.reverse = r
  induction r with
  | nil => simp [octV]
  | cons c r ih =>
    have hc := c.toNat_lt
    rw [List.reverse_cons, octV_snoc, List.length_append, List.length_singleton, Int.pow_succ]
    omega
theorem octV_small (l : List UInt8) (h : l.length ≤ 11) : -1000000000000 ≤ octV l ∧ octV l ≤ 1000000000000 := by
  have hb := octV_bound l
  have hp : (8 : Int) ^ l.length ≤ 8 ^ 11 := by
    have := Nat.pow_le_pow_right (n := 8) (by decide) h
    exact_mod_cast this
  omega
theorem take_more (s : ByteArray) (k : Nat) (h : k < s.size) : s.data.toList.take (k + 1) = s.data.toList.take k ++ [s[k]] := by
  rw [List.take_succ_eq_append_getElem (by simpa using h)]; rfl

end Go.Proofs.YtbhnhoenjoagbaaGreatDoor.HeadW

/- Walks over package num: what a string is as a binary number. -/
namespace Go.Proofs.YtbhnhoenjoagbaaGreatDoor.HeadW
open Go.RowKit
open NumM

def basVs (a : Int) (l : List UInt8) : Int := l.foldl (fun a c => wrap64 (a * 256 + (c.toNat : Int))) a
theorem basVs_snoc (a : Int) (l : List UInt8) (c : UInt8) : basVs a (l ++ [c]) = wrap64 (basVs a l * 256 + (c.toNat : Int)) := by simp [basVs]
def basStart (l : List UInt8) : Int := if l.head? = some 255 then -1 else 0
def basV (l : List UInt8) : Int := basVs (basStart l) (l.drop 1)

theorem or_shift (x : Int) (c : Nat) (hc : c < 256) : bits .or .i64 (wrap64 (x * 256)) (c : Int) = wrap64 (x * 256 + c) := by
  show IntKind.i64.wrap ((BitVec.ofInt 64 (wrap64 (x * 256)) ||| BitVec.ofInt 64 (c : Int)).toNat : Int) = _
  have e : BitVec.ofInt 64 (wrap64 (x * 256)) = BitVec.ofInt 64 x <<< 8 := by
    apply BitVec.eq_of_toInt_eq
    rw [BitVec.toInt_ofInt, BitVec.shiftLeft_eq_mul_twoPow, BitVec.toInt_mul, BitVec.toInt_ofInt]
    unfold wrap64
    simp [Int.bmod_def, BitVec.toInt_twoPow]
    omega
  have e2 : BitVec.ofInt 64 (c : Int) &&& (BitVec.ofInt 64 x <<< 8) = 0#64 := by
    have h : BitVec.ofInt 64 (c : Int) = (BitVec.ofNat 8 c).setWidth 64 := by
      apply BitVec.eq_of_toNat_eq
      rw [BitVec.ofInt_natCast]
      simp
      omega
    rw [h]
    apply BitVec.eq_of_getLsbD_eq
    intro i hi
    simp
    intro _ hx _ h8
    have := BitVec.lt_of_getLsbD hx
    omega
  have e3 := BitVec.add_eq_or_of_and_eq_zero _ _ e2
  rw [e, BitVec.or_comm, ← e3, ← e, IntKind.wrap_i64, BitVec.toNat_add, BitVec.toNat_ofInt, BitVec.toNat_ofInt]
  unfold wrap64
  simp
  omega

theorem drop_take_more (s : ByteArray) (k : Nat) (h1 : 1 ≤ k) (h : k < s.size) : (s.data.toList.take (k + 1)).drop 1 = (s.data.toList.take k).drop 1 ++ [s[k]] := by
  rw [take_more s k h, List.drop_append_of_le_length (by simp; omega)]

end Go.Proofs.YtbhnhoenjoagbaaGreatDoor.HeadW

/- Walks over package num: readAs, ReadOctal, ReadBase, ReadField. -/
namespace Go.Proofs.YtbhnhoenjoagbaaGreatDoor.HeadW
open Go.RowKit
open NumM

def fldV (l : List UInt8) : Int := if (l.head?.getD 0).toNat < 128 then octV (l.take (l.length - 1)) else basV l

theorem head_is (s : ByteArray) (h : 1 ≤ s.size) : s.data.toList.head? = some (s[0]'(by omega)) := by
  rw [List.head?_eq_getElem?, List.getElem?_eq_getElem (by simp; omega)]; rfl

/-- A reader, on lists. -/
def rdO (enc : Int → Int → Option (List UInt8)) (v : Int) (l : List UInt8) : Option Int := if enc v l.length = some l then some v else none
def octW (l : List UInt8) : Int := octV (l.take (l.length - 1))
def rdOct (l : List UInt8) : Option Int := rdO octO (octW l) l
def rdBas (l : List UInt8) : Option Int := rdO basO (basV l) l
def rdFld (l : List UInt8) : Option Int := rdO fieldO (fldV l) l

theorem isW_size {s : ByteArray} (h : isW (s.size : Int) = true) : 1 ≤ s.size ∧ s.size ≤ 12 := by
  have : (s.size : Int) = 8 ∨ (s.size : Int) = 12 := by simpa [isW] using h
  omega
theorem basO_bad (n v : Int) (h : isW v = false) : basO n v = none := by simp [basO, h]
theorem fieldO_bad (n v : Int) (h : isW v = false) : fieldO n v = none := by simp [fieldO, octO_bad n v h, basO_bad n v h]





end Go.Proofs.YtbhnhoenjoagbaaGreatDoor.HeadW
