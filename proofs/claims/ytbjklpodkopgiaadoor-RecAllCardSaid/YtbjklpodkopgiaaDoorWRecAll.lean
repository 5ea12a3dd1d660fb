/- The law RecAll, walked. -/
import Derived.Test.YtbjklpodkopgiaaDoorRecAwake
import Derived.Test.YtbjklpodkopgiaaDoorRefAll
namespace Go.Proofs.YtbjklpodkopgiaaDoor
open Go.RowKit
open RecM
set_option linter.unusedVariables false

theorem refGetU (S : ByteArray) (x : Int) (hS : S.size ≤ 90000) (w : World) :
    Calls Tryd.prog 10 #[.string S, .int .i64 x] w fun e w' => e = .returned (.agg #[.string (strOf (gotF S.data.toList x).1), .string (strOf (gotF S.data.toList x).2.1), .int .i64 (gotF S.data.toList x).2.2.1, .int .i64 (gotF S.data.toList x).2.2.2]) ∧ Below w.heap.size w w' := by
  have hl := len_list S
  by_cases h1 : x < 0
  · have e : gotF S.data.toList x = ([], [], 0, 1) := by unfold gotF; rw [if_pos (Or.inl h1)]
    rw [e]
    exact refGet_neg S x h1 w
  · by_cases h2 : (S.size : Int) < x
    · have e : gotF S.data.toList x = ([], [], 0, 1) := by unfold gotF; rw [if_pos (Or.inr (by rw [hl]; exact h2))]
      rw [e]
      exact refGet_over S x h2 w
    · by_cases h3 : x = (S.size : Int)
      · have e : gotF S.data.toList x = ([], [], 0, 5) := by unfold gotF; rw [if_neg (by rw [hl]; omega), if_pos (by rw [hl]; exact h3)]
        rw [e]
        exact refGet_end S x h3 w
      · obtain ⟨i, rfl⟩ : ∃ i : Nat, x = (i : Int) := ⟨_, (Int.toNat_of_nonneg (by omega)).symm⟩
        have h := refGet_any S i (by omega) hS w
        rw [ref_get] at h
        unfold gotF
        rw [if_neg (by rw [hl]; omega), if_neg (by rw [hl]; exact h3), Int.toNat_natCast]
        revert h
        rcases getF (S.data.toList.drop i) with _ | ⟨k, v, n⟩
        · exact fun h => h
        · exact fun h => h
/-- All's records and its error's number. -/
def allL (s : List UInt8) : List (List UInt8 × List UInt8) := match allF s with
  | some l => l
  | none => []
def allE (s : List UInt8) : Int := match allF s with
  | some _ => 0
  | none => 4
theorem allL_length (s : List UInt8) : (allL s).length ≤ s.length := by
  unfold allL
  split
  · exact all_length (by assumption)
  · simp
theorem allU (S : ByteArray) (hS : S.size ≤ 65536) (w : World) (hA : Amb w) :
    Calls Tryd.prog 11 #[.string S] w fun e w' => (∃ p cap, e = .returned (.tuple #[.slice p (allL S.data.toList).length cap, .int .i64 (allE S.data.toList)]) ∧ RecAt (.slice p (allL S.data.toList).length cap) (allL S.data.toList) w') ∧ Below w.heap.size w w' := by
  refine (all_any S hS w hA).mono ?_
  rintro e w' ⟨h1, h2⟩
  refine ⟨?_, h2⟩
  unfold allL allE
  revert h1
  rcases allF S.data.toList with _ | l
  · intro h1
    exact ⟨none, 0, h1, .inl ⟨rfl, _, _, rfl⟩⟩
  · rintro ⟨v, rfl, hat⟩
    obtain ⟨p, cap, rfl⟩ := hat.shape
    exact ⟨p, cap, rfl, hat⟩
theorem refAllU (S : ByteArray) (hS : S.size ≤ 65536) (w : World) :
    Calls Tryd.prog 12 #[.string S] w fun e w' => (∃ p cap, e = .returned (.agg #[.slice p (allL S.data.toList).length cap, .int .i64 (allE S.data.toList)]) ∧ RecAt (.slice p (allL S.data.toList).length cap) (allL S.data.toList) w') ∧ Below w.heap.size w w' := by
  refine (refAll_any S hS w).mono ?_
  rintro e w' ⟨h1, h2⟩
  refine ⟨?_, h2⟩
  unfold allL allE
  revert h1
  rcases allF S.data.toList with _ | l
  · intro h1
    exact ⟨none, 0, h1, .inl ⟨rfl, _, _, rfl⟩⟩
  · rintro ⟨v, rfl, hat⟩
    obtain ⟨p, cap, rfl⟩ := hat.shape
    exact ⟨p, cap, rfl, hat⟩

set_option maxHeartbeats 3200000 in
theorem recAll_walk (a0 b0 : ByteArray) (a1 : ByteArray) (a2 : Int) (w : World) (hA : Amb w) (w0 : a0.size ≤ maxLen) (x0 : b0.size ≤ maxLen) (w1 : a1.size ≤ maxLen) (w2 : (Lit.int .i64 a2).wf = true) :
    Calls Tryd.prog 3 #[.agg #[.string a0, .string b0], .string a1, .int .i64 a2] w fun e w' => e = .returned (.bool true) ∧ Below w.heap.size w w' := by
  by_cases h1 : 400 < a0.size
  · have h1' : decide (400 < (a0.size : Int)) = true := decide_eq_true (by omega)
    have h1'' : decide (400 < a0.size) = true := decide_eq_true h1
    clear h1
    go_enter Tryd.func3, Tryd.ntmps3
    go_wp2_with fail
    refine (awake_true _ (hA.on (by (repeat' (first | exact Below.refl _ _ | assumption | refine gr_drew ?_ | refine gr_drewN ?_ _ | refine gr_alloc ?_ _ | refine gr_set ?_ ?_ _ | refine gr_call ?_ (by assumption)) <;> (try (simp; done)) <;> (try (simp; omega)) <;> (try omega))))).mono ?_
    rintro e w3 ⟨rfl, hbw3⟩
    have hzw3 := hbw3.size
    try simp at hzw3
    go_wp2_with fail
    go_ret
    exact ⟨rfl, by (repeat' (first | exact Below.refl _ _ | assumption | refine gr_drew ?_ | refine gr_drewN ?_ _ | refine gr_alloc ?_ _ | refine gr_set ?_ ?_ _ | refine gr_call ?_ (by assumption)) <;> (try (simp; done)) <;> (try (simp; omega)) <;> (try omega))⟩
  · have h1' : decide (400 < (a0.size : Int)) = false := decide_eq_false (by omega)
    have h1'' : decide (400 < a0.size) = false := decide_eq_false h1
    by_cases h2 : 2000 < b0.size
    · have h2' : decide (2000 < (b0.size : Int)) = true := decide_eq_true (by omega)
      have h2'' : decide (2000 < b0.size) = true := decide_eq_true h2
      clear h1 h2
      go_enter Tryd.func3, Tryd.ntmps3
      go_wp2_with fail
      refine (awake_true _ (hA.on (by (repeat' (first | exact Below.refl _ _ | assumption | refine gr_drew ?_ | refine gr_drewN ?_ _ | refine gr_alloc ?_ _ | refine gr_set ?_ ?_ _ | refine gr_call ?_ (by assumption)) <;> (try (simp; done)) <;> (try (simp; omega)) <;> (try omega))))).mono ?_
      rintro e w3 ⟨rfl, hbw3⟩
      have hzw3 := hbw3.size
      try simp at hzw3
      go_wp2_with fail
      go_ret
      exact ⟨rfl, by (repeat' (first | exact Below.refl _ _ | assumption | refine gr_drew ?_ | refine gr_drewN ?_ _ | refine gr_alloc ?_ _ | refine gr_set ?_ ?_ _ | refine gr_call ?_ (by assumption)) <;> (try (simp; done)) <;> (try (simp; omega)) <;> (try omega))⟩
    · have h2' : decide (2000 < (b0.size : Int)) = false := decide_eq_false (by omega)
      have h2'' : decide (2000 < b0.size) = false := decide_eq_false h2
      by_cases h3 : 2000 < a1.size
      · have h3' : decide (2000 < (a1.size : Int)) = true := decide_eq_true (by omega)
        have h3'' : decide (2000 < a1.size) = true := decide_eq_true h3
        clear h1 h2 h3
        go_enter Tryd.func3, Tryd.ntmps3
        go_wp2_with fail
        refine (awake_true _ (hA.on (by (repeat' (first | exact Below.refl _ _ | assumption | refine gr_drew ?_ | refine gr_drewN ?_ _ | refine gr_alloc ?_ _ | refine gr_set ?_ ?_ _ | refine gr_call ?_ (by assumption)) <;> (try (simp; done)) <;> (try (simp; omega)) <;> (try omega))))).mono ?_
        rintro e w3 ⟨rfl, hbw3⟩
        have hzw3 := hbw3.size
        try simp at hzw3
        go_wp2_with fail
        go_ret
        exact ⟨rfl, by (repeat' (first | exact Below.refl _ _ | assumption | refine gr_drew ?_ | refine gr_drewN ?_ _ | refine gr_alloc ?_ _ | refine gr_set ?_ ?_ _ | refine gr_call ?_ (by assumption)) <;> (try (simp; done)) <;> (try (simp; omega)) <;> (try omega))⟩
      · have h3' : decide (2000 < (a1.size : Int)) = false := decide_eq_false (by omega)
        have h3'' : decide (2000 < a1.size) = false := decide_eq_false h3
        have hgt := Lib.hid (getU a1 a2 (by omega))
        have hrg := Lib.hid (refGetU a1 a2 (by omega))
        have hal := Lib.hid (allU a1 (by omega))
        have hra := Lib.hid (refAllU a1 (by omega))
        have hmay := Lib.hid (may_any a0 b0 (by omega))
        have hrm := Lib.hid (refMay_any a0 b0 (by omega))
        have hput := Lib.hid (put_any a0 b0 (by omega))
        have hrp := Lib.hid (refPut_any a0 b0 (by omega))
        have hll := allL_length a1.data.toList
        rw [len_list] at hll
        have hl9 : (allL a1.data.toList).length ≤ 1000000 := by omega
        generalize gotF a1.data.toList a2 = g at *
        obtain ⟨K, V, N, E⟩ := g
        dsimp only at hgt hrg
        generalize allE a1.data.toList = F at *
        generalize allL a1.data.toList = l at *
        generalize mayB a0.data.toList b0.data.toList = m at *
        generalize strOf (putF a0.data.toList b0.data.toList) = P at *
        generalize strOf K = K' at *
        generalize strOf V = V' at *
        clear h1 h2 h3 hll w0 x0 w1 w2
        go_enter Tryd.func3, Tryd.ntmps3
        go_wp2_with fail
        refine (hgt.out _ (hA.on (by (repeat' (first | exact Below.refl _ _ | assumption | refine gr_drew ?_ | refine gr_drewN ?_ _ | refine gr_alloc ?_ _ | refine gr_set ?_ ?_ _ | refine gr_call ?_ (by assumption)) <;> (try (simp; done)) <;> (try (simp; omega)) <;> (try omega))))).mono ?_
        rintro e w1 ⟨rfl, hbw1⟩
        have hzw1 := hbw1.size
        try simp at hzw1
        have : w.heap.size < w1.heap.size := by omega
        have : w.heap.size ≤ w1.heap.size := by omega
        have : w1.cell? ⟨w.heap.size, 0, none⟩ = some (.string a0) := cell_kept hbw1 (by simp [go_sem, *])
        have : w1.frozen? ⟨w.heap.size, 0, none⟩ = false := free_kept hbw1 (v := .string a0) (by simp [go_sem, *]) (by simp [go_sem, *])
        have : w.heap.size < w1.heap.size := by omega
        have : w.heap.size ≤ w1.heap.size := by omega
        have : w1.cell? ⟨w.heap.size, 1, none⟩ = some (.string b0) := cell_kept hbw1 (by simp [go_sem, *])
        have : w1.frozen? ⟨w.heap.size, 1, none⟩ = false := free_kept hbw1 (v := .string b0) (by simp [go_sem, *]) (by simp [go_sem, *])
        go_wp2_with fail
        refine (hrg.out _).mono ?_
        rintro e w2 ⟨rfl, hbw2⟩
        have hzw2 := hbw2.size
        try simp at hzw2
        have : w.heap.size < w2.heap.size := by omega
        have : w.heap.size ≤ w2.heap.size := by omega
        have : w2.cell? ⟨w.heap.size, 0, none⟩ = some (.string a0) := cell_kept hbw2 (by simp [go_sem, *])
        have : w2.frozen? ⟨w.heap.size, 0, none⟩ = false := free_kept hbw2 (v := .string a0) (by simp [go_sem, *]) (by simp [go_sem, *])
        have : w.heap.size < w2.heap.size := by omega
        have : w.heap.size ≤ w2.heap.size := by omega
        have : w2.cell? ⟨w.heap.size, 1, none⟩ = some (.string b0) := cell_kept hbw2 (by simp [go_sem, *])
        have : w2.frozen? ⟨w.heap.size, 1, none⟩ = false := free_kept hbw2 (v := .string b0) (by simp [go_sem, *]) (by simp [go_sem, *])
        have : w1.heap.size < w2.heap.size := by omega
        have : w1.heap.size ≤ w2.heap.size := by omega
        have : w2.cell? ⟨w1.heap.size, 0, none⟩ = some (.string K') := cell_kept hbw2 (by simp [go_sem, *])
        have : w2.frozen? ⟨w1.heap.size, 0, none⟩ = false := free_kept hbw2 (v := .string K') (by simp [go_sem, *]) (by simp [go_sem, *])
        have : w1.heap.size < w2.heap.size := by omega
        have : w1.heap.size ≤ w2.heap.size := by omega
        have : w2.cell? ⟨w1.heap.size, 1, none⟩ = some (.string V') := cell_kept hbw2 (by simp [go_sem, *])
        have : w2.frozen? ⟨w1.heap.size, 1, none⟩ = false := free_kept hbw2 (v := .string V') (by simp [go_sem, *]) (by simp [go_sem, *])
        go_wp2_with fail
        refine (hal.out _ (hA.on (by (repeat' (first | exact Below.refl _ _ | assumption | refine gr_drew ?_ | refine gr_drewN ?_ _ | refine gr_alloc ?_ _ | refine gr_set ?_ ?_ _ | refine gr_call ?_ (by assumption)) <;> (try (simp; done)) <;> (try (simp; omega)) <;> (try omega))))).mono ?_
        rintro e w3 ⟨⟨pa, ca, rfl, hra1⟩, hbw3⟩
        have hzw3 := hbw3.size
        try simp at hzw3
        have : w.heap.size < w3.heap.size := by omega
        have : w.heap.size ≤ w3.heap.size := by omega
        have : w3.cell? ⟨w.heap.size, 0, none⟩ = some (.string a0) := cell_kept hbw3 (by simp [go_sem, *])
        have : w3.frozen? ⟨w.heap.size, 0, none⟩ = false := free_kept hbw3 (v := .string a0) (by simp [go_sem, *]) (by simp [go_sem, *])
        have : w.heap.size < w3.heap.size := by omega
        have : w.heap.size ≤ w3.heap.size := by omega
        have : w3.cell? ⟨w.heap.size, 1, none⟩ = some (.string b0) := cell_kept hbw3 (by simp [go_sem, *])
        have : w3.frozen? ⟨w.heap.size, 1, none⟩ = false := free_kept hbw3 (v := .string b0) (by simp [go_sem, *]) (by simp [go_sem, *])
        have : w1.heap.size < w3.heap.size := by omega
        have : w1.heap.size ≤ w3.heap.size := by omega
        have : w3.cell? ⟨w1.heap.size, 0, none⟩ = some (.string K') := cell_kept hbw3 (by simp [go_sem, *])
        have : w3.frozen? ⟨w1.heap.size, 0, none⟩ = false := free_kept hbw3 (v := .string K') (by simp [go_sem, *]) (by simp [go_sem, *])
        have : w1.heap.size < w3.heap.size := by omega
        have : w1.heap.size ≤ w3.heap.size := by omega
        have : w3.cell? ⟨w1.heap.size, 1, none⟩ = some (.string V') := cell_kept hbw3 (by simp [go_sem, *])
        have : w3.frozen? ⟨w1.heap.size, 1, none⟩ = false := free_kept hbw3 (v := .string V') (by simp [go_sem, *]) (by simp [go_sem, *])
        have : w2.heap.size < w3.heap.size := by omega
        have : w2.heap.size ≤ w3.heap.size := by omega
        have : w3.cell? ⟨w2.heap.size, 0, none⟩ = some (.string K') := cell_kept hbw3 (by simp [go_sem, *])
        have : w3.frozen? ⟨w2.heap.size, 0, none⟩ = false := free_kept hbw3 (v := .string K') (by simp [go_sem, *]) (by simp [go_sem, *])
        have : w2.heap.size < w3.heap.size := by omega
        have : w2.heap.size ≤ w3.heap.size := by omega
        have : w3.cell? ⟨w2.heap.size, 1, none⟩ = some (.string V') := cell_kept hbw3 (by simp [go_sem, *])
        have : w3.frozen? ⟨w2.heap.size, 1, none⟩ = false := free_kept hbw3 (v := .string V') (by simp [go_sem, *]) (by simp [go_sem, *])
        have : w2.heap.size < w3.heap.size := by omega
        have : w2.heap.size ≤ w3.heap.size := by omega
        have : w3.cell? ⟨w2.heap.size, 2, none⟩ = some (.int .i64 N) := cell_kept hbw3 (by simp [go_sem, *])
        have : w3.frozen? ⟨w2.heap.size, 2, none⟩ = false := free_kept hbw3 (v := .int .i64 N) (by simp [go_sem, *]) (by simp [go_sem, *])
        have : w2.heap.size < w3.heap.size := by omega
        have : w2.heap.size ≤ w3.heap.size := by omega
        have : w3.cell? ⟨w2.heap.size, 3, none⟩ = some (.int .i64 E) := cell_kept hbw3 (by simp [go_sem, *])
        have : w3.frozen? ⟨w2.heap.size, 3, none⟩ = false := free_kept hbw3 (v := .int .i64 E) (by simp [go_sem, *]) (by simp [go_sem, *])
        go_wp2_with fail
        refine (hra.out _).mono ?_
        rintro e w4 ⟨⟨pb, cb, rfl, hrb1⟩, hbw4⟩
        have hzw4 := hbw4.size
        have hra2 := hra1.call hbw4
        have : w.heap.size < w4.heap.size := by omega
        have : w.heap.size ≤ w4.heap.size := by omega
        have : w4.cell? ⟨w.heap.size, 0, none⟩ = some (.string a0) := cell_kept hbw4 (by simp [go_sem, *])
        have : w4.frozen? ⟨w.heap.size, 0, none⟩ = false := free_kept hbw4 (v := .string a0) (by simp [go_sem, *]) (by simp [go_sem, *])
        have : w.heap.size < w4.heap.size := by omega
        have : w.heap.size ≤ w4.heap.size := by omega
        have : w4.cell? ⟨w.heap.size, 1, none⟩ = some (.string b0) := cell_kept hbw4 (by simp [go_sem, *])
        have : w4.frozen? ⟨w.heap.size, 1, none⟩ = false := free_kept hbw4 (v := .string b0) (by simp [go_sem, *]) (by simp [go_sem, *])
        have : w1.heap.size < w4.heap.size := by omega
        have : w1.heap.size ≤ w4.heap.size := by omega
        have : w4.cell? ⟨w1.heap.size, 0, none⟩ = some (.string K') := cell_kept hbw4 (by simp [go_sem, *])
        have : w4.frozen? ⟨w1.heap.size, 0, none⟩ = false := free_kept hbw4 (v := .string K') (by simp [go_sem, *]) (by simp [go_sem, *])
        have : w1.heap.size < w4.heap.size := by omega
        have : w1.heap.size ≤ w4.heap.size := by omega
        have : w4.cell? ⟨w1.heap.size, 1, none⟩ = some (.string V') := cell_kept hbw4 (by simp [go_sem, *])
        have : w4.frozen? ⟨w1.heap.size, 1, none⟩ = false := free_kept hbw4 (v := .string V') (by simp [go_sem, *]) (by simp [go_sem, *])
        have : w2.heap.size < w4.heap.size := by omega
        have : w2.heap.size ≤ w4.heap.size := by omega
        have : w4.cell? ⟨w2.heap.size, 0, none⟩ = some (.string K') := cell_kept hbw4 (by simp [go_sem, *])
        have : w4.frozen? ⟨w2.heap.size, 0, none⟩ = false := free_kept hbw4 (v := .string K') (by simp [go_sem, *]) (by simp [go_sem, *])
        have : w2.heap.size < w4.heap.size := by omega
        have : w2.heap.size ≤ w4.heap.size := by omega
        have : w4.cell? ⟨w2.heap.size, 1, none⟩ = some (.string V') := cell_kept hbw4 (by simp [go_sem, *])
        have : w4.frozen? ⟨w2.heap.size, 1, none⟩ = false := free_kept hbw4 (v := .string V') (by simp [go_sem, *]) (by simp [go_sem, *])
        have : w2.heap.size < w4.heap.size := by omega
        have : w2.heap.size ≤ w4.heap.size := by omega
        have : w4.cell? ⟨w2.heap.size, 2, none⟩ = some (.int .i64 N) := cell_kept hbw4 (by simp [go_sem, *])
        have : w4.frozen? ⟨w2.heap.size, 2, none⟩ = false := free_kept hbw4 (v := .int .i64 N) (by simp [go_sem, *]) (by simp [go_sem, *])
        have : w2.heap.size < w4.heap.size := by omega
        have : w2.heap.size ≤ w4.heap.size := by omega
        have : w4.cell? ⟨w2.heap.size, 3, none⟩ = some (.int .i64 E) := cell_kept hbw4 (by simp [go_sem, *])
        have : w4.frozen? ⟨w2.heap.size, 3, none⟩ = false := free_kept hbw4 (v := .int .i64 E) (by simp [go_sem, *]) (by simp [go_sem, *])
        go_wp2_with fail
        obtain ⟨W, hW⟩ : ∃ W, (w4.alloc (.cells #[.slice pb l.length cb, .int .i64 F] 35)) = W := ⟨_, rfl⟩
        have hlw1 : w.heap.size < w4.heap.size := by omega
        have hlw2 : w1.heap.size < w4.heap.size := by omega
        have hlw3 : w2.heap.size < w4.heap.size := by omega
        have c0 : W.cell? ⟨w.heap.size, 0, none⟩ = some (.string a0) := by subst hW; simp [go_sem, *]
        have c1 : W.cell? ⟨w.heap.size, 1, none⟩ = some (.string b0) := by subst hW; simp [go_sem, *]
        have c2 : W.cell? ⟨w1.heap.size, 0, none⟩ = some (.string K') := by subst hW; simp [go_sem, *]
        have c3 : W.cell? ⟨w1.heap.size, 1, none⟩ = some (.string V') := by subst hW; simp [go_sem, *]
        have c4 : W.cell? ⟨w2.heap.size, 0, none⟩ = some (.string K') := by subst hW; simp [go_sem, *]
        have c5 : W.cell? ⟨w2.heap.size, 1, none⟩ = some (.string V') := by subst hW; simp [go_sem, *]
        have c6 : W.cell? ⟨w2.heap.size, 2, none⟩ = some (.int .i64 N) := by subst hW; simp [go_sem, *]
        have c7 : W.cell? ⟨w2.heap.size, 3, none⟩ = some (.int .i64 E) := by subst hW; simp [go_sem, *]
        have c8 : W.cell? ⟨w4.heap.size, 0, none⟩ = some (.slice pb l.length cb) := by subst hW; simp [go_sem, *]
        have c9 : W.cell? ⟨w4.heap.size, 1, none⟩ = some (.int .i64 F) := by subst hW; simp [go_sem, *]
        have hBW : Below w.heap.size w W := by subst hW; (repeat' (first | exact Below.refl _ _ | assumption | refine gr_drew ?_ | refine gr_drewN ?_ _ | refine gr_alloc ?_ _ | refine gr_set ?_ ?_ _ | refine gr_call ?_ (by assumption)) <;> (try (simp; done)) <;> (try (simp; omega)) <;> (try omega))
        have hBD := gr_drew hBW
        have hAD := hA.on hBD
        have hb4 : Below w4.heap.size w4 W := by subst hW; (repeat' (first | exact Below.refl _ _ | assumption | refine gr_drew ?_ | refine gr_drewN ?_ _ | refine gr_alloc ?_ _ | refine gr_set ?_ ?_ _ | refine gr_call ?_ (by assumption)) <;> (try (simp; done)) <;> (try (simp; omega)) <;> (try omega))
        have hraW := hra2.call hb4
        have hrbW := hrb1.call hb4
        have dc0 : W.drew.cell? ⟨w.heap.size, 0, none⟩ = some (.string a0) := (show W.cell? ⟨w.heap.size, 0, none⟩ = some (.string a0) from c0)
        have dc1 : W.drew.cell? ⟨w.heap.size, 1, none⟩ = some (.string b0) := (show W.cell? ⟨w.heap.size, 1, none⟩ = some (.string b0) from c1)
        have dc2 : W.drew.cell? ⟨w1.heap.size, 0, none⟩ = some (.string K') := (show W.cell? ⟨w1.heap.size, 0, none⟩ = some (.string K') from c2)
        have dc3 : W.drew.cell? ⟨w1.heap.size, 1, none⟩ = some (.string V') := (show W.cell? ⟨w1.heap.size, 1, none⟩ = some (.string V') from c3)
        have dc4 : W.drew.cell? ⟨w2.heap.size, 0, none⟩ = some (.string K') := (show W.cell? ⟨w2.heap.size, 0, none⟩ = some (.string K') from c4)
        have dc5 : W.drew.cell? ⟨w2.heap.size, 1, none⟩ = some (.string V') := (show W.cell? ⟨w2.heap.size, 1, none⟩ = some (.string V') from c5)
        have dc6 : W.drew.cell? ⟨w2.heap.size, 2, none⟩ = some (.int .i64 N) := (show W.cell? ⟨w2.heap.size, 2, none⟩ = some (.int .i64 N) from c6)
        have dc7 : W.drew.cell? ⟨w2.heap.size, 3, none⟩ = some (.int .i64 E) := (show W.cell? ⟨w2.heap.size, 3, none⟩ = some (.int .i64 E) from c7)
        have dc8 : W.drew.cell? ⟨w4.heap.size, 0, none⟩ = some (.slice pb l.length cb) := (show W.cell? ⟨w4.heap.size, 0, none⟩ = some (.slice pb l.length cb) from c8)
        have dc9 : W.drew.cell? ⟨w4.heap.size, 1, none⟩ = some (.int .i64 F) := (show W.cell? ⟨w4.heap.size, 1, none⟩ = some (.int .i64 F) from c9)
        have hraD : RecAt (.slice pa l.length ca) l W.drew := (show RecAt (.slice pa l.length ca) l W.drew from hraW)
        have hrbD : RecAt (.slice pb l.length cb) l W.drew := (show RecAt (.slice pb l.length cb) l W.drew from hrbW)
        rw [hW]
        clear hW hra1 hra2 hrb1 hbw1 hbw2 hbw3 hbw4 hb4
        go_region_held3 (fun w' => Amb w' ∧ Below w.heap.size w w' ∧ w'.cell? ⟨w.heap.size, 0, none⟩ = some (.string a0) ∧ w'.cell? ⟨w.heap.size, 1, none⟩ = some (.string b0) ∧ w'.cell? ⟨w1.heap.size, 0, none⟩ = some (.string K') ∧ w'.cell? ⟨w1.heap.size, 1, none⟩ = some (.string V') ∧ w'.cell? ⟨w2.heap.size, 0, none⟩ = some (.string K') ∧ w'.cell? ⟨w2.heap.size, 1, none⟩ = some (.string V') ∧ w'.cell? ⟨w2.heap.size, 2, none⟩ = some (.int .i64 N) ∧ w'.cell? ⟨w2.heap.size, 3, none⟩ = some (.int .i64 E) ∧ w'.cell? ⟨w4.heap.size, 0, none⟩ = some (.slice pb l.length cb) ∧ w'.cell? ⟨w4.heap.size, 1, none⟩ = some (.int .i64 F) ∧ RecAt (.slice pa l.length ca) l w' ∧ RecAt (.slice pb l.length cb) l w')
          (first | (go_keep; done) | (go_split_ands; (repeat' apply And.intro) <;> (first | assumption | exact Amb.on (by assumption) hb1 | exact gr_call (by assumption) hb1 | exact cell_kept hb1 (by assumption) | exact RecAt.call (by assumption) hb1 | exact free_kept hb1 (by assumption) (by assumption) | (show Below _ _ _; (repeat' (first | exact Below.refl _ _ | assumption | refine gr_drew ?_ | refine gr_drewN ?_ _ | refine gr_alloc ?_ _ | refine gr_set ?_ ?_ _ | refine gr_call ?_ (by assumption)) <;> (try (simp; done)) <;> (try (simp; omega)) <;> (try omega)); done) | (go_keep; done) | (simp [go_sem, *]; done))))
          (first
            | (go_at_call 13; go_split_ands; refine (hmay.out _ (by assumption)).mono ?_; rintro e w1 ⟨rfl, hb1⟩)
            | (go_at_call 14; go_split_ands; refine (hrm.out _).mono ?_; rintro e w1 ⟨rfl, hb1⟩)
            | (go_at_call 15; go_split_ands; refine (hput.out _ (by assumption)).mono ?_; rintro e w1 ⟨rfl, hb1⟩)
            | (go_at_call 16; go_split_ands; refine (hrp.out _).mono ?_; rintro e w1 ⟨rfl, hb1⟩)
            | (go_at_call 17; go_split_ands; refine (err_any _ _).mono ?_; rintro e w1 ⟨rfl, rfl⟩)
            | (go_at_call 18; go_split_ands; refine (same_any _ _ l l _ (by assumption) (by assumption) hl9 hl9).mono ?_; rintro e w1 ⟨rfl, hb1⟩)
            | (go_at_call 8; go_split_ands; refine (awake_true _ (by assumption)).mono ?_; rintro e w1 ⟨rfl, hb1⟩))
        all_goals
          go_wp2_with fail
          go_ret
          go_split_ands
          exact ⟨rfl, by (repeat' (first | exact Below.refl _ _ | assumption | refine gr_drew ?_ | refine gr_drewN ?_ _ | refine gr_alloc ?_ _ | refine gr_set ?_ ?_ _ | refine gr_call ?_ (by assumption)) <;> (try (simp; done)) <;> (try (simp; omega)) <;> (try omega))⟩
end Go.Proofs.YtbjklpodkopgiaaDoor
