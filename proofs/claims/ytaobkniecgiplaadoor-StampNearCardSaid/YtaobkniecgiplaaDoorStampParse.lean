/- Walks over package stamp: Parse, Cmp. -/
import Derived.Test.YtaobkniecgiplaaDoorStampWalk
namespace Go.Proofs.YtaobkniecgiplaaDoor
open Go.RowKit
open StampM

theorem parse_yes (s : ByteArray) (w : World) (hA : Amb w) (hs : s.size < 2147483648) (hok : parseOk s.data.toList = true) :
    Calls Tryd.prog 11 #[.string s] w fun e w' => e = .returned (.tuple #[.agg #[.int .i64 (guessS s.data.toList), .int .i64 (guessN s.data.toList)], .bool true]) ∧ Below w.heap.size w w' := by
  obtain ⟨hm, ht⟩ := parse_of hok
  have HG := Lib.hid (fun W hA => guess_any s W hA hs)
  clear hok
  generalize guessS s.data.toList = S at *
  generalize guessN s.data.toList = N at *
  have HM := Lib.hid (fun W => may_yes S N W hm)
  have HT := Lib.hid (fun W hA => text_any S N W hA hm)
  have h1 : (textF S N == s.toList) = true := by rw [ByteArray.toList_eq]; simpa using ht
  clear hm ht
  generalize textF S N = T at *
  go_enter Tryd.func11, Tryd.ntmps11
  go_wp2_with fail
  refine (HG.out _ (hA.on (by (repeat' (first | exact Below.refl _ _ | assumption | refine gr_drew ?_ | refine gr_drewN ?_ _ | refine gr_alloc ?_ _ | refine gr_set ?_ ?_ _ | refine gr_call ?_ (by assumption)) <;> (try (simp; done)) <;> (try (simp; omega)) <;> (try omega))))).mono ?_
  rintro e w1 ⟨rfl, hbw1⟩
  have hzw1 := hbw1.size
  try simp at hzw1
  have : w.heap.size < w1.heap.size := by omega
  have : w.heap.size ≤ w1.heap.size := by omega
  have : w1.cell? ⟨w.heap.size, 0, none⟩ = some (.int .i64 0) := cell_kept hbw1 (by simp [go_sem, *])
  have : w1.frozen? ⟨w.heap.size, 0, none⟩ = false := free_kept hbw1 (v := .int .i64 0) (by simp [go_sem, *]) (by simp [go_sem, *])
  have : w.heap.size < w1.heap.size := by omega
  have : w.heap.size ≤ w1.heap.size := by omega
  have : w1.cell? ⟨w.heap.size, 1, none⟩ = some (.int .i64 0) := cell_kept hbw1 (by simp [go_sem, *])
  have : w1.frozen? ⟨w.heap.size, 1, none⟩ = false := free_kept hbw1 (v := .int .i64 0) (by simp [go_sem, *]) (by simp [go_sem, *])
  go_wp2_with fail
  refine (HM.out _).mono ?_
  rintro e w2 ⟨rfl, hbw2⟩
  have hzw2 := hbw2.size
  try simp at hzw2
  have : w.heap.size < w2.heap.size := by omega
  have : w.heap.size ≤ w2.heap.size := by omega
  have : w2.cell? ⟨w.heap.size, 0, none⟩ = some (.int .i64 0) := cell_kept hbw2 (by simp [go_sem, *])
  have : w2.frozen? ⟨w.heap.size, 0, none⟩ = false := free_kept hbw2 (v := .int .i64 0) (by simp [go_sem, *]) (by simp [go_sem, *])
  have : w.heap.size < w2.heap.size := by omega
  have : w.heap.size ≤ w2.heap.size := by omega
  have : w2.cell? ⟨w.heap.size, 1, none⟩ = some (.int .i64 0) := cell_kept hbw2 (by simp [go_sem, *])
  have : w2.frozen? ⟨w.heap.size, 1, none⟩ = false := free_kept hbw2 (v := .int .i64 0) (by simp [go_sem, *]) (by simp [go_sem, *])
  have : w1.heap.size < w2.heap.size := by omega
  have : w1.heap.size ≤ w2.heap.size := by omega
  have : w2.cell? ⟨w1.heap.size, 0, none⟩ = some (.int .i64 S) := cell_kept hbw2 (by simp [go_sem, *])
  have : w2.frozen? ⟨w1.heap.size, 0, none⟩ = false := free_kept hbw2 (v := .int .i64 S) (by simp [go_sem, *]) (by simp [go_sem, *])
  have : w1.heap.size < w2.heap.size := by omega
  have : w1.heap.size ≤ w2.heap.size := by omega
  have : w2.cell? ⟨w1.heap.size, 1, none⟩ = some (.int .i64 N) := cell_kept hbw2 (by simp [go_sem, *])
  have : w2.frozen? ⟨w1.heap.size, 1, none⟩ = false := free_kept hbw2 (v := .int .i64 N) (by simp [go_sem, *]) (by simp [go_sem, *])
  go_wp2_with fail
  refine (HT.out _ (hA.on (by (repeat' (first | exact Below.refl _ _ | assumption | refine gr_drew ?_ | refine gr_drewN ?_ _ | refine gr_alloc ?_ _ | refine gr_set ?_ ?_ _ | refine gr_call ?_ (by assumption)) <;> (try (simp; done)) <;> (try (simp; omega)) <;> (try omega))))).mono ?_
  rintro e w3 ⟨rfl, hbw3⟩
  have hzw3 := hbw3.size
  try simp at hzw3
  have : w.heap.size < w3.heap.size := by omega
  have : w.heap.size ≤ w3.heap.size := by omega
  have : w3.cell? ⟨w.heap.size, 0, none⟩ = some (.int .i64 0) := cell_kept hbw3 (by simp [go_sem, *])
  have : w3.frozen? ⟨w.heap.size, 0, none⟩ = false := free_kept hbw3 (v := .int .i64 0) (by simp [go_sem, *]) (by simp [go_sem, *])
  have : w.heap.size < w3.heap.size := by omega
  have : w.heap.size ≤ w3.heap.size := by omega
  have : w3.cell? ⟨w.heap.size, 1, none⟩ = some (.int .i64 0) := cell_kept hbw3 (by simp [go_sem, *])
  have : w3.frozen? ⟨w.heap.size, 1, none⟩ = false := free_kept hbw3 (v := .int .i64 0) (by simp [go_sem, *]) (by simp [go_sem, *])
  have : w1.heap.size < w3.heap.size := by omega
  have : w1.heap.size ≤ w3.heap.size := by omega
  have : w3.cell? ⟨w1.heap.size, 0, none⟩ = some (.int .i64 S) := cell_kept hbw3 (by simp [go_sem, *])
  have : w3.frozen? ⟨w1.heap.size, 0, none⟩ = false := free_kept hbw3 (v := .int .i64 S) (by simp [go_sem, *]) (by simp [go_sem, *])
  have : w1.heap.size < w3.heap.size := by omega
  have : w1.heap.size ≤ w3.heap.size := by omega
  have : w3.cell? ⟨w1.heap.size, 1, none⟩ = some (.int .i64 N) := cell_kept hbw3 (by simp [go_sem, *])
  have : w3.frozen? ⟨w1.heap.size, 1, none⟩ = false := free_kept hbw3 (v := .int .i64 N) (by simp [go_sem, *]) (by simp [go_sem, *])
  go_wp2_with fail
  exact bodyPost_ret (v := .tuple #[.agg #[.int .i64 S, .int .i64 N], .bool true]) (by simp [results, Tryd.results11, go_sem, *]) rfl ⟨rfl, by (repeat' (first | exact Below.refl _ _ | assumption | refine gr_drew ?_ | refine gr_drewN ?_ _ | refine gr_alloc ?_ _ | refine gr_set ?_ ?_ _ | refine gr_call ?_ (by assumption)) <;> (try (simp; done)) <;> (try (simp; omega)) <;> (try omega))⟩
theorem parse_no (s : ByteArray) (w : World) (hA : Amb w) (hs : s.size < 2147483648) (hok : parseOk s.data.toList = false) :
    Calls Tryd.prog 11 #[.string s] w fun e w' => e = .returned (.tuple #[.agg #[.int .i64 0, .int .i64 0], .bool false]) ∧ Below w.heap.size w w' := by
  have HG := Lib.hid (fun W hA => guess_any s W hA hs)
  unfold parseOk at hok
  generalize guessS s.data.toList = S at *
  generalize guessN s.data.toList = N at *
  rcases hm : mayF S N with _ | _
  · have HM := Lib.hid (fun W => may_no S N W hm)
    clear hok hm
    go_enter Tryd.func11, Tryd.ntmps11
    go_wp2_with fail
    refine (HG.out _ (hA.on (by (repeat' (first | exact Below.refl _ _ | assumption | refine gr_drew ?_ | refine gr_drewN ?_ _ | refine gr_alloc ?_ _ | refine gr_set ?_ ?_ _ | refine gr_call ?_ (by assumption)) <;> (try (simp; done)) <;> (try (simp; omega)) <;> (try omega))))).mono ?_
    rintro e w1 ⟨rfl, hbw1⟩
    have hzw1 := hbw1.size
    try simp at hzw1
    have : w.heap.size < w1.heap.size := by omega
    have : w.heap.size ≤ w1.heap.size := by omega
    have : w1.cell? ⟨w.heap.size, 0, none⟩ = some (.int .i64 0) := cell_kept hbw1 (by simp [go_sem, *])
    have : w1.frozen? ⟨w.heap.size, 0, none⟩ = false := free_kept hbw1 (v := .int .i64 0) (by simp [go_sem, *]) (by simp [go_sem, *])
    have : w.heap.size < w1.heap.size := by omega
    have : w.heap.size ≤ w1.heap.size := by omega
    have : w1.cell? ⟨w.heap.size, 1, none⟩ = some (.int .i64 0) := cell_kept hbw1 (by simp [go_sem, *])
    have : w1.frozen? ⟨w.heap.size, 1, none⟩ = false := free_kept hbw1 (v := .int .i64 0) (by simp [go_sem, *]) (by simp [go_sem, *])
    go_wp2_with fail
    refine (HM.out _).mono ?_
    rintro e w2 ⟨rfl, hbw2⟩
    have hzw2 := hbw2.size
    try simp at hzw2
    have : w.heap.size < w2.heap.size := by omega
    have : w.heap.size ≤ w2.heap.size := by omega
    have : w2.cell? ⟨w.heap.size, 0, none⟩ = some (.int .i64 0) := cell_kept hbw2 (by simp [go_sem, *])
    have : w2.frozen? ⟨w.heap.size, 0, none⟩ = false := free_kept hbw2 (v := .int .i64 0) (by simp [go_sem, *]) (by simp [go_sem, *])
    have : w.heap.size < w2.heap.size := by omega
    have : w.heap.size ≤ w2.heap.size := by omega
    have : w2.cell? ⟨w.heap.size, 1, none⟩ = some (.int .i64 0) := cell_kept hbw2 (by simp [go_sem, *])
    have : w2.frozen? ⟨w.heap.size, 1, none⟩ = false := free_kept hbw2 (v := .int .i64 0) (by simp [go_sem, *]) (by simp [go_sem, *])
    have : w1.heap.size < w2.heap.size := by omega
    have : w1.heap.size ≤ w2.heap.size := by omega
    have : w2.cell? ⟨w1.heap.size, 0, none⟩ = some (.int .i64 S) := cell_kept hbw2 (by simp [go_sem, *])
    have : w2.frozen? ⟨w1.heap.size, 0, none⟩ = false := free_kept hbw2 (v := .int .i64 S) (by simp [go_sem, *]) (by simp [go_sem, *])
    have : w1.heap.size < w2.heap.size := by omega
    have : w1.heap.size ≤ w2.heap.size := by omega
    have : w2.cell? ⟨w1.heap.size, 1, none⟩ = some (.int .i64 N) := cell_kept hbw2 (by simp [go_sem, *])
    have : w2.frozen? ⟨w1.heap.size, 1, none⟩ = false := free_kept hbw2 (v := .int .i64 N) (by simp [go_sem, *]) (by simp [go_sem, *])
    go_wp2_with fail
    exact bodyPost_ret (v := .tuple #[.agg #[.int .i64 0, .int .i64 0], .bool false]) (by simp [results, Tryd.results11, go_sem, *]) rfl ⟨rfl, by (repeat' (first | exact Below.refl _ _ | assumption | refine gr_drew ?_ | refine gr_drewN ?_ _ | refine gr_alloc ?_ _ | refine gr_set ?_ ?_ _ | refine gr_call ?_ (by assumption)) <;> (try (simp; done)) <;> (try (simp; omega)) <;> (try omega))⟩
  · have HM := Lib.hid (fun W => may_yes S N W hm)
    have HT := Lib.hid (fun W hA => text_any S N W hA hm)
    rw [hm] at hok
    simp only [Bool.true_and, decide_eq_false_iff_not] at hok
    have h1 : (textF S N == s.toList) = false := by rw [ByteArray.toList_eq]; simpa using hok
    clear hok hm
    generalize textF S N = T at *
    go_enter Tryd.func11, Tryd.ntmps11
    go_wp2_with fail
    refine (HG.out _ (hA.on (by (repeat' (first | exact Below.refl _ _ | assumption | refine gr_drew ?_ | refine gr_drewN ?_ _ | refine gr_alloc ?_ _ | refine gr_set ?_ ?_ _ | refine gr_call ?_ (by assumption)) <;> (try (simp; done)) <;> (try (simp; omega)) <;> (try omega))))).mono ?_
    rintro e w1 ⟨rfl, hbw1⟩
    have hzw1 := hbw1.size
    try simp at hzw1
    have : w.heap.size < w1.heap.size := by omega
    have : w.heap.size ≤ w1.heap.size := by omega
    have : w1.cell? ⟨w.heap.size, 0, none⟩ = some (.int .i64 0) := cell_kept hbw1 (by simp [go_sem, *])
    have : w1.frozen? ⟨w.heap.size, 0, none⟩ = false := free_kept hbw1 (v := .int .i64 0) (by simp [go_sem, *]) (by simp [go_sem, *])
    have : w.heap.size < w1.heap.size := by omega
    have : w.heap.size ≤ w1.heap.size := by omega
    have : w1.cell? ⟨w.heap.size, 1, none⟩ = some (.int .i64 0) := cell_kept hbw1 (by simp [go_sem, *])
    have : w1.frozen? ⟨w.heap.size, 1, none⟩ = false := free_kept hbw1 (v := .int .i64 0) (by simp [go_sem, *]) (by simp [go_sem, *])
    go_wp2_with fail
    refine (HM.out _).mono ?_
    rintro e w2 ⟨rfl, hbw2⟩
    have hzw2 := hbw2.size
    try simp at hzw2
    have : w.heap.size < w2.heap.size := by omega
    have : w.heap.size ≤ w2.heap.size := by omega
    have : w2.cell? ⟨w.heap.size, 0, none⟩ = some (.int .i64 0) := cell_kept hbw2 (by simp [go_sem, *])
    have : w2.frozen? ⟨w.heap.size, 0, none⟩ = false := free_kept hbw2 (v := .int .i64 0) (by simp [go_sem, *]) (by simp [go_sem, *])
    have : w.heap.size < w2.heap.size := by omega
    have : w.heap.size ≤ w2.heap.size := by omega
    have : w2.cell? ⟨w.heap.size, 1, none⟩ = some (.int .i64 0) := cell_kept hbw2 (by simp [go_sem, *])
    have : w2.frozen? ⟨w.heap.size, 1, none⟩ = false := free_kept hbw2 (v := .int .i64 0) (by simp [go_sem, *]) (by simp [go_sem, *])
    have : w1.heap.size < w2.heap.size := by omega
    have : w1.heap.size ≤ w2.heap.size := by omega
    have : w2.cell? ⟨w1.heap.size, 0, none⟩ = some (.int .i64 S) := cell_kept hbw2 (by simp [go_sem, *])
    have : w2.frozen? ⟨w1.heap.size, 0, none⟩ = false := free_kept hbw2 (v := .int .i64 S) (by simp [go_sem, *]) (by simp [go_sem, *])
    have : w1.heap.size < w2.heap.size := by omega
    have : w1.heap.size ≤ w2.heap.size := by omega
    have : w2.cell? ⟨w1.heap.size, 1, none⟩ = some (.int .i64 N) := cell_kept hbw2 (by simp [go_sem, *])
    have : w2.frozen? ⟨w1.heap.size, 1, none⟩ = false := free_kept hbw2 (v := .int .i64 N) (by simp [go_sem, *]) (by simp [go_sem, *])
    go_wp2_with fail
    refine (HT.out _ (hA.on (by (repeat' (first | exact Below.refl _ _ | assumption | refine gr_drew ?_ | refine gr_drewN ?_ _ | refine gr_alloc ?_ _ | refine gr_set ?_ ?_ _ | refine gr_call ?_ (by assumption)) <;> (try (simp; done)) <;> (try (simp; omega)) <;> (try omega))))).mono ?_
    rintro e w3 ⟨rfl, hbw3⟩
    have hzw3 := hbw3.size
    try simp at hzw3
    have : w.heap.size < w3.heap.size := by omega
    have : w.heap.size ≤ w3.heap.size := by omega
    have : w3.cell? ⟨w.heap.size, 0, none⟩ = some (.int .i64 0) := cell_kept hbw3 (by simp [go_sem, *])
    have : w3.frozen? ⟨w.heap.size, 0, none⟩ = false := free_kept hbw3 (v := .int .i64 0) (by simp [go_sem, *]) (by simp [go_sem, *])
    have : w.heap.size < w3.heap.size := by omega
    have : w.heap.size ≤ w3.heap.size := by omega
    have : w3.cell? ⟨w.heap.size, 1, none⟩ = some (.int .i64 0) := cell_kept hbw3 (by simp [go_sem, *])
    have : w3.frozen? ⟨w.heap.size, 1, none⟩ = false := free_kept hbw3 (v := .int .i64 0) (by simp [go_sem, *]) (by simp [go_sem, *])
    have : w1.heap.size < w3.heap.size := by omega
    have : w1.heap.size ≤ w3.heap.size := by omega
    have : w3.cell? ⟨w1.heap.size, 0, none⟩ = some (.int .i64 S) := cell_kept hbw3 (by simp [go_sem, *])
    have : w3.frozen? ⟨w1.heap.size, 0, none⟩ = false := free_kept hbw3 (v := .int .i64 S) (by simp [go_sem, *]) (by simp [go_sem, *])
    have : w1.heap.size < w3.heap.size := by omega
    have : w1.heap.size ≤ w3.heap.size := by omega
    have : w3.cell? ⟨w1.heap.size, 1, none⟩ = some (.int .i64 N) := cell_kept hbw3 (by simp [go_sem, *])
    have : w3.frozen? ⟨w1.heap.size, 1, none⟩ = false := free_kept hbw3 (v := .int .i64 N) (by simp [go_sem, *]) (by simp [go_sem, *])
    go_wp2_with fail
    exact bodyPost_ret (v := .tuple #[.agg #[.int .i64 0, .int .i64 0], .bool false]) (by simp [results, Tryd.results11, go_sem, *]) rfl ⟨rfl, by (repeat' (first | exact Below.refl _ _ | assumption | refine gr_drew ?_ | refine gr_drewN ?_ _ | refine gr_alloc ?_ _ | refine gr_set ?_ ?_ _ | refine gr_call ?_ (by assumption)) <;> (try (simp; done)) <;> (try (simp; omega)) <;> (try omega))⟩

theorem compare_any (x y : Int) (w : World) :
    Calls Tryd.prog 29 #[.int .i64 x, .int .i64 y] w fun e w' => e = .returned (.int .i64 (Lib.compareInt x y)) ∧ w = w' :=
  (Tryd.cmp_Compare_int x y w).mono fun _ _ ⟨he, hw⟩ => ⟨he, hw.symm⟩
theorem or_any (g : Nat) (x y : Int) (w : World) (h0 : w.cell? ⟨g, 0, none⟩ = some (.int .i64 x)) (h1 : w.cell? ⟨g, 1, none⟩ = some (.int .i64 y)) :
    Calls Tryd.prog 28 #[.slice (some ⟨g, 0, none⟩) 2 2] w fun e w' => e = .returned (.int .i64 (orF x y)) ∧ w = w' := by
  by_cases hx : x = 0
  · subst hx
    have hq : ((0 : Int) != 0) = false := rfl
    have Hr := Lib.hid (show orF 0 y = y by simp [orF])
    by_cases hy : y = 0
    · subst hy
      go_enter Tryd.func28, Tryd.ntmps28
      go_wp2
      go_loop [8] (fun i => ∃ k : Nat, k ≤ 2 ∧ i = .int .i64 k) (fun i => 2 - (intOf i).toNat)
      case atStart => exact ⟨0, by omega, rfl⟩
      case round =>
        obtain ⟨k, hk, rfl⟩ := hrel
        rcases (show k = 0 ∨ k = 1 ∨ k = 2 by omega) with rfl | rfl | rfl
        · go_wp2
          go_round
          case rel => exact ⟨1, by omega, rfl⟩
          case measure => simp [intOf]
        · go_wp2
          go_round
          case rel => exact ⟨2, by omega, rfl⟩
          case measure => simp [intOf]
        · go_wp2
          go_ret
          exact ⟨ret_num (by rw [Hr.out]), rfl⟩
    · have hq2 : (y != 0) = true := by simpa using hy
      clear hy
      go_enter Tryd.func28, Tryd.ntmps28
      go_wp2
      go_loop [8] (fun i => ∃ k : Nat, k ≤ 1 ∧ i = .int .i64 k) (fun i => 2 - (intOf i).toNat)
      case atStart => exact ⟨0, by omega, rfl⟩
      case round =>
        obtain ⟨k, hk, rfl⟩ := hrel
        rcases (show k = 0 ∨ k = 1 by omega) with rfl | rfl
        · go_wp2
          go_round
          case rel => exact ⟨1, by omega, rfl⟩
          case measure => simp [intOf]
        · go_wp2
          go_ret
          exact ⟨ret_num (by rw [Hr.out]), rfl⟩
  · have hq2 : (x != 0) = true := by simpa using hx
    have Hr := Lib.hid (show orF x y = x by simp [orF, hx])
    clear hx
    go_enter Tryd.func28, Tryd.ntmps28
    go_wp2
    go_loop [8] (fun i => i = .int .i64 0) (fun i => 2 - (intOf i).toNat)
    case atStart => exact rfl
    case round =>
      subst hrel
      go_wp2
      go_ret
      exact ⟨ret_num (by rw [Hr.out]), rfl⟩
theorem cmp_any (a b c d : Int) (w : World) :
    Calls Tryd.prog 17 #[.agg #[.int .i64 a, .int .i64 b], .agg #[.int .i64 c, .int .i64 d]] w fun e w' => e = .returned (.int .i64 (cmpF a b c d)) ∧ Below w.heap.size w w' := by
  go_enter Tryd.func17, Tryd.ntmps17
  go_wp2_with fail
  have hB0 : Below w.heap.size w ((w.alloc (.cells #[.int .i64 a, .int .i64 b] 23)).alloc (.cells #[.int .i64 c, .int .i64 d] 23)) := by (repeat' (first | exact Below.refl _ _ | assumption | refine gr_drew ?_ | refine gr_drewN ?_ _ | refine gr_alloc ?_ _ | refine gr_set ?_ ?_ _ | refine gr_call ?_ (by assumption)) <;> (try (simp; done)) <;> (try (simp; omega)) <;> (try omega))
  have hB1 := gr_drew hB0
  clear hB0
  go_region_held3 (fun w' => Below w.heap.size w w' ∧ w'.cell? ⟨w.heap.size, 0, none⟩ = some (.int .i64 a) ∧ w'.cell? ⟨w.heap.size, 1, none⟩ = some (.int .i64 b) ∧ w'.cell? ⟨w.heap.size + 1, 0, none⟩ = some (.int .i64 c) ∧ w'.cell? ⟨w.heap.size + 1, 1, none⟩ = some (.int .i64 d))
    (first | (go_keep; done) | (go_split_ands; (repeat' apply And.intro) <;> (first | assumption | exact Amb.on (by assumption) hb1 | exact gr_call (by assumption) hb1 | exact cell_kept hb1 (by assumption) | (show Below _ _ _; (repeat' (first | exact Below.refl _ _ | assumption | refine gr_drew ?_ | refine gr_drewN ?_ _ | refine gr_alloc ?_ _ | refine gr_set ?_ ?_ _ | refine gr_call ?_ (by assumption)) <;> (try (simp; done)) <;> (try (simp; omega)) <;> (try omega)); done) | (go_keep; done) | (simp [go_sem, *]; done))))
    (first
      | (go_at_call 29; go_split_ands; refine (compare_any _ _ _).mono ?_; rintro e w' ⟨rfl, rfl⟩)
      | (go_at_call 28; go_split_ands; refine (or_any _ (Lib.compareInt a c) (Lib.compareInt b d) _ (by simp [go_sem, *]) (by simp [go_sem, *])).mono ?_; rintro e w' ⟨rfl, rfl⟩))
  all_goals
    go_wp2_with fail
    go_ret
    go_split_ands
    exact ⟨rfl, by (repeat' (first | exact Below.refl _ _ | assumption | refine gr_drew ?_ | refine gr_drewN ?_ _ | refine gr_alloc ?_ _ | refine gr_set ?_ ?_ _ | refine gr_call ?_ (by assumption)) <;> (try (simp; done)) <;> (try (simp; omega)) <;> (try omega))⟩
end Go.Proofs.YtaobkniecgiplaaDoor
