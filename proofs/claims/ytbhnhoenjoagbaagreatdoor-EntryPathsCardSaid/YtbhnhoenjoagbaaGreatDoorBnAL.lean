/- Bundle of 2 texts. -/
import Derived.Test.YtbhnhoenjoagbaaGreatDoorBnAK
import Derived.Test.YtbhnhoenjoagbaaGreatDoorStpMath
import Derived.Deep.RegionHeld3
import Derived.Outline
import Derived.Test.YtbhnhoenjoagbaaGreatDoorDec
import Derived.Test.YtbhnhoenjoagbaaGreatDoorKit
import Derived.Test.YtbhnhoenjoagbaaGreatDoorRows
import Derived.Deep.QuietTactic
import Derived.BigQuiet
import Derived.Below
/- Walks over package stamp: digits, the guess. -/
namespace Go.Proofs.YtbhnhoenjoagbaaGreatDoor.StampW
open Go.RowKit
open StampM

theorem value_any (s : ByteArray) (w : World) (hs : s.size ≤ maxLen) :
    Calls Tryz.prog 270 #[.string s] w fun e w' => e = .returned (.int .i64 (valF s.data.toList)) ∧ w = w' := by
  unfold maxLen at hs
  go_enter Tryz.func270, Tryz.ntmps270
  go_wp2
  go_loop [3, 7] (fun n i => ∃ (k : Nat) (x : Int), k ≤ s.size ∧ i = .int .i64 k ∧ n = .int .i64 x ∧ Hid (x = valF (s.data.toList.take k))) (fun _ i => s.size - (intOf i).toNat)
  case atStart => exact ⟨0, 0, Nat.zero_le _, rfl, rfl, Lib.hid rfl⟩
  case round =>
    obtain ⟨k, x, hk, rfl, rfl, Hx⟩ := hrel
    by_cases hlt : k < s.size
    · have Hs := Lib.hid (valF_snoc (s.data.toList.take k) s[k])
      rw [← take_snoc s k hlt, ← Hx.out] at Hs
      go_wp2
      all_goals
        go_round
        case rel => exact ⟨k + 1, _, by omega, by go_num, rfl, by rw [Hid, Hs.out, vstep, IntWalk.wrap64_in ((s[k]).toNat : Int) ⟨by omega, by have := (s[k]).toNat_lt; omega⟩]⟩
        case measure => simp [intOf]; omega
    · obtain rfl : k = s.size := by omega
      rw [take_all] at Hx
      clear hlt
      go_wp2
      go_ret
      exact ⟨ret_num Hx.out, rfl⟩

theorem nanoseconds_any (s : ByteArray) (w : World) (hs : s.size ≤ maxLen) :
    Calls Tryz.prog 271 #[.string s] w fun e w' => e = .returned (.int .i64 (nanF s.data.toList)) ∧ w = w' := by
  have hs' := hs
  unfold maxLen at hs'
  go_enter Tryz.func271, Tryz.ntmps271
  go_wp2_with (go_at_call 270; refine (value_any _ _ hs).mono ?_; rintro e w' ⟨rfl, rfl⟩)
  go_loop [3, 9] (fun n i => ∃ (k : Nat) (x : Int), k ≤ 9 - s.size ∧ i = .int .i64 k ∧ n = .int .i64 x ∧ Hid (x = tens k (valF s.data.toList))) (fun _ i => 9 - (intOf i).toNat)
  case atStart => exact ⟨0, _, Nat.zero_le _, rfl, rfl, Lib.hid rfl⟩
  case round =>
    obtain ⟨k, x, hk, rfl, rfl, Hx⟩ := hrel
    by_cases hlt : k < 9 - s.size
    · have hlt' : (k : Int) < 9 - (s.size : Int) := by omega
      go_wp2
      all_goals
        go_round
        case rel => exact ⟨k + 1, _, by omega, by go_num, rfl, by rw [Hid, tens, Hx.out]⟩
        case measure => simp [intOf]; omega
    · obtain rfl : k = 9 - s.size := by omega
      have hlt' : ¬ (((9 - s.size : Nat) : Int) < 9 - (s.size : Int)) := by omega
      clear hlt
      go_wp2
      go_ret
      exact ⟨ret_num (by rw [Hx.out, nanF]; simp), rfl⟩

theorem opposite_any (s n : Int) (w : World) :
    Calls Tryz.prog 131 #[.agg #[.int .i64 s, .int .i64 n]] w fun e w' => e = .returned (.agg #[.int .i64 (oppS s n), .int .i64 (oppN n)]) ∧ Below w.heap.size w w' := by
  by_cases h0 : n = 0
  · have h1 : (n == 0) = true := by simpa using h0
    have hr : oppS s n = wrap64 (-s) ∧ oppN n = 0 := by unfold oppS oppN; simp [h0]
    have Hr := Lib.hid hr
    clear h0 hr
    go_enter Tryz.func131, Tryz.ntmps131
    go_wp2
    exact bodyPost_ret (v := .agg #[.int .i64 (wrap64 (-s)), .int .i64 0]) (by simp [results, Tryz.results131, go_sem, *]) rfl ⟨by rw [Hr.out.1, Hr.out.2], by (repeat' (first | exact Below.refl _ _ | assumption | refine gr_drew ?_ | refine gr_drewN ?_ _ | refine gr_alloc ?_ _ | refine gr_set ?_ ?_ _ | refine gr_call ?_ (by assumption)) <;> (try (simp; done)) <;> (try (simp; omega)) <;> (try omega))⟩
  · have h1 : (n == 0) = false := by simpa using h0
    have hr : oppS s n = wrap64 (wrap64 (-s) - 1) ∧ oppN n = wrap64 (1000000000 - n) := by unfold oppS oppN; simp [h0]
    have Hr := Lib.hid hr
    clear h0 hr
    go_enter Tryz.func131, Tryz.ntmps131
    go_wp2
    exact bodyPost_ret (v := .agg #[.int .i64 (wrap64 (wrap64 (-s) - 1)), .int .i64 (wrap64 (1000000000 - n))]) (by simp [results, Tryz.results131, go_sem, *]) rfl ⟨by rw [Hr.out.1, Hr.out.2], by (repeat' (first | exact Below.refl _ _ | assumption | refine gr_drew ?_ | refine gr_drewN ?_ _ | refine gr_alloc ?_ _ | refine gr_set ?_ ?_ _ | refine gr_call ?_ (by assumption)) <;> (try (simp; done)) <;> (try (simp; omega)) <;> (try omega))⟩

theorem fraction_any (n : Int) (w : World) (hA : AmbB w) (h0 : 0 ≤ n) (h1 : n ≤ 999999999) :
    Calls Tryz.prog 132 #[.int .i64 n] w fun e w' => e = .returned (.string ⟨(fracF n).toArray⟩) ∧ Below w.heap.size w w' := by
  by_cases hz : n = 0
  · have h1 : (n == 0) = true := by simpa using hz
    have hr : fracF n = [] := by simp [fracF, hz]
    have Hr := Lib.hid hr
    clear hz hr
    go_enter Tryz.func132, Tryz.ntmps132
    go_wp2
    go_ret
    exact ⟨by rw [Hr.out]; rfl, by (repeat' (first | exact Below.refl _ _ | assumption | refine gr_drew ?_ | refine gr_drewN ?_ _ | refine gr_alloc ?_ _ | refine gr_set ?_ ?_ _ | refine gr_call ?_ (by assumption)) <;> (try (simp; done)) <;> (try (simp; omega)) <;> (try omega))⟩
  · have hq : (n == 0) = false := by simpa using hz
    have hr : fracF n = 46 :: Lib.trimRightB ((Lib.itoa (1000000000 + n)).drop 1) 48 := by simp [fracF, hz]
    have Hr := Lib.hid hr
    clear hz hr
    have hlen := DecM.itoa_len (1000000000 + n) (by omega) (by omega)
    have HI := Lib.hid (itoa_any (1000000000 + n) w hA (by omega) (by omega))
    generalize Lib.itoa (1000000000 + n) = L at *
    have hL1 : 1 ≤ L.length := hlen.1
    have hL2 : L.length ≤ 20 := hlen.2
    have hT : (Lib.trimRightB L.tail 48).length ≤ 20 := by
      have := DecM.trim_le L.tail 48
      simp at this; omega
    clear hlen
    go_enter Tryz.func132, Tryz.ntmps132
    go_wp2_with fail
    refine HI.out.mono ?_
    rintro e w1 ⟨rfl, hb1⟩
    go_wp2_with fail
    have he : ({ data := L.toArray } : ByteArray).extract 1 L.length = ⟨(L.drop 1).toArray⟩ := by
      rw [Lib.extract_mk, List.take_of_length_le (by simp)]
    rw [he]
    refine (trimRight_any _ 48 (by decide) _ (by rw [Lib.size_mk]; simp; omega)).mono ?_
    rintro e w' ⟨rfl, rfl⟩
    go_wp2_with fail
    go_ret
    refine ⟨?_, by (repeat' (first | exact Below.refl _ _ | assumption | refine gr_drew ?_ | refine gr_drewN ?_ _ | refine gr_alloc ?_ _ | refine gr_set ?_ ?_ _ | refine gr_call ?_ (by assumption)) <;> (try (simp; done)) <;> (try (simp; omega)) <;> (try omega))⟩
    rw [Hr.out]; simp; rfl

theorem guess_any (s : ByteArray) (w : World) (hA : AmbB w) (hs : s.size < 2147483648) :
    Calls Tryz.prog 216 #[.string s] w fun e w' => e = .returned (.agg #[.int .i64 (guessS s.data.toList), .int .i64 (guessN s.data.toList)]) ∧ Below w.heap.size w w' := by
  have hl : s.data.toList.length = s.size := by simp
  have h1 : (⟨(gSize s.data.toList).toArray⟩ : ByteArray).size < 4294967281 := by
    rw [Lib.size_mk]; unfold gSize Lib.trimPrefix; split
    · simp; omega
    · omega
  have h2 : (⟨(Lib.cut (gSize s.data.toList) [46]).1.toArray⟩ : ByteArray).size ≤ maxLen := by
    rw [Lib.size_mk] at h1 ⊢; unfold Lib.cut maxLen; split
    · simp; omega
    · simp only; omega
  have h3 : (⟨(Lib.cut (gSize s.data.toList) [46]).2.1.toArray⟩ : ByteArray).size ≤ maxLen := by
    rw [Lib.size_mk] at h1 ⊢; unfold Lib.cut maxLen; split
    · simp; omega
    · simp
  have K1 := Lib.hid h1
  have K2 := Lib.hid h2
  have K3 := Lib.hid h3
  clear hl h1 h2 h3
  by_cases hp : Lib.hasPrefix s.data.toList [45] = true
  · have Hs := Lib.hid (show guessS s.data.toList = oppS (valF (Lib.cut (gSize s.data.toList) [46]).1) (nanF (Lib.cut (gSize s.data.toList) [46]).2.1) by unfold guessS; rw [if_pos hp]; rfl)
    have Hn := Lib.hid (show guessN s.data.toList = oppN (nanF (Lib.cut (gSize s.data.toList) [46]).2.1) by unfold guessN; rw [if_pos hp]; rfl)
    go_enter Tryz.func216, Tryz.ntmps216
    go_wp2_with fail
    refine (cutPrefix_any _ _ _).mono ?_
    rintro e w' ⟨rfl, rfl⟩
    go_wp2_with fail
    refine (cut_any _ _ _ (hA.on (by (repeat' (first | exact Below.refl _ _ | assumption | refine gr_drew ?_ | refine gr_drewN ?_ _ | refine gr_alloc ?_ _ | refine gr_set ?_ ?_ _ | refine gr_call ?_ (by assumption)) <;> (try (simp; done)) <;> (try (simp; omega)) <;> (try omega)))) K1.out).mono ?_
    rintro e w1 ⟨rfl, hbw1⟩
    have hzw1 := hbw1.size
    try simp at hzw1
    have : w.heap.size < w1.heap.size := by omega
    have : w.heap.size ≤ w1.heap.size := by omega
    have : w1.cell? ⟨w.heap.size, 0, none⟩ = some (.int .i64 0) := cell_kept hbw1 (by simp [go_sem, *])
    have : w1.frozen? ⟨w.heap.size, 0, none⟩ = false := free_kept hbw1 (v := .int .i64 0) (by simp [go_sem, *]) (by simp [go_sem, *])
    have : w.heap.size < w1.heap.size := by omega
    have : w.heap.size ≤ w1.heap.size := by omega
    have : w1.cell? ⟨w.heap.size, 1, none⟩ = some (.int .i64 0) := cell_kept hbw1 (by simp [go_sem, *])
    have : w1.frozen? ⟨w.heap.size, 1, none⟩ = false := free_kept hbw1 (v := .int .i64 0) (by simp [go_sem, *]) (by simp [go_sem, *])
    go_wp2_with fail
    refine (value_any _ _ K2.out).mono ?_
    rintro e w' ⟨rfl, rfl⟩
    go_wp2_with fail
    refine (nanoseconds_any _ _ K3.out).mono ?_
    rintro e w' ⟨rfl, rfl⟩
    go_wp2_with fail
    refine (opposite_any _ _ _).mono ?_
    rintro e w2 ⟨rfl, hbw2⟩
    have hzw2 := hbw2.size
    try simp at hzw2
    have : w.heap.size < w2.heap.size := by omega
    have : w.heap.size ≤ w2.heap.size := by omega
    have : w2.cell? ⟨w.heap.size, 0, none⟩ = some (.int .i64 0) := cell_kept hbw2 (by simp [go_sem, *])
    have : w2.frozen? ⟨w.heap.size, 0, none⟩ = false := free_kept hbw2 (v := .int .i64 0) (by simp [go_sem, *]) (by simp [go_sem, *])
    have : w.heap.size < w2.heap.size := by omega
    have : w.heap.size ≤ w2.heap.size := by omega
    have : w2.cell? ⟨w.heap.size, 1, none⟩ = some (.int .i64 0) := cell_kept hbw2 (by simp [go_sem, *])
    have : w2.frozen? ⟨w.heap.size, 1, none⟩ = false := free_kept hbw2 (v := .int .i64 0) (by simp [go_sem, *]) (by simp [go_sem, *])
    go_wp2_with fail
    exact bodyPost_ret (v := .agg #[.int .i64 (oppS (valF (Lib.cut (gSize s.data.toList) [46]).1) (nanF (Lib.cut (gSize s.data.toList) [46]).2.1)), .int .i64 (oppN (nanF (Lib.cut (gSize s.data.toList) [46]).2.1))]) (by simp [results, Tryz.results216, go_sem, *]) rfl ⟨by rw [Hs.out, Hn.out], by (repeat' (first | exact Below.refl _ _ | assumption | refine gr_drew ?_ | refine gr_drewN ?_ _ | refine gr_alloc ?_ _ | refine gr_set ?_ ?_ _ | refine gr_call ?_ (by assumption)) <;> (try (simp; done)) <;> (try (simp; omega)) <;> (try omega))⟩
  · have Hs := Lib.hid (show guessS s.data.toList = valF (Lib.cut (gSize s.data.toList) [46]).1 by unfold guessS; rw [if_neg hp]; rfl)
    have Hn := Lib.hid (show guessN s.data.toList = nanF (Lib.cut (gSize s.data.toList) [46]).2.1 by unfold guessN; rw [if_neg hp]; rfl)
    have hp' : Lib.hasPrefix s.data.toList [45] = false := by simpa using hp
    clear hp
    go_enter Tryz.func216, Tryz.ntmps216
    go_wp2_with fail
    refine (cutPrefix_any _ _ _).mono ?_
    rintro e w' ⟨rfl, rfl⟩
    go_wp2_with fail
    refine (cut_any _ _ _ (hA.on (by (repeat' (first | exact Below.refl _ _ | assumption | refine gr_drew ?_ | refine gr_drewN ?_ _ | refine gr_alloc ?_ _ | refine gr_set ?_ ?_ _ | refine gr_call ?_ (by assumption)) <;> (try (simp; done)) <;> (try (simp; omega)) <;> (try omega)))) K1.out).mono ?_
    rintro e w1 ⟨rfl, hbw1⟩
    have hzw1 := hbw1.size
    try simp at hzw1
    have : w.heap.size < w1.heap.size := by omega
    have : w.heap.size ≤ w1.heap.size := by omega
    have : w1.cell? ⟨w.heap.size, 0, none⟩ = some (.int .i64 0) := cell_kept hbw1 (by simp [go_sem, *])
    have : w1.frozen? ⟨w.heap.size, 0, none⟩ = false := free_kept hbw1 (v := .int .i64 0) (by simp [go_sem, *]) (by simp [go_sem, *])
    have : w.heap.size < w1.heap.size := by omega
    have : w.heap.size ≤ w1.heap.size := by omega
    have : w1.cell? ⟨w.heap.size, 1, none⟩ = some (.int .i64 0) := cell_kept hbw1 (by simp [go_sem, *])
    have : w1.frozen? ⟨w.heap.size, 1, none⟩ = false := free_kept hbw1 (v := .int .i64 0) (by simp [go_sem, *]) (by simp [go_sem, *])
    go_wp2_with fail
    refine (value_any _ _ K2.out).mono ?_
    rintro e w' ⟨rfl, rfl⟩
    go_wp2_with fail
    refine (nanoseconds_any _ _ K3.out).mono ?_
    rintro e w' ⟨rfl, rfl⟩
    go_wp2_with fail
    exact bodyPost_ret (v := .agg #[.int .i64 (valF (Lib.cut (gSize s.data.toList) [46]).1), .int .i64 (nanF (Lib.cut (gSize s.data.toList) [46]).2.1)]) (by simp [results, Tryz.results216, go_sem, *]) rfl ⟨by rw [Hs.out, Hn.out], by (repeat' (first | exact Below.refl _ _ | assumption | refine gr_drew ?_ | refine gr_drewN ?_ _ | refine gr_alloc ?_ _ | refine gr_set ?_ ?_ _ | refine gr_call ?_ (by assumption)) <;> (try (simp; done)) <;> (try (simp; omega)) <;> (try omega))⟩

theorem textPos_any (s n : Int) (w : World) (hA : AmbB w) (h0 : 0 ≤ s) (h1 : s ≤ 1099511627776) (h2 : 0 ≤ n) (h3 : n ≤ 999999999) :
    Calls Tryz.prog 67 #[.agg #[.int .i64 s, .int .i64 n]] w fun e w' => e = .returned (.string ⟨(Lib.itoa s ++ fracF n).toArray⟩) ∧ Below w.heap.size w w' := by
  have hs : decide (s < 0) = false := by simp; omega
  have hi := (DecM.itoa_len s (by omega) (by omega)).2
  have hf := frac_len n h2 h3
  have hi' : ¬ 9223372036854775807 < (Lib.itoa s).length := by omega
  have hf' : ¬ 9223372036854775807 < (Lib.itoa s).length + (fracF n).length := by omega
  go_enter Tryz.func67, Tryz.ntmps67
  go_wp2_with fail
  have hB0 : Below w.heap.size w (w.alloc (.cells #[.int .i64 s, .int .i64 n] 30)) := by (repeat' (first | exact Below.refl _ _ | assumption | refine gr_drew ?_ | refine gr_drewN ?_ _ | refine gr_alloc ?_ _ | refine gr_set ?_ ?_ _ | refine gr_call ?_ (by assumption)) <;> (try (simp; done)) <;> (try (simp; omega)) <;> (try omega))
  have hB1 := gr_drew hB0
  have hA1 := hA.on hB1
  clear hB0
  go_region_held3 (fun w' => AmbB w' ∧ Below w.heap.size w w' ∧ w'.cell? ⟨w.heap.size, 0, none⟩ = some (.int .i64 s) ∧ w'.cell? ⟨w.heap.size, 1, none⟩ = some (.int .i64 n))
    (first | (go_keep; done) | (go_split_ands; (repeat' apply And.intro) <;> (first | assumption | exact Amb.on (by assumption) hb1 | exact AmbB.on (by assumption) hb1 | exact gr_call (by assumption) hb1 | exact cell_kept hb1 (by assumption) | (show Below _ _ _; (repeat' (first | exact Below.refl _ _ | assumption | refine gr_drew ?_ | refine gr_drewN ?_ _ | refine gr_alloc ?_ _ | refine gr_set ?_ ?_ _ | refine gr_call ?_ (by assumption)) <;> (try (simp; done)) <;> (try (simp; omega)) <;> (try omega)); done) | (go_keep; done) | (simp [go_sem, *]; done))))
    (first
      | (go_at_call 65; go_split_ands; refine (itoa_any _ _ (by assumption) (by omega) (by omega)).mono ?_; rintro e w1 ⟨rfl, hb1⟩)
      | (go_at_call 132; go_split_ands; refine (fraction_any _ _ (by assumption) (by omega) (by omega)).mono ?_; rintro e w1 ⟨rfl, hb1⟩))
  all_goals
    go_wp2_with fail
    go_ret
    go_split_ands
    exact ⟨ret_bytes (by simp), by (repeat' (first | exact Below.refl _ _ | assumption | refine gr_drew ?_ | refine gr_drewN ?_ _ | refine gr_alloc ?_ _ | refine gr_set ?_ ?_ _ | refine gr_call ?_ (by assumption)) <;> (try (simp; done)) <;> (try (simp; omega)) <;> (try omega))⟩

theorem may_yes (s n : Int) (w : World) (h : mayF s n = true) :
    Calls Tryz.prog 217 #[.agg #[.int .i64 s, .int .i64 n]] w fun e w' => e = .returned (.bool true) ∧ Below w.heap.size w w' := by
  have hb := (may_iff s n).1 h
  have h1 : decide (-1099511627776 ≤ s) = true := by simpa using hb.1.1
  have h2 : decide (s ≤ 1099511627776) = true := by simpa using hb.1.2
  have h3 : decide (0 ≤ n) = true := by simpa using hb.2.1
  have h4 : decide (n < 1000000000) = true := by simpa using hb.2.2
  clear h hb
  go_enter Tryz.func217, Tryz.ntmps217
  go_wp2
  go_ret
  exact ⟨rfl, by (repeat' (first | exact Below.refl _ _ | assumption | refine gr_drew ?_ | refine gr_drewN ?_ _ | refine gr_alloc ?_ _ | refine gr_set ?_ ?_ _ | refine gr_call ?_ (by assumption)) <;> (try (simp; done)) <;> (try (simp; omega)) <;> (try omega))⟩
theorem may_no (s n : Int) (w : World) (h : mayF s n = false) :
    Calls Tryz.prog 217 #[.agg #[.int .i64 s, .int .i64 n]] w fun e w' => e = .returned (.bool false) ∧ Below w.heap.size w w' := by
  have hb : ¬ ((-1099511627776 ≤ s ∧ s ≤ 1099511627776) ∧ 0 ≤ n ∧ n < 1000000000) := by rw [← may_iff, h]; simp
  by_cases h1 : -1099511627776 ≤ s
  · have h1' : decide (-1099511627776 ≤ s) = true := by simpa using h1
    by_cases h2 : s ≤ 1099511627776
    · have h2' : decide (s ≤ 1099511627776) = true := by simpa using h2
      by_cases h3 : 0 ≤ n
      · have h3' : decide (0 ≤ n) = true := by simpa using h3
        have h4' : decide (n < 1000000000) = false := by simp; omega
        clear h hb
        go_enter Tryz.func217, Tryz.ntmps217
        go_wp2
        go_ret
        exact ⟨rfl, by (repeat' (first | exact Below.refl _ _ | assumption | refine gr_drew ?_ | refine gr_drewN ?_ _ | refine gr_alloc ?_ _ | refine gr_set ?_ ?_ _ | refine gr_call ?_ (by assumption)) <;> (try (simp; done)) <;> (try (simp; omega)) <;> (try omega))⟩
      · have h3' : decide (0 ≤ n) = false := by simp; omega
        clear h hb
        go_enter Tryz.func217, Tryz.ntmps217
        go_wp2
        go_ret
        exact ⟨rfl, by (repeat' (first | exact Below.refl _ _ | assumption | refine gr_drew ?_ | refine gr_drewN ?_ _ | refine gr_alloc ?_ _ | refine gr_set ?_ ?_ _ | refine gr_call ?_ (by assumption)) <;> (try (simp; done)) <;> (try (simp; omega)) <;> (try omega))⟩
    · have h2' : decide (s ≤ 1099511627776) = false := by simp; omega
      clear h hb
      go_enter Tryz.func217, Tryz.ntmps217
      go_wp2
      go_ret
      exact ⟨rfl, by (repeat' (first | exact Below.refl _ _ | assumption | refine gr_drew ?_ | refine gr_drewN ?_ _ | refine gr_alloc ?_ _ | refine gr_set ?_ ?_ _ | refine gr_call ?_ (by assumption)) <;> (try (simp; done)) <;> (try (simp; omega)) <;> (try omega))⟩
  · have h1' : decide (-1099511627776 ≤ s) = false := by simp; omega
    clear h hb
    go_enter Tryz.func217, Tryz.ntmps217
    go_wp2
    go_ret
    exact ⟨rfl, by (repeat' (first | exact Below.refl _ _ | assumption | refine gr_drew ?_ | refine gr_drewN ?_ _ | refine gr_alloc ?_ _ | refine gr_set ?_ ?_ _ | refine gr_call ?_ (by assumption)) <;> (try (simp; done)) <;> (try (simp; omega)) <;> (try omega))⟩

theorem textNeg_any (s n : Int) (w : World) (hA : AmbB w) (hm : mayF s n = true) (h0 : s < 0) :
    Calls Tryz.prog 67 #[.agg #[.int .i64 s, .int .i64 n]] w fun e w' => e = .returned (.string ⟨(45 :: (Lib.itoa (oppS s n) ++ fracF (oppN n))).toArray⟩) ∧ Below w.heap.size w w' := by
  have hs : decide (s < 0) = true := by simpa using h0
  obtain ⟨b1, b2, b3, b4, _⟩ := opp_bounds s n hm h0
  have hop := fun W => opposite_any s n W
  clear hm
  generalize oppS s n = S at *
  generalize oppN n = N at *
  have hop := Lib.hid hop
  have hi := (DecM.itoa_len S (by omega) (by omega)).2
  have hf := frac_len N b3 (by omega)
  have hi' : ¬ 9223372036854775807 < 1 + (Lib.itoa S).length := by omega
  have hf' : ¬ 9223372036854775807 < 1 + (Lib.itoa S).length + (fracF N).length := by omega
  go_enter Tryz.func67, Tryz.ntmps67
  go_wp2_with fail
  refine (hop.out _).mono ?_
  rintro e w0 ⟨rfl, hbw0⟩
  have hzw0 := hbw0.size
  try simp at hzw0
  have : w.heap.size < w0.heap.size := by omega
  have : w.heap.size ≤ w0.heap.size := by omega
  have : w0.cell? ⟨w.heap.size, 0, none⟩ = some (.int .i64 s) := cell_kept hbw0 (by simp [go_sem, *])
  have : w0.frozen? ⟨w.heap.size, 0, none⟩ = false := free_kept hbw0 (v := .int .i64 s) (by simp [go_sem, *]) (by simp [go_sem, *])
  have : w.heap.size < w0.heap.size := by omega
  have : w.heap.size ≤ w0.heap.size := by omega
  have : w0.cell? ⟨w.heap.size, 1, none⟩ = some (.int .i64 n) := cell_kept hbw0 (by simp [go_sem, *])
  have : w0.frozen? ⟨w.heap.size, 1, none⟩ = false := free_kept hbw0 (v := .int .i64 n) (by simp [go_sem, *]) (by simp [go_sem, *])
  have hB0 : Below w.heap.size w ((w0.setCell ⟨w.heap.size, 0, none⟩ (.int .i64 S)).setCell ⟨w.heap.size, 1, none⟩ (.int .i64 N)) := by (repeat' (first | exact Below.refl _ _ | assumption | refine gr_drew ?_ | refine gr_drewN ?_ _ | refine gr_alloc ?_ _ | refine gr_set ?_ ?_ _ | refine gr_call ?_ (by assumption)) <;> (try (simp; done)) <;> (try (simp; omega)) <;> (try omega))
  have hB1 := gr_drew hB0
  have hA1 := hA.on hB1
  have hP := pair_set (.int .i64 S) (.int .i64 N) (show w0.cell? ⟨w.heap.size, 0, none⟩ = some (.int .i64 s) by assumption) (show w0.cell? ⟨w.heap.size, 1, none⟩ = some (.int .i64 n) by assumption)
  have hP1 := hP.1
  have hP2 := hP.2
  clear hB0 hP
  go_wp2_with fail
  go_region_held3 (fun w' => AmbB w' ∧ Below w.heap.size w w' ∧ w'.cell? ⟨w.heap.size, 0, none⟩ = some (.int .i64 S) ∧ w'.cell? ⟨w.heap.size, 1, none⟩ = some (.int .i64 N))
    (first | (go_keep; done) | (go_split_ands; (repeat' apply And.intro) <;> (first | assumption | exact Amb.on (by assumption) hb1 | exact AmbB.on (by assumption) hb1 | exact gr_call (by assumption) hb1 | exact cell_kept hb1 (by assumption) | (show Below _ _ _; (repeat' (first | exact Below.refl _ _ | assumption | refine gr_drew ?_ | refine gr_drewN ?_ _ | refine gr_alloc ?_ _ | refine gr_set ?_ ?_ _ | refine gr_call ?_ (by assumption)) <;> (try (simp; done)) <;> (try (simp; omega)) <;> (try omega)); done) | (go_keep; done) | (simp [go_sem, *]; done))))
    (first
      | (go_at_call 65; go_split_ands; refine (itoa_any _ _ (by assumption) (by omega) (by omega)).mono ?_; rintro e w1 ⟨rfl, hb1⟩)
      | (go_at_call 132; go_split_ands; refine (fraction_any _ _ (by assumption) (by omega) (by omega)).mono ?_; rintro e w1 ⟨rfl, hb1⟩))
  all_goals
    go_wp2_with fail
    go_ret
    go_split_ands
    exact ⟨ret_bytes (by simp), by (repeat' (first | exact Below.refl _ _ | assumption | refine gr_drew ?_ | refine gr_drewN ?_ _ | refine gr_alloc ?_ _ | refine gr_set ?_ ?_ _ | refine gr_call ?_ (by assumption)) <;> (try (simp; done)) <;> (try (simp; omega)) <;> (try omega))⟩
theorem text_any (s n : Int) (w : World) (hA : AmbB w) (hm : mayF s n = true) :
    Calls Tryz.prog 67 #[.agg #[.int .i64 s, .int .i64 n]] w fun e w' => e = .returned (.string ⟨(textF s n).toArray⟩) ∧ Below w.heap.size w w' := by
  unfold textF
  have hb := (may_iff s n).1 hm
  split
  · exact textNeg_any s n w hA hm (by assumption)
  · exact textPos_any s n w hA (by omega) hb.1.2 hb.2.1 (by omega)
end Go.Proofs.YtbhnhoenjoagbaaGreatDoor.StampW

/- Small facts for the walks over records. -/
namespace Go.Proofs.YtbhnhoenjoagbaaGreatDoor
open Go.RowKit
set_option linter.unusedVariables false

/-- The letter at a place of a string. -/
theorem idxAt {P : Program} {t : TypeId} (ht : P.underlying t = some .string) (S : ByteArray) (i : Nat) (h : i < S.size) : ∃ c : UInt8, S.data.toList[i]? = some c ∧ ∀ w, (Instr.index t (.string S) (.int .i64 (i : Int))).run P w = .ok (.int .u8 (c.toNat : Int)) w := by
  refine ⟨S[i], ?_, ?_⟩
  · rw [List.getElem?_eq_getElem (by simpa using h)]; rfl
  · intro w
    simp [go_sem, ht, h]
theorem dropAt {l : List UInt8} {i : Nat} {c : UInt8} (h : l[i]? = some c) : l.drop i = c :: l.drop (i + 1) := by
  obtain ⟨hi, rfl⟩ := List.getElem?_eq_some_iff.1 h
  exact List.drop_eq_getElem_cons hi
theorem len_list (S : ByteArray) : S.data.toList.length = S.size := by simp
/-- A string by its bytes. -/
def strOf (l : List UInt8) : ByteArray := ⟨l.toArray⟩
theorem strOf_list (l : List UInt8) : (strOf l).data.toList = l := by simp [strOf]
theorem strOf_size (l : List UInt8) : (strOf l).size = l.length := by rw [← len_list, strOf_list]
theorem strOf_self (S : ByteArray) : strOf S.data.toList = S := bytes_ext (by rw [strOf_list])
theorem strOf_eq {l m : List UInt8} (h : l = m) : strOf l = strOf m := by rw [h]
theorem str_eq {S : ByteArray} {l : List UInt8} (h : S.data.toList = l) : S = strOf l := by rw [← h, strOf_self]
theorem toNat_ne {a b : UInt8} (h : a ≠ b) : ((a.toNat : Int) == (b.toNat : Int)) = false := by
  rw [beq_eq_false_iff_ne]
  intro e
  exact h (UInt8.toNat_inj.1 (by omega))
theorem str_beq (A B : ByteArray) : (A.toList == B.toList) = decide (A.data.toList = B.data.toList) := by
  have e : ∀ X : ByteArray, X.toList = X.data.toList := fun X => Lib.toList_data X
  rw [e, e]
  by_cases h : A.data.toList = B.data.toList
  · rw [h, decide_eq_true rfl]; exact beq_self_eq_true _
  · rw [decide_eq_false h, beq_eq_false_iff_ne]; exact h
end Go.Proofs.YtbhnhoenjoagbaaGreatDoor
