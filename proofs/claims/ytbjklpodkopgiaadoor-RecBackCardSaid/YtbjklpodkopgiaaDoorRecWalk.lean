/- Walks over package rec: a key, a record's length, whether it may be, its bytes. -/
import Derived.Test.YtbjklpodkopgiaaDoorRecAmb
namespace Go.Proofs.YtbjklpodkopgiaaDoor
open Go.RowKit
open RecM
open Go.Lib (decDigits)
set_option linter.unusedVariables false

theorem index_neg (l : List UInt8) (c : UInt8) : decide (Lib.indexByte l c < 0) = !l.contains c := by
  by_cases h : c ∈ l
  · rw [decide_eq_false (fun e => (index_iff l c).1 e h)]; simp [h]
  · rw [decide_eq_true ((index_iff l c).2 h)]; simp [h]
theorem mayKey_any (K : ByteArray) (w : World) :
    Calls Tryd.prog 24 #[.string K] w fun e w' => e = .returned (.bool (keyB K.data.toList)) ∧ w = w' := by
  have h0 := Lib.hid (indexByte_any K 0 0 rfl)
  have h61 := Lib.hid (indexByte_any K 61 61 rfl)
  have n0 := index_neg K.data.toList 0
  have n61 := index_neg K.data.toList 61
  unfold keyB
  rw [len_list]
  generalize Lib.indexByte K.data.toList 0 = i0 at *
  generalize Lib.indexByte K.data.toList 61 = i61 at *
  rw [← n0, ← n61]
  clear n0 n61
  by_cases h1 : K.size < 1
  · have h1' : decide ((K.size : Int) < 1) = true := by simp; omega
    have hr := Lib.hid (show (decide (1 ≤ K.size) && decide (K.size ≤ 255) && decide (i0 < 0) && decide (i61 < 0)) = false by rw [decide_eq_false (by omega)]; rfl)
    generalize (decide (1 ≤ K.size) && decide (K.size ≤ 255) && decide (i0 < 0) && decide (i61 < 0)) = b at *
    clear h1
    go_enter Tryd.func24, Tryd.ntmps24
    go_wp2_with fail
    go_ret
    exact ⟨ret_bool hr.out.symm, rfl⟩
  · have h1' : decide ((K.size : Int) < 1) = false := by simp; omega
    by_cases h2 : 255 < K.size
    · have h2' : decide (255 < (K.size : Int)) = true := by simp; omega
      have hr := Lib.hid (show (decide (1 ≤ K.size) && decide (K.size ≤ 255) && decide (i0 < 0) && decide (i61 < 0)) = false by rw [decide_eq_false (p := K.size ≤ 255) (by omega)]; simp)
      generalize (decide (1 ≤ K.size) && decide (K.size ≤ 255) && decide (i0 < 0) && decide (i61 < 0)) = b at *
      clear h1 h2
      go_enter Tryd.func24, Tryd.ntmps24
      go_wp2_with fail
      go_ret
      exact ⟨ret_bool hr.out.symm, rfl⟩
    · have h2' : decide (255 < (K.size : Int)) = false := by simp; omega
      have hr := Lib.hid (show (decide (1 ≤ K.size) && decide (K.size ≤ 255) && decide (i0 < 0) && decide (i61 < 0)) = (decide (i0 < 0) && decide (i61 < 0)) by rw [decide_eq_true (p := K.size ≤ 255) (by omega), decide_eq_true (p := 1 ≤ K.size) (by omega)]; simp)
      generalize (decide (1 ≤ K.size) && decide (K.size ≤ 255) && decide (i0 < 0) && decide (i61 < 0)) = b at *
      clear h1 h2
      by_cases h3 : i0 < 0
      · have h3' : decide (i0 < 0) = true := by simpa using h3
        rw [h3'] at hr
        clear h3
        go_enter Tryd.func24, Tryd.ntmps24
        go_wp2_with fail
        refine (h0.out _).mono ?_
        rintro e w' ⟨rfl, rfl⟩
        go_wp2_with fail
        refine (h61.out _).mono ?_
        rintro e w' ⟨rfl, rfl⟩
        go_wp2_with fail
        go_ret
        exact ⟨ret_bool (by rw [hr.out]; simp), rfl⟩
      · have h3' : decide (i0 < 0) = false := by simpa using h3
        rw [h3'] at hr
        clear h3
        go_enter Tryd.func24, Tryd.ntmps24
        go_wp2_with fail
        refine (h0.out _).mono ?_
        rintro e w' ⟨rfl, rfl⟩
        go_wp2_with fail
        go_ret
        exact ⟨ret_bool (by rw [hr.out]; simp), rfl⟩

theorem length_any (K V : ByteArray) (hs : K.size + V.size ≤ 100000) (w : World) (hA : Amb w) :
    Calls Tryd.prog 25 #[.agg #[.string K, .string V]] w fun e w' => e = .returned (.int .i64 (lenF (3 + K.size + V.size) : Int)) ∧ Below w.heap.size w w' := by
  obtain ⟨r, hr⟩ : ∃ r, 3 + K.size + V.size = r := ⟨_, rfl⟩
  rw [hr]
  have hr2 : (3 : Int) + (K.size : Int) + (V.size : Int) = (r : Int) := by omega
  have hr1 : r ≤ 100003 := by omega
  have hb := lenF_bounds r
  have ht := Lib.hid (lenF_true r (by omega))
  have hl := Lib.hid (lenF_least r)
  go_enter Tryd.func25, Tryd.ntmps25
  go_wp2_with fail
  go_loopw [4] (fun nv wr => ∃ n : Nat, nv = .int .i64 (n : Int) ∧ r + 1 ≤ n ∧ n ≤ lenF r ∧ Below w.heap.size w wr) (fun nv _ => lenF r - (intOf nv).toNat)
  case atStart => exact ⟨r + 1, by congr 1, by omega, by omega, by (repeat' (first | exact Below.refl _ _ | assumption | refine gr_drew ?_ | refine gr_drewN ?_ _ | refine gr_alloc ?_ _ | refine gr_set ?_ ?_ _ | refine gr_call ?_ (by assumption)) <;> (try (simp; done)) <;> (try (simp; omega)) <;> (try omega))⟩
  case round =>
    obtain ⟨n, rfl, hn1, hn2, hbl⟩ := hrel
    have hd6 := digN_bounds n
    have hd1 := hd6.1
    have hd2 := hd6.2
    have hcall := Lib.hid (fun W (h : Amb W) => digits_any n W h (by omega))
    by_cases hlt : n < lenF r
    · have hne := hl.out n (by omega) hlt
      have htest : ((r : Int) + (digN n : Int) != (n : Int)) = true := by
        rw [bne_iff_ne]; omega
      have hlt2 : n + 1 ≤ lenF r := hlt
      clear hne hlt hd6
      go_wp2_with fail
      refine (hcall.out _ (hA.on hbl)).mono ?_
      rintro e w1 ⟨rfl, hb1⟩
      have hbl1 := gr_call hbl hb1
      go_wp2_with fail
      go_roundw
      case rel => exact ⟨n + 1, by go_num, by omega, by omega, hbl1⟩
      case measure => simp only [intOf]; omega
    · obtain rfl : n = lenF r := by omega
      have htest : ((r : Int) + (digN (lenF r) : Int) != ((lenF r : Nat) : Int)) = false := by
        have := ht.out
        rw [bne_eq_false_iff_eq]; omega
      clear hlt hd6
      go_wp2_with fail
      refine (hcall.out _ (hA.on hbl)).mono ?_
      rintro e w1 ⟨rfl, hb1⟩
      have hbl1 := gr_call hbl hb1
      go_wp2_with fail
      go_ret
      exact ⟨rfl, hbl1⟩

theorem may_any (K V : ByteArray) (hs : K.size + V.size ≤ 100000) (w : World) (hA : Amb w) :
    Calls Tryd.prog 13 #[.agg #[.string K, .string V]] w fun e w' => e = .returned (.bool (mayB K.data.toList V.data.toList)) ∧ Below w.heap.size w w' := by
  have hk := Lib.hid (mayKey_any K)
  have hl := Lib.hid (length_any K V hs)
  unfold mayB
  rw [len_list, len_list]
  have hm := (lenF_bounds (3 + K.size + V.size)).2
  have hm2 : (lenF (3 + K.size + V.size)) ≤ 200000 := by omega
  generalize keyB K.data.toList = b at *
  generalize lenF (3 + K.size + V.size) = m at *
  clear hm
  cases b
  · go_enter Tryd.func13, Tryd.ntmps13
    go_wp2_with fail
    refine (hk.out _).mono ?_
    rintro e w' ⟨rfl, rfl⟩
    go_wp2_with fail
    go_ret
    exact ⟨rfl, by (repeat' (first | exact Below.refl _ _ | assumption | refine gr_drew ?_ | refine gr_drewN ?_ _ | refine gr_alloc ?_ _ | refine gr_set ?_ ?_ _ | refine gr_call ?_ (by assumption)) <;> (try (simp; done)) <;> (try (simp; omega)) <;> (try omega))⟩
  · have hd : decide ((m : Int) ≤ 65536) = decide (m ≤ 65536) := by
      by_cases h : m ≤ 65536
      · rw [decide_eq_true h]; exact decide_eq_true (by omega)
      · rw [decide_eq_false h]; exact decide_eq_false (by omega)
    rw [Bool.true_and]
    have Hd := Lib.hid hd
    clear hd
    go_enter Tryd.func13, Tryd.ntmps13
    go_wp2_with fail
    refine (hk.out _).mono ?_
    rintro e w' ⟨rfl, rfl⟩
    go_wp2_with fail
    refine (hl.out _ (hA.on (by (repeat' (first | exact Below.refl _ _ | assumption | refine gr_drew ?_ | refine gr_drewN ?_ _ | refine gr_alloc ?_ _ | refine gr_set ?_ ?_ _ | refine gr_call ?_ (by assumption)) <;> (try (simp; done)) <;> (try (simp; omega)) <;> (try omega))))).mono ?_
    rintro e w1 ⟨rfl, hbw1⟩
    have hzw1 := hbw1.size
    try simp at hzw1
    go_wp2_with fail
    go_ret
    exact ⟨ret_bool Hd.out, by (repeat' (first | exact Below.refl _ _ | assumption | refine gr_drew ?_ | refine gr_drewN ?_ _ | refine gr_alloc ?_ _ | refine gr_set ?_ ?_ _ | refine gr_call ?_ (by assumption)) <;> (try (simp; done)) <;> (try (simp; omega)) <;> (try omega))⟩

theorem put_any (K V : ByteArray) (hs : K.size + V.size ≤ 100000) (w : World) (hA : Amb w) :
    Calls Tryd.prog 15 #[.agg #[.string K, .string V]] w fun e w' => e = .returned (.string (strOf (putF K.data.toList V.data.toList))) ∧ Below w.heap.size w w' := by
  have hmay := Lib.hid (may_any K V hs)
  have hlen := Lib.hid (length_any K V hs)
  unfold putF
  obtain ⟨m, hm⟩ : ∃ m, lenF (3 + K.size + V.size) = m := ⟨_, rfl⟩
  have hmb := lenF_bounds (3 + K.size + V.size)
  rw [hm] at hlen hmb
  have hm9 : m ≤ 9000000000 := by omega
  obtain ⟨E, hE⟩ : ∃ E, encF K.data.toList V.data.toList = E := ⟨_, rfl⟩
  obtain ⟨D, hD⟩ : ∃ D : ByteArray, strOf (decDigits m) = D := ⟨_, rfl⟩
  have hDs : D.size ≤ 6 := by
    rw [← hD, strOf_size, dec_digN m (by omega)]; exact (digN_bounds m).2
  have HE := Lib.hid (show D ++ ⟨#[32]⟩ ++ K ++ ⟨#[61]⟩ ++ V ++ ⟨#[10]⟩ = strOf E by
    apply str_eq
    rw [← hE]
    unfold encF
    rw [len_list, len_list, hm, ← hD]
    simp only [bytes_list, strOf_list]
    simp)
  have hi := Lib.hid (fun W (h : Amb W) => itoa_any m W h hm9)
  rw [hD] at hi
  rw [hE]
  generalize mayB K.data.toList V.data.toList = b at *
  clear hE hD hm
  have q1 : ¬ 9223372036854775807 < D.size + 1 := by omega
  have q2 : ¬ 9223372036854775807 < D.size + 1 + K.size := by omega
  have q3 : ¬ 9223372036854775807 < D.size + 1 + K.size + 1 := by omega
  have q4 : ¬ 9223372036854775807 < D.size + 1 + K.size + 1 + V.size := by omega
  have q5 : ¬ 9223372036854775807 < D.size + 1 + K.size + 1 + V.size + 1 := by omega
  cases b
  · go_enter Tryd.func15, Tryd.ntmps15
    go_wp2_with fail
    refine (hmay.out _ (hA.on (by (repeat' (first | exact Below.refl _ _ | assumption | refine gr_drew ?_ | refine gr_drewN ?_ _ | refine gr_alloc ?_ _ | refine gr_set ?_ ?_ _ | refine gr_call ?_ (by assumption)) <;> (try (simp; done)) <;> (try (simp; omega)) <;> (try omega))))).mono ?_
    rintro e w1 ⟨rfl, hbw1⟩
    have hzw1 := hbw1.size
    try simp at hzw1
    go_wp2_with fail
    go_ret
    exact ⟨rfl, by (repeat' (first | exact Below.refl _ _ | assumption | refine gr_drew ?_ | refine gr_drewN ?_ _ | refine gr_alloc ?_ _ | refine gr_set ?_ ?_ _ | refine gr_call ?_ (by assumption)) <;> (try (simp; done)) <;> (try (simp; omega)) <;> (try omega))⟩
  · go_enter Tryd.func15, Tryd.ntmps15
    go_wp2_with fail
    refine (hmay.out _ (hA.on (by (repeat' (first | exact Below.refl _ _ | assumption | refine gr_drew ?_ | refine gr_drewN ?_ _ | refine gr_alloc ?_ _ | refine gr_set ?_ ?_ _ | refine gr_call ?_ (by assumption)) <;> (try (simp; done)) <;> (try (simp; omega)) <;> (try omega))))).mono ?_
    rintro e w1 ⟨rfl, hbw1⟩
    have hzw1 := hbw1.size
    try simp at hzw1
    have : w.heap.size < w1.heap.size := by omega
    have : w.heap.size ≤ w1.heap.size := by omega
    have : w1.cell? ⟨w.heap.size, 0, none⟩ = some (.string K) := cell_kept hbw1 (by simp [go_sem, *])
    have : w1.frozen? ⟨w.heap.size, 0, none⟩ = false := free_kept hbw1 (v := .string K) (by simp [go_sem, *]) (by simp [go_sem, *])
    have : w.heap.size < w1.heap.size := by omega
    have : w.heap.size ≤ w1.heap.size := by omega
    have : w1.cell? ⟨w.heap.size, 1, none⟩ = some (.string V) := cell_kept hbw1 (by simp [go_sem, *])
    have : w1.frozen? ⟨w.heap.size, 1, none⟩ = false := free_kept hbw1 (v := .string V) (by simp [go_sem, *]) (by simp [go_sem, *])
    have hB1 : Below w.heap.size w w1 := by (repeat' (first | exact Below.refl _ _ | assumption | refine gr_drew ?_ | refine gr_drewN ?_ _ | refine gr_alloc ?_ _ | refine gr_set ?_ ?_ _ | refine gr_call ?_ (by assumption)) <;> (try (simp; done)) <;> (try (simp; omega)) <;> (try omega))
    have hA1 := hA.on (gr_drew hB1)
    go_wp2_with fail
    go_region_held3 (fun w' => Amb w' ∧ Below w.heap.size w w' ∧ w'.cell? ⟨w.heap.size, 0, none⟩ = some (.string K) ∧ w'.cell? ⟨w.heap.size, 1, none⟩ = some (.string V))
      (first | (go_keep; done) | (go_split_ands; (repeat' apply And.intro) <;> (first | assumption | exact Amb.on (by assumption) hb1 | exact gr_call (by assumption) hb1 | exact cell_kept hb1 (by assumption) | (show Below _ _ _; (repeat' (first | exact Below.refl _ _ | assumption | refine gr_drew ?_ | refine gr_drewN ?_ _ | refine gr_alloc ?_ _ | refine gr_set ?_ ?_ _ | refine gr_call ?_ (by assumption)) <;> (try (simp; done)) <;> (try (simp; omega)) <;> (try omega)); done) | (go_keep; done) | (simp [go_sem, *]; done))))
      (first
        | (go_at_call 28; go_split_ands; refine (hi.out _ (by assumption)).mono ?_; rintro e w1 ⟨rfl, hb1⟩)
        | (go_at_call 25; go_split_ands; refine (hlen.out _ (by assumption)).mono ?_; rintro e w1 ⟨rfl, hb1⟩))
    all_goals
      go_wp2_with fail
      go_ret
      go_split_ands
      exact ⟨ret_str HE.out, by (repeat' (first | exact Below.refl _ _ | assumption | refine gr_drew ?_ | refine gr_drewN ?_ _ | refine gr_alloc ?_ _ | refine gr_set ?_ ?_ _ | refine gr_call ?_ (by assumption)) <;> (try (simp; done)) <;> (try (simp; omega)) <;> (try omega))⟩
end Go.Proofs.YtbjklpodkopgiaaDoor
