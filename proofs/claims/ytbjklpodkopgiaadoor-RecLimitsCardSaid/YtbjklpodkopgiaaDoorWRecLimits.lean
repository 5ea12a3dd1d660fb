/- The law RecLimits, walked. -/
import Derived.Test.YtbjklpodkopgiaaDoorRecAwake
import Derived.Test.YtbjklpodkopgiaaDoorMake
namespace Go.Proofs.YtbjklpodkopgiaaDoor
open Go.RowKit
open RecM
set_option linter.unusedVariables false

/-- May, of strings. -/
def mayS (K V : ByteArray) : Bool := mayB K.data.toList V.data.toList
theorem mayS_any (K V : ByteArray) (hs : K.size + V.size ≤ 100000) (w : World) (hA : Amb w) :
    Calls Tryd.prog 13 #[.agg #[.string K, .string V]] w fun e w' => e = .returned (.bool (mayS K V)) ∧ Below w.heap.size w w' := may_any K V hs w hA
theorem mayH_any (K V : ByteArray) (hs : Hid (K.size + V.size ≤ 100000)) (w : World) (hA : Amb w) :
    Calls Tryd.prog 13 #[.agg #[.string K, .string V]] w fun e w' => e = .returned (.bool (mayS K V)) ∧ Below w.heap.size w w' := may_any K V hs.out w hA
theorem put_none (w : World) (hA : Amb w) :
    Calls Tryd.prog 15 #[.agg #[.string ⟨#[]⟩, .string ⟨#[]⟩]] w fun e w' => e = .returned (.string ⟨#[]⟩) ∧ Below w.heap.size w w' := by
  have := put_any ⟨#[]⟩ ⟨#[]⟩ (by decide) w hA
  exact this
theorem may_ks (n : Nat) (S : ByteArray) (h : S.data.toList = List.replicate n 107) (h1 : 1 ≤ n) (h2 : n ≤ 1000) : mayS S ⟨#[]⟩ = decide ((n : Int) ≤ 255) := by
  have hi := may_iff (List.replicate n 107) []
  unfold mayS
  rw [h]
  show mayB (List.replicate n 107) [] = _
  by_cases h3 : n ≤ 255
  · rw [decide_eq_true (show (n : Int) ≤ 255 by omega)]
    refine hi.2 ⟨by rw [List.length_replicate]; exact h1, by rw [List.length_replicate]; exact h3, ?_, ?_, ?_⟩
    · intro hm; have := List.eq_of_mem_replicate hm; revert this; decide
    · intro hm; have := List.eq_of_mem_replicate hm; revert this; decide
    · have := (lenF_bounds (3 + (List.replicate n (107 : UInt8)).length + ([] : List UInt8).length)).2
      rw [List.length_replicate] at this ⊢
      simp at this ⊢
      omega
  · rw [decide_eq_false (show ¬ (n : Int) ≤ 255 by omega)]
    cases hb : mayB (List.replicate n 107) [] with
    | false => rfl
    | true =>
      have := (hi.1 hb).2.1
      rw [List.length_replicate] at this
      omega
theorem may_zs (z : Nat) (h1 : 65500 ≤ z) (h2 : z ≤ 65560) : mayS ⟨#[107]⟩ ⟨(List.replicate z (0 : UInt8)).toArray⟩ = decide ((z : Int) + 9 ≤ 65536) := by
  have hi := may_iff [107] (List.replicate z 0)
  unfold mayS
  show mayB [107] (List.replicate z 0) = _
  have hl : lenF (3 + ([107] : List UInt8).length + (List.replicate z (0 : UInt8)).length) = z + 9 := by
    rw [List.length_replicate]
    simp only [List.length_cons, List.length_nil]
    unfold lenF
    rw [if_neg (by omega), if_neg (by omega), if_neg (by omega), if_neg (by omega), if_pos (by omega)]
    omega
  rw [hl] at hi
  by_cases h3 : z + 9 ≤ 65536
  · rw [decide_eq_true (show (z : Int) + 9 ≤ 65536 by omega)]
    exact hi.2 ⟨by decide, by decide, by decide, by decide, h3⟩
  · rw [decide_eq_false (show ¬ (z : Int) + 9 ≤ 65536 by omega)]
    cases hb : mayB [107] (List.replicate z 0) with
    | false => rfl
    | true => exact absurd (hi.1 hb).2.2.2.2 h3

set_option maxRecDepth 100000 in
set_option maxHeartbeats 3200000 in
theorem recLimits_walk (a0 : Int) (a1 : Int) (w : World) (hA : Amb w) (w0 : (Lit.int .u16 a0).wf = true) (w1 : (Lit.int .u8 a1).wf = true) :
    Calls Tryd.prog 7 #[.int .u16 a0, .int .u8 a1] w fun e w' => e = .returned (.bool true) ∧ Below w.heap.size w w' := by
  have hb0 : 0 ≤ a0 ∧ a0 ≤ 65535 := by simpa [Lit.wf, IntKind.min, IntKind.max, IntKind.signed, IntKind.bits] using w0
  have hb1 : 0 ≤ a1 ∧ a1 ≤ 255 := by simpa [Lit.wf, IntKind.min, IntKind.max, IntKind.signed, IntKind.bits] using w1
  have p0 := hb0.1
  have p1 := hb0.2
  have p2 := hb1.1
  have p3 := hb1.2
  obtain ⟨q, hq⟩ : ∃ q : Nat, a1 % 10 = (q : Int) := ⟨_, (Int.toNat_of_nonneg (by omega)).symm⟩
  obtain ⟨y, hy⟩ : ∃ y : Nat, a0 % 60 = (y : Int) := ⟨_, (Int.toNat_of_nonneg (by omega)).symm⟩
  have hq9 : q ≤ 9 := by omega
  have hy9 : y ≤ 59 := by omega
  have hmq : a1.tmod 10 = (q : Int) := by rw [Int.tmod_eq_emod_of_nonneg p2]; exact hq
  have hmy : a0.tmod 60 = (y : Int) := by rw [Int.tmod_eq_emod_of_nonneg p0]; exact hy
  obtain ⟨n, hn⟩ : ∃ n : Nat, 250 + q = n := ⟨_, rfl⟩
  obtain ⟨z, hz⟩ : ∃ z : Nat, 65500 + y = z := ⟨_, rfl⟩
  have hn2 : (250 : Int) + (q : Int) = (n : Int) := by omega
  have hz2 : (65500 : Int) + (y : Int) = (z : Int) := by omega
  have hn9 : n ≤ 260 := by omega
  have hn1 : 1 ≤ n := by omega
  have hz9 : z ≤ 65560 := by omega
  have hz1 : 65500 ≤ z := by omega
  have Hz := Lib.hid (may_zs z hz1 hz9)
  clear hb0 hb1 w0 w1 hq hy hn hz
  go_enter Tryd.func7, Tryd.ntmps7
  go_wp2_with (at_make; refine wp_make rfl _ _ rfl _ 0 0 0 rfl rfl rfl rfl (by omega) ?_)
  intro w1 hR1 hb1 hcv1
  clear hR1
  try simp only [List.replicate_zero] at hcv1
  go_wp2_with fail
  go_loopw [5, 6] (fun kv iv wr => ∃ (i : Nat) (S : ByteArray), kv = .string S ∧ iv = .int .i64 (i : Int) ∧ i ≤ n ∧ S.size = i ∧ Hid (S.data.toList = List.replicate i 107) ∧ Below w.heap.size w wr) (fun _ iv _ => n - (intOf iv).toNat)
  case atStart => exact ⟨0, _, rfl, rfl, by omega, rfl, Lib.hid rfl, hb1⟩
  case round =>
    obtain ⟨i, S, rfl, rfl, hi, hS, HS, hbl⟩ := hrel
    rename_i wr
    by_cases hlt : i < n
    · have hlt' : decide ((i : Int) < (n : Int)) = true := decide_eq_true (by omega)
      have hlt2 : decide (i < n) = true := decide_eq_true hlt
      have hs1 : ¬ 9223372036854775807 < i + 1 := by omega
      have HS2 := Lib.hid (show (S ++ ⟨#[107]⟩).data.toList = List.replicate (i + 1) 107 by
        rw [bytes_list, HS.out, List.replicate_succ'])
      have hsz2 : (S ++ ⟨#[107]⟩ : ByteArray).size = i + 1 := by rw [← len_list, HS2.out, List.length_replicate]
      clear HS
      go_wp2_with fail
      go_roundw
      case rel => exact ⟨i + 1, _, rfl, by go_num, by omega, hsz2, HS2, hbl⟩
      case measure => simp only [intOf]; omega
    · have hlt' : decide ((i : Int) < (n : Int)) = false := decide_eq_false (by omega)
      have hlt2 : decide (i < n) = false := decide_eq_false hlt
      obtain rfl : i = n := by omega
      have Hk := Lib.hid (may_ks i S HS.out hn1 (by omega))
      clear hlt HS
      go_wp2_with (at_make; refine wp_make rfl _ _ rfl _ z _ _ rfl rfl rfl rfl (by omega) ?_)
      intro w2 hR2 hb2 hcv2
      clear hR2 hcv1
      obtain ⟨ZV, hZV⟩ : ∃ ZV : ByteArray, (⟨(List.replicate z (0 : UInt8)).toArray⟩ : ByteArray) = ZV := ⟨_, rfl⟩
      have hZs : ZV.size = z := by rw [← hZV, Lib.size_mk, List.length_replicate]
      have hcv3 : (convert 46 9 (.slice (some ⟨wr.heap.size + 1, 0, none⟩) z z)).run Tryd.prog w2 = .ok (.string ZV) w2 := by
        rw [hcv2, ← hZV]; simp
      have Hz2 := Lib.hid (show mayS ⟨#[107]⟩ ZV = decide ((z : Int) + 9 ≤ 65536) by rw [← hZV]; exact Hz.out)
      have g0 : w2.cell? ⟨wr.heap.size, 0, none⟩ = some (.string S) := by
        rw [hb2.cell (show (⟨wr.heap.size, 0, none⟩ : Addr).block < wr.heap.size + 1 by simp)]; simp [go_sem]
      have g1 : w2.cell? ⟨wr.heap.size, 1, none⟩ = some (.string ⟨#[]⟩) := by
        rw [hb2.cell (show (⟨wr.heap.size, 1, none⟩ : Addr).block < wr.heap.size + 1 by simp)]; simp [go_sem]
      have hB2 : Below w.heap.size w w2 := gr_call (gr_alloc hbl (.cells #[.string S, .string ⟨#[]⟩] 23)) (by simpa using hb2)
      clear hcv2 hZV hb2 hbl
      go_wp2_with fail
      obtain ⟨W, hW⟩ : ∃ W, w2.alloc (.cells #[.string ⟨#[107]⟩, .string ZV] 23) = W := ⟨_, rfl⟩
      have hBW : Below w.heap.size w W := by subst hW; (repeat' (first | exact Below.refl _ _ | assumption | refine gr_drew ?_ | refine gr_drewN ?_ _ | refine gr_alloc ?_ _ | refine gr_set ?_ ?_ _ | refine gr_call ?_ (by assumption)) <;> (try (simp; done)) <;> (try (simp; omega)) <;> (try omega))
      have hb2W : Below w2.heap.size w2 W := by subst hW; (repeat' (first | exact Below.refl _ _ | assumption | refine gr_drew ?_ | refine gr_drewN ?_ _ | refine gr_alloc ?_ _ | refine gr_set ?_ ?_ _ | refine gr_call ?_ (by assumption)) <;> (try (simp; done)) <;> (try (simp; omega)) <;> (try omega))
      have l0 : W.cell? ⟨w2.heap.size, 0, none⟩ = some (.string ⟨#[107]⟩) := by subst hW; simp [go_sem]
      have l1 : W.cell? ⟨w2.heap.size, 1, none⟩ = some (.string ZV) := by subst hW; simp [go_sem]
      have hBD := gr_drew hBW
      have hAD := hA.on hBD
      have c0 : W.drew.cell? ⟨wr.heap.size, 0, none⟩ = some (.string S) := (show W.cell? ⟨wr.heap.size, 0, none⟩ = some (.string S) from cell_kept hb2W g0)
      have c1 : W.drew.cell? ⟨wr.heap.size, 1, none⟩ = some (.string ⟨#[]⟩) := (show W.cell? ⟨wr.heap.size, 1, none⟩ = some (.string ⟨#[]⟩) from cell_kept hb2W g1)
      have c2 : W.drew.cell? ⟨w2.heap.size, 0, none⟩ = some (.string ⟨#[107]⟩) := (show W.cell? ⟨w2.heap.size, 0, none⟩ = some (.string ⟨#[107]⟩) from l0)
      have c3 : W.drew.cell? ⟨w2.heap.size, 1, none⟩ = some (.string ZV) := (show W.cell? ⟨w2.heap.size, 1, none⟩ = some (.string ZV) from l1)
      have k1 : mayS ⟨#[]⟩ ⟨#[]⟩ = false := by decide
      have k2 : mayS ⟨#[97, 61, 98]⟩ ⟨#[]⟩ = false := by decide
      have k3 : mayS ⟨#[97, 0]⟩ ⟨#[]⟩ = false := by decide
      have s1 : S.size + (⟨#[]⟩ : ByteArray).size ≤ 100000 := by rw [hS]; simp only [Lib.size_eq]; simp; omega
      have s2 : (⟨#[107]⟩ : ByteArray).size + ZV.size ≤ 100000 := by rw [hZs]; show 1 + z ≤ 100000; omega
      have s3 : (⟨#[]⟩ : ByteArray).size + (⟨#[]⟩ : ByteArray).size ≤ 100000 := by decide
      have s4 : (⟨#[97, 61, 98]⟩ : ByteArray).size + (⟨#[]⟩ : ByteArray).size ≤ 100000 := by decide
      have s5 : (⟨#[97, 0]⟩ : ByteArray).size + (⟨#[]⟩ : ByteArray).size ≤ 100000 := by decide
      have Hs1 := Lib.hid s1
      have Hs2 := Lib.hid s2
      have Hs3 := Lib.hid s3
      have Hs4 := Lib.hid s4
      have Hs5 := Lib.hid s5
      clear s1 s2 s3 s4 s5
      obtain ⟨b1, hb1⟩ : ∃ b, decide ((i : Int) ≤ 255) = b := ⟨_, rfl⟩
      obtain ⟨b2, hb2⟩ : ∃ b, decide ((z : Int) + 9 ≤ 65536) = b := ⟨_, rfl⟩
      have k4 : mayS S ⟨#[]⟩ = b1 := by rw [← hb1]; exact Hk.out
      have k5 : mayS ⟨#[107]⟩ ZV = b2 := by rw [← hb2]; exact Hz2.out
      have hb1' : decide (i ≤ 255) = b1 := by
        rw [← hb1]
        by_cases h : i ≤ 255
        · rw [decide_eq_true h, decide_eq_true (by omega)]
        · rw [decide_eq_false h, decide_eq_false (by omega)]
      obtain ⟨v, hv⟩ : ∃ v : Nat, z + 9 = v := ⟨_, rfl⟩
      have hv1 : (z : Int) + 9 = (v : Int) := by omega
      have hwr : IntKind.i64.wrap (v : Int) = (v : Int) := by rw [IntKind.wrap_i64]; omega
      rw [hv1] at hb2
      have hb2' : decide (v ≤ 65536) = b2 := by
        rw [← hb2]
        by_cases h : v ≤ 65536
        · rw [decide_eq_true h, decide_eq_true (by omega)]
        · rw [decide_eq_false h, decide_eq_false (by omega)]
      clear hv
      rw [hW]
      clear hW hb2W g0 g1 l0 l1 Hk Hz Hz2 hcv3 hn2 hz2 hmq hmy p0 p1 p2 p3 hlt' hlt2 hi hq9 hy9 hn9 hn1 hz9 hz1 hB2
      cases b1 <;> cases b2
      all_goals
        go_region_held3 (fun w' => Amb w' ∧ Below w.heap.size w w' ∧ w'.cell? ⟨wr.heap.size, 0, none⟩ = some (.string S) ∧ w'.cell? ⟨wr.heap.size, 1, none⟩ = some (.string ⟨#[]⟩) ∧ w'.cell? ⟨w2.heap.size, 0, none⟩ = some (.string ⟨#[107]⟩) ∧ w'.cell? ⟨w2.heap.size, 1, none⟩ = some (.string ZV))
          (first | (go_keep; done) | (go_split_ands; (repeat' apply And.intro) <;> (first | assumption | exact Amb.on (by assumption) hb1 | exact gr_call (by assumption) hb1 | exact cell_kept hb1 (by assumption) | exact RecAt.call (by assumption) hb1 | exact free_kept hb1 (by assumption) (by assumption) | (show Below _ _ _; (repeat' (first | exact Below.refl _ _ | assumption | refine gr_drew ?_ | refine gr_drewN ?_ _ | refine gr_alloc ?_ _ | refine gr_set ?_ ?_ _ | refine gr_call ?_ (by assumption)) <;> (try (simp; done)) <;> (try (simp; omega)) <;> (try omega)); done) | (go_keep; done) | (simp [go_sem, *]; done))))
          (first
            | (go_at_call 13; go_split_ands; refine (mayH_any _ _ (by assumption) _ (by assumption)).mono ?_; rintro e w1 ⟨rfl, hb1⟩)
            | (go_at_call 15; go_split_ands; refine (put_none _ (by assumption)).mono ?_; rintro e w1 ⟨rfl, hb1⟩)
            | (go_at_call 8; go_split_ands; refine (awake_true _ (by assumption)).mono ?_; rintro e w1 ⟨rfl, hb1⟩))
        all_goals
          go_wp2_with fail
          go_ret
          go_split_ands
          exact ⟨rfl, by (repeat' (first | exact Below.refl _ _ | assumption | refine gr_drew ?_ | refine gr_drewN ?_ _ | refine gr_alloc ?_ _ | refine gr_set ?_ ?_ _ | refine gr_call ?_ (by assumption)) <;> (try (simp; done)) <;> (try (simp; omega)) <;> (try omega))⟩
end Go.Proofs.YtbjklpodkopgiaaDoor
