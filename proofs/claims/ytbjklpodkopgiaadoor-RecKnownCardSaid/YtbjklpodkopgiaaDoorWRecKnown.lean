/- The law RecKnown, walked. -/
import Derived.Test.YtbjklpodkopgiaaDoorRecAwake
import Derived.Test.YtbjklpodkopgiaaDoorRecAll
import Derived.Test.YtbjklpodkopgiaaDoorRecKnown
import Derived.Deep.DeepCutAuto
import Derived.Deep.CutBlock
namespace Go.Proofs.YtbjklpodkopgiaaDoor
open Go.RowKit
open RecM
set_option linter.unusedVariables false

theorem known_get (k : Nat) (h : k < 8) (w : World) (hA : Amb w) :
    Calls Tryd.prog 9 #[.string (⟨#[120]⟩ ++ strOf (knownT k) ++ ⟨#[121]⟩), .int .i64 1] w fun e w' => e = .returned (.tuple #[.agg #[.string (strOf (knownK k)), .string (strOf (knownV k))], .int .i64 (1 + ((strOf (knownT k)).size : Int)), .int .i64 0]) ∧ Below w.heap.size w w' := by
  have hl := known_len k h
  have e : ((⟨#[120]⟩ : ByteArray) ++ strOf (knownT k) ++ ⟨#[121]⟩).data.toList = 120 :: (knownT k ++ [121]) := by
    rw [bytes_list, bytes_list, strOf_list]; rfl
  have hs : ((⟨#[120]⟩ : ByteArray) ++ strOf (knownT k) ++ ⟨#[121]⟩).size = (knownT k).length + 2 := by
    rw [← len_list, e]; simp
  have hg : getF (((⟨#[120]⟩ : ByteArray) ++ strOf (knownT k) ++ ⟨#[121]⟩).data.toList.drop 1) = some (knownK k, knownV k, (knownT k).length) := by
    rw [e]
    exact get_of ⟨known_may k h, [121], by rw [known_enc k h]; rfl, by rw [known_enc k h]⟩
  have := get_any ((⟨#[120]⟩ : ByteArray) ++ strOf (knownT k) ++ ⟨#[121]⟩) 1 (by rw [hs]; omega) (by rw [hs]; omega) w hA
  rw [hg] at this
  rw [strOf_size]
  simp only [getV] at this
  have e2 : (1 + ((knownT k).length : Int)) = ((1 + (knownT k).length : Nat) : Int) := by omega
  rw [e2]
  exact this
theorem known_all (k : Nat) (h : k < 8) (w : World) (hA : Amb w) :
    Calls Tryd.prog 11 #[.string (strOf (knownB k))] w fun e w' => e = .returned (.tuple #[.slice none 0 0, .int .i64 4]) ∧ Below w.heap.size w w' := by
  have hl := known_len k h
  have hn : allF (strOf (knownB k)).data.toList = none := by
    rw [strOf_list]
    exact all_bad (by intro e; rw [e] at hl; simp at hl) (known_bad k h)
  refine (all_any (strOf (knownB k)) (by rw [strOf_size]; omega) w hA).mono ?_
  rintro e w' ⟨h1, h2⟩
  rw [hn] at h1
  exact ⟨h1, h2⟩
theorem known_put (k : Nat) (h : k < 8) (w : World) (hA : Amb w) :
    Calls Tryd.prog 15 #[.agg #[.string (strOf (knownK k)), .string (strOf (knownV k))]] w fun e w' => e = .returned (.string (strOf (knownT k))) ∧ Below w.heap.size w w' := by
  have hl := known_len k h
  have := put_any (strOf (knownK k)) (strOf (knownV k)) (by rw [strOf_size, strOf_size]; omega) w hA
  rw [strOf_list, strOf_list, put_may (known_may k h), known_enc k h] at this
  exact this

/-- A pair that was laid ahead of a call, behind it. -/
theorem fresh_a {w w5 : World} {a b : Value} {t : TypeId} (n : Nat) (hn : w.heap.size = n) (hb : Below (w.alloc (.cells #[a, b] t)).heap.size (w.alloc (.cells #[a, b] t)) w5) :
    w5.cell? ⟨n, 0, none⟩ = some a ∧ w5.cell? ⟨n, 1, none⟩ = some b ∧ w5.frozen? ⟨n, 0, none⟩ = false ∧ w5.frozen? ⟨n, 1, none⟩ = false := by
  subst hn
  have h0 : (w.alloc (.cells #[a, b] t)).cell? ⟨w.heap.size, 0, none⟩ = some a := by simp
  have h1 : (w.alloc (.cells #[a, b] t)).cell? ⟨w.heap.size, 1, none⟩ = some b := by simp
  exact ⟨cell_kept hb h0, cell_kept hb h1, free_kept hb h0 (by simp [go_sem]), free_kept hb h1 (by simp [go_sem])⟩
theorem fresh_b {w w5 : World} {a b : Value} {t : TypeId} (n : Nat) (hn : w.heap.size = n) (hb : Below (w.alloc (.cells #[a, b] t)).drew.heap.size (w.alloc (.cells #[a, b] t)).drew w5) :
    w5.cell? ⟨n, 0, none⟩ = some a ∧ w5.cell? ⟨n, 1, none⟩ = some b ∧ w5.frozen? ⟨n, 0, none⟩ = false ∧ w5.frozen? ⟨n, 1, none⟩ = false :=
  fresh_a (w := w) n hn ⟨hb.os, hb.tape, hb.output, hb.size, hb.block⟩
/-- The law's tables as cells. -/
def cellsT : Array Value := #[.string ⟨#[54, 32, 97, 61, 98, 10]⟩, .string ⟨#[56, 32, 97, 61, 98, 99, 100, 10]⟩, .string ⟨#[57, 32, 97, 61, 98, 99, 100, 101, 10]⟩, .string ⟨#[49, 49, 32, 97, 61, 98, 99, 100, 101, 102, 10]⟩, .string ⟨#[49, 50, 32, 97, 61, 98, 99, 100, 101, 102, 103, 10]⟩, .string ⟨#[53, 32, 97, 61, 10]⟩, .string ⟨#[51, 48, 32, 109, 116, 105, 109, 101, 61, 49, 51, 50, 49, 55, 49, 49, 55, 55, 53, 46, 48, 49, 48, 48, 48, 48, 48, 48, 48, 10]⟩, .string ⟨#[55, 32, 97, 61, 61, 98, 10]⟩]
def cellsK : Array Value := #[.string ⟨#[97]⟩, .string ⟨#[97]⟩, .string ⟨#[97]⟩, .string ⟨#[97]⟩, .string ⟨#[97]⟩, .string ⟨#[97]⟩, .string ⟨#[109, 116, 105, 109, 101]⟩, .string ⟨#[97]⟩]
def cellsV : Array Value := #[.string ⟨#[98]⟩, .string ⟨#[98, 99, 100]⟩, .string ⟨#[98, 99, 100, 101]⟩, .string ⟨#[98, 99, 100, 101, 102]⟩, .string ⟨#[98, 99, 100, 101, 102, 103]⟩, .string ⟨#[]⟩, .string ⟨#[49, 51, 50, 49, 55, 49, 49, 55, 55, 53, 46, 48, 49, 48, 48, 48, 48, 48, 48, 48]⟩, .string ⟨#[61, 98]⟩]
def cellsB : Array Value := #[.string ⟨#[55, 32, 97, 61, 98, 10]⟩, .string ⟨#[53, 32, 97, 61, 98, 10]⟩, .string ⟨#[54, 32, 97, 61, 98, 32]⟩, .string ⟨#[48, 54, 32, 97, 61, 98, 10]⟩, .string ⟨#[52, 32, 61, 10]⟩, .string ⟨#[49, 48, 32, 97, 61, 98, 99, 100, 101, 10, 10]⟩, .string ⟨#[51, 32, 97, 10]⟩, .string ⟨#[45, 54, 32, 97, 61, 98, 10]⟩]
theorem cells_at (k : Nat) (h : k < 8) : cellsT[k]? = some (.string (strOf (knownT k))) ∧ cellsK[k]? = some (.string (strOf (knownK k))) ∧ cellsV[k]? = some (.string (strOf (knownV k))) ∧ cellsB[k]? = some (.string (strOf (knownB k))) := by
  rcases eight k h with rfl | rfl | rfl | rfl | rfl | rfl | rfl | rfl <;> exact ⟨rfl, rfl, rfl, rfl⟩

set_option maxRecDepth 100000 in
set_option maxHeartbeats 3200000 in
theorem recKnown_walk (a0 : Int) (w : World) (hA : Amb w) (w0 : (Lit.int .u8 a0).wf = true) :
    Calls Tryd.prog 6 #[.int .u8 a0] w fun e w' => e = .returned (.bool true) ∧ Below w.heap.size w w' := by
  have hb0 : 0 ≤ a0 ∧ a0 ≤ 255 := by
    simpa [Lit.wf, IntKind.min, IntKind.max, IntKind.signed, IntKind.bits] using w0
  obtain ⟨k, hk⟩ : ∃ k : Nat, a0 % 8 = (k : Int) := ⟨_, (Int.toNat_of_nonneg (by omega)).symm⟩
  have hk8 : k < 8 := by omega
  have hb1 := hb0.1
  have hb2 := hb0.2
  have hmod : a0.tmod 8 = (k : Int) := by rw [Int.tmod_eq_emod_of_nonneg hb1]; exact hk
  clear hb0
  have hcs := cells_at k hk8
  have hkl := known_len k hk8
  have HG := Lib.hid (known_get k hk8)
  have HB := Lib.hid (known_all k hk8)
  have HP := Lib.hid (known_put k hk8)
  have hTs : (strOf (knownT k)).size ≤ 30 := by rw [strOf_size]; omega
  have HE := Lib.hid (get_end (strOf (knownT k)) ((strOf (knownT k)).size : Int) rfl (by omega))
  have HN := Lib.hid (get_neg (strOf (knownT k)) (-1) (by omega) (by omega))
  have q1 : ¬ 9223372036854775807 < 1 + (strOf (knownT k)).size := by omega
  have q2 : ¬ 9223372036854775807 < 1 + (strOf (knownT k)).size + 1 := by omega
  have q3 : 1 + (strOf (knownT k)).size < 9223372036854775807 := by omega
  have i0 : (0 : Int) ≤ (k : Int) := by omega
  have i1 : (k : Int) < 8 := by omega
  generalize strOf (knownT k) = T at *
  generalize strOf (knownK k) = K at *
  generalize strOf (knownV k) = V at *
  generalize strOf (knownB k) = B at *
  obtain ⟨eT, eK, eV, eB⟩ := hcs
  have HeB := Lib.hid eB
  clear hkl hk w0 eB
  go_enter Tryd.func6, Tryd.ntmps6
  go_upto_region 5 with fail
  obtain ⟨W, hW⟩ : ∃ W, ((w.alloc (.cells cellsT 9)).alloc (.cells cellsK 9)).alloc (.cells cellsV 9) = W := ⟨_, rfl⟩
  have cT : W.cell? ⟨w.heap.size, k, none⟩ = some (.string T) := by subst hW; simp [go_sem, eT]
  have cK : W.cell? ⟨w.heap.size + 1, k, none⟩ = some (.string K) := by subst hW; simp [go_sem, eK]
  have cV : W.cell? ⟨w.heap.size + 1 + 1, k, none⟩ = some (.string V) := by subst hW; simp [go_sem, eV]
  have hBW : Below w.heap.size w W := by subst hW; (repeat' (first | exact Below.refl _ _ | assumption | refine gr_drew ?_ | refine gr_drewN ?_ _ | refine gr_alloc ?_ _ | refine gr_set ?_ ?_ _ | refine gr_call ?_ (by assumption)) <;> (try (simp; done)) <;> (try (simp; omega)) <;> (try omega))
  change Code.wp _ _ _ _ (((w.alloc (.cells cellsT 9)).alloc (.cells cellsK 9)).alloc (.cells cellsV 9))
  rw [hW]
  clear hW eT eK eV
  go_wp2_with fail
  refine (HG.out _ (hA.on hBW)).mono ?_
  rintro e w1 ⟨rfl, hbw1⟩
  have hzw1 := hbw1.size
  have hB1 := gr_call hBW hbw1
  have cT1 := cell_kept hbw1 cT
  have cK1 := cell_kept hbw1 cK
  have cV1 := cell_kept hbw1 cV
  have l1 : w.heap.size < w1.heap.size := block_lt cT1
  have l2 : w.heap.size + 1 < w1.heap.size := block_lt cK1
  have l3 : w.heap.size + 1 + 1 < w1.heap.size := block_lt cV1
  clear cT cK cV hbw1
  go_upto_region 7 with fail
  obtain ⟨W2, hW⟩ : ∃ W2, (w1.alloc (.cells #[.string K, .string V] 23)).alloc (.cells cellsB 9) = W2 := ⟨_, rfl⟩
  have dB : W2.cell? ⟨w1.heap.size + 1, k, none⟩ = some (.string B) := by subst hW; simp [go_sem, HeB.out]
  have d0 : W2.cell? ⟨w1.heap.size, 0, none⟩ = some (.string K) := by subst hW; simp [go_sem]
  have d1 : W2.cell? ⟨w1.heap.size, 1, none⟩ = some (.string V) := by subst hW; simp [go_sem]
  have hb12 : Below w1.heap.size w1 W2 := by subst hW; (repeat' (first | exact Below.refl _ _ | assumption | refine gr_drew ?_ | refine gr_drewN ?_ _ | refine gr_alloc ?_ _ | refine gr_set ?_ ?_ _ | refine gr_call ?_ (by assumption)) <;> (try (simp; done)) <;> (try (simp; omega)) <;> (try omega))
  have dT := cell_kept hb12 cT1
  have dK := cell_kept hb12 cK1
  have dV := cell_kept hb12 cV1
  have hB2 := gr_call hB1 hb12
  change Code.wp _ _ _ _ ((w1.alloc (.cells #[.string K, .string V] 23)).alloc (.cells cellsB 9))
  rw [hW]
  clear hW hb12 cT1 cK1 cV1 HeB
  go_wp2_with fail
  refine (HB.out _ (hA.on hB2)).mono ?_
  rintro e w3 ⟨rfl, hb3⟩
  have hB3 := gr_call hB2 hb3
  have eT := cell_kept hb3 dT
  have eK := cell_kept hb3 dK
  have eV := cell_kept hb3 dV
  have e0 := cell_kept hb3 d0
  have e1 := cell_kept hb3 d1
  clear dT dK dV d0 d1 dB hb3
  have lw1 : w1.heap.size < w3.heap.size := block_lt e0
  have lw2 : w.heap.size < w3.heap.size := block_lt eT
  have lw3 : w.heap.size + 1 < w3.heap.size := block_lt eK
  have lw4 : w.heap.size + 1 + 1 < w3.heap.size := block_lt eV
  go_upto_region 8 with fail
  go_cut [15] (fun s15 wx => s15 = .int .i64 5 ∧ Below w.heap.size w wx ∧ wx.cell? ⟨w.heap.size, k, none⟩ = some (.string T) ∧ wx.cell? ⟨w.heap.size + 1, k, none⟩ = some (.string K) ∧ wx.cell? ⟨w.heap.size + 1 + 1, k, none⟩ = some (.string V) ∧ wx.cell? ⟨w1.heap.size, 0, none⟩ = some (.string K) ∧ wx.cell? ⟨w1.heap.size, 1, none⟩ = some (.string V))
  case first =>
    go_region_with (first | (go_at_call 9; refine (HE.out _).mono ?_; rintro e w5 ⟨rfl, hb5⟩; simp only [errV]; have hz5 := hb5.size; (try simp at hz5); (try (have hn := fresh_a w3.heap.size rfl hb5; obtain ⟨n0, n1, m0, m1⟩ := hn)); (try (have hn := fresh_b w3.heap.size rfl hb5; obtain ⟨n0, n1, m0, m1⟩ := hn))))
    all_goals
      go_wp2_with fail
      go_meet
      refine ⟨rfl, ?_, cell_kept (w := w3) ?_ eT, cell_kept (w := w3) ?_ eK, cell_kept (w := w3) ?_ eV, cell_kept (w := w3) ?_ e0, cell_kept (w := w3) ?_ e1⟩
      all_goals (repeat' (first | exact Below.refl _ _ | assumption | refine gr_drew ?_ | refine gr_drewN ?_ _ | refine gr_alloc ?_ _ | refine gr_set ?_ ?_ _ | refine gr_call ?_ (by assumption)) <;> (try (simp; done)) <;> (try (simp; omega)) <;> (try omega))
  case rest =>
    obtain ⟨rfl, hBc, cT, cK, cV, c0, c1⟩ := hcut
    clear eT eK eV e0 e1 lw1 lw2 lw3 lw4 hB3
    go_wp2_with fail
    refine (HN.out _).mono ?_
    rintro e w6 ⟨rfl, hb6⟩
    simp only [errV]
    have hB6 := gr_call hBc hb6
    have gT := cell_kept hb6 cT
    have gK := cell_kept hb6 cK
    have gV := cell_kept hb6 cV
    have g0 := cell_kept hb6 c0
    have g1 := cell_kept hb6 c1
    clear cT cK cV c0 c1 hb6
    go_wp2_with fail
    obtain ⟨W9, hW9⟩ : ∃ W9, (w6.alloc (.cells #[.string ⟨#[]⟩, .string ⟨#[]⟩] 23)) = W9 := ⟨_, rfl⟩
    have hB9 : Below w.heap.size w W9 := by subst hW9; (repeat' (first | exact Below.refl _ _ | assumption | refine gr_drew ?_ | refine gr_drewN ?_ _ | refine gr_alloc ?_ _ | refine gr_set ?_ ?_ _ | refine gr_call ?_ (by assumption)) <;> (try (simp; done)) <;> (try (simp; omega)) <;> (try omega))
    have hb69 : Below w6.heap.size w6 W9 := by subst hW9; (repeat' (first | exact Below.refl _ _ | assumption | refine gr_drew ?_ | refine gr_drewN ?_ _ | refine gr_alloc ?_ _ | refine gr_set ?_ ?_ _ | refine gr_call ?_ (by assumption)) <;> (try (simp; done)) <;> (try (simp; omega)) <;> (try omega))
    have hB9d := gr_drew hB9
    have hA9 := hA.on hB9d
    have jT : W9.drew.cell? ⟨w.heap.size, k, none⟩ = some (.string T) := (show W9.cell? ⟨w.heap.size, k, none⟩ = some (.string T) from cell_kept hb69 gT)
    have jK : W9.drew.cell? ⟨w.heap.size + 1, k, none⟩ = some (.string K) := (show W9.cell? ⟨w.heap.size + 1, k, none⟩ = some (.string K) from cell_kept hb69 gK)
    have jV : W9.drew.cell? ⟨w.heap.size + 1 + 1, k, none⟩ = some (.string V) := (show W9.cell? ⟨w.heap.size + 1 + 1, k, none⟩ = some (.string V) from cell_kept hb69 gV)
    have j0 : W9.drew.cell? ⟨w1.heap.size, 0, none⟩ = some (.string K) := (show W9.cell? ⟨w1.heap.size, 0, none⟩ = some (.string K) from cell_kept hb69 g0)
    have j1 : W9.drew.cell? ⟨w1.heap.size, 1, none⟩ = some (.string V) := (show W9.cell? ⟨w1.heap.size, 1, none⟩ = some (.string V) from cell_kept hb69 g1)
    have hwr : IntKind.i64.wrap (1 + (T.size : Int)) = 1 + (T.size : Int) := by rw [IntKind.wrap_i64]; omega
    rw [hW9]
    clear hW9 hb69 gT gK gV g0 g1 HG HB HE HN
    go_region_held3 (fun w' => Amb w' ∧ Below w.heap.size w w' ∧ w'.cell? ⟨w.heap.size, k, none⟩ = some (.string T) ∧ w'.cell? ⟨w.heap.size + 1, k, none⟩ = some (.string K) ∧ w'.cell? ⟨w.heap.size + 1 + 1, k, none⟩ = some (.string V) ∧ w'.cell? ⟨w1.heap.size, 0, none⟩ = some (.string K) ∧ w'.cell? ⟨w1.heap.size, 1, none⟩ = some (.string V))
      (first | (go_keep; done) | (go_split_ands; (repeat' apply And.intro) <;> (first | assumption | exact Amb.on (by assumption) hb1 | exact gr_call (by assumption) hb1 | exact cell_kept hb1 (by assumption) | exact RecAt.call (by assumption) hb1 | exact free_kept hb1 (by assumption) (by assumption) | (show Below _ _ _; (repeat' (first | exact Below.refl _ _ | assumption | refine gr_drew ?_ | refine gr_drewN ?_ _ | refine gr_alloc ?_ _ | refine gr_set ?_ ?_ _ | refine gr_call ?_ (by assumption)) <;> (try (simp; done)) <;> (try (simp; omega)) <;> (try omega)); done) | (go_keep; done) | (simp [go_sem, *]; done))))
      (first
        | (go_at_call 15; go_split_ands; refine (HP.out _ (by assumption)).mono ?_; rintro e w1 ⟨rfl, hb1⟩)
        | (go_at_call 17; go_split_ands; refine (err_any _ _).mono ?_; rintro e w1 ⟨rfl, rfl⟩)
        | (go_at_call 8; go_split_ands; refine (awake_true _ (by assumption)).mono ?_; rintro e w1 ⟨rfl, hb1⟩))
    all_goals
      go_wp2_with fail
      go_ret
      go_split_ands
      exact ⟨rfl, by (repeat' (first | exact Below.refl _ _ | assumption | refine gr_drew ?_ | refine gr_drewN ?_ _ | refine gr_alloc ?_ _ | refine gr_set ?_ ?_ _ | refine gr_call ?_ (by assumption)) <;> (try (simp; done)) <;> (try (simp; omega)) <;> (try omega))⟩
end Go.Proofs.YtbjklpodkopgiaaDoor
