/- The document's answer: what bytes say. -/
import Derived.Test.YtijagjahocjaaaaCapsRefPut
namespace Go.Proofs.Ytijagjahocjaaaa
open Go.RowKit
open CapsM
set_option linter.unusedVariables false

/-- What the document's answer hands back. -/
def refRet (o : Option Cap) : Value := match o with
  | some c => .agg #[.int .i64 c.v, .int .u64 (c.p : Int), .int .u64 (c.i : Int), .bool c.e, .int .i64 c.r, .bool true]
  | none => .agg #[.int .i64 0, .int .u64 0, .int .u64 0, .bool false, .int .i64 0, .bool false]
theorem and_one64 (n : Nat) (hn : n < 4294967296) : (bits .and .u64 (n : Int) 1 == 1) = decide (n % 2 = 1) := by
  rw [show (1 : Int) = ((1 : Nat) : Int) from rfl, u64_and_nat n 1 (by omega) (by decide), Nat.and_one_is_mod]
  have : n % 2 = 0 ∨ n % 2 = 1 := by omega
  rcases this with h | h <;> simp [h]

set_option maxHeartbeats 3200000 in
set_option maxRecDepth 100000 in
theorem refGet_any (S : ByteArray) (hS : S.size ≤ 800000) (w : World) :
    Calls Try.prog 9 #[.string S] w fun e w' => e = .returned (refRet (getL S.data.toList)) ∧ Below w.heap.size w w' := by
  by_cases h0 : S.data.toList = []
  · have g1 : S.toList.isEmpty = true := by rw [Lib.toList_data, h0]; rfl
    have HG := Lib.hid (show getL S.data.toList = some none0 by unfold getL; rw [if_pos h0])
    clear h0 hS
    go_enter Try.func9, Try.ntmps9
    go_wp2_with fail
    exact bodyPost_ret (v := .agg #[.int .i64 0, .int .u64 0, .int .u64 0, .bool false, .int .i64 0, .bool true]) (by simp [results, Try.results9, go_sem, *]) rfl ⟨by rw [HG.out]; rfl, by (repeat' (first | exact Below.refl _ _ | assumption | refine gr_drew ?_ | refine gr_drewN ?_ _ | refine gr_alloc ?_ _ | refine gr_set ?_ ?_ _ | refine gr_call ?_ (by assumption)) <;> (try (simp; done)) <;> (try (simp; omega)) <;> (try omega))⟩
  have g1 : S.toList.isEmpty = false := by rw [Bool.eq_false_iff]; intro e; exact h0 (by rw [← Lib.toList_data]; exact List.isEmpty_iff.1 e)
  have n0 := Lib.hid (word_any S hS 0 (by decide))
  have n1 := Lib.hid (word_any S hS 4 (by decide))
  have n2 := Lib.hid (word_any S hS 8 (by decide))
  have n3 := Lib.hid (word_any S hS 12 (by decide))
  have n4 := Lib.hid (word_any S hS 16 (by decide))
  have n5 := Lib.hid (word_any S hS 20 (by decide))
  obtain ⟨l, hlS⟩ : ∃ l, S.data.toList = l := ⟨_, rfl⟩
  have HS := Lib.hid hlS
  rw [hlS] at n0 n1 n2 n3 n4 n5 h0 ⊢
  have hgs := guess_fits l (le4 (l.drop 20))
  have hge : guess l (le4 (l.drop 20)) = ⟨(le4 (l.drop 0) / 16777216 : Nat), le4 (l.drop 4) + le4 (l.drop 12) * 4294967296, le4 (l.drop 8) + le4 (l.drop 16) * 4294967296, decide (le4 (l.drop 0) % 2 = 1), (le4 (l.drop 20) : Nat)⟩ := rfl
  have hG : getL l = if putL (guess l (le4 (l.drop 20))) = l then some (guess l (le4 (l.drop 20))) else none := by unfold getL; rw [if_neg h0]
  rw [hge] at hG hgs
  obtain ⟨N0, hN0⟩ : ∃ N, le4 (l.drop 0) = N := ⟨_, rfl⟩
  obtain ⟨N1, hN1⟩ : ∃ N, le4 (l.drop 4) = N := ⟨_, rfl⟩
  obtain ⟨N2, hN2⟩ : ∃ N, le4 (l.drop 8) = N := ⟨_, rfl⟩
  obtain ⟨N3, hN3⟩ : ∃ N, le4 (l.drop 12) = N := ⟨_, rfl⟩
  obtain ⟨N4, hN4⟩ : ∃ N, le4 (l.drop 16) = N := ⟨_, rfl⟩
  obtain ⟨N5, hN5⟩ : ∃ N, le4 (l.drop 20) = N := ⟨_, rfl⟩
  have l0 : N0 < 4294967296 := hN0 ▸ le4_lt _
  have l1 : N1 < 4294967296 := hN1 ▸ le4_lt _
  have l2 : N2 < 4294967296 := hN2 ▸ le4_lt _
  have l3 : N3 < 4294967296 := hN3 ▸ le4_lt _
  have l4 : N4 < 4294967296 := hN4 ▸ le4_lt _
  have l5 : N5 < 4294967296 := hN5 ▸ le4_lt _
  rw [hN0] at n0
  rw [hN1] at n1
  rw [hN2] at n2
  rw [hN3] at n3
  rw [hN4] at n4
  rw [hN5] at n5
  rw [hN0, hN1, hN2, hN3, hN4, hN5] at hG hgs
  obtain ⟨P, hP⟩ : ∃ P, N1 + N3 * 4294967296 = P := ⟨_, rfl⟩
  obtain ⟨I, hI⟩ : ∃ P, N2 + N4 * 4294967296 = P := ⟨_, rfl⟩
  obtain ⟨V, hV⟩ : ∃ P, N0 / 16777216 = P := ⟨_, rfl⟩
  obtain ⟨E, hE⟩ : ∃ P, decide (N0 % 2 = 1) = P := ⟨_, rfl⟩
  have hv := and_one64 N0 l0
  rw [hE] at hv
  have hq0 : (N0 : Int) / 16777216 = (V : Int) := by rw [← hV]; rfl
  have ho1 := or_half N1 N3 l1 l3 ((N3 : Int) * 4294967296) (by omega)
  have ho2 := or_half N2 N4 l2 l4 ((N4 : Int) * 4294967296) (by omega)
  rw [hP] at ho1
  rw [hI] at ho2
  rw [hP, hI, hV, hE] at hG hgs
  have HG := Lib.hid hG
  have hput := Lib.hid (fun W => refPut_any ⟨V, P, I, E, (N5 : Nat)⟩ hgs W)
  unfold capV at hput
  simp only at hput
  have Hq := Lib.hid (str_beq (strOf (putL ⟨V, P, I, E, (N5 : Nat)⟩)) S)
  rw [strOf_list, HS.out] at Hq
  obtain ⟨Q, hQ⟩ : ∃ Q, strOf (putL ⟨V, P, I, E, (N5 : Nat)⟩) = Q := ⟨_, rfl⟩
  rw [hQ] at hput Hq
  clear hQ hG hgs hge hlS h0 hS hN0 hN1 hN2 hN3 hN4 hN5 hP hI hV hE HS
  go_enter Try.func9, Try.ntmps9
  go_wp2_with fail
  refine (n0.out _).mono ?_
  rintro e w1 ⟨rfl, hb1⟩
  go_wp2_with fail
  refine (n1.out _).mono ?_
  rintro e w2 ⟨rfl, hb2⟩
  go_wp2_with fail
  refine (n3.out _).mono ?_
  rintro e w3 ⟨rfl, hb3⟩
  go_wp2_with fail
  refine (n2.out _).mono ?_
  rintro e w4 ⟨rfl, hb4⟩
  go_wp2_with fail
  refine (n4.out _).mono ?_
  rintro e w5 ⟨rfl, hb5⟩
  go_wp2_with fail
  refine (n5.out _).mono ?_
  rintro e w6 ⟨rfl, hb6⟩
  have hb := gr_call (gr_call (gr_call (gr_call (gr_call hb1 hb2) hb3) hb4) hb5) hb6
  have a0 : w6.cell? ⟨w.heap.size, 0, none⟩ = some (.int .i64 0) := cell_kept hb (by simp [go_sem])
  have a1 : w6.cell? ⟨w.heap.size, 1, none⟩ = some (.int .u64 0) := cell_kept hb (by simp [go_sem])
  have a2 : w6.cell? ⟨w.heap.size, 2, none⟩ = some (.int .u64 0) := cell_kept hb (by simp [go_sem])
  have a3 : w6.cell? ⟨w.heap.size, 3, none⟩ = some (.bool false) := cell_kept hb (by simp [go_sem])
  have a4 : w6.cell? ⟨w.heap.size, 4, none⟩ = some (.int .i64 0) := cell_kept hb (by simp [go_sem])
  have a5 : w6.cell? ⟨w.heap.size, 5, none⟩ = some (.bool false) := cell_kept hb (by simp [go_sem])
  have f0 : w6.frozen? ⟨w.heap.size, 0, none⟩ = false := free_kept hb (v := .int .i64 0) (by simp [go_sem]) (by simp [go_sem])
  have f1 : w6.frozen? ⟨w.heap.size, 1, none⟩ = false := free_kept hb (v := .int .u64 0) (by simp [go_sem]) (by simp [go_sem])
  have f2 : w6.frozen? ⟨w.heap.size, 2, none⟩ = false := free_kept hb (v := .int .u64 0) (by simp [go_sem]) (by simp [go_sem])
  have f3 : w6.frozen? ⟨w.heap.size, 3, none⟩ = false := free_kept hb (v := .bool false) (by simp [go_sem]) (by simp [go_sem])
  have f4 : w6.frozen? ⟨w.heap.size, 4, none⟩ = false := free_kept hb (v := .int .i64 0) (by simp [go_sem]) (by simp [go_sem])
  have f5 : w6.frozen? ⟨w.heap.size, 5, none⟩ = false := free_kept hb (v := .bool false) (by simp [go_sem]) (by simp [go_sem])
  have hA6 : w.heap.size < w6.heap.size := block_lt a0
  have hbl : Below w.heap.size w w6 := gr_call (by (repeat' (first | exact Below.refl _ _ | assumption | refine gr_drew ?_ | refine gr_drewN ?_ _ | refine gr_alloc ?_ _ | refine gr_set ?_ ?_ _ | refine gr_call ?_ (by assumption)) <;> (try (simp; done)) <;> (try (simp; omega)) <;> (try omega))) hb
  clear hb1 hb2 hb3 hb4 hb5 hb6 n0 n1 n2 n3 n4 n5
  go_wp2_with fail
  refine (hput.out _).mono ?_
  rintro e w7 ⟨rfl, hb7⟩
  have c0 : w7.cell? ⟨w6.heap.size, 0, none⟩ = some (.int .i64 (V : Int)) := cell_kept hb7 (by simp [go_sem])
  have c1 : w7.cell? ⟨w6.heap.size, 1, none⟩ = some (.int .u64 (P : Int)) := cell_kept hb7 (by simp [go_sem])
  have c2 : w7.cell? ⟨w6.heap.size, 2, none⟩ = some (.int .u64 (I : Int)) := cell_kept hb7 (by simp [go_sem])
  have c3 : w7.cell? ⟨w6.heap.size, 3, none⟩ = some (.bool E) := cell_kept hb7 (by simp [go_sem])
  have c4 : w7.cell? ⟨w6.heap.size, 4, none⟩ = some (.int .i64 (N5 : Int)) := cell_kept hb7 (by simp [go_sem])
  have hb67 : Below w6.heap.size w6 w7 := gr_call (gr_alloc (Below.refl _ _) _) hb7
  replace f0 := free_kept hb67 a0 f0
  replace f1 := free_kept hb67 a1 f1
  replace f2 := free_kept hb67 a2 f2
  replace f3 := free_kept hb67 a3 f3
  replace f4 := free_kept hb67 a4 f4
  replace f5 := free_kept hb67 a5 f5
  replace a0 := cell_kept hb67 a0
  replace a1 := cell_kept hb67 a1
  replace a2 := cell_kept hb67 a2
  replace a3 := cell_kept hb67 a3
  replace a4 := cell_kept hb67 a4
  replace a5 := cell_kept hb67 a5
  replace hbl := gr_call hbl hb67
  clear hb7 hb67 hb hput ho1 ho2 hv hq0
  by_cases hp : putL ⟨V, P, I, E, (N5 : Nat)⟩ = l
  · have hq := Hq.out.trans (decide_eq_true hp)
    have HO := Lib.hid (HG.out.trans (if_pos hp))
    clear HG Hq hp
    go_wp2_with fail
    clear c0 c1 c2 c3 c4
    exact bodyPost_ret (v := .agg #[.int .i64 (V : Int), .int .u64 (P : Int), .int .u64 (I : Int), .bool E, .int .i64 (N5 : Int), .bool true]) (by simp [results, Try.results9, go_sem, *]) rfl ⟨by rw [HO.out]; rfl, (gr_set (gr_set (gr_set (gr_set (gr_set (gr_set hbl (Nat.le_refl _) _) (Nat.le_refl _) _) (Nat.le_refl _) _) (Nat.le_refl _) _) (Nat.le_refl _) _) (Nat.le_refl _) _)⟩
  · have hq := Hq.out.trans (decide_eq_false hp)
    have HO := Lib.hid (HG.out.trans (if_neg hp))
    clear HG Hq hp
    go_wp2_with fail
    clear c0 c1 c2 c3 c4
    exact bodyPost_ret (v := .agg #[.int .i64 0, .int .u64 0, .int .u64 0, .bool false, .int .i64 0, .bool false]) (by simp [results, Try.results9, go_sem, *]) rfl ⟨by rw [HO.out]; rfl, (gr_set (gr_set (gr_set (gr_set (gr_set (gr_set hbl (Nat.le_refl _) _) (Nat.le_refl _) _) (Nat.le_refl _) _) (Nat.le_refl _) _) (Nat.le_refl _) _) (Nat.le_refl _) _)⟩
end Go.Proofs.Ytijagjahocjaaaa
