/- Walks over the document's answer for package head: GetHead of noughts. -/
import Derived.Test.YtkkmhfgfkjeooaaRefGetA
namespace Go.Proofs.Ytkkmhfgfkjeooaa
open Go.RowKit
open HeadM NumM
set_option linter.unusedVariables false

set_option maxHeartbeats 2000000 in
set_option maxRecDepth 100000 in
theorem refGet_zeros (S : ByteArray) (hS : 512 ≤ S.size) (hl : S.size ≤ 8000) (hz : (L S).take 512 = List.replicate 512 0) (w : World) :
    Calls Try.prog 11 #[.string S] w fun e w' => e = .returned (.agg #[.string ⟨#[]⟩, .int .i64 0, .int .i64 0, .int .i64 0, .int .i64 0, .int .i64 0, .int .u8 0, .string ⟨#[]⟩, .string ⟨#[]⟩, .string ⟨#[]⟩, .int .i64 0, .int .i64 0, .string ⟨#[]⟩, .int .i64 2]) ∧ Below w.heap.size w w' := by
  have h1 : ¬ (S.size : Int) < 512 := by omega
  have h2 : (512 : Int) ≤ (S.size : Int) := by omega
  have h3 : 512 ≤ S.size := hS
  have hB : L (S.extract 0 512) = (L S).take 512 := by
    show (S.extract 0 512).data.toList = _
    rw [Lib.extract_data]
    simp [L]
  have hBl : ((L S).take 512).length = 512 := by rw [List.length_take, size_L]; omega
  obtain ⟨b, hb⟩ : ∃ b, (L S).take 512 = b := ⟨_, rfl⟩
  rw [hb] at hBl hB hz
  obtain ⟨B, hBB⟩ : ∃ B : ByteArray, S.extract 0 512 = B := ⟨_, rfl⟩
  rw [hBB] at hB
  obtain ⟨Zs, hZs⟩ : ∃ Zs : ByteArray, strOf (List.replicate 512 0) = Zs := ⟨_, rfl⟩
  have hLZ : L Zs = List.replicate 512 0 := by rw [← hZs, L_strOf]
  have hcmp := beq_L B Zs
  rw [hLZ, hB] at hcmp
  have hcvZ : ∀ {g : Nat} {W : World}, BRow g (.slice (some ⟨g, 0, none⟩) 512 512) (List.replicate 512 0) W → (convert 43 9 (.slice (some ⟨g, 0, none⟩) 512 512)).run Try.prog W = .ok (.string Zs) W := fun hr => by
    rw [← hZs]
    exact hr.str
  have zB : B.size = 512 := by rw [← size_L, hB, hBl]
  replace hBB := Lib.hid hBB
  clear hb hLZ hZs hS hBl
  have hT : BlkIs (w.alloc (.cells #[.string ⟨#[]⟩, .int .i64 0, .int .i64 0, .int .i64 0, .int .i64 0, .int .i64 0, .int .u8 0, .string ⟨#[]⟩, .string ⟨#[]⟩, .string ⟨#[]⟩, .int .i64 0, .int .i64 0, .string ⟨#[]⟩, .int .i64 0] 29)) w.heap.size 29 #[.string ⟨#[]⟩, .int .i64 0, .int .i64 0, .int .i64 0, .int .i64 0, .int .i64 0, .int .u8 0, .string ⟨#[]⟩, .string ⟨#[]⟩, .string ⟨#[]⟩, .int .i64 0, .int .i64 0, .string ⟨#[]⟩, .int .i64 0] := BlkIs.made _ _ _
  rw [decide_eq_true hz] at hcmp
  clear hz hB
  go_enter Try.func11, Try.ntmps11
  go_wp2_with (at_make; refine wp_make rfl _ _ rfl _ 512 512 512 rfl rfl rfl rfl (by omega) ?_)
  rw [hBB.out]
  intro w1 hr hb1 hx
  clear hx
  have hcv := hcvZ hr
  have hT1 := hT.kept hb1 (Nat.lt_succ_self _)
  have hB1 : Below w.heap.size w w1 := ((Below.refl w.heap.size w).alloc (Nat.le_refl _) _).trans (hb1.mono (Nat.le_succ _))
  clear hr hb1 hT
  have k0 := hT1.cell_some 0 _ rfl
  have kf0 := hT1.free 0
  have k1 := hT1.cell_some 1 _ rfl
  have kf1 := hT1.free 1
  have k2 := hT1.cell_some 2 _ rfl
  have kf2 := hT1.free 2
  have k3 := hT1.cell_some 3 _ rfl
  have kf3 := hT1.free 3
  have k4 := hT1.cell_some 4 _ rfl
  have kf4 := hT1.free 4
  have k5 := hT1.cell_some 5 _ rfl
  have kf5 := hT1.free 5
  have k6 := hT1.cell_some 6 _ rfl
  have kf6 := hT1.free 6
  have k7 := hT1.cell_some 7 _ rfl
  have kf7 := hT1.free 7
  have k8 := hT1.cell_some 8 _ rfl
  have kf8 := hT1.free 8
  have k9 := hT1.cell_some 9 _ rfl
  have kf9 := hT1.free 9
  have k10 := hT1.cell_some 10 _ rfl
  have kf10 := hT1.free 10
  have k11 := hT1.cell_some 11 _ rfl
  have kf11 := hT1.free 11
  have k12 := hT1.cell_some 12 _ rfl
  have kf12 := hT1.free 12
  have k13 := hT1.cell_some 13 _ rfl
  have kf13 := hT1.free 13
  go_wp2_with fail
  obtain ⟨W, hW⟩ : ∃ W, (((((((((((((w1.setCell ⟨w.heap.size, 0, none⟩ (.string ⟨#[]⟩)).setCell ⟨w.heap.size, 1, none⟩ (.int .i64 0)).setCell ⟨w.heap.size, 2, none⟩ (.int .i64 0)).setCell ⟨w.heap.size, 3, none⟩ (.int .i64 0)).setCell ⟨w.heap.size, 4, none⟩ (.int .i64 0)).setCell ⟨w.heap.size, 5, none⟩ (.int .i64 0)).setCell ⟨w.heap.size, 6, none⟩ (.int .u8 0)).setCell ⟨w.heap.size, 7, none⟩ (.string ⟨#[]⟩)).setCell ⟨w.heap.size, 8, none⟩ (.string ⟨#[]⟩)).setCell ⟨w.heap.size, 9, none⟩ (.string ⟨#[]⟩)).setCell ⟨w.heap.size, 10, none⟩ (.int .i64 0)).setCell ⟨w.heap.size, 11, none⟩ (.int .i64 0)).setCell ⟨w.heap.size, 12, none⟩ (.string ⟨#[]⟩)).setCell ⟨w.heap.size, 13, none⟩ (.int .i64 2) = W := ⟨_, rfl⟩
  have hFW : BlkIs W w.heap.size 29 #[.string ⟨#[]⟩, .int .i64 0, .int .i64 0, .int .i64 0, .int .i64 0, .int .i64 0, .int .u8 0, .string ⟨#[]⟩, .string ⟨#[]⟩, .string ⟨#[]⟩, .int .i64 0, .int .i64 0, .string ⟨#[]⟩, .int .i64 2] := by
    rw [← hW]
    exact put14 (.string ⟨#[]⟩) (.int .i64 0) (.int .i64 0) (.int .i64 0) (.int .i64 0) (.int .i64 0) (.int .u8 0) (.string ⟨#[]⟩) (.string ⟨#[]⟩) (.string ⟨#[]⟩) (.int .i64 0) (.int .i64 0) (.string ⟨#[]⟩) (.int .i64 2) hT1
  have hbW : Below w.heap.size w W := by
    rw [← hW]
    exact gr_set (gr_set (gr_set (gr_set (gr_set (gr_set (gr_set (gr_set (gr_set (gr_set (gr_set (gr_set (gr_set (gr_set (hB1) (p := ⟨w.heap.size, 0, none⟩) (Nat.le_refl _) (.string ⟨#[]⟩)) (p := ⟨w.heap.size, 1, none⟩) (Nat.le_refl _) (.int .i64 0)) (p := ⟨w.heap.size, 2, none⟩) (Nat.le_refl _) (.int .i64 0)) (p := ⟨w.heap.size, 3, none⟩) (Nat.le_refl _) (.int .i64 0)) (p := ⟨w.heap.size, 4, none⟩) (Nat.le_refl _) (.int .i64 0)) (p := ⟨w.heap.size, 5, none⟩) (Nat.le_refl _) (.int .i64 0)) (p := ⟨w.heap.size, 6, none⟩) (Nat.le_refl _) (.int .u8 0)) (p := ⟨w.heap.size, 7, none⟩) (Nat.le_refl _) (.string ⟨#[]⟩)) (p := ⟨w.heap.size, 8, none⟩) (Nat.le_refl _) (.string ⟨#[]⟩)) (p := ⟨w.heap.size, 9, none⟩) (Nat.le_refl _) (.string ⟨#[]⟩)) (p := ⟨w.heap.size, 10, none⟩) (Nat.le_refl _) (.int .i64 0)) (p := ⟨w.heap.size, 11, none⟩) (Nat.le_refl _) (.int .i64 0)) (p := ⟨w.heap.size, 12, none⟩) (Nat.le_refl _) (.string ⟨#[]⟩)) (p := ⟨w.heap.size, 13, none⟩) (Nat.le_refl _) (.int .i64 2)
  rw [hW]
  clear hW
  have j0 := hFW.cell_some 0 _ rfl
  have j1 := hFW.cell_some 1 _ rfl
  have j2 := hFW.cell_some 2 _ rfl
  have j3 := hFW.cell_some 3 _ rfl
  have j4 := hFW.cell_some 4 _ rfl
  have j5 := hFW.cell_some 5 _ rfl
  have j6 := hFW.cell_some 6 _ rfl
  have j7 := hFW.cell_some 7 _ rfl
  have j8 := hFW.cell_some 8 _ rfl
  have j9 := hFW.cell_some 9 _ rfl
  have j10 := hFW.cell_some 10 _ rfl
  have j11 := hFW.cell_some 11 _ rfl
  have j12 := hFW.cell_some 12 _ rfl
  have j13 := hFW.cell_some 13 _ rfl
  refine bodyPost_ret (v := .agg #[.string ⟨#[]⟩, .int .i64 0, .int .i64 0, .int .i64 0, .int .i64 0, .int .i64 0, .int .u8 0, .string ⟨#[]⟩, .string ⟨#[]⟩, .string ⟨#[]⟩, .int .i64 0, .int .i64 0, .string ⟨#[]⟩, .int .i64 2]) ?_ rfl ⟨?G, hbW⟩
  case G => rfl
  simp [results, Try.results11, go_sem, j0, j1, j2, j3, j4, j5, j6, j7, j8, j9, j10, j11, j12, j13]
end Go.Proofs.Ytkkmhfgfkjeooaa
