/- The document's answer: a perm in letters. -/
import Derived.Test.YtdjffnhkfpjafaaDoorAclText
import Derived.Deep.QuietTactic
namespace Go.Proofs.YtdjffnhkfpjafaaDoor
open Go.RowKit
open AclM DecM
set_option linter.unusedVariables false

theorem three_row (w : World) (x y z : UInt8) (t : TypeId) : RowIs (w.alloc (.cells #[.int .u8 (x.toNat : Int), .int .u8 (y.toNat : Int), .int .u8 (z.toNat : Int)] t (3, 4))) w.heap.size t [x, y, z] := by
  refine ⟨_, _, heap_alloc_new w _, .inr (by simp), ?_⟩
  intro i hi
  have hi' : i < 3 := hi
  have : i = 0 ∨ i = 1 ∨ i = 2 := by omega
  rcases this with rfl | rfl | rfl <;> rfl
theorem row_back {w : World} {g : Nat} {l : List UInt8} (h : RowIs w g 5 l) (hl : l.length = 3) : (convert 35 9 (.slice (some ⟨g, 0, none⟩) 3 3)).run Tryd.prog w = .ok (.string (strOf l)) w := by
  have := h.back (P := Tryd.prog) (src := 35) (dst := 9) 3 Tryd.underlying35 Tryd.underlying5 Tryd.underlying9
  rw [hl] at this
  exact this
set_option maxHeartbeats 1600000 in
set_option maxRecDepth 100000 in
theorem refRwx_any (p : Int) (w : World) (h0 : 0 ≤ p) (h1 : p ≤ 7) :
    Calls Tryd.prog 36 #[.int .i64 p] w fun e w' => e = .returned (.string (strOf (rwx p))) ∧ Below w.heap.size w w' := by
  obtain ⟨n, rfl⟩ : ∃ n : Nat, p = (n : Int) := ⟨p.toNat, by omega⟩
  have hn : n < 8 := by omega
  have ha4 : (bits .and .i64 (n : Int) 4 == 0) = decide (n &&& 4 = 0) := by
    rw [show (4 : Int) = ((4 : Nat) : Int) from rfl, and_i64 n 4 (by omega) (by omega)]
    by_cases h : n &&& 4 = 0 <;> simp [h]
  have ha2 : (bits .and .i64 (n : Int) 2 == 0) = decide (n &&& 2 = 0) := by
    rw [show (2 : Int) = ((2 : Nat) : Int) from rfl, and_i64 n 2 (by omega) (by omega)]
    by_cases h : n &&& 2 = 0 <;> simp [h]
  have ha1 : (bits .and .i64 (n : Int) 1 == 0) = decide (n &&& 1 = 0) := by
    rw [show (1 : Int) = ((1 : Nat) : Int) from rfl, and_i64 n 1 (by omega) (by omega)]
    by_cases h : n &&& 1 = 0
    · rw [h, decide_eq_true rfl]; rfl
    · rw [decide_eq_false h]; exact beq_eq_false_iff_ne.2 (by omega)
  have hr : rwx (n : Int) = [bit n 4 114, bit n 2 119, bit n 1 120] := rfl
  have hk1 : (convert 35 35 (.slice (some ⟨w.heap.size, 0, none⟩) 3 3)).run Tryd.prog (w.alloc (.cells #[.int .u8 45, .int .u8 45, .int .u8 45] 5)) = .ok (.slice (some ⟨w.heap.size, 0, none⟩) 3 3) (w.alloc (.cells #[.int .u8 45, .int .u8 45, .int .u8 45] 5 (3, 4))) := Lib.run_convert_bytes_const (P := Tryd.prog) w 35 5 #[.int .u8 45, .int .u8 45, .int .u8 45] 3 3 Tryd.underlying35 Tryd.underlying5
  obtain ⟨w1, hw1⟩ : ∃ x, w.alloc (.cells #[.int .u8 45, .int .u8 45, .int .u8 45] 5 (3, 4)) = x := ⟨_, rfl⟩
  have hR : RowIs w1 w.heap.size 5 [45, 45, 45] := by rw [← hw1]; exact three_row w 45 45 45 5
  have hb1 : Below w.heap.size w w1 := by rw [← hw1]; (repeat' (first | exact Below.refl _ _ | assumption | refine gr_drew ?_ | refine gr_drewN ?_ _ | refine gr_alloc ?_ _ | refine gr_set ?_ ?_ _ | refine gr_call ?_ (by assumption)) <;> (try (simp; done)) <;> (try (simp; omega)) <;> (try omega))
  rw [hw1] at hk1
  clear hw1
  have x0 : w1.cell? ⟨w.heap.size, 0, none⟩ = some (.int .u8 45) := hR.cell 0 (by simp)
  have x1 : w1.cell? ⟨w.heap.size, 1, none⟩ = some (.int .u8 45) := hR.cell 1 (by simp)
  have x2 : w1.cell? ⟨w.heap.size, 2, none⟩ = some (.int .u8 45) := hR.cell 2 (by simp)
  have f0 := hR.free 0 (by simp)
  have f1 := hR.free 1 (by simp)
  have f2 := hR.free 2 (by simp)
  rw [hr]
  unfold bit
  by_cases hz4 : n &&& 4 = 0
  · rw [decide_eq_true hz4] at ha4
    rw [if_pos hz4]
    by_cases hz2 : n &&& 2 = 0
    · rw [decide_eq_true hz2] at ha2
      rw [if_pos hz2]
      by_cases hz1 : n &&& 1 = 0
      · rw [decide_eq_true hz1] at ha1
        rw [if_pos hz1]
        have hcv := row_back hR rfl
        go_enter Tryd.func36, Tryd.ntmps36
        go_wp2_with fail
        go_ret
        exact ⟨rfl, hb1⟩
      · rw [decide_eq_false hz1] at ha1
        rw [if_neg hz1]
        have hR1 : RowIs (w1.setCell ⟨w.heap.size, 2, none⟩ (.int .u8 120)) w.heap.size 5 [45, 45, 120] := hR.put 2 120
        have hcv := row_back hR1 rfl
        go_enter Tryd.func36, Tryd.ntmps36
        go_wp2_with fail
        go_ret
        exact ⟨rfl, gr_set (hb1) (p := ⟨w.heap.size, 2, none⟩) (Nat.le_refl _) (.int .u8 120)⟩
    · rw [decide_eq_false hz2] at ha2
      rw [if_neg hz2]
      by_cases hz1 : n &&& 1 = 0
      · rw [decide_eq_true hz1] at ha1
        rw [if_pos hz1]
        have hR1 : RowIs (w1.setCell ⟨w.heap.size, 1, none⟩ (.int .u8 119)) w.heap.size 5 [45, 119, 45] := hR.put 1 119
        have hcv := row_back hR1 rfl
        go_enter Tryd.func36, Tryd.ntmps36
        go_wp2_with fail
        go_ret
        exact ⟨rfl, gr_set (hb1) (p := ⟨w.heap.size, 1, none⟩) (Nat.le_refl _) (.int .u8 119)⟩
      · rw [decide_eq_false hz1] at ha1
        rw [if_neg hz1]
        have hR1 : RowIs (w1.setCell ⟨w.heap.size, 1, none⟩ (.int .u8 119)) w.heap.size 5 [45, 119, 45] := hR.put 1 119
        have hR2 : RowIs ((w1.setCell ⟨w.heap.size, 1, none⟩ (.int .u8 119)).setCell ⟨w.heap.size, 2, none⟩ (.int .u8 120)) w.heap.size 5 [45, 119, 120] := hR1.put 2 120
        have hcv := row_back hR2 rfl
        go_enter Tryd.func36, Tryd.ntmps36
        go_wp2_with fail
        go_ret
        exact ⟨rfl, gr_set (gr_set (hb1) (p := ⟨w.heap.size, 1, none⟩) (Nat.le_refl _) (.int .u8 119)) (p := ⟨w.heap.size, 2, none⟩) (Nat.le_refl _) (.int .u8 120)⟩
  · rw [decide_eq_false hz4] at ha4
    rw [if_neg hz4]
    by_cases hz2 : n &&& 2 = 0
    · rw [decide_eq_true hz2] at ha2
      rw [if_pos hz2]
      by_cases hz1 : n &&& 1 = 0
      · rw [decide_eq_true hz1] at ha1
        rw [if_pos hz1]
        have hR1 : RowIs (w1.setCell ⟨w.heap.size, 0, none⟩ (.int .u8 114)) w.heap.size 5 [114, 45, 45] := hR.put 0 114
        have hcv := row_back hR1 rfl
        go_enter Tryd.func36, Tryd.ntmps36
        go_wp2_with fail
        go_ret
        exact ⟨rfl, gr_set (hb1) (p := ⟨w.heap.size, 0, none⟩) (Nat.le_refl _) (.int .u8 114)⟩
      · rw [decide_eq_false hz1] at ha1
        rw [if_neg hz1]
        have hR1 : RowIs (w1.setCell ⟨w.heap.size, 0, none⟩ (.int .u8 114)) w.heap.size 5 [114, 45, 45] := hR.put 0 114
        have hR2 : RowIs ((w1.setCell ⟨w.heap.size, 0, none⟩ (.int .u8 114)).setCell ⟨w.heap.size, 2, none⟩ (.int .u8 120)) w.heap.size 5 [114, 45, 120] := hR1.put 2 120
        have hcv := row_back hR2 rfl
        go_enter Tryd.func36, Tryd.ntmps36
        go_wp2_with fail
        go_ret
        exact ⟨rfl, gr_set (gr_set (hb1) (p := ⟨w.heap.size, 0, none⟩) (Nat.le_refl _) (.int .u8 114)) (p := ⟨w.heap.size, 2, none⟩) (Nat.le_refl _) (.int .u8 120)⟩
    · rw [decide_eq_false hz2] at ha2
      rw [if_neg hz2]
      by_cases hz1 : n &&& 1 = 0
      · rw [decide_eq_true hz1] at ha1
        rw [if_pos hz1]
        have hR1 : RowIs (w1.setCell ⟨w.heap.size, 0, none⟩ (.int .u8 114)) w.heap.size 5 [114, 45, 45] := hR.put 0 114
        have hR2 : RowIs ((w1.setCell ⟨w.heap.size, 0, none⟩ (.int .u8 114)).setCell ⟨w.heap.size, 1, none⟩ (.int .u8 119)) w.heap.size 5 [114, 119, 45] := hR1.put 1 119
        have hcv := row_back hR2 rfl
        go_enter Tryd.func36, Tryd.ntmps36
        go_wp2_with fail
        go_ret
        exact ⟨rfl, gr_set (gr_set (hb1) (p := ⟨w.heap.size, 0, none⟩) (Nat.le_refl _) (.int .u8 114)) (p := ⟨w.heap.size, 1, none⟩) (Nat.le_refl _) (.int .u8 119)⟩
      · rw [decide_eq_false hz1] at ha1
        rw [if_neg hz1]
        have hR1 : RowIs (w1.setCell ⟨w.heap.size, 0, none⟩ (.int .u8 114)) w.heap.size 5 [114, 45, 45] := hR.put 0 114
        have hR2 : RowIs ((w1.setCell ⟨w.heap.size, 0, none⟩ (.int .u8 114)).setCell ⟨w.heap.size, 1, none⟩ (.int .u8 119)) w.heap.size 5 [114, 119, 45] := hR1.put 1 119
        have hR3 : RowIs (((w1.setCell ⟨w.heap.size, 0, none⟩ (.int .u8 114)).setCell ⟨w.heap.size, 1, none⟩ (.int .u8 119)).setCell ⟨w.heap.size, 2, none⟩ (.int .u8 120)) w.heap.size 5 [114, 119, 120] := hR2.put 2 120
        have hcv := row_back hR3 rfl
        go_enter Tryd.func36, Tryd.ntmps36
        go_wp2_with fail
        go_ret
        exact ⟨rfl, gr_set (gr_set (gr_set (hb1) (p := ⟨w.heap.size, 0, none⟩) (Nat.le_refl _) (.int .u8 114)) (p := ⟨w.heap.size, 1, none⟩) (Nat.le_refl _) (.int .u8 119)) (p := ⟨w.heap.size, 2, none⟩) (Nat.le_refl _) (.int .u8 120)⟩
end Go.Proofs.YtdjffnhkfpjafaaDoor
