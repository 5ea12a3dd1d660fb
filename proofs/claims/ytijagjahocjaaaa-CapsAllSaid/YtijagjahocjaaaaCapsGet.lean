/- Walks over package caps: Get, its panic caught. -/
import Derived.Test.YtijagjahocjaaaaCapsDec
namespace Go.Proofs.Ytijagjahocjaaaa
open Go.RowKit
open CapsM
set_option linter.unusedVariables false

theorem catch_panic (p : Addr) (x : Bool) (u : TypeId) (pv : Value) (older : List PanicEntry) (w : World) (hc : w.cell? p = some (.bool x)) (hz : w.frozen? p = false) :
    CallsD Try.prog 15 #[.pointer (some p)] (.panicking ({ v := .iface u pv, recovered := false } :: older)) w fun e u' w' =>
      e = .returned (.tuple #[]) ∧ u' = .panicking ({ v := .iface u pv, recovered := true } :: older) ∧ w' = w.setCell p (.bool false) := by
  refine callsD_of_wpS Try.func15 rfl fun c₀ cs hu => ?_
  apply wpS_region
  simp [wpOpsS, go_sem, recoverD, hu, Try.ntmps15, hc, hz, bodyPostS, results, Try.results15]
theorem catch_idle (p : Addr) (x : Bool) (w : World) (hc : w.cell? p = some (.bool x)) (hz : w.frozen? p = false) :
    CallsD Try.prog 15 #[.pointer (some p)] .returning w fun e u' w' => e = .returned (.tuple #[]) ∧ u' = .returning ∧ w' = w.setCell p (.bool true) := by
  refine callsD_of_wpS Try.func15 rfl fun c₀ cs hu => ?_
  apply wpS_region
  simp [wpOpsS, go_sem, recoverD, hu, Try.ntmps15, hc, hz, bodyPostS, results, Try.results15]
  cases c₀
  simp_all

/-- What Get hands back. -/
def getRet (o : Option Cap) : Value := match o with
  | some c => .tuple #[capV c, .bool true]
  | none => .tuple #[capV none0, .bool false]

set_option maxHeartbeats 1600000 in
theorem Get_any (S : ByteArray) (hS : S.size ≤ 800000) (w : World) :
    Calls Try.prog 8 #[.string S] w fun e w' => e = .returned (getRet (getL S.data.toList)) ∧ Below w.heap.size w w' := by
  have hmf : ∀ (fn : Fn) (first cap : Array Value) (w : World), (Instr.makeFunc fn first cap).run Try.prog w = .ok (.func fn first cap) w := fun _ _ _ _ => rfl
  have hx0 : Below w.heap.size w ((w.alloc (.cells #[.int .i64 0, .int .u64 0, .int .u64 0, .bool false, .int .i64 0] 24)).alloc (.cells #[.bool false] 4)) := by (repeat' (first | exact Below.refl _ _ | assumption | refine gr_drew ?_ | refine gr_drewN ?_ _ | refine gr_alloc ?_ _ | refine gr_set ?_ ?_ _ | refine gr_call ?_ (by assumption)) <;> (try (simp; done)) <;> (try (simp; omega)) <;> (try omega))
  by_cases h0 : S.data.toList = []
  · have g1 : S.toList.isEmpty = true := by rw [Lib.toList_data, h0]; rfl
    have HG := Lib.hid (show getL S.data.toList = some none0 by unfold getL; rw [if_pos h0])
    clear h0 hS
    go_enter_defers Try.func8, Try.ntmps8
    go_wp2_with fail
    obtain ⟨W, hW⟩ : ∃ W, ((w.alloc (.cells #[.int .i64 0, .int .u64 0, .int .u64 0, .bool false, .int .i64 0] 24)).alloc (.cells #[.bool true] 4)) = W := ⟨_, rfl⟩
    have d0 : W.cell? ⟨w.heap.size, 0, none⟩ = some (.int .i64 0) := by rw [← hW]; simp [go_sem]
    have d1 : W.cell? ⟨w.heap.size, 1, none⟩ = some (.int .u64 0) := by rw [← hW]; simp [go_sem]
    have d2 : W.cell? ⟨w.heap.size, 2, none⟩ = some (.int .u64 0) := by rw [← hW]; simp [go_sem]
    have d3 : W.cell? ⟨w.heap.size, 3, none⟩ = some (.bool false) := by rw [← hW]; simp [go_sem]
    have d4 : W.cell? ⟨w.heap.size, 4, none⟩ = some (.int .i64 0) := by rw [← hW]; simp [go_sem]
    have d5 : W.cell? ⟨w.heap.size + 1, 0, none⟩ = some (.bool true) := by rw [← hW]; simp [go_sem]
    have hb : Below w.heap.size w W := by rw [← hW]; (repeat' (first | exact Below.refl _ _ | assumption | refine gr_drew ?_ | refine gr_drewN ?_ _ | refine gr_alloc ?_ _ | refine gr_set ?_ ?_ _ | refine gr_call ?_ (by assumption)) <;> (try (simp; done)) <;> (try (simp; omega)) <;> (try omega))
    rw [hW]
    clear hW hx0
    rw [HG.out]
    simp [bodyPostD, Leaves, settle, results, Try.results8, go_sem, d0, d1, d2, d3, d4, d5, getRet, capV, none0]
    exact hb
  have g1 : S.toList.isEmpty = false := by rw [Bool.eq_false_iff]; intro e; exact h0 (by rw [← Lib.toList_data]; exact List.isEmpty_iff.1 e)
  have hd := Lib.hid (decode_any S h0 hS)
  clear h0
  generalize getL S.data.toList = o at *
  go_enter_defers Try.func8, Try.ntmps8
  go_wp2_with fail
  refine (hd.out _).mono ?_
  rintro e w2 ⟨he, hb2⟩
  have hA0 : w2.cell? ⟨w.heap.size, 0, none⟩ = some (.int .i64 0) := cell_kept hb2 (by simp [go_sem])
  have hA1 : w2.cell? ⟨w.heap.size, 1, none⟩ = some (.int .u64 0) := cell_kept hb2 (by simp [go_sem])
  have hA2 : w2.cell? ⟨w.heap.size, 2, none⟩ = some (.int .u64 0) := cell_kept hb2 (by simp [go_sem])
  have hA3 : w2.cell? ⟨w.heap.size, 3, none⟩ = some (.bool false) := cell_kept hb2 (by simp [go_sem])
  have hA4 : w2.cell? ⟨w.heap.size, 4, none⟩ = some (.int .i64 0) := cell_kept hb2 (by simp [go_sem])
  have hc2 : w2.cell? ⟨w.heap.size + 1, 0, none⟩ = some (.bool false) := cell_kept hb2 (by simp [go_sem])
  have hF0 : w2.frozen? ⟨w.heap.size, 0, none⟩ = false := free_kept hb2 (v := .int .i64 0) (by simp [go_sem]) (by simp [go_sem])
  have hF1 : w2.frozen? ⟨w.heap.size, 1, none⟩ = false := free_kept hb2 (v := .int .u64 0) (by simp [go_sem]) (by simp [go_sem])
  have hF2 : w2.frozen? ⟨w.heap.size, 2, none⟩ = false := free_kept hb2 (v := .int .u64 0) (by simp [go_sem]) (by simp [go_sem])
  have hF3 : w2.frozen? ⟨w.heap.size, 3, none⟩ = false := free_kept hb2 (v := .bool false) (by simp [go_sem]) (by simp [go_sem])
  have hF4 : w2.frozen? ⟨w.heap.size, 4, none⟩ = false := free_kept hb2 (v := .int .i64 0) (by simp [go_sem]) (by simp [go_sem])
  have hf2 : w2.frozen? ⟨w.heap.size + 1, 0, none⟩ = false := free_kept hb2 (v := .bool false) (by simp [go_sem]) (by simp [go_sem])
  have hs2 := hb2.size
  have hb : Below w.heap.size w w2 := gr_call hx0 hb2
  clear hd hx0 hb2
  rcases o with _ | c
  · obtain rfl : e = .panicked noCaps := he
    go_wp2_with fail
    refine leaves_cons (f := 15) (args := #[.pointer (some ⟨w.heap.size + 1, 0, none⟩)]) (by simp) (by simp [go_sem]) ?_
    refine (catch_panic ⟨w.heap.size + 1, 0, none⟩ false _ _ [] w2 hc2 hf2).mono ?_
    rintro e u' w'' ⟨rfl, rfl, rfl⟩
    simp [Leaves, settle, results, Try.results8, go_sem, noCaps, hc2, hf2, getRet, hA0, hA1, hA2, hA3, hA4, capV, none0]
    exact hb.setCell (Nat.le_succ _) _
  · obtain ⟨v, p, i, b, r⟩ := c
    obtain rfl : e = .returned (capV ⟨v, p, i, b, r⟩) := he
    unfold capV
    simp only
    go_wp2_with fail
    obtain ⟨W, hW⟩ : ∃ W, (((((w2.setCell ⟨w.heap.size, 0, none⟩ (.int .i64 v)).setCell ⟨w.heap.size, 1, none⟩ (.int .u64 (p : Int))).setCell ⟨w.heap.size, 2, none⟩ (.int .u64 (i : Int))).setCell ⟨w.heap.size, 3, none⟩ (.bool b)).setCell ⟨w.heap.size, 4, none⟩ (.int .i64 r)) = W := ⟨_, rfl⟩
    have d0 : W.cell? ⟨w.heap.size, 0, none⟩ = some (.int .i64 v) := by rw [← hW]; simp [go_sem, hA0, hA1, hA2, hA3, hA4, hc2, hf2]
    have d1 : W.cell? ⟨w.heap.size, 1, none⟩ = some (.int .u64 (p : Int)) := by rw [← hW]; simp [go_sem, hA0, hA1, hA2, hA3, hA4, hc2, hf2]
    have d2 : W.cell? ⟨w.heap.size, 2, none⟩ = some (.int .u64 (i : Int)) := by rw [← hW]; simp [go_sem, hA0, hA1, hA2, hA3, hA4, hc2, hf2]
    have d3 : W.cell? ⟨w.heap.size, 3, none⟩ = some (.bool b) := by rw [← hW]; simp [go_sem, hA0, hA1, hA2, hA3, hA4, hc2, hf2]
    have d4 : W.cell? ⟨w.heap.size, 4, none⟩ = some (.int .i64 r) := by rw [← hW]; simp [go_sem, hA0, hA1, hA2, hA3, hA4, hc2, hf2]
    have d5 : W.cell? ⟨w.heap.size + 1, 0, none⟩ = some (.bool false) := by rw [← hW]; simp [go_sem, hA0, hA1, hA2, hA3, hA4, hc2, hf2]
    have d6 : W.frozen? ⟨w.heap.size + 1, 0, none⟩ = false := by rw [← hW]; simp [go_sem, hA0, hA1, hA2, hA3, hA4, hc2, hf2]
    have hbl : Below w.heap.size w W := by rw [← hW]; repeat' (first | exact hb | refine gr_set ?_ (Nat.le_refl _) _)
    rw [hW]
    clear hW hA0 hA1 hA2 hA3 hA4 hF0 hF1 hF2 hF3 hF4 hc2 hf2 hb hs2
    refine leaves_cons (f := 15) (args := #[.pointer (some ⟨w.heap.size + 1, 0, none⟩)]) (by simp) (by simp [go_sem]) ?_
    refine (catch_idle ⟨w.heap.size + 1, 0, none⟩ true _ ?_ ?_).mono ?_
    · simp [go_sem, d5]
    · simp [go_sem, d6]
    rintro e u' w'' ⟨rfl, rfl, rfl⟩
    simp [Leaves, settle, results, Try.results8, go_sem, getRet, d0, d1, d2, d3, d4, d5, capV]
    exact (hbl.setCell (Nat.le_succ _) _).setCell (Nat.le_succ _) _
end Go.Proofs.Ytijagjahocjaaaa
