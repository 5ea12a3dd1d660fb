/- The document's answers that metadata lean on: numbers of somebody, times, flags, capabilities. -/
import Derived.Test.YtajjhndpdjfcpaaMetaMath
import Derived.Test.YtajjhndpdjfcpaaChecked
import Derived.Deep.QuietTactic
import Derived.BigQuiet
import Derived.Outline
namespace Go.Proofs.Ytajjhndpdjfcpaa
open Go.RowKit
open MetaM
set_option linter.unusedVariables false

theorem refId_any (n : Int) (w : World) : Calls Try.prog 20 #[.int .i64 n] w fun e w' => e = .returned (.bool (idOk n)) ∧ w' = w := by
  go_enter Try.func20, Try.ntmps20
  go_wp2_with fail
  all_goals go_ret
  all_goals refine ⟨?_, rfl⟩
  all_goals show Ending.returned (.bool _) = _
  all_goals (simp [idOk, *] <;> omega)
theorem refFlags_any (n : Int) (w : World) : Calls Try.prog 22 #[.int .i64 n] w fun e w' => e = .returned (.bool (flagsOk n)) ∧ w' = w := by
  go_enter Try.func22, Try.ntmps22
  go_wp2_with fail
  all_goals go_ret
  all_goals refine ⟨?_, rfl⟩
  all_goals show Ending.returned (.bool _) = _
  all_goals (simp [flagsOk, *] <;> omega)
theorem refStamp_any (s n : Int) (w : World) : Calls Try.prog 21 #[.agg #[.int .i64 s, .int .i64 n]] w fun e w' => e = .returned (.bool (stampOk s n)) ∧ Below w.heap.size w w' := by
  go_enter Try.func21, Try.ntmps21
  go_wp2_with fail
  all_goals go_ret
  all_goals refine ⟨?_, by (repeat' (first | exact Below.refl _ _ | assumption | refine gr_drew ?_ | refine gr_drewN ?_ _ | refine gr_alloc ?_ _ | refine gr_set ?_ ?_ _ | refine gr_call ?_ (by assumption)) <;> (try (simp; done)) <;> (try (simp; omega)) <;> (try omega))⟩
  all_goals show Ending.returned (.bool _) = _
  all_goals (simp [stampOk, *] <;> omega)
open CapsM in
/-- Capabilities as a value. -/
def capV (c : Cap) : Value := .agg #[.int .i64 c.v, .int .u64 (c.p : Int), .int .u64 (c.i : Int), .bool c.e, .int .i64 c.r]
open CapsM in
set_option maxHeartbeats 800000 in
theorem refCaps_any (c : Cap) (w : World) :
    Calls Try.prog 26 #[capV c] w fun e w' => e = .returned (.bool (may c)) ∧ Below w.heap.size w w' := by
  obtain ⟨v, p, i, e, r⟩ := c
  unfold capV
  simp only
  by_cases h0 : v = 0
  · subst h0
    have HE := Lib.hid (show may ⟨0, p, i, e, r⟩ = decide (p = 0 ∧ i = 0 ∧ e = false ∧ r = 0) from rfl)
    go_enter Try.func26, Try.ntmps26
    go_wp2_with fail
    all_goals go_ret
    all_goals refine ⟨?_, by (repeat' (first | exact Below.refl _ _ | assumption | refine gr_drew ?_ | refine gr_drewN ?_ _ | refine gr_alloc ?_ _ | refine gr_set ?_ ?_ _ | refine gr_call ?_ (by assumption)) <;> (try (simp; done)) <;> (try (simp; omega)) <;> (try omega))⟩
    all_goals rw [HE.out]
    all_goals show Ending.returned (.bool _) = _
    all_goals simp [*]
  have t0 : (v == 0) = false := by simpa using h0
  by_cases h2 : v = 2
  · subst h2
    have HE := Lib.hid (show may ⟨2, p, i, e, r⟩ = decide (r = 0) from rfl)
    clear t0 h0
    by_cases hr : r = 0
    · have t1 : (r == 0) = true := by simpa using hr
      have HF := Lib.hid (HE.out.trans (decide_eq_true hr))
      clear HE hr
      go_enter Try.func26, Try.ntmps26
      go_wp2_with fail
      go_ret
      exact ⟨by rw [HF.out]; rfl, by (repeat' (first | exact Below.refl _ _ | assumption | refine gr_drew ?_ | refine gr_drewN ?_ _ | refine gr_alloc ?_ _ | refine gr_set ?_ ?_ _ | refine gr_call ?_ (by assumption)) <;> (try (simp; done)) <;> (try (simp; omega)) <;> (try omega))⟩
    · have t1 : (r == 0) = false := by simpa using hr
      have HF := Lib.hid (HE.out.trans (decide_eq_false hr))
      clear HE hr
      go_enter Try.func26, Try.ntmps26
      go_wp2_with fail
      go_ret
      exact ⟨by rw [HF.out]; rfl, by (repeat' (first | exact Below.refl _ _ | assumption | refine gr_drew ?_ | refine gr_drewN ?_ _ | refine gr_alloc ?_ _ | refine gr_set ?_ ?_ _ | refine gr_call ?_ (by assumption)) <;> (try (simp; done)) <;> (try (simp; omega)) <;> (try omega))⟩
  have t2 : (v == 2) = false := by simpa using h2
  by_cases h3 : v = 3
  · subst h3
    have HE := Lib.hid (show may ⟨3, p, i, e, r⟩ = decide (0 ≤ r ∧ r ≤ 2147483647) from rfl)
    clear t0 t2 h0 h2
    by_cases hr : 0 ≤ r
    · by_cases hs : r ≤ 2147483647
      · have t1 : decide (0 ≤ r) = true := decide_eq_true hr
        have t3 : decide (r ≤ 2147483647) = true := decide_eq_true hs
        have HF := Lib.hid (HE.out.trans (decide_eq_true ⟨hr, hs⟩))
        clear HE
        go_enter Try.func26, Try.ntmps26
        go_wp2_with fail
        go_ret
        exact ⟨by rw [HF.out]; rfl, by (repeat' (first | exact Below.refl _ _ | assumption | refine gr_drew ?_ | refine gr_drewN ?_ _ | refine gr_alloc ?_ _ | refine gr_set ?_ ?_ _ | refine gr_call ?_ (by assumption)) <;> (try (simp; done)) <;> (try (simp; omega)) <;> (try omega))⟩
      · have t1 : decide (0 ≤ r) = true := decide_eq_true hr
        have t3 : decide (r ≤ 2147483647) = false := decide_eq_false hs
        have HF := Lib.hid (HE.out.trans (decide_eq_false (fun h => hs h.2)))
        clear HE
        go_enter Try.func26, Try.ntmps26
        go_wp2_with fail
        go_ret
        exact ⟨by rw [HF.out]; rfl, by (repeat' (first | exact Below.refl _ _ | assumption | refine gr_drew ?_ | refine gr_drewN ?_ _ | refine gr_alloc ?_ _ | refine gr_set ?_ ?_ _ | refine gr_call ?_ (by assumption)) <;> (try (simp; done)) <;> (try (simp; omega)) <;> (try omega))⟩
    · have t1 : decide (0 ≤ r) = false := decide_eq_false hr
      have HF := Lib.hid (HE.out.trans (decide_eq_false (fun h => hr h.1)))
      clear HE
      go_enter Try.func26, Try.ntmps26
      go_wp2_with fail
      go_ret
      exact ⟨by rw [HF.out]; rfl, by (repeat' (first | exact Below.refl _ _ | assumption | refine gr_drew ?_ | refine gr_drewN ?_ _ | refine gr_alloc ?_ _ | refine gr_set ?_ ?_ _ | refine gr_call ?_ (by assumption)) <;> (try (simp; done)) <;> (try (simp; omega)) <;> (try omega))⟩
  have t3 : (v == 3) = false := by simpa using h3
  have HF := Lib.hid (show may ⟨v, p, i, e, r⟩ = false by unfold may; simp only; rw [if_neg h0, if_neg h2, if_neg h3])
  clear h0 h2 h3
  go_enter Try.func26, Try.ntmps26
  go_wp2_with fail
  go_ret
  exact ⟨by rw [HF.out]; rfl, by (repeat' (first | exact Below.refl _ _ | assumption | refine gr_drew ?_ | refine gr_drewN ?_ _ | refine gr_alloc ?_ _ | refine gr_set ?_ ?_ _ | refine gr_call ?_ (by assumption)) <;> (try (simp; done)) <;> (try (simp; omega)) <;> (try omega))⟩
end Go.Proofs.Ytajjhndpdjfcpaa
