/- Walks over the document's answer for records: at a place that there is not. -/
import Derived.Test.YtbjklpodkopgiaaDoorRefGetRec
namespace Go.Proofs.YtbjklpodkopgiaaDoor
open Go.RowKit
open RecM
set_option linter.unusedVariables false

theorem refGet_neg (S : ByteArray) (x : Int) (hx : x < 0) (w : World) :
    Calls Tryd.prog 10 #[.string S, .int .i64 x] w fun e w' => e = .returned (errR 1) ∧ Below w.heap.size w w' := by
  have h1 : decide (x < 0) = true := decide_eq_true hx
  clear hx
  go_enter Tryd.func10, Tryd.ntmps10
  go_wp2_with fail
  exact bodyPost_ret (v := .agg #[.string ⟨#[]⟩, .string ⟨#[]⟩, .int .i64 0, .int .i64 1]) (by simp [results, Tryd.results10, go_sem, *]) rfl ⟨rfl, by (repeat' (first | exact Below.refl _ _ | assumption | refine gr_drew ?_ | refine gr_drewN ?_ _ | refine gr_alloc ?_ _ | refine gr_set ?_ ?_ _ | refine gr_call ?_ (by assumption)) <;> (try (simp; done)) <;> (try (simp; omega)) <;> (try omega))⟩
theorem refGet_over (S : ByteArray) (x : Int) (hx : (S.size : Int) < x) (w : World) :
    Calls Tryd.prog 10 #[.string S, .int .i64 x] w fun e w' => e = .returned (errR 1) ∧ Below w.heap.size w w' := by
  have h1 : decide (x < 0) = false := decide_eq_false (by omega)
  have h2 : decide ((S.size : Int) < x) = true := decide_eq_true hx
  clear hx
  go_enter Tryd.func10, Tryd.ntmps10
  go_wp2_with fail
  exact bodyPost_ret (v := .agg #[.string ⟨#[]⟩, .string ⟨#[]⟩, .int .i64 0, .int .i64 1]) (by simp [results, Tryd.results10, go_sem, *]) rfl ⟨rfl, by (repeat' (first | exact Below.refl _ _ | assumption | refine gr_drew ?_ | refine gr_drewN ?_ _ | refine gr_alloc ?_ _ | refine gr_set ?_ ?_ _ | refine gr_call ?_ (by assumption)) <;> (try (simp; done)) <;> (try (simp; omega)) <;> (try omega))⟩
theorem refGet_end (S : ByteArray) (x : Int) (hx : x = (S.size : Int)) (w : World) :
    Calls Tryd.prog 10 #[.string S, .int .i64 x] w fun e w' => e = .returned (errR 5) ∧ Below w.heap.size w w' := by
  have h1 : decide (x < 0) = false := decide_eq_false (by omega)
  have h2 : decide ((S.size : Int) < x) = false := decide_eq_false (by omega)
  have h3 : (x == (S.size : Int)) = true := by rw [hx]; simp
  clear hx
  go_enter Tryd.func10, Tryd.ntmps10
  go_wp2_with fail
  exact bodyPost_ret (v := .agg #[.string ⟨#[]⟩, .string ⟨#[]⟩, .int .i64 0, .int .i64 5]) (by simp [results, Tryd.results10, go_sem, *]) rfl ⟨rfl, by (repeat' (first | exact Below.refl _ _ | assumption | refine gr_drew ?_ | refine gr_drewN ?_ _ | refine gr_alloc ?_ _ | refine gr_set ?_ ?_ _ | refine gr_call ?_ (by assumption)) <;> (try (simp; done)) <;> (try (simp; omega)) <;> (try omega))⟩
end Go.Proofs.YtbjklpodkopgiaaDoor
