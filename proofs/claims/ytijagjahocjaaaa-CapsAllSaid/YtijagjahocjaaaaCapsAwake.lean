/- The document's example of package caps, as the laws call it. -/
import Derived.Test.YtijagjahocjaaaaCapsGet
namespace Go.Proofs.Ytijagjahocjaaaa
open Go.RowKit
open CapsM
set_option linter.unusedVariables false

def two0 : Cap := ⟨2, 0, 0, false, 0⟩
theorem two_put : putL two0 = [0, 0, 0, 2, 0, 0, 0, 0, 0, 0, 0, 0, 0, 0, 0, 0, 0, 0, 0, 0] := by
  have h : may two0 = true := rfl
  unfold putL
  rw [if_pos ⟨h, by decide⟩]
  rfl
theorem two_get : getL (putL two0) = some two0 := get_put two0 (by unfold Fits two0; decide) rfl
set_option maxHeartbeats 800000 in
theorem awake_true (w : World) :
    Calls Try.prog 7 #[] w fun e w' => e = .returned (.bool true) ∧ Below w.heap.size w w' := by
  have hput := Put_any two0 (by unfold Fits two0; decide)
  obtain ⟨T, hT⟩ : ∃ T, strOf (putL two0) = T := ⟨_, rfl⟩
  have hTl : T.data.toList = putL two0 := by rw [← hT, strOf_list]
  have hget := Get_any T (by rw [← len_list, hTl, two_put]; decide)
  rw [hTl, two_get] at hget
  rw [hT] at hput
  have hz : T.size = 20 := by rw [← len_list, hTl, two_put]; rfl
  have hix : ∀ w, (Instr.index 9 (.string T) (.int .i64 3)).run Try.prog w = .ok (.int .u8 2) w := by
    obtain ⟨c, h1, h2⟩ := idxAt (P := Try.prog) Try.underlying9 T 3 (by omega)
    rw [hTl, two_put] at h1
    have : c = 2 := (Option.some.inj h1).symm
    subst this
    exact h2
  have d1 : ((T.size : Int) == 20) = true := by rw [hz]; rfl
  unfold capV two0 at hput
  unfold getRet capV two0 at hget
  simp only at hput hget
  have Hput := Lib.hid hput
  have Hget := Lib.hid hget
  clear hT hTl hput hget
  go_enter Try.func7, Try.ntmps7
  go_wp2_with fail
  refine (Hput.out _).mono ?_
  rintro e w1 ⟨rfl, hb1⟩
  go_wp2_with fail
  refine (Hget.out _).mono ?_
  rintro e w2 ⟨rfl, hb2⟩
  have hbl := bthen hb1 hb2
  have hs := hb2.size
  go_wp2_with fail
  go_ret
  exact ⟨rfl, by (repeat' (first | exact Below.refl _ _ | assumption | refine gr_drew ?_ | refine gr_drewN ?_ _ | refine gr_alloc ?_ _ | refine gr_set ?_ ?_ _ | refine gr_call ?_ (by assumption)) <;> (try (simp; done)) <;> (try (simp; omega)) <;> (try omega))⟩
end Go.Proofs.Ytijagjahocjaaaa
