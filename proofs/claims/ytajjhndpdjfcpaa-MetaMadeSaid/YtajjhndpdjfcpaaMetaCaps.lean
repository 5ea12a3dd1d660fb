/- How the laws make capabilities by numbers. -/
import Derived.Test.YtajjhndpdjfcpaaMetaSmall
import Derived.Test.YtajjhndpdjfcpaaCapsMath
namespace Go.Proofs.Ytajjhndpdjfcpaa
open Go.RowKit
open CapsM
set_option linter.unusedVariables false

def mkC (p i x r : Nat) : Cap := ⟨(2 + x % 2 : Nat), p, i, decide (128 ≤ x), ((if x % 2 = 1 then r / 2 else 0 : Nat) : Int)⟩
theorem mk_may (p i x r : Nat) (hr : r < 4294967296) : may (mkC p i x r) = true := by
  have : x % 2 = 0 ∨ x % 2 = 1 := by omega
  rcases this with h | h
  · simp [mkC, may, h]
  · simp [mkC, may, h]; omega
set_option maxHeartbeats 800000 in
theorem CapsMake_any (p i x r : Nat) (hx : x < 256) (hr : r < 4294967296) (w : World) :
    Calls Try.prog 32 #[.int .u64 (p : Int), .int .u64 (i : Int), .int .u8 (x : Int), .int .u32 (r : Int)] w fun e w' => e = .returned (capV (mkC p i x r)) ∧ Below w.heap.size w w' := by
  have hrw : IntKind.i64.wrap (r : Int) = (r : Int) := by rw [IntKind.wrap_i64]; omega
  obtain ⟨b, hb⟩ : ∃ b, decide (128 ≤ x) = b := ⟨_, rfl⟩
  have hb1 : decide (128 ≤ (x : Int)) = b := by rw [← hb]; exact decide_eq_decide.2 (by omega)
  have h2 : x % 2 = 0 ∨ x % 2 = 1 := by omega
  rcases h2 with h | h
  · have ht : Int.tmod (x : Int) 2 = 0 := by rw [Int.tmod_eq_emod_of_nonneg (by omega)]; omega
    have hm : (x : Int) % 2 = 0 := by omega
    have hE : mkC p i x r = ⟨2, p, i, b, 0⟩ := by unfold mkC; rw [h, hb]; rfl
    rw [hE]
    have HX := Lib.hid hx
    clear h hE hb
    go_enter Try.func32, Try.ntmps32
    go_wp2_with fail
    exact bodyPost_ret (v := capV ⟨2, p, i, b, 0⟩) (by simp [results, Try.results32, go_sem, capV, *]) rfl ⟨rfl, by (repeat' (first | exact Below.refl _ _ | assumption | refine gr_drew ?_ | refine gr_drewN ?_ _ | refine gr_alloc ?_ _ | refine gr_set ?_ ?_ _ | refine gr_call ?_ (by assumption)) <;> (try (simp; done)) <;> (try (simp; omega)) <;> (try omega))⟩
  · have ht : Int.tmod (x : Int) 2 = 1 := by rw [Int.tmod_eq_emod_of_nonneg (by omega)]; omega
    have hm : (x : Int) % 2 = 1 := by omega
    obtain ⟨R, hR⟩ : ∃ R, r / 2 = R := ⟨_, rfl⟩
    have hR2 : (r : Int) / 2 = (R : Int) := by rw [← hR]; rfl
    have hE : mkC p i x r = ⟨3, p, i, b, (R : Int)⟩ := by unfold mkC; rw [h, hb, if_pos rfl, hR]; rfl
    rw [hE]
    have HX := Lib.hid hx
    clear h hE hb hR
    go_enter Try.func32, Try.ntmps32
    go_wp2_with fail
    exact bodyPost_ret (v := capV ⟨3, p, i, b, (R : Int)⟩) (by simp [results, Try.results32, go_sem, capV, *]) rfl ⟨rfl, by (repeat' (first | exact Below.refl _ _ | assumption | refine gr_drew ?_ | refine gr_drewN ?_ _ | refine gr_alloc ?_ _ | refine gr_set ?_ ?_ _ | refine gr_call ?_ (by assumption)) <;> (try (simp; done)) <;> (try (simp; omega)) <;> (try omega))⟩
end Go.Proofs.Ytajjhndpdjfcpaa
