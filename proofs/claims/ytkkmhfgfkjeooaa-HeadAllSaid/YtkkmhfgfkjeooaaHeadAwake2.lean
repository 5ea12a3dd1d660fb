/- The law's awake. -/
import Derived.Test.YtkkmhfgfkjeooaaHeadAwake
namespace Go.Proofs.Ytkkmhfgfkjeooaa
open Go.RowKit
open HeadM NumM
set_option linter.unusedVariables false

set_option maxHeartbeats 2000000 in
set_option maxRecDepth 100000 in
theorem awake_true (w : World) : Calls Try.prog 9 #[] w fun e w' => e = .returned (.bool true) ∧ Below w.heap.size w w' := by
  obtain ⟨Zs, hZs⟩ : ∃ Zs : ByteArray, strOf (List.replicate 512 0) = Zs := ⟨_, rfl⟩
  have hcvZ : ∀ {g : Nat} {W : World}, BRow g (.slice (some ⟨g, 0, none⟩) 512 512) (List.replicate 512 0) W → (convert 43 9 (.slice (some ⟨g, 0, none⟩) 512 512)).run Try.prog W = .ok (.string Zs) W := fun hr => by
    rw [← hZs]
    exact hr.str
  have hg1 := fun w => get_any Zs (by rw [← hZs, strOf_sz, List.length_replicate]; omega) w
  rw [← hZs, L_strOf, getE_zeros, hZs] at hg1
  have hp : ∀ w, Calls Try.prog 16 #[.agg #[.string ⟨#[97]⟩, .int .i64 420, .int .i64 0, .int .i64 0, .int .i64 0, .int .i64 0, .int .u8 48, .string ⟨#[]⟩, .string ⟨#[]⟩, .string ⟨#[]⟩, .int .i64 0, .int .i64 0, .string ⟨#[]⟩]] w fun e w' => e = .returned (.string (strOf (putH exH))) ∧ Below w.heap.size w w' := put_any exH
  rw [put_may exH_may] at hp
  obtain ⟨B, hB⟩ : ∃ B : ByteArray, strOf (putL exH) = B := ⟨_, rfl⟩
  rw [hB] at hp
  have hg2 := fun w => get_any B (by rw [← hB, strOf_sz, put_length exH_may]; omega) w
  have eB : getE (L B) = (exH, 0) := by
    rw [← hB, L_strOf]
    have := getE_put exH_may exH_ints []
    rw [List.append_nil] at this
    exact this
  rw [eB] at hg2
  obtain ⟨Z0, hZ0⟩ : ∃ Z0 : Hd, zeroH = Z0 := ⟨_, rfl⟩
  rw [hZ0] at hg1
  replace hg1 := Lib.hid hg1
  replace hg2 := Lib.hid hg2
  replace hp := Lib.hid hp
  have hbx : ∀ w, (Instr.build 23 #[(0, .string ⟨#[97]⟩), (1, .int .i64 420), (6, .int .u8 48)]).run Try.prog w = .ok (.agg #[.string ⟨#[97]⟩, .int .i64 420, .int .i64 0, .int .i64 0, .int .i64 0, .int .i64 0, .int .u8 48, .string ⟨#[]⟩, .string ⟨#[]⟩, .string ⟨#[]⟩, .int .i64 0, .int .i64 0, .string ⟨#[]⟩]) w := buildEx
  have n1 : exH.name = ⟨#[97]⟩ := rfl
  have n2 : exH.mode = 420 := rfl
  have n3 : exH.name.toList = [97] := (Lib.toList_data _).trans rfl
  obtain ⟨X, hX⟩ : ∃ X : Hd, exH = X := ⟨_, rfl⟩
  rw [hX] at hg2 n2 n3
  clear hZs hB eB hZ0 hX n1
  replace n2 := Lib.hid n2
  replace n3 := Lib.hid n3
  go_enter Try.func9, Try.ntmps9
  go_wp2_with (at_make; refine wp_make rfl _ _ rfl _ 512 512 512 rfl rfl rfl rfl (by omega) ?_)
  intro w1 hr hb1 hx
  clear hx
  have hcv := hcvZ hr
  clear hr
  go_wp2_with fail
  refine (hg1.out _).mono ?_
  rintro e w2 ⟨rfl, hb2⟩
  have hB2 : Below w.heap.size w w2 := gr_call hb1 hb2
  clear hb1 hb2 hcv
  go_wp2_with fail
  refine (hp.out _).mono ?_
  rintro e w3 ⟨rfl, hb3⟩
  have hB3 : Below w.heap.size w w3 := gr_call (gr_alloc hB2 _) hb3
  clear hB2 hb3
  go_wp2_with fail
  refine (hg2.out _).mono ?_
  rintro e w4 ⟨rfl, hb4⟩
  have hB4 : Below w.heap.size w w4 := gr_call hB3 hb4
  clear hB3 hb4
  have n2' := n2.out
  have n3' := n3.out
  have hr := err_any
  go_wp2_with (go_at_call 18; refine (hr _ _).mono ?_; rintro e w5 ⟨rfl, rfl⟩)
  go_ret
  exact ⟨rfl, gr_alloc hB4 _⟩
end Go.Proofs.Ytkkmhfgfkjeooaa
