/- The laws' example. -/
import Derived.Test.YtobfbjfajdnhaaaXatApi
import Derived.Test.YtobfbjfajdnhaaaXatMath2
namespace Go.Proofs.Ytobfbjfajdnhaaa
open Go.RowKit
open XatM
set_option linter.unusedVariables false

def exL : List Xa := [([117, 115, 101, 114, 46, 97], [98])]
theorem ex_may : mayL exL = true := by decide +kernel
theorem ex_len : (recsL exL).length = 2 := by decide +kernel
theorem ex_bound : Bounded exL := ⟨by decide, by decide⟩
theorem ex_bound2 : Bounded (recsL exL) := ⟨by decide +kernel, by decide +kernel⟩
attribute [local irreducible] Row At

set_option maxHeartbeats 1600000 in
theorem awake_true (w : World) (hA : Amb w) : Calls Try.prog 8 #[] w fun e w' => e = .returned (.bool true) ∧ Below w.heap.size w w' := by
  have hR0 := Lib.hid (fun (w : World) => show At xatE (.slice (some ⟨w.heap.size, 0, none⟩) 1 1) exL (w.alloc (.cells #[.string (strOf [117, 115, 101, 114, 46, 97]), .string (strOf [98])] 42)) from (one_xat w ([117, 115, 101, 114, 46, 97], [98]) 0 (Nat.zero_le _)).at)
  have h1 := Lib.hid (fun v w (hA : Amb w) hat => RecsX_any v exL w hA hat ex_bound)
  have h2 := Lib.hid (fun v w (hA : Amb w) hat => FromX_any v (recsL exL) w hA hat ex_bound2)
  rw [from_recs ex_may] at h2
  have h2' : Hid (∀ v w, Amb w → At recE v (recsL exL) w → Calls Try.prog 9 #[v] w fun e w' => (∃ v, e = .returned (.tuple #[v, .int .i64 0]) ∧ At xatE v exL w') ∧ Below w.heap.size w w') := Lib.hid h2.out
  have h3 := Lib.hid (fun va vb w (hA : Amb w) ha hb => SameX_any va vb exL exL w hA ha hb (by decide) (by decide))
  rw [decide_eq_true (rfl : exL = exL)] at h3
  have h4 := Lib.hid (fun x w => err_any x w)
  have Hln := Lib.hid ex_len
  obtain ⟨N, hN⟩ : ∃ N : ByteArray, strOf [117, 115, 101, 114, 46, 97] = N := ⟨_, rfl⟩
  obtain ⟨V, hV⟩ : ∃ N : ByteArray, strOf [98] = N := ⟨_, rfl⟩
  have hN2 : (⟨#[117, 115, 101, 114, 46, 97]⟩ : ByteArray) = N := hN
  have hV2 : (⟨#[98]⟩ : ByteArray) = V := hV
  have hbd : ∀ w : World, (Instr.build 42 #[(0, .string N), (1, .string V)]).run Try.prog w = .ok (.agg #[.string N, .string V]) w := fun w => run_build w _ _ _ (by kernel_rfl)
  rw [hN, hV] at hR0
  clear hN hV h2
  generalize recsL exL = rs at *
  generalize exL = l at *
  go_enter Try.func8, Try.ntmps8
  simp only [hN2, hV2]
  clear hN2 hV2
  go_wp2_with fail
  have hat0 := hR0.out w
  have hx0 : Below w.heap.size w (w.alloc (.cells #[.string N, .string V] 42)) := by (repeat' (first | exact Below.refl _ _ | assumption | refine gr_drew ?_ | refine gr_drewN ?_ _ | refine gr_alloc ?_ _ | refine gr_set ?_ ?_ _ | refine gr_call ?_ (by assumption)) <;> (try (simp; done)) <;> (try (simp; omega)) <;> (try omega))
  generalize (Value.slice (some ⟨w.heap.size, 0, none⟩) 1 1) = v0 at *
  refine (h1.out _ _ (hA.on hx0) hat0).mono ?_
  rintro e w1 ⟨⟨v1, rfl, hR1⟩, hb1⟩
  have hat1 := hat0.call hb1
  replace hb1 := gr_call hx0 hb1
  go_wp2_with fail
  refine (h2'.out _ _ (hA.on hb1) hR1.at).mono ?_
  rintro e w2 ⟨⟨v2, rfl, hat2⟩, hb2⟩
  have hat3 := hat1.call hb2
  replace hb2 := gr_call hb1 hb2
  clear hR1 hat1 hat0 hx0
  go_wp2_with fail
  refine (h1.out _ _ (hA.on hb2) hat3).mono ?_
  rintro e w3 ⟨⟨v3, rfl, hR3⟩, hb3⟩
  obtain ⟨p3, c3, rfl, _⟩ := hR3.at.shape
  rw [Hln.out]
  have hat4 := hat3.call hb3
  have hat5 := hat2.call hb3
  replace hb3 := gr_call hb2 hb3
  clear hR3 hat3 hat2
  go_wp2_with fail
  refine (h4.out _ _).mono ?_
  rintro e w4 ⟨rfl, rfl⟩
  go_wp2_with fail
  refine (h3.out _ _ _ (hA.on hb3) hat5 hat4).mono ?_
  rintro e w5 ⟨rfl, hb5⟩
  replace hb5 := gr_call hb3 hb5
  go_wp2_with fail
  go_ret
  exact ⟨rfl, hb5⟩
end Go.Proofs.Ytobfbjfajdnhaaa
