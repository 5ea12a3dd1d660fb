/- The laws' example. -/
import Derived.Test.YtikdpoekjfbpaaaDoorWideAllows
namespace Go.Proofs.YtikdpoekjfbpaaaDoor
open Go.RowKit
open WideM
set_option linter.unusedVariables false

theorem one_str (w : World) (s : List UInt8) (B : Nat) (hB : B ≤ w.heap.size) : Row strE B (.slice (some ⟨w.heap.size, 0, none⟩) 1 1) [s] (w.alloc (.cells #[.string (strOf s)] 9)) :=
  lit_row (E := strE) w [s] _ B 1 rfl hB (by simp) rfl
attribute [local irreducible] Row At
def owner : List UInt8 := [79, 87, 78, 69, 82, 64]
def exText : List UInt8 := [65, 58, 58, 79, 87, 78, 69, 82, 64, 58, 114, 119]
def exL : List Wid := [⟨1, 0, 3, strOf owner⟩]
theorem ex_may : may exL = true := by decide
theorem ex_text : textL exL = exText := by decide
theorem ex_get : getL exText = some exL := (get_iff _ _).2 ⟨ex_may, ex_text⟩
theorem ex_all : allows exL [owner] 1 = true := by decide

set_option maxHeartbeats 1600000 in
theorem awake_true (w : World) (hA : Amb w) : Calls Tryd.prog 6 #[] w fun e w' => e = .returned (.bool true) ∧ Below w.heap.size w w' := by
  have h1 := Parse_any (strOf exText) (by decide) w hA
  rw [strOf_list, ex_get] at h1
  have h1' := Lib.hid h1
  have h3 := Lib.hid (fun v w' (hat : At wideE v exL w') => textL_any v exL w' hat (by decide))
  have h4 := Lib.hid (fun v x w' (hat : At wideE v exL w') (hax : At strE x [owner] w') => allows_any v x exL [owner] 1 w' hat hax (may_parts ex_may).1 (by decide) (by decide))
  rw [ex_all] at h4
  rw [show textR exL = exText by unfold textR; rw [if_pos ex_may]; exact ex_text] at h3
  obtain ⟨T, hT⟩ : ∃ T, strOf exText = T := ⟨_, rfl⟩
  have hT3 : ({ data := #[65, 58, 58, 79, 87, 78, 69, 82, 64, 58, 114, 119] } : ByteArray) = T := hT
  obtain ⟨O, hO⟩ : ∃ O, strOf owner = O := ⟨_, rfl⟩
  have hO3 : ({ data := #[79, 87, 78, 69, 82, 64] } : ByteArray) = O := hO
  clear h1
  rw [hT] at h1' h3
  have hone := Lib.hid (fun w => (one_str w owner 0 (Nat.zero_le _)).at)
  rw [hO] at hone
  have hop := Lib.hid (fun v w' (hat : At wideE v exL w') => wide_open hat (by decide))
  have hex : exL = [⟨1, 0, 3, O⟩] := by rw [← hO]; rfl
  have hsh : ∀ v w', At wideE v exL w' → ∃ g off cap, v = .slice (some ⟨g, off, none⟩) 1 cap ∧ 1 ≤ cap ∧ g < w'.heap.size ∧ w'.cell? ⟨g, off + 2, none⟩ = some (.int .i64 3) := by
    intro v w' h
    obtain ⟨g, off, cap, e1, e2, e3, e4⟩ := hop.out v w' h
    have := (e4 0 (by decide)).2.2.1
    exact ⟨g, off, cap, e1, e2, e3, by simpa [exL] using this⟩
  have Hsh := Lib.hid hsh
  clear hop hsh hex
  generalize exL = l at *
  generalize owner = ow at *
  go_enter Tryd.func6, Tryd.ntmps6
  simp only [hT3, hO3]
  clear hT hO hT3 hO3
  go_wp2_with fail
  refine (h1'.out).mono ?_
  rintro e w1 ⟨⟨v, rfl, hR⟩, hb1⟩
  have ha1 := hR.at
  obtain ⟨g, off, cap, rfl, hcap, hg, c2⟩ := Hsh.out v w1 ha1
  clear hR
  go_wp2_with fail
  refine (h3.out _ _ ha1).mono ?_
  rintro e w3 ⟨rfl, hb3⟩
  have ha3 := ha1.call hb3
  replace hb3 := gr_call hb1 hb3
  clear ha1 hb1 c2
  have hself : (T.toList == T.toList) = true := beq_self_eq_true _
  have hb4 := gr_alloc hb3 (.cells #[.string O] 9)
  go_wp2_with fail
  refine (h4.out _ _ _ (ha3.alloc _) (hone.out w3)).mono ?_
  rintro e w4 ⟨rfl, hb5⟩
  replace hb5 := gr_call hb4 hb5
  go_wp2_with fail
  go_ret
  exact ⟨rfl, hb5⟩
end Go.Proofs.YtikdpoekjfbpaaaDoor
