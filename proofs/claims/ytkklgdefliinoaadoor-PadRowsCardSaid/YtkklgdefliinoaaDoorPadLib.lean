/- The library's functions that package pad calls: strings.Clone, Trim of one byte 0. -/
import Derived.Test.YtkklgdefliinoaaDoorBuild
import Derived.Test.YtkklgdefliinoaaDoorPadMath
import Derived.Shelf.Strings.BuilderF
import Derived.Lib.RepeatB
import Derived.Lib.TrimByte
import Derived.Deep.LoopGhost
import Derived.Deep.DeepCutAuto
import Derived.Deep.CutBlock
import Derived.Deep.QuietTactic
import Derived.Deep.RegionHeld3
import Derived.BigQuiet
import Derived.Below
import Derived.Outline
namespace Go.Proofs.YtkklgdefliinoaaDoor
open Go.RowKit
open PadM
set_option linter.unusedVariables false

theorem clone_any (s : ByteArray) (w : World) (hs : s.size ≤ 281474976710656) :
    Calls Tryd.prog 18 #[.string s] w fun e w' => e = .returned (.string s) ∧ Below w.heap.size w w' := by
  have h := Tryd.stringslite_Clone s
  go_enter Tryd.func18, Tryd.ntmps18
  go_wp2_with fail
  refine (h _ hs).mono ?_
  rintro e w' ⟨rfl, hb⟩
  go_wp2_with fail
  go_ret
  exact ⟨rfl, hb⟩
theorem drop_nil (l : List UInt8) : l.dropWhile (· == 0) = [] ↔ ∀ x ∈ l, (x == 0) = true := by
  induction l with
  | nil => simp
  | cons a l ih =>
    rw [List.dropWhile_cons]
    by_cases h : (a == 0) = true
    · rw [if_pos h, ih]
      simp only [List.mem_cons, forall_eq_or_imp]
      exact ⟨fun k => ⟨h, k⟩, fun k => k.2⟩
    · rw [if_neg h]
      simp only [List.mem_cons, forall_eq_or_imp]
      exact ⟨fun k => (List.cons_ne_nil _ _ k).elim, fun k => absurd k.1 h⟩
theorem drop_head (l : List UInt8) : ∀ x t, l.dropWhile (· == 0) = x :: t → (x == 0) = false := by
  induction l with
  | nil => intro x t h; simp at h
  | cons a l ih =>
    intro x t h
    rw [List.dropWhile_cons] at h
    by_cases h0 : (a == 0) = true
    · rw [if_pos h0] at h
      exact ih x t h
    · rw [if_neg h0] at h
      obtain ⟨rfl, _⟩ := List.cons.inj h
      simpa using h0
/-- Is all of it noughts? -/
theorem trim_nil (l : List UInt8) : (Lib.trimB l 0 = []) ↔ l.all (· == 0) = true := by
  unfold Lib.trimB Lib.trimLeftB Lib.trimRightB
  rw [drop_nil, List.all_eq_true]
  constructor
  · intro h
    have h3 : l.reverse.dropWhile (· == 0) = [] := by
      cases hd : l.reverse.dropWhile (· == 0) with
      | nil => rfl
      | cons y t =>
        have h4 := h y (List.mem_reverse.2 (by rw [hd]; exact List.mem_cons_self ..))
        rw [drop_head _ _ _ hd] at h4
        cases h4
    rw [drop_nil] at h3
    exact fun x hx => h3 x (List.mem_reverse.2 hx)
  · intro h x hx
    have := (List.dropWhile_sublist (p := fun x : UInt8 => x == 0) (l := l.reverse)).subset (List.mem_reverse.1 hx)
    exact h x (List.mem_reverse.1 this)
theorem trim_any (s : ByteArray) (hs : s.size ≤ 9223372036854775807) (w : World) :
    Calls Tryd.prog 17 #[.string s, .string ⟨#[0]⟩] w fun e w' => e = .returned (.string (strOf (Lib.trimB (L s) 0))) ∧ Below w.heap.size w w' :=
  (Tryd.strings_Trim_one s 0 (by decide) w hs).mono fun e w' ⟨he, hw⟩ => ⟨he, by rcases hw with rfl | rfl; exact Below.refl _ _; exact gr_drew (Below.refl _ _)⟩
end Go.Proofs.YtkklgdefliinoaaDoor
