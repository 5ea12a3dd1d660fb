/- Walks: pad.Put, and the document's. -/
import Derived.Test.YtkklgdefliinoaaDoorPadRep
import Derived.Test.YtkklgdefliinoaaDoorPadSize
import Derived.Test.YtkklgdefliinoaaDoorBld
import Derived.Test.YtkklgdefliinoaaDoorMake
namespace Go.Proofs.YtkklgdefliinoaaDoor
open Go.RowKit
open PadM
set_option linter.unusedVariables false

theorem Bld.keep {b : Nat} {l : List UInt8} {w w1 : World} (h : Bld b l w) (hb : Below w.heap.size w w1) : Bld b l w1 := by
  have key : ∀ p, Lib.BuilderAt 44 5 b b p (Lib.byteCells l) w → Lib.BuilderAt 44 5 b b p (Lib.byteCells l) w1 := by
    rintro p ⟨hB, v, hbk, hown, hne⟩
    refine ⟨hB, v, (hb.block b (Array.getElem?_eq_some_iff.1 hbk).1).trans hbk, ?_, hne⟩
    refine World.ownsRow.kept hown (row := none) ⟨hb.os, hb.tape, hb.output, hb.size, fun k hk _ => hb.block k hk⟩ ?_
    cases hv : v.ownBlock with
    | none => exact Or.inl rfl
    | some k => exact Or.inr (by simp)
  exact h.elim (fun h => .inl (key _ h)) (fun h => .inr (key _ h))

theorem put_any (s : ByteArray) (hs : s.size ≤ 100000) (w : World) :
    Calls Tryd.prog 12 #[.string s] w fun e w' => e = .returned (.string (strOf (padL (L s)))) ∧ Below w.heap.size w w' := by
  have hm := more_in (n := s.size) (by omega)
  have hsize := fun w => size_any (s.size : Int) w
  rw [hm.2.2.2] at hsize
  obtain ⟨m, hmm⟩ : ∃ m, more s.size = m := ⟨_, rfl⟩
  have hpad : padL (L s) = [] ++ L s ++ L (strOf (List.replicate m 0)) := by unfold padL; rw [size_L, hmm, L_strOf]; rfl
  rw [hmm] at hsize hm
  have hm1 := hm.2.1
  have hsub : ((s.size : Int) + (m : Int)) - (s.size : Int) = (m : Int) := by omega
  have hsz : (strOf (List.replicate m 0)).size = m := by rw [strOf_sz, List.length_replicate]
  obtain ⟨Z, hZ⟩ : ∃ Z : ByteArray, (⟨#[0]⟩ : ByteArray) = Z := ⟨_, rfl⟩
  have hrep := fun w => rep_any m (m : Int) rfl (by omega) w
  obtain ⟨M, hM⟩ : ∃ M : ByteArray, strOf (List.replicate m 0) = M := ⟨_, rfl⟩
  rw [hM] at hsz hpad hrep
  rw [hZ] at hrep
  have hgrow := fun w => grow_b (s.size + m) ((s.size : Int) + (m : Int)) (by omega) w (by omega)
  rw [hpad]
  have hlen : s.data.toList.length = s.size := size_L s
  replace hrep := Lib.hid hrep
  replace hsize := Lib.hid hsize
  replace hgrow := Lib.hid hgrow
  clear hpad hm hmm hM
  go_enter Tryd.func12, Tryd.ntmps12
  rw [hZ]
  clear hZ
  go_wp2_with fail
  refine (hsize.out _).mono ?_
  rintro e w1 ⟨rfl, rfl⟩
  go_wp2_with fail
  refine (hgrow.out _).mono ?_
  rintro e w1 ⟨rfl, h1, hb1⟩
  go_wp2_with fail
  refine (writeStr_b w.heap.size [] s w1 h1 (by simp; omega) (bld_lt h1)).mono ?_
  rintro e w2 ⟨rfl, h2, hb2⟩
  have hB2 : Below w.heap.size w w2 := hb1.trans hb2
  clear h1 hb1 hb2
  go_wp2_with fail
  refine (hrep.out _).mono ?_
  rintro e w3 ⟨rfl, hb3⟩
  have h3 := h2.keep hb3
  have hB3 := gr_call hB2 hb3
  clear h2 hB2 hb3
  go_wp2_with fail
  refine (writeStr_b w.heap.size _ M w3 h3 (by rw [List.nil_append, hlen]; omega) (bld_lt h3)).mono ?_
  rintro e w4 ⟨rfl, h4, hb4⟩
  have hB4 : Below w.heap.size w w4 := hB3.trans hb4
  clear h3 hB3 hb4
  go_wp2_with fail
  refine (string_b w.heap.size _ w4 h4).mono ?_
  rintro e w5 ⟨rfl, hb5⟩
  have hB5 : Below w.heap.size w w5 := hB4.trans hb5
  go_wp2_with fail
  go_ret
  exact ⟨rfl, hB5⟩

theorem filled_any (s : ByteArray) (m : Nat) (x : Int) (hx : x = (s.size : Int) + (m : Int)) (hs : s.size ≤ 100000) (hn : m ≤ 8000) (w : World) :
    Calls Tryd.prog 23 #[.string s, .int .i64 x] w fun e w' => e = .returned (.string (strOf (L s ++ List.replicate m 0))) ∧ Below w.heap.size w w' := by
  subst hx
  have he : s ++ strOf (List.replicate m 0) = strOf (L s ++ List.replicate m 0) := by
    rw [← strOf_app, strOf_L]
  have hsz : (strOf (List.replicate m 0)).size = m := by rw [strOf_sz, List.length_replicate]
  obtain ⟨Z, hZ⟩ : ∃ Z : ByteArray, strOf (List.replicate m 0) = Z := ⟨_, rfl⟩
  rw [hZ] at he hsz
  have hlen : ¬ 9223372036854775807 < s.size + Z.size := by omega
  have hlen2 : s.size + Z.size ≤ 9223372036854775807 := by omega
  rw [← he]
  clear he
  have hsub : IntKind.i64.wrap (((s.size : Int) + (m : Int)) - (s.size : Int)) = (m : Int) := by rw [IntKind.wrap_i64]; omega
  have hsub2 : ((s.size : Int) + (m : Int)) - (s.size : Int) = (m : Int) := by omega
  have hm8 : m ≤ 1000000 := by omega
  go_enter Tryd.func23, Tryd.ntmps23
  go_wp2_with (first
    | (refine wp_make rfl _ _ rfl _ m _ _ rfl rfl (by first | rfl | exact hsub2) (by first | rfl | exact hsub2) hm8 ?_; intro w1 hr hb1 hcv; change (convert 34 9 (.slice (some ⟨w.heap.size, 0, none⟩) m m)).run Tryd.prog w1 = .ok (.string (strOf (List.replicate m 0))) w1 at hcv; rw [hZ] at hcv))
  go_ret
  exact ⟨rfl, by assumption⟩
theorem refPad_any (s : ByteArray) (hs : s.size ≤ 100000) (w : World) :
    Calls Tryd.prog 13 #[.string s] w fun e w' => e = .returned (.string (strOf (padL (L s)))) ∧ Below w.heap.size w w' := by
  have hm := more_in (n := s.size) (by omega)
  have hsize := fun w => refSize_any (s.size : Int) w
  have hf := fun w => filled_any s (more s.size) (sz s.size) hm.2.2.2 hs (by omega) w
  have e : L s ++ List.replicate (more s.size) 0 = padL (L s) := by unfold padL; rw [size_L]
  rw [e] at hf
  obtain ⟨x, hx⟩ : ∃ x, sz (s.size : Int) = x := ⟨_, rfl⟩
  rw [hx] at hf hsize
  replace hf := Lib.hid hf
  replace hsize := Lib.hid hsize
  clear hm e hx
  go_enter Tryd.func13, Tryd.ntmps13
  go_wp2_with fail
  refine (hsize.out _).mono ?_
  rintro e w1 ⟨rfl, rfl⟩
  go_wp2_with fail
  refine (hf.out _).mono ?_
  rintro e w1 ⟨rfl, hb1⟩
  go_wp2_with fail
  go_ret
  exact ⟨rfl, hb1⟩
end Go.Proofs.YtkklgdefliinoaaDoor
