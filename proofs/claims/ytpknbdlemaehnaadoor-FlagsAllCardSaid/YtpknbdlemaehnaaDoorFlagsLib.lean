/- The library's functions that package flags calls: strings.Cut at a comma. -/
import Derived.Test.YtpknbdlemaehnaaDoorFlagsAmb
import Derived.Test.YtpknbdlemaehnaaDoorChecked
import Derived.Lib.Bytealg
import Derived.Lib.IndexLaws
import Derived.Laws.Externs
import Derived.Deep.QuietTactic
import Derived.BigQuiet
import Derived.Outline
namespace Go.Proofs.YtpknbdlemaehnaaDoor
open Go.RowKit
open FlagsM
set_option linter.unusedVariables false

theorem liteIndexByte_any (s : ByteArray) (c : Int) (w : World) :
    Calls Tryd.prog 19 #[.string s, .int .u8 c] w fun e w' => e = .returned (.int .i64 (Lib.indexByte s.data.toList c.toNat.toUInt8)) ∧ w' = w := by
  go_enter Tryd.func19, Tryd.ntmps19
  go_wp2
  rw [run_callFunc_extern Tryd.func23 (by kernel_rfl) (by kernel_rfl) (by kernel_rfl) (e := Extern.BytealgIndexByte.indexByte) (by kernel_rfl), Lib.run_indexByteString]
  simp only [Result.andThen]
  rw [Oper.upon_value]
  go_wp2
  go_ret
  exact ⟨rfl, rfl⟩
theorem liteIndex_any (s : ByteArray) (w : World) :
    Calls Tryd.prog 18 #[.string s, .string ⟨#[44]⟩] w fun e w' => e = .returned (.int .i64 (Lib.indexByte s.data.toList 44)) ∧ w' = w := by
  have hz : (⟨#[44]⟩ : ByteArray).size = 1 := rfl
  have hi : ∀ w, (Instr.index 9 (.string ⟨#[44]⟩) (.int .i64 0)).run Tryd.prog w = .ok (.int .u8 44) w := fun w => by kernel_rfl
  have hc := liteIndexByte_any s 44 w
  obtain ⟨Z, hZ⟩ : ∃ Z : ByteArray, (⟨#[44]⟩ : ByteArray) = Z := ⟨_, rfl⟩
  rw [hZ] at hz hi
  have hq := str_beq Z s
  rw [← hZ] at hq
  rw [show (⟨#[44]⟩ : ByteArray).data.toList = [44] from rfl] at hq
  rw [hZ] at hq ⊢
  clear hZ
  have hx : [44] = s.data.toList → Lib.indexByte s.data.toList 44 = 0 := fun h => by rw [← h]; rfl
  rcases hb : decide ([44] = s.data.toList) with _ | _
  · rw [hb] at hq
    clear hb hx
    go_enter Tryd.func18, Tryd.ntmps18
    go_wp2_with fail
    refine hc.mono ?_
    rintro e w' ⟨rfl, rfl⟩
    go_wp2_with fail
    go_ret
    exact ⟨rfl, rfl⟩
  · have h0 := hx (of_decide_eq_true hb)
    rw [h0]
    rw [hb] at hq
    clear hb hx h0 hc
    go_enter Tryd.func18, Tryd.ntmps18
    go_wp2_with fail
    go_ret
    exact ⟨rfl, rfl⟩
theorem cut_index (l : List UInt8) : (Lib.indexByte l 44 = -1 ∧ cutC l = (l, [], false)) ∨ (∃ i : Nat, Lib.indexByte l 44 = i ∧ i < l.length ∧ cutC l = (l.take i, l.drop (i + 1), true)) := by
  induction l with
  | nil => exact .inl ⟨rfl, rfl⟩
  | cons b l ih =>
    unfold Lib.indexByte
    by_cases hb : b = 44
    · subst hb
      exact .inr ⟨0, by simp, by simp, by simp [cutC]⟩
    · have hbf : (b == 44) = false := by simpa using hb
      have hu : cutC (b :: l) = (b :: (cutC l).1, (cutC l).2.1, (cutC l).2.2) := if_neg hb
      rw [hbf, hu]
      rcases ih with ⟨h1, h2⟩ | ⟨i, h1, h2, h3⟩
      · left
        rw [h1, h2]
        exact ⟨by simp, rfl⟩
      · right
        refine ⟨i + 1, ?_, by simp; omega, by rw [h3]; rfl⟩
        rw [h1]
        have : ((i : Int) == -1) = false := by rw [beq_eq_false_iff_ne]; omega
        rw [this]
        rfl
theorem cut_yes (s : ByteArray) (i : Nat) (h : Lib.indexByte s.data.toList 44 = i) (hi : i < s.size) (hs : s.size ≤ 100000) (w : World) :
    Calls Tryd.prog 17 #[.string s, .string ⟨#[44]⟩] w fun e w' => e = .returned (.tuple #[.string (s.extract 0 i), .string (s.extract (i + 1) s.size), .bool true]) ∧ Below w.heap.size w w' := by
  have hc := Lib.hid (liteIndex_any s)
  have hz : (⟨#[44]⟩ : ByteArray).size = 1 := rfl
  rw [h] at hc
  clear h
  obtain ⟨Z, hZ⟩ : ∃ Z : ByteArray, (⟨#[44]⟩ : ByteArray) = Z := ⟨_, rfl⟩
  rw [hZ] at hz hc
  rw [hZ]
  clear hZ
  go_enter Tryd.func17, Tryd.ntmps17
  go_wp2_with fail
  refine (hc.out _).mono ?_
  rintro e w' ⟨rfl, rfl⟩
  go_wp2_with fail
  go_quiet (fail)
  go_wp2_with fail
  exact bodyPost_ret (v := .tuple #[.string (s.extract 0 i), .string (s.extract (i + 1) s.size), .bool true]) (by simp [results, Tryd.results17, go_sem, *]) rfl ⟨rfl, by (repeat' (first | exact Below.refl _ _ | assumption | refine gr_drew ?_ | refine gr_drewN ?_ _ | refine gr_alloc ?_ _ | refine gr_set ?_ ?_ _ | refine gr_call ?_ (by assumption)) <;> (try (simp; done)) <;> (try (simp; omega)) <;> (try omega))⟩
theorem cut_no (s : ByteArray) (h : Lib.indexByte s.data.toList 44 = -1) (w : World) :
    Calls Tryd.prog 17 #[.string s, .string ⟨#[44]⟩] w fun e w' => e = .returned (.tuple #[.string s, .string ⟨#[]⟩, .bool false]) ∧ Below w.heap.size w w' := by
  have hc := Lib.hid (liteIndex_any s)
  rw [h] at hc
  clear h
  obtain ⟨Z, hZ⟩ : ∃ Z : ByteArray, (⟨#[44]⟩ : ByteArray) = Z := ⟨_, rfl⟩
  rw [hZ] at hc
  rw [hZ]
  clear hZ
  go_enter Tryd.func17, Tryd.ntmps17
  go_wp2_with fail
  refine (hc.out _).mono ?_
  rintro e w' ⟨rfl, rfl⟩
  go_wp2_with fail
  exact bodyPost_ret (v := .tuple #[.string s, .string ⟨#[]⟩, .bool false]) (by simp [results, Tryd.results17, go_sem, *]) rfl ⟨rfl, by (repeat' (first | exact Below.refl _ _ | assumption | refine gr_drew ?_ | refine gr_drewN ?_ _ | refine gr_alloc ?_ _ | refine gr_set ?_ ?_ _ | refine gr_call ?_ (by assumption)) <;> (try (simp; done)) <;> (try (simp; omega)) <;> (try omega))⟩
theorem cut_any (s : ByteArray) (hs : s.size ≤ 100000) (w : World) :
    Calls Tryd.prog 15 #[.string s, .string ⟨#[44]⟩] w fun e w' => e = .returned (.tuple #[.string (strOf (cutC s.data.toList).1), .string (strOf (cutC s.data.toList).2.1), .bool (cutC s.data.toList).2.2]) ∧ Below w.heap.size w w' := by
  rcases cut_index s.data.toList with ⟨h1, h2⟩ | ⟨i, h1, h2, h3⟩
  · rw [h2]
    simp only
    rw [strOf_self, show strOf [] = ⟨#[]⟩ from rfl]
    have hc := cut_no s h1
    obtain ⟨Z, hZ⟩ : ∃ Z : ByteArray, (⟨#[44]⟩ : ByteArray) = Z := ⟨_, rfl⟩
    rw [hZ] at hc
    rw [hZ]
    clear hZ h1 h2
    go_enter Tryd.func15, Tryd.ntmps15
    go_wp2_with fail
    refine (hc _).mono ?_
    rintro e w1 ⟨rfl, hbw1⟩
    have hzw1 := hbw1.size
    try simp at hzw1
    go_wp2_with fail
    exact bodyPost_ret (v := .tuple #[.string s, .string ⟨#[]⟩, .bool false]) (by simp [results, Tryd.results15, go_sem, *]) rfl ⟨rfl, by (repeat' (first | exact Below.refl _ _ | assumption | refine gr_drew ?_ | refine gr_drewN ?_ _ | refine gr_alloc ?_ _ | refine gr_set ?_ ?_ _ | refine gr_call ?_ (by assumption)) <;> (try (simp; done)) <;> (try (simp; omega)) <;> (try omega))⟩
  · rw [len_list] at h2
    have e : s.extract 0 i = strOf (cutC s.data.toList).1 := by
      rw [h3]
      refine str_eq ?_
      rw [Lib.extract_data]
      simp
    have e2 : s.extract (i + 1) s.size = strOf (cutC s.data.toList).2.1 := by
      rw [h3]
      refine str_eq ?_
      rw [Lib.extract_data]
      exact List.take_of_length_le (by rw [List.length_drop, len_list]; exact Nat.le_refl _)
    have e3 : (cutC s.data.toList).2.2 = true := by rw [h3]
    have hc := cut_yes s i h1 h2 hs
    rw [e, e2] at hc
    rw [e3]
    generalize strOf (cutC s.data.toList).1 = X at *
    generalize strOf (cutC s.data.toList).2.1 = Y at *
    obtain ⟨Z, hZ⟩ : ∃ Z : ByteArray, (⟨#[44]⟩ : ByteArray) = Z := ⟨_, rfl⟩
    rw [hZ] at hc
    rw [hZ]
    clear hZ e e2 e3 h3 h1 h2
    go_enter Tryd.func15, Tryd.ntmps15
    go_wp2_with fail
    refine (hc _).mono ?_
    rintro e w1 ⟨rfl, hbw1⟩
    have hzw1 := hbw1.size
    try simp at hzw1
    go_wp2_with fail
    exact bodyPost_ret (v := .tuple #[.string X, .string Y, .bool true]) (by simp [results, Tryd.results15, go_sem, *]) rfl ⟨rfl, by (repeat' (first | exact Below.refl _ _ | assumption | refine gr_drew ?_ | refine gr_drewN ?_ _ | refine gr_alloc ?_ _ | refine gr_set ?_ ?_ _ | refine gr_call ?_ (by assumption)) <;> (try (simp; done)) <;> (try (simp; omega)) <;> (try omega))⟩
end Go.Proofs.YtpknbdlemaehnaaDoor
