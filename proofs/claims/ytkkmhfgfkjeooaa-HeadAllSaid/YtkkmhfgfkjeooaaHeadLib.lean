/- The library's functions that package head calls: strings.IndexByte, Clone, Cut at a byte 0, Repeat of one byte 0. -/
import Derived.Test.YtkkmhfgfkjeooaaBuild
import Derived.Test.YtkkmhfgfkjeooaaHeadMath
import Derived.Shelf.Strings.BuilderF
import Derived.Lib.RepeatB
import Derived.Lib.CutLaws
import Derived.Deep.LoopGhost
import Derived.Deep.DeepCutAuto
import Derived.Deep.CutBlock
import Derived.Deep.QuietTactic
import Derived.Deep.RegionHeld3
import Derived.BigQuiet
import Derived.Below
import Derived.Outline
namespace Go.Proofs.Ytkkmhfgfkjeooaa
open Go.RowKit
open HeadM
set_option linter.unusedVariables false

theorem size_L (s : ByteArray) : (L s).length = s.size := by simp [L]
theorem strOf_sz (l : List UInt8) : (strOf l).size = l.length := by rw [← size_L, L_strOf]
theorem L_app (a b : ByteArray) : L (a ++ b) = L a ++ L b := bytes_list a b
theorem strOf_app (a b : List UInt8) : strOf a ++ strOf b = strOf (a ++ b) := bytes_ext (by rw [bytes_list]; simp [strOf])
theorem L_inj {a b : ByteArray} (h : L a = L b) : a = b := bytes_ext h
theorem str_L {s : ByteArray} {l : List UInt8} (h : L s = l) : s = strOf l := by rw [← h, strOf_L]
theorem beq_L (A B : ByteArray) : (A.toList == B.toList) = decide (L A = L B) := by
  have e : ∀ X : ByteArray, X.toList = L X := fun X => Lib.toList_data X
  rw [e, e]
  by_cases h : L A = L B
  · rw [h, decide_eq_true rfl]; exact beq_self_eq_true _
  · rw [decide_eq_false h, beq_eq_false_iff_ne]; exact h
theorem below_dn {B : Nat} {a w : World} (h : Below B a w) (n : Nat) : Below B a (w.drewN n) := ⟨h.os, h.tape, h.output, h.size, h.block⟩

theorem indexByte_any (s : ByteArray) (c : UInt8) (x : Int) (hx : x = (c.toNat : Int)) (w : World) :
    Calls Try.prog 28 #[.string s, .int .u8 x] w fun e w' => e = .returned (.int .i64 (Lib.indexByte (L s) c)) ∧ w = w' := by
  subst hx
  refine (Try.strings_IndexByte s (c.toNat : Int) w).mono ?_
  rintro e w' ⟨rfl, rfl⟩
  refine ⟨?_, rfl⟩
  rw [show ((c.toNat : Int).toNat).toUInt8 = c by simp]
  rfl
theorem liteIndexByte_any (s : ByteArray) (c : Int) (w : World) :
    Calls Try.prog 45 #[.string s, .int .u8 c] w fun e w' => e = .returned (.int .i64 (Lib.indexByte (L s) c.toNat.toUInt8)) ∧ w' = w := by
  go_enter Try.func45, Try.ntmps45
  go_wp2
  rw [run_callFunc_extern Try.func61 (by kernel_rfl) (by kernel_rfl) (by kernel_rfl) (e := Extern.BytealgIndexByte.indexByte) (by kernel_rfl), Lib.run_indexByteString]
  simp only [Result.andThen]
  rw [Oper.upon_value]
  go_wp2
  go_ret
  exact ⟨rfl, rfl⟩
theorem clone_any (s : ByteArray) (w : World) (hs : s.size ≤ 281474976710656) :
    Calls Try.prog 58 #[.string s] w fun e w' => e = .returned (.string s) ∧ Below w.heap.size w w' := by
  have h := Try.stringslite_Clone s
  go_enter Try.func58, Try.ntmps58
  go_wp2_with fail
  refine (h _ hs).mono ?_
  rintro e w' ⟨rfl, hb⟩
  go_wp2_with fail
  go_ret
  exact ⟨rfl, hb⟩
theorem liteIndex_any (s : ByteArray) (w : World) :
    Calls Try.prog 83 #[.string s, .string ⟨#[0]⟩] w fun e w' => e = .returned (.int .i64 (Lib.indexByte (L s) 0)) ∧ w' = w := by
  have hz : (⟨#[0]⟩ : ByteArray).size = 1 := rfl
  have hi : ∀ w, (Instr.index 9 (.string ⟨#[0]⟩) (.int .i64 0)).run Try.prog w = .ok (.int .u8 0) w := fun w => by kernel_rfl
  have hc := liteIndexByte_any s 0 w
  obtain ⟨Z, hZ⟩ : ∃ Z : ByteArray, (⟨#[0]⟩ : ByteArray) = Z := ⟨_, rfl⟩
  rw [hZ] at hz hi
  have hq := beq_L Z s
  rw [← hZ] at hq
  have hL : L (⟨#[0]⟩ : ByteArray) = [0] := rfl
  rw [hL] at hq
  rw [hZ] at hq ⊢
  clear hZ
  have hx : [0] = L s → Lib.indexByte (L s) 0 = 0 := fun h => by rw [← h]; rfl
  rcases hb : decide ([0] = L s) with _ | _
  · rw [hb] at hq
    clear hb hx
    go_enter Try.func83, Try.ntmps83
    go_wp2_with fail
    refine hc.mono ?_
    rintro e w' ⟨rfl, rfl⟩
    go_wp2_with fail
    go_ret
    exact ⟨rfl, rfl⟩
  · have h0 := hx (of_decide_eq_true hb)
    rw [h0]
    rw [hb] at hq
    clear hb hx h0 hc
    go_enter Try.func83, Try.ntmps83
    go_wp2_with fail
    go_ret
    exact ⟨rfl, rfl⟩
/-- What stands ahead of the first byte 0, by its place. -/
theorem upto_index (l : List UInt8) : (Lib.indexByte l 0 = -1 ∧ upto l = l) ∨ (∃ i : Nat, Lib.indexByte l 0 = i ∧ i < l.length ∧ upto l = l.take i) := by
  induction l with
  | nil => exact .inl ⟨rfl, rfl⟩
  | cons b l ih =>
    unfold Lib.indexByte
    by_cases hb : b = 0
    · subst hb
      exact .inr ⟨0, by simp, by simp, by simp [upto]⟩
    · have hbf : (b == 0) = false := by simpa using hb
      have hu : upto (b :: l) = b :: upto l := by simp [upto, hb]
      rw [hbf, hu]
      rcases ih with ⟨h1, h2⟩ | ⟨i, h1, h2, h3⟩
      · left
        rw [h1, h2]
        exact ⟨by simp, rfl⟩
      · right
        refine ⟨i + 1, ?_, by simp; omega, by rw [h3]; rfl⟩
        rw [h1]
        have : ((i : Int) == -1) = false := by rw [beq_eq_false_iff_ne]; omega
        rw [this]
        rfl
theorem mayT_index (l : List UInt8) (n : Nat) : mayT l n = (decide (l.length ≤ n) && decide (Lib.indexByte l 0 < 0)) := by
  unfold mayT
  congr 1
  have : l.contains 0 = !decide (Lib.indexByte l 0 < 0) := by
    rcases h : decide (Lib.indexByte l 0 < 0) with _ | _
    · have h1 := of_decide_eq_false h
      obtain ⟨o, ho⟩ := Int.eq_ofNat_of_zero_le (show 0 ≤ Lib.indexByte l 0 by omega)
      have h2 := (Lib.indexByte_some ho).1
      simp only [Bool.not_false, List.contains_iff_mem]
      exact List.mem_of_getElem? h2
    · have h1 := of_decide_eq_true h
      have h2 := Lib.indexByte_ge l 0
      have h3 := Lib.indexByte_none (show Lib.indexByte l 0 = -1 by omega)
      rw [Bool.not_true]
      rw [Bool.eq_false_iff]
      intro h4
      have h5 := List.contains_iff_mem.1 h4
      obtain ⟨k, hk⟩ := List.getElem?_of_mem h5
      exact h3 k hk
  rw [this, Bool.not_not]
theorem cut_yes (s : ByteArray) (i : Nat) (h : Lib.indexByte (L s) 0 = i) (hi : i < s.size) (hs : s.size ≤ 100000) (w : World) :
    Calls Try.prog 72 #[.string s, .string ⟨#[0]⟩] w fun e w' => e = .returned (.tuple #[.string (s.extract 0 i), .string (s.extract (i + 1) s.size), .bool true]) ∧ Below w.heap.size w w' := by
  have hc := Lib.hid (liteIndex_any s)
  have hz : (⟨#[0]⟩ : ByteArray).size = 1 := rfl
  rw [h] at hc
  clear h
  obtain ⟨Z, hZ⟩ : ∃ Z : ByteArray, (⟨#[0]⟩ : ByteArray) = Z := ⟨_, rfl⟩
  rw [hZ] at hz hc
  rw [hZ]
  clear hZ
  go_enter Try.func72, Try.ntmps72
  go_wp2_with fail
  refine (hc.out _).mono ?_
  rintro e w' ⟨rfl, rfl⟩
  go_wp2_with fail
  go_quiet (fail)
  go_wp2_with fail
  exact bodyPost_ret (v := .tuple #[.string (s.extract 0 i), .string (s.extract (i + 1) s.size), .bool true]) (by simp [results, Try.results72, go_sem, *]) rfl ⟨rfl, by (repeat' (first | exact Below.refl _ _ | assumption | refine gr_drew ?_ | refine gr_drewN ?_ _ | refine gr_alloc ?_ _ | refine gr_set ?_ ?_ _ | refine gr_call ?_ (by assumption)) <;> (try (simp; done)) <;> (try (simp; omega)) <;> (try omega))⟩
theorem cut_no (s : ByteArray) (h : Lib.indexByte (L s) 0 = -1) (w : World) :
    Calls Try.prog 72 #[.string s, .string ⟨#[0]⟩] w fun e w' => e = .returned (.tuple #[.string s, .string ⟨#[]⟩, .bool false]) ∧ Below w.heap.size w w' := by
  have hc := Lib.hid (liteIndex_any s)
  rw [h] at hc
  clear h
  obtain ⟨Z, hZ⟩ : ∃ Z : ByteArray, (⟨#[0]⟩ : ByteArray) = Z := ⟨_, rfl⟩
  rw [hZ] at hc
  rw [hZ]
  clear hZ
  go_enter Try.func72, Try.ntmps72
  go_wp2_with fail
  refine (hc.out _).mono ?_
  rintro e w' ⟨rfl, rfl⟩
  go_wp2_with fail
  exact bodyPost_ret (v := .tuple #[.string s, .string ⟨#[]⟩, .bool false]) (by simp [results, Try.results72, go_sem, *]) rfl ⟨rfl, by (repeat' (first | exact Below.refl _ _ | assumption | refine gr_drew ?_ | refine gr_drewN ?_ _ | refine gr_alloc ?_ _ | refine gr_set ?_ ?_ _ | refine gr_call ?_ (by assumption)) <;> (try (simp; done)) <;> (try (simp; omega)) <;> (try omega))⟩
theorem cut0_any (s : ByteArray) (hs : s.size ≤ 100000) : ∃ (t : ByteArray) (b : Bool), ∀ w,
    Calls Try.prog 57 #[.string s, .string ⟨#[0]⟩] w fun e w' => e = .returned (.tuple #[.string (strOf (upto (L s))), .string t, .bool b]) ∧ Below w.heap.size w w' := by
  rcases upto_index (L s) with ⟨h1, h2⟩ | ⟨i, h1, h2, h3⟩
  · refine ⟨⟨#[]⟩, false, fun w => ?_⟩
    rw [h2, strOf_L]
    have hc := cut_no s h1
    obtain ⟨Z, hZ⟩ : ∃ Z : ByteArray, (⟨#[0]⟩ : ByteArray) = Z := ⟨_, rfl⟩
    rw [hZ] at hc
    rw [hZ]
    go_enter Try.func57, Try.ntmps57
    go_wp2_with fail
    refine (hc _).mono ?_
    rintro e w1 ⟨rfl, hbw1⟩
    have hzw1 := hbw1.size
    try simp at hzw1
    go_wp2_with fail
    exact bodyPost_ret (v := .tuple #[.string s, .string ⟨#[]⟩, .bool false]) (by simp [results, Try.results57, go_sem, *]) rfl ⟨rfl, by (repeat' (first | exact Below.refl _ _ | assumption | refine gr_drew ?_ | refine gr_drewN ?_ _ | refine gr_alloc ?_ _ | refine gr_set ?_ ?_ _ | refine gr_call ?_ (by assumption)) <;> (try (simp; done)) <;> (try (simp; omega)) <;> (try omega))⟩
  · refine ⟨s.extract (i + 1) s.size, true, fun w => ?_⟩
    have hi : i < s.size := by rw [← size_L]; exact h2
    have e : s.extract 0 i = strOf (upto (L s)) := by
      rw [h3]
      apply str_L
      unfold L
      rw [Lib.extract_data]
      simp
    have hc := cut_yes s i h1 hi hs
    rw [e] at hc
    obtain ⟨Z, hZ⟩ : ∃ Z : ByteArray, (⟨#[0]⟩ : ByteArray) = Z := ⟨_, rfl⟩
    rw [hZ] at hc
    rw [hZ]
    go_enter Try.func57, Try.ntmps57
    go_wp2_with fail
    refine (hc _).mono ?_
    rintro e w1 ⟨rfl, hbw1⟩
    have hzw1 := hbw1.size
    try simp at hzw1
    go_wp2_with fail
    exact bodyPost_ret (v := .tuple #[.string (strOf (upto (L s))), .string (s.extract (i + 1) s.size), .bool true]) (by simp [results, Try.results57, go_sem, *]) rfl ⟨rfl, by (repeat' (first | exact Below.refl _ _ | assumption | refine gr_drew ?_ | refine gr_drewN ?_ _ | refine gr_alloc ?_ _ | refine gr_set ?_ ?_ _ | refine gr_call ?_ (by assumption)) <;> (try (simp; done)) <;> (try (simp; omega)) <;> (try omega))⟩
end Go.Proofs.Ytkkmhfgfkjeooaa
