/- pad.Get and the document's answer, whatever is asked; the law's example; the law's number of an error. -/
import Derived.Test.YtkklgdefliinoaaDoorPadGet
import Derived.Test.YtkklgdefliinoaaDoorPadRef
namespace Go.Proofs.YtkklgdefliinoaaDoor
open Go.RowKit
open PadM
set_option linter.unusedVariables false

def getA (p : List UInt8 × Int × Int) : Value := .agg #[.string (strOf p.1), .int .i64 p.2.1, .int .i64 p.2.2]

theorem sz_nat {k : Nat} (hk : (k : Int) ≤ 4611686018427387904) : ∃ q : Nat, sz (k : Int) = (q : Int) ∧ k ≤ q := by
  have h := sz_in (n := (k : Int)) (by omega) hk
  exact ⟨(sz (k : Int)).toNat, by omega, by omega⟩

theorem get_any (S : ByteArray) (a n : Int) (hS : S.size ≤ 100000) (w : World) :
    Calls Tryd.prog 8 #[.string S, .int .i64 a, .int .i64 n] w fun e w' => e = .returned (getV (getP (L S) a n)) ∧ Below w.heap.size w w' := by
  have hl := size_L S
  by_cases h : a < 0 ∨ (S.size : Int) < a ∨ n < 0 ∨ 4611686018427387904 < n
  · rw [get_bad (by rw [hl]; exact h)]
    exact get_arg S a n hS h w
  obtain ⟨i, rfl⟩ : ∃ i : Nat, a = (i : Int) := ⟨a.toNat, by omega⟩
  obtain ⟨k, rfl⟩ : ∃ k : Nat, n = (k : Int) := ⟨n.toNat, by omega⟩
  obtain ⟨q, hq, hkq⟩ := sz_nat (k := k) (by omega)
  by_cases hs : S.size - i < q
  · rw [get_more (by rw [hl]; exact h) (by rw [hl, hq]; omega)]
    exact get_short S i k q (by omega) (by omega) hq hs hS w
  obtain ⟨X, hX⟩ : ∃ X, (S.extract i S.size).extract 0 q = X := ⟨_, rfl⟩
  have hLX : L X = ((L S).drop i).take q := by
    rw [← hX]
    unfold L
    rw [Lib.extract_data, Lib.extract_data]
    rw [List.drop_zero, Nat.sub_zero, List.take_of_length_le (l := S.data.toList.drop i) (by rw [List.length_drop, show S.data.toList.length = S.size from size_L S]; exact Nat.le_refl _)]
  have hg := get_full S i k q (by omega) (by omega) hq hkq (by omega) hS X hX w
  rw [hLX] at hg
  have hXk : X.extract 0 k = strOf (((L S).drop i).take k) := by
    apply str_L
    show (X.extract 0 k).data.toList = _
    rw [Lib.extract_data, List.drop_zero, Nat.sub_zero]
    show (L X).take k = _
    rw [hLX, List.take_take, Nat.min_eq_left hkq]
  rw [hXk] at hg
  refine hg.mono ?_
  rintro e w' ⟨rfl, hb⟩
  refine ⟨?_, hb⟩
  rcases hall : ((((L S).drop i).take q).drop k).all (· == 0) with _ | _
  · rw [get_form (by rw [hl]; exact h) (by rw [hl, hq]; omega) (by rw [hq]; simpa using hall)]
    rfl
  · rw [get_ok (by rw [hl]; exact h) (by rw [hl, hq]; omega) (by rw [hq]; simpa using hall), hq]
    rfl
theorem refGet_any (S : ByteArray) (a n : Int) (hS : S.size ≤ 100000) (w : World) :
    Calls Tryd.prog 9 #[.string S, .int .i64 a, .int .i64 n] w fun e w' => e = .returned (getA (getP (L S) a n)) ∧ Below w.heap.size w w' := by
  have hl := size_L S
  by_cases h : a < 0 ∨ (S.size : Int) < a ∨ n < 0 ∨ 4611686018427387904 < n
  · rw [get_bad (by rw [hl]; exact h)]
    exact refGet_arg S a n hS h w
  obtain ⟨i, rfl⟩ : ∃ i : Nat, a = (i : Int) := ⟨a.toNat, by omega⟩
  obtain ⟨k, rfl⟩ : ∃ k : Nat, n = (k : Int) := ⟨n.toNat, by omega⟩
  obtain ⟨q, hq, hkq⟩ := sz_nat (k := k) (by omega)
  by_cases hs : S.size - i < q
  · rw [get_more (by rw [hl]; exact h) (by rw [hl, hq]; omega)]
    exact refGet_short S i k q (by omega) (by omega) hq hs hS w
  have hXk : S.extract i (i + k) = strOf (((L S).drop i).take k) := by
    apply str_L
    show (S.extract i (i + k)).data.toList = _
    rw [Lib.extract_data, Nat.add_sub_cancel_left]
    rfl
  have hg := refGet_full S i k q (by omega) (by omega) hq hkq (by omega) hS _ hXk w
  refine hg.mono ?_
  rintro e w' ⟨rfl, hb⟩
  refine ⟨?_, hb⟩
  rcases hall : ((((L S).drop i).take q).drop k).all (· == 0) with _ | _
  · rw [get_form (by rw [hl]; exact h) (by rw [hl, hq]; omega) (by rw [hq]; simpa using hall)]
    rfl
  · rw [get_ok (by rw [hl]; exact h) (by rw [hl, hq]; omega) (by rw [hq]; simpa using hall), hq]
    unfold fullA
    rw [if_pos rfl]
    rfl

theorem err_any (x : Int) (w : World) :
    Calls Tryd.prog 14 #[.int .i64 x] w fun e w' => e = .returned (.int .i64 x) ∧ w = w' := by
  go_enter Tryd.func14, Tryd.ntmps14
  go_wp2_with fail
  go_ret
  exact ⟨rfl, rfl⟩

theorem awake_true (w : World) :
    Calls Tryd.prog 7 #[] w fun e w' => e = .returned (.bool true) ∧ Below w.heap.size w w' := by
  obtain ⟨A, hA⟩ : ∃ A : ByteArray, (⟨#[97, 98, 99]⟩ : ByteArray) = A := ⟨_, rfl⟩
  have hLA : L A = [97, 98, 99] := by rw [← hA]; rfl
  have hput := fun w => put_any A (by rw [← hA]; decide) w
  have hg := get_pad [] (L A) [] (by rw [hLA]; decide)
  rw [List.nil_append, List.append_nil, hLA] at hg
  have e1 : (([] : List UInt8).length : Int) + ((padL [97, 98, 99]).length : Int) = 512 := by rw [padL_length]; decide
  have e2 : (([97, 98, 99] : List UInt8).length : Int) = 3 := by decide
  have e3 : (([] : List UInt8).length : Int) = 0 := by decide
  rw [e1, e2, e3] at hg
  have hget := fun w => get_any (strOf (padL (L A))) 0 3 (by rw [strOf_sz, padL_length, hLA]; decide) w
  rw [L_strOf, hLA, hg] at hget
  have hA3 : strOf [97, 98, 99] = A := by rw [← hA]; rfl
  have hget2 : ∀ w, Calls Tryd.prog 8 #[.string (strOf (padL (L A))), .int .i64 0, .int .i64 3] w fun e w' => e = .returned (.tuple #[.string A, .int .i64 512, .int .i64 0]) ∧ Below w.heap.size w w' := by
    rw [hLA, ← hA3]
    exact hget
  obtain ⟨B, hB⟩ : ∃ B, strOf (padL (L A)) = B := ⟨_, rfl⟩
  rw [hB] at hget2 hput
  have hs := fun w => size_any 1 w
  have e4 : sz 1 = 512 := by decide
  rw [e4] at hs
  have herr := fun w => err_any 0 w
  replace hput := Lib.hid hput
  replace hget2 := Lib.hid hget2
  replace hs := Lib.hid hs
  replace herr := Lib.hid herr
  clear hget hg hLA e1 e2 e3 e4 hA3 hB
  go_enter Tryd.func7, Tryd.ntmps7
  rw [hA]
  clear hA
  go_wp2_with fail
  refine (hput.out _).mono ?_
  rintro e w1 ⟨rfl, hb1⟩
  go_wp2_with fail
  refine (hget2.out _).mono ?_
  rintro e w2 ⟨rfl, hb2⟩
  have hb := gr_call hb1 hb2
  clear hb1 hb2
  go_wp2_with fail
  refine (hs.out _).mono ?_
  rintro e w3 ⟨rfl, rfl⟩
  go_wp2_with fail
  refine (herr.out _).mono ?_
  rintro e w3 ⟨rfl, rfl⟩
  go_wp2_with fail
  go_ret
  exact ⟨rfl, hb⟩
end Go.Proofs.YtkklgdefliinoaaDoor
