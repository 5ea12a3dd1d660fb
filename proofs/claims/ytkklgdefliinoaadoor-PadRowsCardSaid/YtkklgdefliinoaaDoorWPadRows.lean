/- The law PadRows, walked. -/
import Derived.Test.YtkklgdefliinoaaDoorPadFacts
import Derived.Test.YtkklgdefliinoaaDoorPadAmb
import Derived.Test.YtkklgdefliinoaaDoorStrs
namespace Go.Proofs.YtkklgdefliinoaaDoor
open Go.RowKit
open PadM
set_option linter.unusedVariables false

/-- Data behind data. -/
def rowsL (l : List (List UInt8)) : List UInt8 := (l.map padL).flatten
theorem rows_succ (l : List (List UInt8)) (i : Nat) (h : i < l.length) : rowsL (l.take (i + 1)) = rowsL (l.take i) ++ padL l[i] := by
  unfold rowsL
  rw [List.take_succ_eq_append_getElem h, List.map_append, List.flatten_append, List.map_cons, List.map_nil, List.flatten_cons, List.flatten_nil, List.append_nil]
theorem rows_cut (l : List (List UInt8)) (i : Nat) (h : i < l.length) : rowsL l = rowsL (l.take i) ++ padL l[i] ++ rowsL (l.drop (i + 1)) := by
  rw [← rows_succ l i h]
  unfold rowsL
  rw [← List.flatten_append, ← List.map_append, List.take_append_drop]
theorem rows_len (l : List (List UInt8)) (h : ∀ x ∈ l, x.length ≤ 1200) : (rowsL l).length ≤ l.length * 1711 := by
  induction l with
  | nil => simp [rowsL]
  | cons x l ih =>
    have h1 := h x (List.mem_cons_self ..)
    have h2 := ih (fun y hy => h y (List.mem_cons_of_mem _ hy))
    have h3 := more_in (n := x.length) (by omega)
    have e : rowsL (x :: l) = padL x ++ rowsL l := by unfold rowsL; rw [List.map_cons, List.flatten_cons]
    rw [e, List.length_append, List.length_cons, padL_length]
    omega

set_option maxHeartbeats 3200000 in
set_option maxRecDepth 100000 in
theorem padRows_walk (a0 : Option Addr) (n cap0 : Nat) (z0 : List ByteArray) (w : World) (hA : Amb w) (w0 : StrsAt w a0 n cap0 z0) :
    Calls Tryd.prog 6 #[.slice a0 n cap0] w fun e w' => e = .returned (.bool true) ∧ Below w.heap.size w w' := by
  have haw := awake_true
  have Hat := Lib.hid w0
  obtain ⟨R, hR⟩ : ∃ R, z0.map L = R := ⟨_, rfl⟩
  have HRl := Lib.hid (show R.length = n by rw [← hR, List.length_map]; exact w0.1)
  have HRi := Lib.hid (show ∀ i (h : i < z0.length) (h2 : i < R.length), R[i] = L z0[i] from fun i h h2 => by subst hR; simp)
  clear hA w0 hR
  by_cases hn6 : 6 < n
  · have d1 : decide (6 < (n : Int)) = true := decide_eq_true (by omega)
    have d1' : decide (6 < n) = true := decide_eq_true (by omega)
    clear hn6
    go_enter Tryd.func6, Tryd.ntmps6
    go_wp2_with fail
    refine (haw _).mono ?_
    rintro e w1 ⟨rfl, hb1⟩
    go_wp2_with fail
    go_ret
    exact ⟨rfl, hb1⟩
  have d1 : decide (6 < (n : Int)) = false := decide_eq_false (by omega)
  have d1' : decide (6 < n) = false := decide_eq_false (by omega)
  have hn9 : n ≤ 6 := by omega
  clear hn6
  replace haw := Lib.hid haw
  go_enter Tryd.func6, Tryd.ntmps6
  go_wp2_with fail
  go_loopw [3, 4] (fun sv iv wj => ∃ (i : Nat) (S : ByteArray), sv = .string S ∧ iv = .int .i64 (i : Int) ∧ i ≤ n ∧ Below w.heap.size w wj ∧ Hid (L S = rowsL (R.take i) ∧ ∀ x ∈ R.take i, x.length ≤ 1200)) (fun _ iv _ => n - (intOf iv).toNat)
  case atStart => exact ⟨0, ⟨#[]⟩, rfl, rfl, by omega, Below.refl _ _, Lib.hid ⟨rfl, fun x hx => by simp at hx⟩⟩
  case round =>
    obtain ⟨i, S, rfl, rfl, hi, hbl, HT⟩ := hrel
    rename_i wr
    have hSz : S.size ≤ 10266 := by
      rw [← size_L, HT.out.1]
      have h1 := rows_len (R.take i) HT.out.2
      have h2 : (R.take i).length ≤ 6 := by rw [List.length_take, HRl.out]; omega
      have h3 : (R.take i).length * 1711 ≤ 6 * 1711 := Nat.mul_le_mul_right _ h2
      omega
    by_cases hlt : i < n
    · have l1 : decide ((i : Int) < (n : Int)) = true := decide_eq_true (by omega)
      have l1' : decide (i < n) = true := decide_eq_true hlt
      have i0 : (0 : Int) ≤ (i : Int) := by omega
      have i1 : (i : Int) < (n : Int) := by omega
      obtain ⟨h1, h2, h3⟩ := Hat.out
      rcases h3 with h3 | ⟨b, off, rfl, hcap, hbs, hcell⟩
      · omega
      have hiz : i < z0.length := by omega
      have hiR : i < R.length := by rw [HRl.out]; exact hlt
      have c0 := cell_kept hbl (hcell i hiz)
      have hRi := HRi.out i hiz hiR
      obtain ⟨X, hX⟩ : ∃ X, z0[i] = X := ⟨_, rfl⟩
      rw [hX] at c0 hRi
      have hXm : X.size ≤ 140737488351232 := h2 X (by rw [← hX]; exact List.getElem_mem hiz)
      clear hX hcell h1 h2
      by_cases hk : 1200 < X.size
      · have k1 : decide (1200 < (X.size : Int)) = true := decide_eq_true (by omega)
        have k1' : decide (1200 < X.size) = true := decide_eq_true hk
        clear hRi hk hlt hiz hiR
        go_wp2_with fail
        refine (haw.out _).mono ?_
        rintro e w4 ⟨rfl, hb4⟩
        go_wp2_with fail
        go_ret
        exact ⟨rfl, gr_call hbl hb4⟩
      · have k1 : decide (1200 < (X.size : Int)) = false := decide_eq_false (by omega)
        have k1' : decide (1200 < X.size) = false := decide_eq_false hk
        have hput := fun w => put_any X (by omega) w
        obtain ⟨T, hT⟩ : ∃ T, strOf (padL (L X)) = T := ⟨_, rfl⟩
        rw [hT] at hput
        have hLT : L T = padL (L X) := by rw [← hT, L_strOf]
        have hm := more_in (n := (L X).length) (by rw [size_L]; omega)
        have hTz : T.size ≤ 1711 := by rw [← size_L, hLT, padL_length]; rw [size_L] at hm ⊢; omega
        have HT2 := Lib.hid (show L (S ++ T) = rowsL (R.take (i + 1)) ∧ ∀ x ∈ R.take (i + 1), x.length ≤ 1200 from by
          refine ⟨by rw [L_app, HT.out.1, hLT, rows_succ R i hiR, hRi], fun y hy => ?_⟩
          rw [List.take_succ_eq_append_getElem hiR, hRi] at hy
          rcases List.mem_append.1 hy with hy | hy
          · exact HT.out.2 y hy
          · rw [List.mem_singleton] at hy; subst hy; rw [size_L]; omega)
        replace hput := Lib.hid hput
        have q1 : ¬ 9223372036854775807 < S.size + T.size := by omega
        clear hRi hk hiz hiR hT hLT hm HT
        go_wp2_with fail
        refine (hput.out _).mono ?_
        rintro e w4 ⟨rfl, hb4⟩
        have hbl2 := gr_call hbl hb4
        go_wp2_with fail
        go_roundw
        case rel => exact ⟨i + 1, S ++ T, by first | rfl | trivial, by first | rfl | go_num, by omega, hbl2, HT2⟩
        case measure => simp only [intOf]; omega
    · have l1 : decide ((i : Int) < (n : Int)) = false := decide_eq_false (by omega)
      have l1' : decide (i < n) = false := decide_eq_false hlt
      have HS := HT.out
      rw [List.take_of_length_le (by rw [HRl.out]; omega)] at HS
      have hLS := Lib.hid HS.1
      have hR12 := Lib.hid HS.2
      obtain rfl : n = i := by omega
      clear HT HS hlt
      obtain ⟨z, hz⟩ : ∃ z, S.size = z := ⟨_, rfl⟩
      have hg8 := fun w => get_any S ((z : Int) + 1) 0 (by omega) w
      rw [get_bad (by rw [size_L, hz]; omega)] at hg8
      have hg9 := fun w => get_any S 0 (-1) (by omega) w
      rw [get_bad (by omega)] at hg9
      unfold getV at hg8 hg9
      replace hg8 := Lib.hid hg8
      replace hg9 := Lib.hid hg9
      rw [hz] at hSz
      have hzw : IntKind.i64.wrap ((z : Int) + 1) = (z : Int) + 1 := by rw [IntKind.wrap_i64]; omega
      have herr := err_any
      go_wp2_with fail
      go_loopw [5, 6] (fun av iv wj => ∃ (i A : Nat), av = .int .i64 (A : Int) ∧ iv = .int .i64 (i : Int) ∧ i ≤ n ∧ Below w.heap.size w wj ∧ Hid ((rowsL (R.take i)).length = A)) (fun _ iv _ => n - (intOf iv).toNat)
      case atStart => exact ⟨0, 0, rfl, rfl, by omega, hbl, Lib.hid rfl⟩
      case round =>
        obtain ⟨i, A, rfl, rfl, hi2, hbl2, HT⟩ := hrel
        rename_i wq
        by_cases hlt : i < n
        · have m1 : decide ((i : Int) < (n : Int)) = true := decide_eq_true (by omega)
          have m1' : decide (i < n) = true := decide_eq_true hlt
          have i0 : (0 : Int) ≤ (i : Int) := by omega
          have i1 : (i : Int) < (n : Int) := by omega
          obtain ⟨h1, h2, h3⟩ := Hat.out
          rcases h3 with h3 | ⟨b, off, rfl, hcap, hbs, hcell⟩
          · omega
          have hiz : i < z0.length := by omega
          have hiR : i < R.length := by rw [HRl.out]; exact hlt
          have c0 := cell_kept hbl2 (hcell i hiz)
          have hRi := HRi.out i hiz hiR
          obtain ⟨X, hX⟩ : ∃ X, z0[i] = X := ⟨_, rfl⟩
          rw [hX] at c0 hRi
          have hXl : X.size ≤ 1200 := by rw [← size_L, ← hRi]; exact hR12.out _ (List.getElem_mem hiR)
          have hgp := get_pad (rowsL (R.take i)) (L X) (rowsL (R.drop (i + 1))) (by rw [size_L]; omega)
          rw [← hRi, ← rows_cut R i hiR, ← hLS.out, HT.out] at hgp
          have hsucc := rows_succ R i hiR
          have hA2 : (rowsL (R.take (i + 1))).length = A + (padL R[i]).length := by rw [hsucc, List.length_append, HT.out]
          obtain ⟨A2, hA3⟩ : ∃ A2, A + (padL R[i]).length = A2 := ⟨_, rfl⟩
          have hg := fun w => get_any S (A : Int) (X.size : Int) (by omega) w
          rw [show ((X.size : Nat) : Int) = ((R[i].length : Nat) : Int) by rw [hRi, size_L], hgp, show (A : Int) + ((padL R[i]).length : Int) = (A2 : Int) by omega] at hg
          unfold getV at hg
          simp only [hRi, strOf_L, size_L] at hg
          have HT2 := Lib.hid (show (rowsL (R.take (i + 1))).length = A2 by rw [hA2, hA3])
          have n1 : decide ((A2 : Int) < (A : Int)) = false := decide_eq_false (by omega)
          have n1' : decide (A2 < A) = false := decide_eq_false (by omega)
          have hsame : (X.toList == X.toList) = true := by simp
          replace hg := Lib.hid hg
          clear hX hcell h1 h2 hgp hsucc hA2 hA3 hRi hiz hiR HT
          go_wp2_with fail
          refine (hg.out _).mono ?_
          rintro e w4 ⟨rfl, hb4⟩
          have c1 := cell_kept hb4 c0
          have hbl3 := gr_call hbl2 hb4
          clear c0 hb4 hg
          go_wp2_with (first | (go_at_call 14; refine (herr _ _).mono ?_; rintro e w5 ⟨rfl, rfl⟩))
          go_roundw
          case rel => exact ⟨i + 1, A2, by first | rfl | trivial, by first | rfl | go_num, by omega, hbl3, HT2⟩
          case measure => simp only [intOf]; omega
        · have m1 : decide ((i : Int) < (n : Int)) = false := decide_eq_false (by omega)
          have m1' : decide (i < n) = false := decide_eq_false hlt
          have hAz : A = z := by
            have h1 := HT.out
            rw [List.take_of_length_le (by rw [HRl.out]; omega), ← hLS.out, size_L, hz] at h1
            exact h1.symm
          subst hAz
          clear HT hLS hR12 hlt
          go_wp2_with fail
          refine (hg8.out _).mono ?_
          rintro e w4 ⟨rfl, hb4⟩
          have hbl3 := gr_call hbl2 hb4
          clear hb4
          go_wp2_with fail
          refine (hg9.out _).mono ?_
          rintro e w5 ⟨rfl, hb5⟩
          have hbl4 := gr_call hbl3 hb5
          clear hb5
          go_wp2_with (first | (go_at_call 14; refine (herr _ _).mono ?_; rintro e w5 ⟨rfl, rfl⟩))
          refine (haw.out _).mono ?_
          rintro e w6 ⟨rfl, hb6⟩
          go_wp2_with fail
          go_ret
          exact ⟨rfl, gr_call hbl4 hb6⟩
end Go.Proofs.YtkklgdefliinoaaDoor
