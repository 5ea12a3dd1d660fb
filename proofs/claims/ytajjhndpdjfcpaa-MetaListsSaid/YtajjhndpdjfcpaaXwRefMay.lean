/- The document's answer: whether a list of names with values may be. -/
import Derived.Test.YtajjhndpdjfcpaaXwAny
import Derived.Test.YtajjhndpdjfcpaaXwRow
import Derived.Test.YtajjhndpdjfcpaaEwRef
import Derived.Sort.Walk0
namespace Go.Proofs.Ytajjhndpdjfcpaa.XatW
open Go.RowKit
open XatM
set_option linter.unusedVariables false

theorem less_str (A B : ByteArray) : Op.bytesLess A.toList B.toList = decide (A.data.toList < B.data.toList) := by
  rw [Lib.toList_data, Lib.toList_data, bytesLess_eq]
theorem okAt_x {l : List Xa} {i : Nat} {x : Xa} (hx : l[i]? = some x) (h : okX x = false) : okAt l i = false := by
  unfold okAt
  rw [hx]
  simp only [h, Bool.false_and]
theorem okAt_lt {l : List Xa} {i : Nat} {x y : Xa} (hx : l[i + 1]? = some x) (hy : l[i]? = some y) (h : ¬ y.1 < x.1) : okAt l (i + 1) = false := by
  unfold okAt
  rw [hx]
  simp only [hy, decide_eq_false h, Bool.and_false]
theorem okAt_zero {l : List Xa} {x : Xa} (hx : l[0]? = some x) (h : okX x = true) : okAt l 0 = true := by
  unfold okAt
  rw [hx]
  simp only [h, Bool.and_true]
theorem okAt_succ {l : List Xa} {i : Nat} {x y : Xa} (hx : l[i + 1]? = some x) (hy : l[i]? = some y) (h : okX x = true) (hlt : y.1 < x.1) : okAt l (i + 1) = true := by
  unfold okAt
  rw [hx]
  simp only [hy, h, decide_eq_true hlt, Bool.and_true]
theorem okX_no1 {x : Xa} (h : x.1 = []) : okX x = false := by unfold okX; rw [decide_eq_false (by simp [h])]; rfl
theorem okX_no2 {x : Xa} (h : x.1.contains 0 = true) : okX x = false := by unfold okX; rw [h]; simp
theorem okX_no3 {x : Xa} (h : ¬ (EscM.put x.1).length ≤ 238) : okX x = false := by unfold okX; rw [decide_eq_false h]; simp
theorem okX_no4 {x : Xa} (h : ¬ x.2.length ≤ 4096) : okX x = false := by unfold okX; rw [decide_eq_false h]; simp
theorem okX_yes {x : Xa} (h1 : x.1 ≠ []) (h2 : x.1.contains 0 = false) (h3 : (EscM.put x.1).length ≤ 238) (h4 : x.2.length ≤ 4096) : okX x = true := by
  unfold okX
  rw [decide_eq_true h1, h2, decide_eq_true h3, decide_eq_true h4]; rfl
attribute [local irreducible] Row At

set_option maxHeartbeats 3200000 in
set_option maxRecDepth 100000 in
theorem refMayX_any (v : Value) (l : List Xa) (w : World) (hat : At xatE v l w) (hl : l.length ≤ 1000000) :
    Calls Try.prog 23 #[v] w fun e w' => e = .returned (.bool (mayL l)) ∧ Below w.heap.size w w' := by
  have HA := Lib.hid (fun (h : ∀ i, i < l.length → okAt l i = true) => may_all h)
  have HB := Lib.hid (fun i (hi : i < l.length) (h : okAt l i = false) => may_bad hi h)
  obtain ⟨z, hz⟩ : ∃ z, l.length = z := ⟨_, rfl⟩
  obtain ⟨p, cap, rfl, hcap, hcell⟩ := two_look xat_two hat
  rw [hz] at hl hcap hat ⊢
  have Hcell := Lib.hid hcell
  have Hz := Lib.hid hz
  have HT1 := Lib.hid (fun (N : ByteArray) (h : N.size ≤ 238) w => refHasAny_any N ⟨#[0]⟩ (by omega) (by decide) w)
  have HT2 := Lib.hid (fun (N : ByteArray) (h : N.size ≤ 238) w => EscW.refEscape_any N (by omega) w)
  obtain ⟨Z0, hZ0⟩ : ∃ O : ByteArray, (⟨#[0]⟩ : ByteArray) = O := ⟨_, rfl⟩
  have HZl := Lib.hid (show Z0.data.toList = [0] by rw [← hZ0])
  rw [hZ0] at HT1
  clear hcell hz hat
  go_enter Try.func23, Try.ntmps23
  simp only [hZ0]
  clear hZ0
  go_wp2_with fail
  go_loopw [3] (fun iv wr => ∃ i : Nat, iv = .int .i64 (i : Int) ∧ i ≤ z ∧ Below w.heap.size w wr ∧ Hid (∀ j, j < i → okAt l j = true)) (fun iv _ => z - (intOf iv).toNat)
  case atStart => exact ⟨0, rfl, by omega, Below.refl _ _, Lib.hid (fun j h => by omega)⟩
  case round =>
    obtain ⟨i, rfl, hi, hbl, HR⟩ := hrel
    rename World => wr
    by_cases hlt : i < z
    · have hlt' : decide ((i : Int) < (z : Int)) = true := decide_eq_true (by omega)
      have hlt2 : decide (i < z) = true := decide_eq_true hlt
      have hi' : i < l.length := by rw [Hz.out]; exact hlt
      obtain ⟨g, off, rfl, hg, c0, c1⟩ := Hcell.out i hi'
      replace c0 := cell_kept hbl c0
      replace c1 := cell_kept hbl c1
      have hx : l[i]? = some l[i] := List.getElem?_eq_getElem hi'
      have HBx := Lib.hid (fun h => HB.out i hi' (okAt_x hx h))
      have HO : Hid (mayL l = false ∨ (okX l[i] = true ∧ okAt l i = false → mayL l = false)) := Lib.hid (.inr fun h => HB.out i hi' h.2)
      obtain ⟨x, hxx⟩ : ∃ x, l[i] = x := ⟨_, rfl⟩
      rw [hxx] at hx HBx c0 c1
      clear HO
      have Hx := Lib.hid hx
      obtain ⟨N, hN⟩ : ∃ N, strOf x.1 = N := ⟨_, rfl⟩
      obtain ⟨V, hV⟩ : ∃ V, strOf x.2 = V := ⟨_, rfl⟩
      have hNl : N.data.toList = x.1 := by rw [← hN, strOf_list]
      have hVl : V.size = x.2.length := by rw [← hV, strOf_size]
      have hNs : N.size = x.1.length := by rw [← hN, strOf_size]
      rw [hN] at c0
      rw [hV] at c1
      clear hN hV hx hxx hi'
      by_cases k1 : x.1 = []
      · have HE := Lib.hid (HBx.out (okX_no1 k1))
        have f1 : ((N.size : Int) == 0) = true := by rw [beq_iff_eq, hNs, k1]; rfl
        have f2 : (N.size == 0) = true := by rw [beq_iff_eq, hNs, k1]; rfl
        clear hNl hVl hNs k1 HBx HR Hx
        go_wp2_with fail
        go_ret
        exact ⟨by rw [HE.out]; rfl, hbl⟩
      have f1 : ((N.size : Int) == 0) = false := by rw [beq_eq_false_iff_ne, hNs]; intro e; exact k1 (List.eq_nil_of_length_eq_zero (by omega))
      have f2 : (N.size == 0) = false := by rw [beq_eq_false_iff_ne, hNs]; intro e; exact k1 (List.eq_nil_of_length_eq_zero (by omega))
      by_cases k2 : 238 < N.size
      · have HE := Lib.hid (HBx.out (okX_no3 (by have := put_mono x.1; omega)))
        have f3 : decide ((238 : Int) < (N.size : Int)) = true := decide_eq_true (by omega)
        have f4 : decide (238 < N.size) = true := decide_eq_true k2
        clear hNl hVl hNs k1 k2 HBx HR Hx
        go_wp2_with fail
        go_ret
        exact ⟨by rw [HE.out]; rfl, hbl⟩
      have f3 : decide ((238 : Int) < (N.size : Int)) = false := decide_eq_false (by omega)
      have f4 : decide (238 < N.size) = false := decide_eq_false k2
      have ht1 := Lib.hid (HT1.out N (by omega))
      rw [HZl.out, any_one, hNl] at ht1
      rcases k3 : x.1.contains 0 with _ | _
      case true =>
        rw [k3] at ht1
        have HE := Lib.hid (HBx.out (okX_no2 k3))
        clear hNl hVl hNs k1 k2 k3 HBx HR Hx
        go_wp2_with fail
        refine (ht1.out _).mono ?_
        rintro e w2 ⟨rfl, hb2⟩
        replace hbl := gr_call hbl hb2
        go_wp2_with fail
        go_ret
        exact ⟨by rw [HE.out]; rfl, hbl⟩
      rw [k3] at ht1
      have ht2 := Lib.hid (HT2.out N (by omega))
      rw [hNl] at ht2
      obtain ⟨P, hP⟩ : ∃ P : ByteArray, ⟨(EscM.put x.1).toArray⟩ = P := ⟨_, rfl⟩
      have hPs : P.size = (EscM.put x.1).length := by rw [← hP]; simp [ByteArray.size]
      rw [hP] at ht2
      clear hP
      by_cases k4 : (EscM.put x.1).length ≤ 238
      case neg =>
        have HE := Lib.hid (HBx.out (okX_no3 k4))
        have f5 : decide ((238 : Int) < (P.size : Int)) = true := decide_eq_true (by omega)
        have f6 : decide (238 < P.size) = true := decide_eq_true (by omega)
        clear hNl hVl hNs k1 k2 k3 k4 HBx HR Hx hPs
        go_wp2_with fail
        refine (ht1.out _).mono ?_
        rintro e w2 ⟨rfl, hb2⟩
        replace hbl := gr_call hbl hb2
        go_wp2_with fail
        refine (ht2.out _).mono ?_
        rintro e w3 ⟨rfl, hb3⟩
        replace hbl := gr_call hbl hb3
        go_wp2_with fail
        go_ret
        exact ⟨by rw [HE.out]; rfl, hbl⟩
      have f5 : decide ((238 : Int) < (P.size : Int)) = false := decide_eq_false (by omega)
      have f6 : decide (238 < P.size) = false := decide_eq_false (by omega)
      by_cases k5 : x.2.length ≤ 4096
      case neg =>
        have HE := Lib.hid (HBx.out (okX_no4 k5))
        have f7 : decide ((4096 : Int) < (V.size : Int)) = true := decide_eq_true (by omega)
        have f8 : decide (4096 < V.size) = true := decide_eq_true (by omega)
        clear hNl hVl hNs k1 k2 k3 k4 k5 HBx HR Hx hPs
        go_wp2_with fail
        refine (ht1.out _).mono ?_
        rintro e w2 ⟨rfl, hb2⟩
        replace hbl := gr_call hbl hb2
        replace c0 := cell_kept hb2 c0
        replace c1 := cell_kept hb2 c1
        try replace d0 := cell_kept hb2 d0
        clear hb2
        go_wp2_with fail
        refine (ht2.out _).mono ?_
        rintro e w3 ⟨rfl, hb3⟩
        replace hbl := gr_call hbl hb3
        replace c0 := cell_kept hb3 c0
        replace c1 := cell_kept hb3 c1
        try replace d0 := cell_kept hb3 d0
        clear hb3
        go_wp2_with fail
        go_ret
        exact ⟨by rw [HE.out]; rfl, hbl⟩
      have f7 : decide ((4096 : Int) < (V.size : Int)) = false := decide_eq_false (by omega)
      have f8 : decide (4096 < V.size) = false := decide_eq_false (by omega)
      have HX := Lib.hid (okX_yes k1 k3 k4 k5)
      clear k1 k2 k3 k4 k5 HBx hVl hNs hPs
      rcases i with _ | j
      · have HN : Hid (∀ j, j < 0 + 1 → okAt l j = true) := Lib.hid (fun j hj => by
          obtain rfl : j = 0 := by omega
          exact okAt_zero Hx.out HX.out)
        clear HR Hx HX hNl
        rw [Nat.zero_mul, Nat.add_zero] at c0 c1
        go_wp2_with fail
        refine (ht1.out _).mono ?_
        rintro e w2 ⟨rfl, hb2⟩
        replace hbl := gr_call hbl hb2
        replace c0 := cell_kept hb2 c0
        replace c1 := cell_kept hb2 c1
        try replace d0 := cell_kept hb2 d0
        clear hb2
        go_wp2_with fail
        refine (ht2.out _).mono ?_
        rintro e w3 ⟨rfl, hb3⟩
        replace hbl := gr_call hbl hb3
        replace c0 := cell_kept hb3 c0
        replace c1 := cell_kept hb3 c1
        try replace d0 := cell_kept hb3 d0
        clear hb3
        go_wp2_with fail
        go_roundw
        case rel => exact ⟨1, rfl, by omega, hbl, HN⟩
        case measure => simp only [intOf]; omega
      · have hj : j < l.length := by rw [Hz.out]; omega
        obtain ⟨g', off', e, hg', d0, d1⟩ := Hcell.out j hj
        cases e
        replace d0 := cell_kept hbl d0
        clear d1
        have hy : l[j]? = some l[j] := List.getElem?_eq_getElem hj
        obtain ⟨y, hyy⟩ : ∃ y, l[j] = y := ⟨_, rfl⟩
        rw [hyy] at hy d0
        have g0 : decide ((0 : Int) < ((j + 1 : Nat) : Int)) = true := decide_eq_true (by omega)
        have g1 : decide (0 < j + 1) = true := decide_eq_true (by omega)
        have hcm : (Op.bytesLess N.toList (strOf y.1).toList || N.toList == (strOf y.1).toList) = !decide (y.1 < x.1) := by
          rw [less_str, str_beq, strOf_list, hNl]
          by_cases h1 : y.1 < x.1
          · rw [decide_eq_true h1, decide_eq_false (lt_asymm h1), decide_eq_false (lt_ne h1).symm]; rfl
          · rw [decide_eq_false h1]
            by_cases h2 : x.1 = y.1
            · rw [decide_eq_true h2, Bool.or_true]; rfl
            · rw [decide_eq_true (lt_total h1 (Ne.symm h2))]; rfl
        by_cases k6 : y.1 < x.1
        · rw [decide_eq_true k6] at hcm
          have HN : Hid (∀ i, i < j + 1 + 1 → okAt l i = true) := Lib.hid (fun i hj => by
            by_cases hji : i = j + 1
            · subst hji; exact okAt_succ Hx.out hy HX.out k6
            · exact HR.out i (by omega))
          clear HR Hx HX hNl hy hyy k6 hj
          generalize strOf y.1 = Y at *
          simp only [Bool.not_true] at hcm
          go_wp2_with fail
          refine (ht1.out _).mono ?_
          rintro e w2 ⟨rfl, hb2⟩
          replace hbl := gr_call hbl hb2
          replace c0 := cell_kept hb2 c0
          replace c1 := cell_kept hb2 c1
          try replace d0 := cell_kept hb2 d0
          clear hb2
          go_wp2_with fail
          refine (ht2.out _).mono ?_
          rintro e w3 ⟨rfl, hb3⟩
          replace hbl := gr_call hbl hb3
          replace c0 := cell_kept hb3 c0
          replace c1 := cell_kept hb3 c1
          try replace d0 := cell_kept hb3 d0
          clear hb3
          go_wp2_with fail
          go_roundw
          case rel => exact ⟨j + 1 + 1, rfl, by omega, hbl, HN⟩
          case measure => simp only [intOf]; omega
        · rw [decide_eq_false k6] at hcm
          have HE := Lib.hid (HB.out (j + 1) (by rw [Hz.out]; exact hlt) (okAt_lt Hx.out hy k6))
          clear HR Hx HX hNl hy hyy k6 hj
          generalize strOf y.1 = Y at *
          simp only [Bool.not_false] at hcm
          go_wp2_with fail
          refine (ht1.out _).mono ?_
          rintro e w2 ⟨rfl, hb2⟩
          replace hbl := gr_call hbl hb2
          replace c0 := cell_kept hb2 c0
          replace c1 := cell_kept hb2 c1
          try replace d0 := cell_kept hb2 d0
          clear hb2
          go_wp2_with fail
          refine (ht2.out _).mono ?_
          rintro e w3 ⟨rfl, hb3⟩
          replace hbl := gr_call hbl hb3
          replace c0 := cell_kept hb3 c0
          replace c1 := cell_kept hb3 c1
          try replace d0 := cell_kept hb3 d0
          clear hb3
          go_wp2_with fail
          go_ret
          exact ⟨by rw [HE.out]; rfl, hbl⟩
    · have hlt' : decide ((i : Int) < (z : Int)) = false := decide_eq_false (by omega)
      have hlt2 : decide (i < z) = false := decide_eq_false hlt
      have HE := Lib.hid (HA.out (fun j hj => HR.out j (by rw [Hz.out] at hj; omega)))
      rw [Hz.out] at HE
      clear HR HA HB Hcell
      go_wp2_with fail
      go_ret
      exact ⟨ret_bool (by rw [HE.out, Bool.eq_iff_iff, decide_eq_true_eq, decide_eq_true_eq]; omega), hbl⟩
end Go.Proofs.Ytajjhndpdjfcpaa.XatW
