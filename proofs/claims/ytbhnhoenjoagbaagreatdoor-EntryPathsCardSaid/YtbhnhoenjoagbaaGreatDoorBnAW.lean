/- Bundle of 3 texts. -/
import Derived.Test.YtbhnhoenjoagbaaGreatDoorBnAV
import Derived.Test.YtbhnhoenjoagbaaGreatDoorBnAE
import Derived.StillTailTactics
import Derived.Test.YtbhnhoenjoagbaaGreatDoorBnAV
import Derived.Test.YtbhnhoenjoagbaaGreatDoorBnAU
import Derived.Sort.Walk0
import Derived.Test.YtbhnhoenjoagbaaGreatDoorBnAV
/- Walks over the document's answer: Escape, nibble, GetEscape. -/
namespace Go.Proofs.YtbhnhoenjoagbaaGreatDoor.EscW
open Go.RowKit
open EscM
set_option linter.unusedVariables false

theorem low4 (c : Nat) (h : c < 256) : bits .and .u8 (c : Int) 15 = ((c % 16 : Nat) : Int) := by
  rw [show (15 : Int) = ((15 : Nat) : Int) from rfl, and_u8 _ _ h (by decide)]
  rw [show (15 : Nat) = 2 ^ 4 - 1 from rfl, Nat.and_two_pow_sub_one_eq_mod]

set_option maxHeartbeats 1600000 in
theorem refEscape_any (s : ByteArray) (hs : s.size ≤ 20000) (w : World) :
    Calls Tryz.prog 150 #[.string s] w fun e w' => e = .returned (.string ⟨(put s.data.toList).toArray⟩) ∧ Below w.heap.size w w' := by
  obtain ⟨n, hn⟩ : ∃ n, s.size = n := ⟨_, rfl⟩
  rw [hn] at hs
  have hsl := Lib.hid (show s.data.toList.length = n by rw [← hn]; simp)
  obtain ⟨D, hD⟩ : ∃ D : ByteArray, D = ⟨#[48, 49, 50, 51, 52, 53, 54, 55, 56, 57, 65, 66, 67, 68, 69, 70]⟩ := ⟨_, rfl⟩
  have hxD : ∀ (k : Nat) (x : Int) (kd : IntKind), x = (k : Int) → k < 16 → ∀ w, (Instr.index 9 (.string D) (.int kd x)).run Tryz.prog w = .ok (.int .u8 ((H k).toNat : Int)) w := by
    rw [hD]
    exact idxH
  go_enter Tryz.func150, Tryz.ntmps150
  rw [← hD]
  clear hD
  have HxD := Lib.hid hxD
  clear hxD
  go_wp2_with fail
  go_loopw [3, 5] (fun ov iv wr => ∃ (i : Nat) (acc : List UInt8), iv = .int .i64 (i : Int) ∧ i ≤ n ∧ BRow w.heap.size ov acc wr ∧ Below w.heap.size w wr ∧ acc ++ put (s.data.toList.drop i) = put s.data.toList ∧ acc.length ≤ 3 * i) (fun _ iv _ => n - (intOf iv).toNat)
  case atStart => exact ⟨0, [], rfl, by omega, BRow.nil _ _, Below.refl _ _, by simp, by simp⟩
  case round =>
    obtain ⟨i, acc, rfl, hi, hR, hbl, hacc, hal⟩ := hrel
    have Hacc := Lib.hid hacc
    clear hacc
    by_cases hlt : i < n
    · obtain ⟨c, hc, hidx⟩ := idx_at Tryz.underlying9 s i (by omega)
      have hlt' : (i : Int) < (n : Int) := by omega
      have Hdr := Lib.hid (drop_at hc)
      have hc256 := c.toNat_lt
      have hx1 := HxD.out (c.toNat / 16) ((c.toNat : Int) / 16) .u8 (by omega) (by omega)
      have hx2 := HxD.out (c.toNat % 16) _ .u8 rfl (by omega)
      have hlow := low4 c.toNat hc256
      generalize ((c.toNat % 16 : Nat) : Int) = y at hx2 hlow
      obtain ⟨x, hx⟩ : ∃ x : Int, x = (c.toNat : Int) := ⟨_, rfl⟩
      rw [← hx] at hidx hx1 hlow
      by_cases hp : self c = true
      · have Hp := Lib.hid hp
        simp only [self, Bool.and_eq_true, decide_eq_true_eq] at hp
        obtain ⟨⟨⟨h1, h2⟩, h3⟩, h4⟩ := hp
        have g1 : ¬ x < 33 := by omega
        have g2 : ¬ 126 < x := by omega
        have g3 : (x == 37) = false := by rw [beq_eq_false_iff_ne]; omega
        have g4 : (x == 61) = false := by rw [beq_eq_false_iff_ne]; omega
        have HX := Lib.hid hx
        have hlen : acc.length + [c].length ≤ 1000000 := by simp only [List.length_singleton]; omega
        have hszw := hbl.size
        clear hx h1 h2 h3 h4 hc hx1 hx2 hlow
        go_wp2_with (at_builtin; refine wp_append rfl _ _ rfl w.heap.size _ _ wr [c] _ ?harr rfl (by exact hR) rfl hlen hszw ?_)
        case harr => rw [HX.out]; rfl
        intro v' w' hR' hb'
        have hbl' := hbl.trans hb'
        clear hR hbl hb' hidx
        go_wp2_with fail
        go_roundw
        case rel =>
          refine ⟨i + 1, _, rfl, by omega, hR', hbl', ?_, by simp; omega⟩
          have h5 := Hacc.out
          rw [Hdr.out, put_cons, enc, if_pos Hp.out] at h5
          rw [← h5]; simp
        case measure => simp only [intOf]; omega
      · have Hp := Lib.hid hp
        have hcase : (x < 33) ∨ (¬ x < 33 ∧ 126 < x) ∨ (¬ x < 33 ∧ ¬ 126 < x ∧ (x == 37) = true) ∨ (¬ x < 33 ∧ ¬ 126 < x ∧ (x == 37) = false ∧ (x == 61) = true) := by
          rw [beq_eq_false_iff_ne, beq_iff_eq, beq_iff_eq]
          simp only [self, Bool.and_eq_true, decide_eq_true_eq] at hp
          omega
        have hlen : acc.length + [37, H (c.toNat / 16), H (c.toNat % 16)].length ≤ 1000000 := by simp only [List.length_cons, List.length_nil]; omega
        have hszw := hbl.size
        generalize hd1 : H (c.toNat / 16) = d1 at hx1 hlen
        generalize hd2 : H (c.toNat % 16) = d2 at hx2 hlen
        have Hd1 := Lib.hid hd1
        have Hd2 := Lib.hid hd2
        clear hx hp hc hd1 hd2
        rcases hcase with h | ⟨h, h'⟩ | ⟨h, h', h''⟩ | ⟨h, h', h'', h'''⟩ <;>
        (go_wp2_with fail
         go_region_held3 (fun w' => True) (trivial)
           ((refine step_append_b rfl _ _ rfl w.heap.size _ _ [37, d1, d2] _ (by rfl) (by rfl) ((hR.alloc _).drew) _ (heap_alloc_new wr _) (by rfl) (Nat.succ_pos _) hlen (by simp; omega) w (gr_drew (gr_alloc hbl _)) ?_; intro v' w' hR' hbl'))
         all_goals
           clear hR hbl hidx hx1 hx2 hlow
           go_wp2_with fail
           go_roundw
           case rel =>
             refine ⟨i + 1, _, rfl, by omega, hR', hbl', ?_, by simp; omega⟩
             have h5 := Hacc.out
             rw [Hdr.out, put_cons, enc, if_neg Hp.out, Hd1.out, Hd2.out] at h5
             rw [← h5]; simp
           case measure => simp only [intOf]; omega)
    · have hlt' : ¬ (i : Int) < (n : Int) := by omega
      have h5 := Hacc.out
      rw [List.drop_eq_nil_of_le (by rw [hsl.out]; omega), put_nil, List.append_nil] at h5
      have Ha := Lib.hid h5
      have hst := hR.str
      clear h5
      go_wp2_with fail
      go_ret
      exact ⟨ret_str (by rw [Ha.out]), hbl⟩

end Go.Proofs.YtbhnhoenjoagbaaGreatDoor.EscW

/- The document's answer: whether a list of names with values may be. -/
namespace Go.Proofs.YtbhnhoenjoagbaaGreatDoor.XatW
open Go.RowKit
open XatM
set_option linter.unusedVariables false

theorem less_str (A B : ByteArray) : Op.bytesLess A.toList B.toList = decide (A.data.toList < B.data.toList) := by
  rw [Lib.toList_data, Lib.toList_data, bytesLess_eq]
theorem okAt_x {l : List Xa} {i : Nat} {x : Xa} (hx : l[i]? = some x) (h : okX x = false) : okAt l i = false := by
  unfold okAt
  rw [hx]
  simp only [h, Bool.false_and]
theorem okAt_lt {l : List Xa} {i : Nat} {x y : Xa} (hx : l[i + 1]? = some x) (hy : l[i]? = some y) (h : ¬ y.1 < x.1) : okAt l (i + 1) = false := by
  unfold okAt
  rw [hx]
  simp only [hy, decide_eq_false h, Bool.and_false]
theorem okAt_zero {l : List Xa} {x : Xa} (hx : l[0]? = some x) (h : okX x = true) : okAt l 0 = true := by
  unfold okAt
  rw [hx]
  simp only [h, Bool.and_true]
theorem okAt_succ {l : List Xa} {i : Nat} {x y : Xa} (hx : l[i + 1]? = some x) (hy : l[i]? = some y) (h : okX x = true) (hlt : y.1 < x.1) : okAt l (i + 1) = true := by
  unfold okAt
  rw [hx]
  simp only [hy, h, decide_eq_true hlt, Bool.and_true]
theorem okX_no1 {x : Xa} (h : x.1 = []) : okX x = false := by unfold okX; rw [decide_eq_false (by simp [h])]; rfl
theorem okX_no2 {x : Xa} (h : x.1.contains 0 = true) : okX x = false := by unfold okX; rw [h]; simp
theorem okX_no3 {x : Xa} (h : ¬ (EscM.put x.1).length ≤ 238) : okX x = false := by unfold okX; rw [decide_eq_false h]; simp
theorem okX_no4 {x : Xa} (h : ¬ x.2.length ≤ 4096) : okX x = false := by unfold okX; rw [decide_eq_false h]; simp
theorem okX_yes {x : Xa} (h1 : x.1 ≠ []) (h2 : x.1.contains 0 = false) (h3 : (EscM.put x.1).length ≤ 238) (h4 : x.2.length ≤ 4096) : okX x = true := by
  unfold okX
  rw [decide_eq_true h1, h2, decide_eq_true h3, decide_eq_true h4]; rfl
attribute [local irreducible] Row At

set_option maxHeartbeats 3200000 in
set_option maxRecDepth 100000 in
theorem refMayX_any (v : Value) (l : List Xa) (w : World) (hat : At xatE v l w) (hl : l.length ≤ 1000000) :
    Calls Tryz.prog 111 #[v] w fun e w' => e = .returned (.bool (mayL l)) ∧ Below w.heap.size w w' := by
  have HA := Lib.hid (fun (h : ∀ i, i < l.length → okAt l i = true) => may_all h)
  have HB := Lib.hid (fun i (hi : i < l.length) (h : okAt l i = false) => may_bad hi h)
  obtain ⟨z, hz⟩ : ∃ z, l.length = z := ⟨_, rfl⟩
  obtain ⟨p, cap, rfl, hcap, hcell⟩ := two_look xat_two hat
  rw [hz] at hl hcap hat ⊢
  have Hcell := Lib.hid hcell
  have Hz := Lib.hid hz
  have HT1 := Lib.hid (fun (N : ByteArray) (h : N.size ≤ 238) w => refHasAny_any N ⟨#[0]⟩ (by omega) (by decide) w)
  have HT2 := Lib.hid (fun (N : ByteArray) (h : N.size ≤ 238) w => EscW.refEscape_any N (by omega) w)
  obtain ⟨Z0, hZ0⟩ : ∃ O : ByteArray, (⟨#[0]⟩ : ByteArray) = O := ⟨_, rfl⟩
  have HZl := Lib.hid (show Z0.data.toList = [0] by rw [← hZ0])
  rw [hZ0] at HT1
  clear hcell hz hat
  go_enter Tryz.func111, Tryz.ntmps111
  simp only [hZ0]
  clear hZ0
  go_wp2_with fail
  go_loopw [3] (fun iv wr => ∃ i : Nat, iv = .int .i64 (i : Int) ∧ i ≤ z ∧ Below w.heap.size w wr ∧ Hid (∀ j, j < i → okAt l j = true)) (fun iv _ => z - (intOf iv).toNat)
  case atStart => exact ⟨0, rfl, by omega, Below.refl _ _, Lib.hid (fun j h => by omega)⟩
  case round =>
    obtain ⟨i, rfl, hi, hbl, HR⟩ := hrel
    rename World => wr
    by_cases hlt : i < z
    · have hlt' : decide ((i : Int) < (z : Int)) = true := decide_eq_true (by omega)
      have hlt2 : decide (i < z) = true := decide_eq_true hlt
      have hi' : i < l.length := by rw [Hz.out]; exact hlt
      obtain ⟨g, off, rfl, hg, c0, c1⟩ := Hcell.out i hi'
      replace c0 := cell_kept hbl c0
      replace c1 := cell_kept hbl c1
      have hx : l[i]? = some l[i] := List.getElem?_eq_getElem hi'
      have HBx := Lib.hid (fun h => HB.out i hi' (okAt_x hx h))
      have HO : Hid (mayL l = false ∨ (okX l[i] = true ∧ okAt l i = false → mayL l = false)) := Lib.hid (.inr fun h => HB.out i hi' h.2)
      obtain ⟨x, hxx⟩ : ∃ x, l[i] = x := ⟨_, rfl⟩
      rw [hxx] at hx HBx c0 c1
      clear HO
      have Hx := Lib.hid hx
      obtain ⟨N, hN⟩ : ∃ N, strOf x.1 = N := ⟨_, rfl⟩
      obtain ⟨V, hV⟩ : ∃ V, strOf x.2 = V := ⟨_, rfl⟩
      have hNl : N.data.toList = x.1 := by rw [← hN, strOf_list]
      have hVl : V.size = x.2.length := by rw [← hV, strOf_size]
      have hNs : N.size = x.1.length := by rw [← hN, strOf_size]
      rw [hN] at c0
      rw [hV] at c1
      clear hN hV hx hxx hi'
      by_cases k1 : x.1 = []
      · have HE := Lib.hid (HBx.out (okX_no1 k1))
        have f1 : ((N.size : Int) == 0) = true := by rw [beq_iff_eq, hNs, k1]; rfl
        have f2 : (N.size == 0) = true := by rw [beq_iff_eq, hNs, k1]; rfl
        clear hNl hVl hNs k1 HBx HR Hx
        go_wp2_with fail
        go_ret
        exact ⟨by rw [HE.out]; rfl, hbl⟩
      have f1 : ((N.size : Int) == 0) = false := by rw [beq_eq_false_iff_ne, hNs]; intro e; exact k1 (List.eq_nil_of_length_eq_zero (by omega))
      have f2 : (N.size == 0) = false := by rw [beq_eq_false_iff_ne, hNs]; intro e; exact k1 (List.eq_nil_of_length_eq_zero (by omega))
      by_cases k2 : 238 < N.size
      · have HE := Lib.hid (HBx.out (okX_no3 (by have := put_mono x.1; omega)))
        have f3 : decide ((238 : Int) < (N.size : Int)) = true := decide_eq_true (by omega)
        have f4 : decide (238 < N.size) = true := decide_eq_true k2
        clear hNl hVl hNs k1 k2 HBx HR Hx
        go_wp2_with fail
        go_ret
        exact ⟨by rw [HE.out]; rfl, hbl⟩
      have f3 : decide ((238 : Int) < (N.size : Int)) = false := decide_eq_false (by omega)
      have f4 : decide (238 < N.size) = false := decide_eq_false k2
      have ht1 := Lib.hid (HT1.out N (by omega))
      rw [HZl.out, any_one, hNl] at ht1
      rcases k3 : x.1.contains 0 with _ | _
      case true =>
        rw [k3] at ht1
        have HE := Lib.hid (HBx.out (okX_no2 k3))
        clear hNl hVl hNs k1 k2 k3 HBx HR Hx
        go_wp2_with fail
        refine (ht1.out _).mono ?_
        rintro e w2 ⟨rfl, hb2⟩
        replace hbl := gr_call hbl hb2
        go_wp2_with fail
        go_ret
        exact ⟨by rw [HE.out]; rfl, hbl⟩
      rw [k3] at ht1
      have ht2 := Lib.hid (HT2.out N (by omega))
      rw [hNl] at ht2
      obtain ⟨P, hP⟩ : ∃ P : ByteArray, ⟨(EscM.put x.1).toArray⟩ = P := ⟨_, rfl⟩
      have hPs : P.size = (EscM.put x.1).length := by rw [← hP]; simp [ByteArray.size]
      rw [hP] at ht2
      clear hP
      by_cases k4 : (EscM.put x.1).length ≤ 238
      case neg =>
        have HE := Lib.hid (HBx.out (okX_no3 k4))
        have f5 : decide ((238 : Int) < (P.size : Int)) = true := decide_eq_true (by omega)
        have f6 : decide (238 < P.size) = true := decide_eq_true (by omega)
        clear hNl hVl hNs k1 k2 k3 k4 HBx HR Hx hPs
        go_wp2_with fail
        refine (ht1.out _).mono ?_
        rintro e w2 ⟨rfl, hb2⟩
        replace hbl := gr_call hbl hb2
        go_wp2_with fail
        refine (ht2.out _).mono ?_
        rintro e w3 ⟨rfl, hb3⟩
        replace hbl := gr_call hbl hb3
        go_wp2_with fail
        go_ret
        exact ⟨by rw [HE.out]; rfl, hbl⟩
      have f5 : decide ((238 : Int) < (P.size : Int)) = false := decide_eq_false (by omega)
      have f6 : decide (238 < P.size) = false := decide_eq_false (by omega)
      by_cases k5 : x.2.length ≤ 4096
      case neg =>
        have HE := Lib.hid (HBx.out (okX_no4 k5))
        have f7 : decide ((4096 : Int) < (V.size : Int)) = true := decide_eq_true (by omega)
        have f8 : decide (4096 < V.size) = true := decide_eq_true (by omega)
        clear hNl hVl hNs k1 k2 k3 k4 k5 HBx HR Hx hPs
        go_wp2_with fail
        refine (ht1.out _).mono ?_
        rintro e w2 ⟨rfl, hb2⟩
        replace hbl := gr_call hbl hb2
        replace c0 := cell_kept hb2 c0
        replace c1 := cell_kept hb2 c1
        try replace d0 := cell_kept hb2 d0
        clear hb2
        go_wp2_with fail
        refine (ht2.out _).mono ?_
        rintro e w3 ⟨rfl, hb3⟩
        replace hbl := gr_call hbl hb3
        replace c0 := cell_kept hb3 c0
        replace c1 := cell_kept hb3 c1
        try replace d0 := cell_kept hb3 d0
        clear hb3
        go_wp2_with fail
        go_ret
        exact ⟨by rw [HE.out]; rfl, hbl⟩
      have f7 : decide ((4096 : Int) < (V.size : Int)) = false := decide_eq_false (by omega)
      have f8 : decide (4096 < V.size) = false := decide_eq_false (by omega)
      have HX := Lib.hid (okX_yes k1 k3 k4 k5)
      clear k1 k2 k3 k4 k5 HBx hVl hNs hPs
      rcases i with _ | j
      · have HN : Hid (∀ j, j < 0 + 1 → okAt l j = true) := Lib.hid (fun j hj => by
          obtain rfl : j = 0 := by omega
          exact okAt_zero Hx.out HX.out)
        clear HR Hx HX hNl
        rw [Nat.zero_mul, Nat.add_zero] at c0 c1
        go_wp2_with fail
        refine (ht1.out _).mono ?_
        rintro e w2 ⟨rfl, hb2⟩
        replace hbl := gr_call hbl hb2
        replace c0 := cell_kept hb2 c0
        replace c1 := cell_kept hb2 c1
        try replace d0 := cell_kept hb2 d0
        clear hb2
        go_wp2_with fail
        refine (ht2.out _).mono ?_
        rintro e w3 ⟨rfl, hb3⟩
        replace hbl := gr_call hbl hb3
        replace c0 := cell_kept hb3 c0
        replace c1 := cell_kept hb3 c1
        try replace d0 := cell_kept hb3 d0
        clear hb3
        go_wp2_with fail
        go_roundw
        case rel => exact ⟨1, rfl, by omega, hbl, HN⟩
        case measure => simp only [intOf]; omega
      · have hj : j < l.length := by rw [Hz.out]; omega
        obtain ⟨g', off', e, hg', d0, d1⟩ := Hcell.out j hj
        cases e
        replace d0 := cell_kept hbl d0
        clear d1
        have hy : l[j]? = some l[j] := List.getElem?_eq_getElem hj
        obtain ⟨y, hyy⟩ : ∃ y, l[j] = y := ⟨_, rfl⟩
        rw [hyy] at hy d0
        have g0 : decide ((0 : Int) < ((j + 1 : Nat) : Int)) = true := decide_eq_true (by omega)
        have g1 : decide (0 < j + 1) = true := decide_eq_true (by omega)
        have hcm : (Op.bytesLess N.toList (strOf y.1).toList || N.toList == (strOf y.1).toList) = !decide (y.1 < x.1) := by
          rw [less_str, str_beq, strOf_list, hNl]
          by_cases h1 : y.1 < x.1
          · rw [decide_eq_true h1, decide_eq_false (lt_asymm h1), decide_eq_false (lt_ne h1).symm]; rfl
          · rw [decide_eq_false h1]
            by_cases h2 : x.1 = y.1
            · rw [decide_eq_true h2, Bool.or_true]; rfl
            · rw [decide_eq_true (lt_total h1 (Ne.symm h2))]; rfl
        by_cases k6 : y.1 < x.1
        · rw [decide_eq_true k6] at hcm
          have HN : Hid (∀ i, i < j + 1 + 1 → okAt l i = true) := Lib.hid (fun i hj => by
            by_cases hji : i = j + 1
            · subst hji; exact okAt_succ Hx.out hy HX.out k6
            · exact HR.out i (by omega))
          clear HR Hx HX hNl hy hyy k6 hj
          generalize strOf y.1 = Y at *
          simp only [Bool.not_true] at hcm
          go_wp2_with fail
          refine (ht1.out _).mono ?_
          rintro e w2 ⟨rfl, hb2⟩
          replace hbl := gr_call hbl hb2
          replace c0 := cell_kept hb2 c0
          replace c1 := cell_kept hb2 c1
          try replace d0 := cell_kept hb2 d0
          clear hb2
          go_wp2_with fail
          refine (ht2.out _).mono ?_
          rintro e w3 ⟨rfl, hb3⟩
          replace hbl := gr_call hbl hb3
          replace c0 := cell_kept hb3 c0
          replace c1 := cell_kept hb3 c1
          try replace d0 := cell_kept hb3 d0
          clear hb3
          go_wp2_with fail
          go_roundw
          case rel => exact ⟨j + 1 + 1, rfl, by omega, hbl, HN⟩
          case measure => simp only [intOf]; omega
        · rw [decide_eq_false k6] at hcm
          have HE := Lib.hid (HB.out (j + 1) (by rw [Hz.out]; exact hlt) (okAt_lt Hx.out hy k6))
          clear HR Hx HX hNl hy hyy k6 hj
          generalize strOf y.1 = Y at *
          simp only [Bool.not_false] at hcm
          go_wp2_with fail
          refine (ht1.out _).mono ?_
          rintro e w2 ⟨rfl, hb2⟩
          replace hbl := gr_call hbl hb2
          replace c0 := cell_kept hb2 c0
          replace c1 := cell_kept hb2 c1
          try replace d0 := cell_kept hb2 d0
          clear hb2
          go_wp2_with fail
          refine (ht2.out _).mono ?_
          rintro e w3 ⟨rfl, hb3⟩
          replace hbl := gr_call hbl hb3
          replace c0 := cell_kept hb3 c0
          replace c1 := cell_kept hb3 c1
          try replace d0 := cell_kept hb3 d0
          clear hb3
          go_wp2_with fail
          go_ret
          exact ⟨by rw [HE.out]; rfl, hbl⟩
    · have hlt' : decide ((i : Int) < (z : Int)) = false := decide_eq_false (by omega)
      have hlt2 : decide (i < z) = false := decide_eq_false hlt
      have HE := Lib.hid (HA.out (fun j hj => HR.out j (by rw [Hz.out] at hj; omega)))
      rw [Hz.out] at HE
      clear HR HA HB Hcell
      go_wp2_with fail
      go_ret
      exact ⟨ret_bool (by rw [HE.out, Bool.eq_iff_iff, decide_eq_true_eq, decide_eq_true_eq]; omega), hbl⟩
end Go.Proofs.YtbhnhoenjoagbaaGreatDoor.XatW

/- Package xattr: May (the loop). -/
namespace Go.Proofs.YtbhnhoenjoagbaaGreatDoor.XatW
open Go.RowKit
open XatM
set_option linter.unusedVariables false
theorem okX_name (x : Xa) : okX x = (nameOk x.1 && decide (x.2.length ≤ 4096)) := rfl
attribute [local irreducible] Row At

set_option maxHeartbeats 3200000 in
set_option maxRecDepth 100000 in
theorem MayX_go (HP : PutC) (v : Value) (l : List Xa) (w : World) (hat : At xatE v l w) (hl : l.length ≤ 1000000) :
    Calls Tryz.prog 143 #[v] w fun e w' => e = .returned (.bool (mayL l)) ∧ Below w.heap.size w w' := by
  have HN := Lib.hid (mayName_any HP)
  clear HP
  have HA := Lib.hid (fun (h : ∀ i, i < l.length → okAt l i = true) => may_all h)
  have HB := Lib.hid (fun i (hi : i < l.length) (h : okAt l i = false) => may_bad hi h)
  obtain ⟨z, hz⟩ : ∃ z, l.length = z := ⟨_, rfl⟩
  obtain ⟨p, cap, rfl, hcap, hcell⟩ := two_look xat_two hat
  rw [hz] at hl hcap hat ⊢
  have Hcell := Lib.hid hcell
  have Hz := Lib.hid hz
  clear hcell hz hat
  by_cases k0 : 32 < z
  · have f0 : decide ((32 : Int) < (z : Int)) = true := decide_eq_true (by omega)
    have f1 : decide (32 < z) = true := decide_eq_true k0
    have HE := Lib.hid (show mayL l = false by unfold mayL; rw [decide_eq_false (by rw [Hz.out]; omega)]; rfl)
    clear k0 HA HB
    go_enter Tryz.func143, Tryz.ntmps143
    go_wp2_with fail
    go_ret
    exact ⟨ret_bool HE.out.symm, Below.refl _ _⟩
  have f0 : decide ((32 : Int) < (z : Int)) = false := decide_eq_false (by omega)
  have f1 : decide (32 < z) = false := decide_eq_false k0
  have K0 := Lib.hid k0
  clear k0
  go_enter Tryz.func143, Tryz.ntmps143
  go_wp2_with fail
  go_loopw [10] (fun iv wr => ∃ i : Nat, iv = .int .i64 (i : Int) ∧ i ≤ z ∧ Below w.heap.size w wr ∧ Hid (∀ j, j < i → okAt l j = true)) (fun iv _ => z - (intOf iv).toNat)
  case atStart => exact ⟨0, rfl, by omega, Below.refl _ _, Lib.hid (fun j h => by omega)⟩
  case round =>
    obtain ⟨i, rfl, hi, hbl, HR⟩ := hrel
    rename World => wr
    by_cases hlt : i < z
    · have hlt' : decide ((i : Int) < (z : Int)) = true := decide_eq_true (by omega)
      have hlt2 : decide (i < z) = true := decide_eq_true hlt
      have hi' : i < l.length := by rw [Hz.out]; exact hlt
      obtain ⟨g, off, rfl, hg, c0, c1⟩ := Hcell.out i hi'
      replace c0 := cell_kept hbl c0
      replace c1 := cell_kept hbl c1
      have hx : l[i]? = some l[i] := List.getElem?_eq_getElem hi'
      have HBx := Lib.hid (fun h => HB.out i hi' (okAt_x hx h))
      obtain ⟨x, hxx⟩ : ∃ x, l[i] = x := ⟨_, rfl⟩
      rw [hxx] at hx HBx c0 c1
      have Hx := Lib.hid hx
      obtain ⟨N, hN⟩ : ∃ N, strOf x.1 = N := ⟨_, rfl⟩
      obtain ⟨V, hV⟩ : ∃ V, strOf x.2 = V := ⟨_, rfl⟩
      have hNl : N.data.toList = x.1 := by rw [← hN, strOf_list]
      have hVl : V.size = x.2.length := by rw [← hV, strOf_size]
      rw [hN] at c0
      rw [hV] at c1
      have hn := Lib.hid (HN.out N)
      rw [hNl] at hn
      clear hN hV hx hxx hi'
      rcases k1 : nameOk x.1 with _ | _
      · have HE := Lib.hid (HBx.out (by rw [okX_name, k1]; rfl))
        rw [k1] at hn
        clear hNl hVl k1 HBx HR Hx
        go_wp2_with fail
        refine (hn.out _).mono ?_
        rintro e w2 ⟨rfl, hb2⟩
        replace hbl := gr_call hbl ((gr_alloc (Below.refl _ _) _).trans (hb2.mono (by simp)))
        have b0 : w2.cell? ⟨wr.heap.size, 0, none⟩ = some (.string N) := cell_kept hb2 (by rw [World.cell?_alloc_at (w := wr) _ _ wr.heap.size 0 rfl]; rfl)
        have b1 : w2.cell? ⟨wr.heap.size, 1, none⟩ = some (.string V) := cell_kept hb2 (by rw [World.cell?_alloc_at (w := wr) _ _ wr.heap.size 1 rfl]; rfl)
        clear hb2
        go_wp2_with fail
        go_ret
        exact ⟨ret_bool HE.out.symm, hbl⟩
      rw [k1] at hn
      by_cases k2 : 4096 < x.2.length
      · have HE := Lib.hid (HBx.out (by rw [okX_name, decide_eq_false (by omega), Bool.and_false]))
        have f2 : decide ((4096 : Int) < (V.size : Int)) = true := decide_eq_true (by omega)
        have f3 : decide (4096 < V.size) = true := decide_eq_true (by omega)
        clear hNl hVl k1 k2 HBx HR Hx
        go_wp2_with fail
        refine (hn.out _).mono ?_
        rintro e w2 ⟨rfl, hb2⟩
        replace hbl := gr_call hbl ((gr_alloc (Below.refl _ _) _).trans (hb2.mono (by simp)))
        have b0 : w2.cell? ⟨wr.heap.size, 0, none⟩ = some (.string N) := cell_kept hb2 (by rw [World.cell?_alloc_at (w := wr) _ _ wr.heap.size 0 rfl]; rfl)
        have b1 : w2.cell? ⟨wr.heap.size, 1, none⟩ = some (.string V) := cell_kept hb2 (by rw [World.cell?_alloc_at (w := wr) _ _ wr.heap.size 1 rfl]; rfl)
        clear hb2
        go_wp2_with fail
        go_ret
        exact ⟨ret_bool HE.out.symm, hbl⟩
      have f2 : decide ((4096 : Int) < (V.size : Int)) = false := decide_eq_false (by omega)
      have f3 : decide (4096 < V.size) = false := decide_eq_false (by omega)
      have HX := Lib.hid (show okX x = true by rw [okX_name, k1, decide_eq_true (by omega)]; rfl)
      clear k1 k2 HBx hVl
      rcases i with _ | j
      · have HN2 : Hid (∀ j, j < 0 + 1 → okAt l j = true) := Lib.hid (fun j hj => by
          obtain rfl : j = 0 := by omega
          exact okAt_zero Hx.out HX.out)
        clear HR Hx HX hNl
        rw [Nat.zero_mul, Nat.add_zero] at c0 c1
        go_wp2_with fail
        refine (hn.out _).mono ?_
        rintro e w2 ⟨rfl, hb2⟩
        replace hbl := gr_call hbl ((gr_alloc (Below.refl _ _) _).trans (hb2.mono (by simp)))
        have b0 : w2.cell? ⟨wr.heap.size, 0, none⟩ = some (.string N) := cell_kept hb2 (by rw [World.cell?_alloc_at (w := wr) _ _ wr.heap.size 0 rfl]; rfl)
        have b1 : w2.cell? ⟨wr.heap.size, 1, none⟩ = some (.string V) := cell_kept hb2 (by rw [World.cell?_alloc_at (w := wr) _ _ wr.heap.size 1 rfl]; rfl)
        clear hb2
        go_wp2_with fail
        go_quiet (fail)
        go_wp2_with fail
        go_roundw
        case rel => exact ⟨1, rfl, by omega, by (repeat' (first | exact Below.refl _ _ | assumption | refine gr_drew ?_ | refine gr_drewN ?_ _ | refine gr_alloc ?_ _ | refine gr_set ?_ ?_ _ | refine gr_call ?_ (by assumption)) <;> (try (simp; done)) <;> (try (simp; omega)) <;> (try omega)), HN2⟩
        case measure => simp only [intOf]; omega
      · have hj : j < l.length := by rw [Hz.out]; omega
        obtain ⟨g', off', e, hg', d0, d1⟩ := Hcell.out j hj
        cases e
        replace d0 := cell_kept hbl d0
        clear d1
        have hy : l[j]? = some l[j] := List.getElem?_eq_getElem hj
        obtain ⟨y, hyy⟩ : ∃ y, l[j] = y := ⟨_, rfl⟩
        rw [hyy] at hy d0
        have g0 : decide ((0 : Int) < ((j + 1 : Nat) : Int)) = true := decide_eq_true (by omega)
        have g1 : decide (0 < j + 1) = true := decide_eq_true (by omega)
        have hs1 : ((j + 1 : Nat) : Int) - 1 = (j : Int) := by omega
        have hcm : Op.bytesLess (strOf y.1).toList N.toList = decide (y.1 < x.1) := by rw [less_str, strOf_list, hNl]
        by_cases k6 : y.1 < x.1
        · rw [decide_eq_true k6] at hcm
          have HN2 : Hid (∀ i, i < j + 1 + 1 → okAt l i = true) := Lib.hid (fun i hj => by
            by_cases hji : i = j + 1
            · subst hji; exact okAt_succ Hx.out hy HX.out k6
            · exact HR.out i (by omega))
          clear HR Hx HX hNl hy hyy k6 hj
          generalize strOf y.1 = Y at *
          go_wp2_with fail
          refine (hn.out _).mono ?_
          rintro e w2 ⟨rfl, hb2⟩
          replace hbl := gr_call hbl ((gr_alloc (Below.refl _ _) _).trans (hb2.mono (by simp)))
          have b0 : w2.cell? ⟨wr.heap.size, 0, none⟩ = some (.string N) := cell_kept hb2 (by rw [World.cell?_alloc_at (w := wr) _ _ wr.heap.size 0 rfl]; rfl)
          have b1 : w2.cell? ⟨wr.heap.size, 1, none⟩ = some (.string V) := cell_kept hb2 (by rw [World.cell?_alloc_at (w := wr) _ _ wr.heap.size 1 rfl]; rfl)
          replace d0 := cell_kept (show Below wr.heap.size wr w2 from (gr_alloc (Below.refl _ _) _).trans (hb2.mono (by simp))) d0
          clear hb2
          go_wp2_with fail
          go_quiet (fail)
          go_wp2_with fail
          go_roundw
          case rel => exact ⟨j + 1 + 1, rfl, by omega, by (repeat' (first | exact Below.refl _ _ | assumption | refine gr_drew ?_ | refine gr_drewN ?_ _ | refine gr_alloc ?_ _ | refine gr_set ?_ ?_ _ | refine gr_call ?_ (by assumption)) <;> (try (simp; done)) <;> (try (simp; omega)) <;> (try omega)), HN2⟩
          case measure => simp only [intOf]; omega
        · rw [decide_eq_false k6] at hcm
          have HE := Lib.hid (HB.out (j + 1) (by rw [Hz.out]; exact hlt) (okAt_lt Hx.out hy k6))
          clear HR Hx HX hNl hy hyy k6 hj
          generalize strOf y.1 = Y at *
          go_wp2_with fail
          refine (hn.out _).mono ?_
          rintro e w2 ⟨rfl, hb2⟩
          replace hbl := gr_call hbl ((gr_alloc (Below.refl _ _) _).trans (hb2.mono (by simp)))
          have b0 : w2.cell? ⟨wr.heap.size, 0, none⟩ = some (.string N) := cell_kept hb2 (by rw [World.cell?_alloc_at (w := wr) _ _ wr.heap.size 0 rfl]; rfl)
          have b1 : w2.cell? ⟨wr.heap.size, 1, none⟩ = some (.string V) := cell_kept hb2 (by rw [World.cell?_alloc_at (w := wr) _ _ wr.heap.size 1 rfl]; rfl)
          replace d0 := cell_kept (show Below wr.heap.size wr w2 from (gr_alloc (Below.refl _ _) _).trans (hb2.mono (by simp))) d0
          clear hb2
          go_wp2_with fail
          go_quiet (fail)
          go_wp2_with fail
          go_ret
          exact ⟨ret_bool HE.out.symm, by (repeat' (first | exact Below.refl _ _ | assumption | refine gr_drew ?_ | refine gr_drewN ?_ _ | refine gr_alloc ?_ _ | refine gr_set ?_ ?_ _ | refine gr_call ?_ (by assumption)) <;> (try (simp; done)) <;> (try (simp; omega)) <;> (try omega))⟩
    · have hlt' : decide ((i : Int) < (z : Int)) = false := decide_eq_false (by omega)
      have hlt2 : decide (i < z) = false := decide_eq_false hlt
      have HE := Lib.hid (HA.out (fun j hj => HR.out j (by rw [Hz.out] at hj; omega)))
      rw [Hz.out] at HE
      clear HR HA HB Hcell
      go_wp2_with fail
      go_ret
      exact ⟨ret_bool (by rw [HE.out, decide_eq_true (by have := K0.out; omega)]), hbl⟩
end Go.Proofs.YtbhnhoenjoagbaaGreatDoor.XatW
