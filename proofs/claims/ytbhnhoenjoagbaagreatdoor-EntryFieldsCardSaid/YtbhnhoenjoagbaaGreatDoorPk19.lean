/- Bundle of 8 texts. -/
import Derived.Test.YtbhnhoenjoagbaaGreatDoorPk06
import Derived.Test.YtbhnhoenjoagbaaGreatDoorPk18
import Derived.Test.YtbhnhoenjoagbaaGreatDoorPk04
import Derived.StillTailTactics
import Derived.Sort.Walk0
/- Walks over package escape: plain, Put. -/
namespace Go.Proofs.YtbhnhoenjoagbaaGreatDoor.EscW
open Go.RowKit
open EscM
set_option linter.unusedVariables false

theorem plain_any (c : UInt8) (w : World) :
    Calls Tryz.prog 200 #[.int .u8 (c.toNat : Int)] w fun e w' => e = .returned (.bool (self c)) ∧ w' = w := by
  obtain ⟨n, hn⟩ : ∃ n, c.toNat = n := ⟨_, rfl⟩
  have hs : self c = (decide (33 ≤ n) && decide (n ≤ 126) && decide (n ≠ 37) && decide (n ≠ 61)) := by rw [← hn]; rfl
  rw [hs, hn]
  clear hs hn
  by_cases h1 : 33 ≤ n
  · have g1 : (33 : Int) ≤ (n : Int) := by omega
    by_cases h2 : n ≤ 126
    · have g2 : (n : Int) ≤ 126 := by omega
      by_cases h3 : n = 37
      · subst h3
        go_enter Tryz.func200, Tryz.ntmps200
        go_wp2_with fail
        go_ret
        exact ⟨rfl, rfl⟩
      · by_cases h4 : n = 61
        · subst h4
          go_enter Tryz.func200, Tryz.ntmps200
          go_wp2_with fail
          go_ret
          exact ⟨rfl, rfl⟩
        · have g3 : ((n : Int) != 37) = true := by simp; omega
          have g4 : ((n : Int) != 61) = true := by simp; omega
          have hr : (decide (33 ≤ n) && decide (n ≤ 126) && decide (n ≠ 37) && decide (n ≠ 61)) = true := by simp [h1, h2, h3, h4]
          rw [hr]
          clear hr h1 h2 h3 h4
          go_enter Tryz.func200, Tryz.ntmps200
          go_wp2_with fail
          go_ret
          exact ⟨rfl, rfl⟩
    · have g2 : ¬ (n : Int) ≤ 126 := by omega
      have hr : (decide (33 ≤ n) && decide (n ≤ 126) && decide (n ≠ 37) && decide (n ≠ 61)) = false := by simp [h2]
      rw [hr]
      clear hr h1 h2
      go_enter Tryz.func200, Tryz.ntmps200
      go_wp2_with fail
      go_ret
      exact ⟨rfl, rfl⟩
  · have g1 : ¬ (33 : Int) ≤ (n : Int) := by omega
    have hr : (decide (33 ≤ n) && decide (n ≤ 126) && decide (n ≠ 37) && decide (n ≠ 61)) = false := by simp [h1]
    rw [hr]
    clear hr h1
    go_enter Tryz.func200, Tryz.ntmps200
    go_wp2_with fail
    go_ret
    exact ⟨rfl, rfl⟩

theorem idxH0 (k : Nat) (kd : IntKind) (hk : k < 16) : ∀ w, (Instr.index 9 (.string ⟨digits.toArray⟩) (.int kd (k : Int))).run Tryz.prog w = .ok (.int .u8 ((H k).toNat : Int)) w := by
  intro w
  have h : k < digits.length := hk
  simp [go_sem, Tryz.underlying9, H, List.getD_eq_getElem?_getD, List.getElem?_eq_getElem h]
  rw [dif_pos h]
  rfl
theorem idxH (k : Nat) (x : Int) (kd : IntKind) (hx : x = (k : Int)) (hk : k < 16) : ∀ w, (Instr.index 9 (.string ⟨#[48, 49, 50, 51, 52, 53, 54, 55, 56, 57, 65, 66, 67, 68, 69, 70]⟩) (.int kd x)).run Tryz.prog w = .ok (.int .u8 ((H k).toNat : Int)) w := by
  subst hx
  exact idxH0 k kd hk
set_option maxHeartbeats 1600000 in
theorem Put_any (s : ByteArray) (hs : s.size ≤ 30000) (w : World) :
    Calls Tryz.prog 145 #[.string s] w fun e w' => e = .returned (.string ⟨(put s.data.toList).toArray⟩) ∧ Below w.heap.size w w' := by
  obtain ⟨n, hn⟩ : ∃ n, s.size = n := ⟨_, rfl⟩
  rw [hn] at hs
  have hsl := Lib.hid (show s.data.toList.length = n by rw [← hn]; simp)
  go_enter Tryz.func145, Tryz.ntmps145
  go_wp2_with fail
  refine (grow_b n _ rfl w (by omega)).mono ?_
  rintro e w1 ⟨rfl, hB, hb1⟩
  go_wp2_with fail
  go_loopw [11] (fun iv wr => ∃ (i : Nat) (acc : List UInt8), iv = .int .i64 (i : Int) ∧ i ≤ n ∧ Bld w.heap.size acc wr ∧ Below w.heap.size w wr ∧ acc ++ put (s.data.toList.drop i) = put s.data.toList ∧ acc.length ≤ 3 * i) (fun iv _ => n - (intOf iv).toNat)
  case atStart => exact ⟨0, [], rfl, Nat.zero_le _, hB, hb1, by simp, by simp⟩
  case round =>
    clear hB hb1
    obtain ⟨i, acc, rfl, hi, hB, hbl, hacc, hal⟩ := hrel
    have Hacc := Lib.hid hacc
    clear hacc
    by_cases hlt : i < n
    · obtain ⟨c, hc, hidx⟩ := idx_at Tryz.underlying9 s i (by omega)
      have hlt' : (i : Int) < (n : Int) := by omega
      have Hdr := Lib.hid (drop_at hc)
      have hc256 := c.toNat_lt
      clear hc
      by_cases hp : self c = true
      · have H1 := plain_any c
        rw [hp] at H1
        have Hp := Lib.hid hp
        clear hp
        go_wp2_with fail
        refine (H1 _).mono ?_
        rintro e w4 ⟨rfl, rfl⟩
        go_wp2_with fail
        refine (writeByte_b _ acc c _ rfl _ hB (by omega) (bld_lt hB)).mono ?_
        rintro e w5 ⟨rfl, hB5, hb5⟩
        have hbl5 := hbl.trans hb5
        clear hB hbl hidx H1
        go_wp2_with fail
        go_roundw
        case rel =>
          refine ⟨i + 1, _, rfl, by omega, hB5, hbl5, ?_, by simp; omega⟩
          have h5 := Hacc.out
          rw [Hdr.out, put_cons, enc, if_pos Hp.out] at h5
          rw [← h5]; simp
        case measure => simp only [intOf]; omega
      · have H1 := plain_any c
        rw [Bool.not_eq_true] at hp
        rw [hp] at H1
        have Hp := Lib.hid hp
        clear hp
        have hx1 := idxH (c.toNat / 16) ((c.toNat : Int) / 16) .u8 (by omega) (by omega)
        have hx2 := idxH (c.toNat % 16) ((c.toNat : Int) % 16) .u8 (by omega) (by omega)
        generalize hd1 : H (c.toNat / 16) = d1 at hx1
        generalize hd2 : H (c.toNat % 16) = d2 at hx2
        have Hd1 := Lib.hid hd1
        have Hd2 := Lib.hid hd2
        clear hd1 hd2
        go_wp2_with fail
        refine (H1 _).mono ?_
        rintro e w4 ⟨rfl, rfl⟩
        go_wp2_with fail
        refine (writeByte_b _ acc 37 _ rfl _ hB (by omega) (bld_lt hB)).mono ?_
        rintro e w5 ⟨rfl, hB5, hb5⟩
        have hbl5 := hbl.trans hb5
        clear hB hbl hidx H1
        go_wp2_with fail
        refine (writeByte_b _ _ d1 _ rfl _ hB5 (by simp; omega) (bld_lt hB5)).mono ?_
        rintro e w6 ⟨rfl, hB6, hb6⟩
        have hbl6 := hbl5.trans hb6
        clear hB5 hbl5
        go_wp2_with fail
        refine (writeByte_b _ _ d2 _ rfl _ hB6 (by simp; omega) (bld_lt hB6)).mono ?_
        rintro e w7 ⟨rfl, hB7, hb7⟩
        have hbl7 := hbl6.trans hb7
        clear hB6 hbl6 hx1 hx2
        go_wp2_with fail
        go_roundw
        case rel =>
          refine ⟨i + 1, _, rfl, by omega, hB7, hbl7, ?_, by simp; omega⟩
          have h5 := Hacc.out
          rw [Hdr.out, put_cons, enc, if_neg (by rw [Hp.out]; simp), Hd1.out, Hd2.out] at h5
          rw [← h5]; simp
        case measure => simp only [intOf]; omega
    · have hlt' : ¬ (i : Int) < (n : Int) := by omega
      have h5 := Hacc.out
      rw [List.drop_eq_nil_of_le (by rw [hsl.out]; omega), put_nil, List.append_nil] at h5
      subst h5
      go_wp2_with fail
      refine (string_b _ _ _ hB).mono ?_
      rintro e w5 ⟨rfl, hb5⟩
      have hbl5 := hbl.trans hb5
      go_wp2_with fail
      go_ret
      exact ⟨rfl, hbl5⟩
end Go.Proofs.YtbhnhoenjoagbaaGreatDoor.EscW

/- Walks over the document's answer: Escape, nibble, GetEscape. -/
namespace Go.Proofs.YtbhnhoenjoagbaaGreatDoor.EscW
open Go.RowKit
open EscM
set_option linter.unusedVariables false

end Go.Proofs.YtbhnhoenjoagbaaGreatDoor.EscW

/- The document's answer: whether a list of names with values may be. -/
namespace Go.Proofs.YtbhnhoenjoagbaaGreatDoor.XatW
open Go.RowKit
open XatM
set_option linter.unusedVariables false

theorem less_str (A B : ByteArray) : Op.bytesLess A.toList B.toList = decide (A.data.toList < B.data.toList) := by
  rw [Lib.toList_data, Lib.toList_data, bytesLess_eq]
theorem okAt_x {l : List Xa} {i : Nat} {x : Xa} (hx : l[i]? = some x) (h : okX x = false) : okAt l i = false := by
  unfold okAt
  rw [hx]
  simp only [h, Bool.false_and]
theorem okAt_lt {l : List Xa} {i : Nat} {x y : Xa} (hx : l[i + 1]? = some x) (hy : l[i]? = some y) (h : ¬ y.1 < x.1) : okAt l (i + 1) = false := by
  unfold okAt
  rw [hx]
  simp only [hy, decide_eq_false h, Bool.and_false]
theorem okAt_zero {l : List Xa} {x : Xa} (hx : l[0]? = some x) (h : okX x = true) : okAt l 0 = true := by
  unfold okAt
  rw [hx]
  simp only [h, Bool.and_true]
theorem okAt_succ {l : List Xa} {i : Nat} {x y : Xa} (hx : l[i + 1]? = some x) (hy : l[i]? = some y) (h : okX x = true) (hlt : y.1 < x.1) : okAt l (i + 1) = true := by
  unfold okAt
  rw [hx]
  simp only [hy, h, decide_eq_true hlt, Bool.and_true]
attribute [local irreducible] Row At

end Go.Proofs.YtbhnhoenjoagbaaGreatDoor.XatW

/- Package xattr: May (the loop). -/
namespace Go.Proofs.YtbhnhoenjoagbaaGreatDoor.XatW
open Go.RowKit
open XatM
set_option linter.unusedVariables false
theorem okX_name (x : Xa) : okX x = (nameOk x.1 && decide (x.2.length ≤ 4096)) := rfl
attribute [local irreducible] Row At

set_option maxHeartbeats 3200000 in
set_option maxRecDepth 100000 in
theorem MayX_go (HP : PutC) (v : Value) (l : List Xa) (w : World) (hat : At xatE v l w) (hl : l.length ≤ 1000000) :
    Calls Tryz.prog 143 #[v] w fun e w' => e = .returned (.bool (mayL l)) ∧ Below w.heap.size w w' := by
  have HN := Lib.hid (mayName_any HP)
  clear HP
  have HA := Lib.hid (fun (h : ∀ i, i < l.length → okAt l i = true) => may_all h)
  have HB := Lib.hid (fun i (hi : i < l.length) (h : okAt l i = false) => may_bad hi h)
  obtain ⟨z, hz⟩ : ∃ z, l.length = z := ⟨_, rfl⟩
  obtain ⟨p, cap, rfl, hcap, hcell⟩ := two_look xat_two hat
  rw [hz] at hl hcap hat ⊢
  have Hcell := Lib.hid hcell
  have Hz := Lib.hid hz
  clear hcell hz hat
  by_cases k0 : 32 < z
  · have f0 : decide ((32 : Int) < (z : Int)) = true := decide_eq_true (by omega)
    have f1 : decide (32 < z) = true := decide_eq_true k0
    have HE := Lib.hid (show mayL l = false by unfold mayL; rw [decide_eq_false (by rw [Hz.out]; omega)]; rfl)
    clear k0 HA HB
    go_enter Tryz.func143, Tryz.ntmps143
    go_wp2_with fail
    go_ret
    exact ⟨ret_bool HE.out.symm, Below.refl _ _⟩
  have f0 : decide ((32 : Int) < (z : Int)) = false := decide_eq_false (by omega)
  have f1 : decide (32 < z) = false := decide_eq_false k0
  have K0 := Lib.hid k0
  clear k0
  go_enter Tryz.func143, Tryz.ntmps143
  go_wp2_with fail
  go_loopw [10] (fun iv wr => ∃ i : Nat, iv = .int .i64 (i : Int) ∧ i ≤ z ∧ Below w.heap.size w wr ∧ Hid (∀ j, j < i → okAt l j = true)) (fun iv _ => z - (intOf iv).toNat)
  case atStart => exact ⟨0, rfl, by omega, Below.refl _ _, Lib.hid (fun j h => by omega)⟩
  case round =>
    obtain ⟨i, rfl, hi, hbl, HR⟩ := hrel
    rename World => wr
    by_cases hlt : i < z
    · have hlt' : decide ((i : Int) < (z : Int)) = true := decide_eq_true (by omega)
      have hlt2 : decide (i < z) = true := decide_eq_true hlt
      have hi' : i < l.length := by rw [Hz.out]; exact hlt
      obtain ⟨g, off, rfl, hg, c0, c1⟩ := Hcell.out i hi'
      replace c0 := cell_kept hbl c0
      replace c1 := cell_kept hbl c1
      have hx : l[i]? = some l[i] := List.getElem?_eq_getElem hi'
      have HBx := Lib.hid (fun h => HB.out i hi' (okAt_x hx h))
      obtain ⟨x, hxx⟩ : ∃ x, l[i] = x := ⟨_, rfl⟩
      rw [hxx] at hx HBx c0 c1
      have Hx := Lib.hid hx
      obtain ⟨N, hN⟩ : ∃ N, strOf x.1 = N := ⟨_, rfl⟩
      obtain ⟨V, hV⟩ : ∃ V, strOf x.2 = V := ⟨_, rfl⟩
      have hNl : N.data.toList = x.1 := by rw [← hN, strOf_list]
      have hVl : V.size = x.2.length := by rw [← hV, strOf_size]
      rw [hN] at c0
      rw [hV] at c1
      have hn := Lib.hid (HN.out N)
      rw [hNl] at hn
      clear hN hV hx hxx hi'
      rcases k1 : nameOk x.1 with _ | _
      · have HE := Lib.hid (HBx.out (by rw [okX_name, k1]; rfl))
        rw [k1] at hn
        clear hNl hVl k1 HBx HR Hx
        go_wp2_with fail
        refine (hn.out _).mono ?_
        rintro e w2 ⟨rfl, hb2⟩
        replace hbl := gr_call hbl ((gr_alloc (Below.refl _ _) _).trans (hb2.mono (by simp)))
        have b0 : w2.cell? ⟨wr.heap.size, 0, none⟩ = some (.string N) := cell_kept hb2 (by rw [World.cell?_alloc_at (w := wr) _ _ wr.heap.size 0 rfl]; rfl)
        have b1 : w2.cell? ⟨wr.heap.size, 1, none⟩ = some (.string V) := cell_kept hb2 (by rw [World.cell?_alloc_at (w := wr) _ _ wr.heap.size 1 rfl]; rfl)
        clear hb2
        go_wp2_with fail
        go_ret
        exact ⟨ret_bool HE.out.symm, hbl⟩
      rw [k1] at hn
      by_cases k2 : 4096 < x.2.length
      · have HE := Lib.hid (HBx.out (by rw [okX_name, decide_eq_false (by omega), Bool.and_false]))
        have f2 : decide ((4096 : Int) < (V.size : Int)) = true := decide_eq_true (by omega)
        have f3 : decide (4096 < V.size) = true := decide_eq_true (by omega)
        clear hNl hVl k1 k2 HBx HR Hx
        go_wp2_with fail
        refine (hn.out _).mono ?_
        rintro e w2 ⟨rfl, hb2⟩
        replace hbl := gr_call hbl ((gr_alloc (Below.refl _ _) _).trans (hb2.mono (by simp)))
        have b0 : w2.cell? ⟨wr.heap.size, 0, none⟩ = some (.string N) := cell_kept hb2 (by rw [World.cell?_alloc_at (w := wr) _ _ wr.heap.size 0 rfl]; rfl)
        have b1 : w2.cell? ⟨wr.heap.size, 1, none⟩ = some (.string V) := cell_kept hb2 (by rw [World.cell?_alloc_at (w := wr) _ _ wr.heap.size 1 rfl]; rfl)
        clear hb2
        go_wp2_with fail
        go_ret
        exact ⟨ret_bool HE.out.symm, hbl⟩
      have f2 : decide ((4096 : Int) < (V.size : Int)) = false := decide_eq_false (by omega)
      have f3 : decide (4096 < V.size) = false := decide_eq_false (by omega)
      have HX := Lib.hid (show okX x = true by rw [okX_name, k1, decide_eq_true (by omega)]; rfl)
      clear k1 k2 HBx hVl
      rcases i with _ | j
      · have HN2 : Hid (∀ j, j < 0 + 1 → okAt l j = true) := Lib.hid (fun j hj => by
          obtain rfl : j = 0 := by omega
          exact okAt_zero Hx.out HX.out)
        clear HR Hx HX hNl
        rw [Nat.zero_mul, Nat.add_zero] at c0 c1
        go_wp2_with fail
        refine (hn.out _).mono ?_
        rintro e w2 ⟨rfl, hb2⟩
        replace hbl := gr_call hbl ((gr_alloc (Below.refl _ _) _).trans (hb2.mono (by simp)))
        have b0 : w2.cell? ⟨wr.heap.size, 0, none⟩ = some (.string N) := cell_kept hb2 (by rw [World.cell?_alloc_at (w := wr) _ _ wr.heap.size 0 rfl]; rfl)
        have b1 : w2.cell? ⟨wr.heap.size, 1, none⟩ = some (.string V) := cell_kept hb2 (by rw [World.cell?_alloc_at (w := wr) _ _ wr.heap.size 1 rfl]; rfl)
        clear hb2
        go_wp2_with fail
        go_quiet (fail)
        go_wp2_with fail
        go_roundw
        case rel => exact ⟨1, rfl, by omega, by (repeat' (first | exact Below.refl _ _ | assumption | refine gr_drew ?_ | refine gr_drewN ?_ _ | refine gr_alloc ?_ _ | refine gr_set ?_ ?_ _ | refine gr_call ?_ (by assumption)) <;> (try (simp; done)) <;> (try (simp; omega)) <;> (try omega)), HN2⟩
        case measure => simp only [intOf]; omega
      · have hj : j < l.length := by rw [Hz.out]; omega
        obtain ⟨g', off', e, hg', d0, d1⟩ := Hcell.out j hj
        cases e
        replace d0 := cell_kept hbl d0
        clear d1
        have hy : l[j]? = some l[j] := List.getElem?_eq_getElem hj
        obtain ⟨y, hyy⟩ : ∃ y, l[j] = y := ⟨_, rfl⟩
        rw [hyy] at hy d0
        have g0 : decide ((0 : Int) < ((j + 1 : Nat) : Int)) = true := decide_eq_true (by omega)
        have g1 : decide (0 < j + 1) = true := decide_eq_true (by omega)
        have hs1 : ((j + 1 : Nat) : Int) - 1 = (j : Int) := by omega
        have hcm : Op.bytesLess (strOf y.1).toList N.toList = decide (y.1 < x.1) := by rw [less_str, strOf_list, hNl]
        by_cases k6 : y.1 < x.1
        · rw [decide_eq_true k6] at hcm
          have HN2 : Hid (∀ i, i < j + 1 + 1 → okAt l i = true) := Lib.hid (fun i hj => by
            by_cases hji : i = j + 1
            · subst hji; exact okAt_succ Hx.out hy HX.out k6
            · exact HR.out i (by omega))
          clear HR Hx HX hNl hy hyy k6 hj
          generalize strOf y.1 = Y at *
          go_wp2_with fail
          refine (hn.out _).mono ?_
          rintro e w2 ⟨rfl, hb2⟩
          replace hbl := gr_call hbl ((gr_alloc (Below.refl _ _) _).trans (hb2.mono (by simp)))
          have b0 : w2.cell? ⟨wr.heap.size, 0, none⟩ = some (.string N) := cell_kept hb2 (by rw [World.cell?_alloc_at (w := wr) _ _ wr.heap.size 0 rfl]; rfl)
          have b1 : w2.cell? ⟨wr.heap.size, 1, none⟩ = some (.string V) := cell_kept hb2 (by rw [World.cell?_alloc_at (w := wr) _ _ wr.heap.size 1 rfl]; rfl)
          replace d0 := cell_kept (show Below wr.heap.size wr w2 from (gr_alloc (Below.refl _ _) _).trans (hb2.mono (by simp))) d0
          clear hb2
          go_wp2_with fail
          go_quiet (fail)
          go_wp2_with fail
          go_roundw
          case rel => exact ⟨j + 1 + 1, rfl, by omega, by (repeat' (first | exact Below.refl _ _ | assumption | refine gr_drew ?_ | refine gr_drewN ?_ _ | refine gr_alloc ?_ _ | refine gr_set ?_ ?_ _ | refine gr_call ?_ (by assumption)) <;> (try (simp; done)) <;> (try (simp; omega)) <;> (try omega)), HN2⟩
          case measure => simp only [intOf]; omega
        · rw [decide_eq_false k6] at hcm
          have HE := Lib.hid (HB.out (j + 1) (by rw [Hz.out]; exact hlt) (okAt_lt Hx.out hy k6))
          clear HR Hx HX hNl hy hyy k6 hj
          generalize strOf y.1 = Y at *
          go_wp2_with fail
          refine (hn.out _).mono ?_
          rintro e w2 ⟨rfl, hb2⟩
          replace hbl := gr_call hbl ((gr_alloc (Below.refl _ _) _).trans (hb2.mono (by simp)))
          have b0 : w2.cell? ⟨wr.heap.size, 0, none⟩ = some (.string N) := cell_kept hb2 (by rw [World.cell?_alloc_at (w := wr) _ _ wr.heap.size 0 rfl]; rfl)
          have b1 : w2.cell? ⟨wr.heap.size, 1, none⟩ = some (.string V) := cell_kept hb2 (by rw [World.cell?_alloc_at (w := wr) _ _ wr.heap.size 1 rfl]; rfl)
          replace d0 := cell_kept (show Below wr.heap.size wr w2 from (gr_alloc (Below.refl _ _) _).trans (hb2.mono (by simp))) d0
          clear hb2
          go_wp2_with fail
          go_quiet (fail)
          go_wp2_with fail
          go_ret
          exact ⟨ret_bool HE.out.symm, by (repeat' (first | exact Below.refl _ _ | assumption | refine gr_drew ?_ | refine gr_drewN ?_ _ | refine gr_alloc ?_ _ | refine gr_set ?_ ?_ _ | refine gr_call ?_ (by assumption)) <;> (try (simp; done)) <;> (try (simp; omega)) <;> (try omega))⟩
    · have hlt' : decide ((i : Int) < (z : Int)) = false := decide_eq_false (by omega)
      have hlt2 : decide (i < z) = false := decide_eq_false hlt
      have HE := Lib.hid (HA.out (fun j hj => HR.out j (by rw [Hz.out] at hj; omega)))
      rw [Hz.out] at HE
      clear HR HA HB Hcell
      go_wp2_with fail
      go_ret
      exact ⟨ret_bool (by rw [HE.out, decide_eq_true (by have := K0.out; omega)]), hbl⟩
end Go.Proofs.YtbhnhoenjoagbaaGreatDoor.XatW

/- Names with values: what records say, by the records alone. -/
namespace Go.Proofs.YtbhnhoenjoagbaaGreatDoor
namespace XatM

theorem flat_len : ∀ (l : List Xa), (l.flatMap recOf).length ≤ 2 * l.length
  | [] => by simp
  | x :: l => by
    rw [List.flatMap_cons, List.length_append, List.length_cons]
    have h1 : (recOf x).length ≤ 2 := by unfold recOf; split <;> simp
    have := flat_len l
    omega
end XatM
end Go.Proofs.YtbhnhoenjoagbaaGreatDoor

/- A region that draws its order, whose operations make memory beside calls, some of them behind a guard that is met: one step an operation, whatever the order. -/
namespace Go.Proofs.YtbhnhoenjoagbaaGreatDoor
open Go Go.RowKit

section
variable {P : Program} {Q : Exit → Act → World → Prop}

def goodOpsG (l : List Oper) (n : Nat) : Bool :=
  (List.range l.length).all fun i => match l[i]? with
    | none => false
    | some o => (match o.guard with | none => true | some (j, _) => decide (j < i) && (o.after.any fun e => e.on == j && Region.binds .any e)) && o.dst.isSome && decide (dstOf l i < n) && (findDst l (dstOf l i) == some i) && (o.after.all fun e => decide (e.on < i))
def MetOk (V : Nat → World → Value → Prop) (o : Oper) : Prop := ∀ j b, o.guard = some (j, b) → ∀ w v, V j w v → v = .bool b
def StepsOkG (P : Program) (Q : Exit → Act → World → Prop) (l : List Oper) (S : World → Prop) (V : Nat → World → Value → Prop) (a0 : Act) : List Oper → Nat → Prop
  | [], _ => True
  | o :: r, i => (MetOk V o ∧ StepOk P Q l S V a0 i o) ∧ StepsOkG P Q l S V a0 r (i + 1)
theorem met_none {V : Nat → World → Value → Prop} {o : Oper} (h : o.guard = none) : MetOk V o := fun j b hg => by rw [h] at hg; cases hg
end
end Go.Proofs.YtbhnhoenjoagbaaGreatDoor

/- A region that draws its order, with a tail of stores behind all others: one step an operation, whatever the order. -/
namespace Go.Proofs.YtbhnhoenjoagbaaGreatDoor
open Go Go.RowKit

section
variable {P : Program} {Q : Exit → Act → World → Prop}

def StepOkA (P : Program) (Q : Exit → Act → World → Prop) (l : List Oper) (A : Nat → Bool) (S : World → Prop) (V : Nat → World → Value → Prop) (a0 : Act) (i : Nat) (o : Oper) : Prop :=
  ∀ (a : Act) (w : World) (K : Act → World → Prop), S w →
    (∀ e ∈ o.after, Region.binds .any e = true → V e.on w (valOf l a e.on)) →
    (∀ k, findDst l k = none → a.tmps.getD k undef = a0.tmps.getD k undef) →
    (∀ v w', Below w.heap.size w w' → S w' → V i w' v → (A i = true → ∀ j u, j ≠ i → A j = true → V j w u → v ≠ u) → K (a.put o.dst v) w') → Oper.wp P o a w K Q
def StepsOkA (P : Program) (Q : Exit → Act → World → Prop) (l : List Oper) (A : Nat → Bool) (S : World → Prop) (V : Nat → World → Value → Prop) (a0 : Act) : List Oper → Nat → Prop
  | [], _ => True
  | o :: r, i => (MetOk V o ∧ StepOkA P Q l A S V a0 i o) ∧ StepsOkA P Q l A S V a0 r (i + 1)
theorem steps_atA {l : List Oper} {A : Nat → Bool} {S : World → Prop} {V : Nat → World → Value → Prop} {a0 : Act} : ∀ {r : List Oper} {n : Nat}, StepsOkA P Q l A S V a0 r n → ∀ {j : Nat} {o : Oper}, r[j]? = some o → MetOk V o ∧ StepOkA P Q l A S V a0 (n + j) o
  | [], _, _, j, o, h => by simp at h
  | x :: r, n, hs, 0, o, h => by
    simp at h
    subst h
    exact hs.1
  | x :: r, n, hs, j + 1, o, h => by
    have := steps_atA (n := n + 1) hs.2 (j := j) (o := o) (by simpa using h)
    rw [show n + (j + 1) = n + 1 + j by omega]
    exact this
def Differ (A : Nat → Bool) (listed : Array Bool) (vals : Nat → Value) : Prop := ∀ i j, listed.getD i false = true → listed.getD j false = true → i ≠ j → A i = true → A j = true → vals i ≠ vals j

def bound (o : Oper) : List Nat := (o.after.toList.filter (Region.binds .any)).map (·.on)
def clos (l : List Oper) : Nat → List Nat → List Nat
  | 0, s => s
  | n + 1, s => clos l n (s ++ s.flatMap fun k => match l[k]? with | some o => bound o | none => [])
def Down (l : List Oper) (listed : Array Bool) : Prop := ∀ j o, l[j]? = some o → listed.getD j false = true → ∀ k ∈ bound o, listed.getD k false = true
theorem bound_mem {o : Oper} {k : Nat} (h : k ∈ bound o) : ∃ e ∈ o.after, Region.binds .any e = true ∧ e.on = k := by
  obtain ⟨e, he, h1⟩ := List.mem_map.1 h
  obtain ⟨h2, h3⟩ := List.mem_filter.1 he
  exact ⟨e, by simpa using h2, h3, h1⟩

theorem tail_one {m : List Oper} {n : Nat} {z : Oper} (hm : m[n]? = some z) (hn : m.length = n + 1) (hzg : z.guard = none) (hga : goodAfter m = true) {listed : Array Bool} (hs : listed.size = m.length)
    (hall : ∀ j, j < n → listed.getD j false = true) (hz : listed[n]? = some false) {a : Act} {w : World} (h : ∀ K : Act → World → Prop, (∀ a' w', Q .normal a' w' → K a' w') → Oper.wp P z a w K Q) :
    ∀ fuel, listed.toList.count false ≤ fuel → wpAny P .any m.toArray Q fuel listed a w := by
  intro fuel hc
  cases fuel with
  | zero =>
    have hc0 : listed.toList.count false = 0 := by omega
    rw [List.count_eq_zero] at hc0
    exact absurd (List.mem_of_getElem? (by simpa using hz)) hc0
  | succ fuel =>
    refine ⟨fun hr => ?_, fun i hi => ?_⟩
    · have := ready_nil' hga hs hr n (by omega)
      rw [Array.getD_eq_getD_getElem?, hz] at this; cases this
    obtain ⟨o, ho, hl, hdeps⟩ := ready_spec hi
    have hil : i < m.length := by
      have := (Array.getElem?_eq_some_iff.1 ho).1
      simpa using this
    obtain rfl : i = n := by
      rcases Nat.lt_or_ge i n with h1 | h1
      · exfalso
        have h2 := hall i h1
        have hi' : i < listed.size := by omega
        simp [hi'] at hl h2
        rw [hl] at h2; cases h2
      · omega
    have hoz : o = z := by
      have : m[i]? = some o := by simpa using ho
      rw [hm] at this
      exact (Option.some.inj this).symm
    subst hoz
    refine wpOp_step ho (fun K' hK => ?_)
    have hw : Region.wanted o (yielded m.toArray a.tmps) = true := by
      unfold Region.wanted
      rw [hzg]
    rw [if_pos hw]
    refine h K' (fun a' w' hQ => hK a' w' (all_done (by simpa using hs) ?_ hQ fuel))
    intro j hj
    by_cases e : j = i
    · subst e
      have : j < listed.size := by omega
      simp [this]
    · have := hall j (by omega)
      rw [Array.getD_eq_getD_getElem?, Array.getElem?_setIfInBounds_ne (fun h => e h.symm)]
      rw [Array.getD_eq_getD_getElem?] at this
      exact this
theorem tail_two {m : List Oper} {n : Nat} {y z : Oper} (hy : m[n]? = some y) (hm : m[n + 1]? = some z) (hn : m.length = n + 2) (hyg : y.guard = none) (hzg : z.guard = none) (hga : goodAfter m = true) (hyz : (z.after.any fun e => e.on == n && Region.binds .any e) = true) {listed : Array Bool} (hs : listed.size = m.length)
    (hall : ∀ j, j < n → listed.getD j false = true) (h1 : listed[n]? = some false) (h2 : listed[n + 1]? = some false) {a : Act} {w : World}
    (h : ∀ K : Act → World → Prop, (∀ a' w', (∀ K' : Act → World → Prop, (∀ a'' w'', Q .normal a'' w'' → K' a'' w'') → Oper.wp P z a' w' K' Q) → K a' w') → Oper.wp P y a w K Q) :
    ∀ fuel, listed.toList.count false ≤ fuel → wpAny P .any m.toArray Q fuel listed a w := by
  intro fuel hc
  cases fuel with
  | zero =>
    have hc0 : listed.toList.count false = 0 := by omega
    rw [List.count_eq_zero] at hc0
    exact absurd (List.mem_of_getElem? (by simpa using h1)) hc0
  | succ fuel =>
    refine ⟨fun hr => ?_, fun i hi => ?_⟩
    · have := ready_nil' hga hs hr n (by omega)
      rw [Array.getD_eq_getD_getElem?, h1] at this; cases this
    obtain ⟨o, ho, hl, hdeps⟩ := ready_spec hi
    have hil : i < m.length := by
      have := (Array.getElem?_eq_some_iff.1 ho).1
      simpa using this
    have hom : m[i]? = some o := by simpa using ho
    obtain rfl : i = n := by
      rcases Nat.lt_or_ge i n with h3 | h3
      · exfalso
        have h4 := hall i h3
        have hi' : i < listed.size := by omega
        simp [hi'] at hl h4
        rw [hl] at h4; cases h4
      · rcases Nat.eq_or_lt_of_le h3 with h3 | h3
        · exact h3.symm
        · exfalso
          obtain rfl : i = n + 1 := by omega
          rw [hm] at hom
          obtain rfl := Option.some.inj hom
          obtain ⟨e, he, h5⟩ := Array.any_eq_true'.1 hyz
          simp only [Bool.and_eq_true, beq_iff_eq] at h5
          have := hdeps e he h5.2
          rw [h5.1, Array.getD_eq_getD_getElem?, h1] at this
          cases this
    have hoz : o = y := by
      rw [hy] at hom
      exact (Option.some.inj hom).symm
    subst hoz
    have hif : listed[i]? = some false := h1
    have hcs : (listed.setIfInBounds i true).toList.count false ≤ fuel := by
      have := count_set (b := listed.toList) (i := i) (by simpa using hif)
      rw [Array.toList_setIfInBounds]
      omega
    refine wpOp_step ho (fun K' hK => ?_)
    have hw : Region.wanted o (yielded m.toArray a.tmps) = true := by
      unfold Region.wanted
      rw [hyg]
    rw [if_pos hw]
    refine h K' (fun a' w' hT => hK a' w' (tail_one hm (by omega) hzg hga (by simpa using hs) ?_ ?_ hT fuel hcs))
    · intro j hj
      by_cases e : j = i
      · subst e
        have : j < listed.size := by omega
        simp [this]
      · have := hall j (by omega)
        rw [Array.getD_eq_getD_getElem?, Array.getElem?_setIfInBounds_ne (fun h => e h.symm)]
        rw [Array.getD_eq_getD_getElem?] at this
        exact this
    · rw [Array.getElem?_setIfInBounds_ne (by omega)]; exact h2

end
end Go.Proofs.YtbhnhoenjoagbaaGreatDoor

/- The regions' laws with a goal behind a structure, so that no tactic opens it on the way. -/
namespace Go.Proofs.YtbhnhoenjoagbaaGreatDoor
open Go Go.RowKit
structure Later (p : Prop) : Prop where
  out : p

section
variable {P : Program} {Q : Exit → Act → World → Prop}

end
end Go.Proofs.YtbhnhoenjoagbaaGreatDoor
