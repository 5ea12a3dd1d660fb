/- The document's answer: a list's text. -/
import Derived.Test.YtdjffnhkfpjafaaDoorAclRef1
import Derived.Test.YtdjffnhkfpjafaaDoorAclRwx
import Derived.Test.YtdjffnhkfpjafaaDoorAclTextL
namespace Go.Proofs.YtdjffnhkfpjafaaDoor
open Go.RowKit
open AclM DecM
set_option linter.unusedVariables false
attribute [local irreducible] Row At

set_option maxHeartbeats 6400000 in
set_option maxRecDepth 100000 in
theorem refText_any (v : Value) (l : List Ace) (w : World) (hat : At aceE v l w) (hmay : may l = true) :
    Calls Tryd.prog 18 #[v] w fun e w' => e = .returned (.string (strOf (textL l))) ∧ Below w.heap.size w w' := by
  obtain ⟨hok, h32, _, _⟩ := may_parts hmay
  have Hok := Lib.hid hok
  have Hlen := Lib.hid (textL_take hok h32)
  obtain ⟨z, hz⟩ : ∃ z, l.length = z := ⟨_, rfl⟩
  obtain ⟨p, cap, rfl, hcap, hcell⟩ := ace_look hat
  rw [hz] at hcap h32 ⊢
  have Hcell := Lib.hid hcell
  have Hz := Lib.hid hz
  clear hcell hat hz hok hmay
  go_enter Tryd.func18, Tryd.ntmps18
  go_wp2_with fail
  go_loopw [3, 4] (fun sv iv wr => ∃ (i : Nat) (S : ByteArray), iv = .int .i64 (i : Int) ∧ sv = .string S ∧ i ≤ z ∧ Below w.heap.size w wr ∧ Hid (S.data.toList = textL (l.take i))) (fun _ iv _ => z - (intOf iv).toNat)
  case atStart => exact ⟨0, ⟨#[]⟩, rfl, rfl, by omega, Below.refl _ _, Lib.hid rfl⟩
  case round =>
    obtain ⟨i, S, rfl, rfl, hi, hbl, HS⟩ := hrel
    rename_i wr
    by_cases hlt : i < z
    · have hlt' : decide ((i : Int) < (z : Int)) = true := decide_eq_true (by omega)
      have hlt2 : decide (i < z) = true := decide_eq_true hlt
      have hi' : i < l.length := by rw [Hz.out]; exact hlt
      obtain ⟨g, off, rfl, hg, c0, c1, c2⟩ := Hcell.out i hi'
      replace c0 := cell_kept hbl c0
      replace c1 := cell_kept hbl c1
      replace c2 := cell_kept hbl c2
      have hok := okPart_iff (Hok.out l[i] (List.getElem_mem hi'))
      have HF := Lib.hid (textL_first hi')
      have HM := Lib.hid (textL_more hi')
      have hSs : S.size ≤ 544 := by rw [← len_list, HS.out]; exact Hlen.out i
      have hnm := Lib.hid (named_any l[i])
      generalize l[i] = a at *
      obtain ⟨t, d, q⟩ := a
      simp only at c0 c1 c2 hok
      obtain ⟨m, rfl⟩ : ∃ m : Nat, d = (m : Int) := ⟨d.toNat, by omega⟩
      have hdg := Lib.hid (fun W => refDigits_any m W (by omega))
      have hrw := Lib.hid (fun W => refRwx_any q W (by omega) (by omega))
      have hIe : Lib.itoa (m : Int) = Lib.decDigits m := itoa_nat m
      obtain ⟨ID, hID⟩ : ∃ ID, strOf (Lib.decDigits m) = ID := ⟨_, rfl⟩
      obtain ⟨RW, hRW⟩ : ∃ RW, strOf (rwx q) = RW := ⟨_, rfl⟩
      have hIDs : ID.size ≤ 10 := by rw [← hID, strOf_size]; exact dec_len 9 m (by omega)
      have hRWs : RW.size = 3 := by rw [← hRW, strOf_size]; rfl
      have hIDl : ID.data.toList = Lib.itoa (m : Int) := by rw [hIe, ← hID, strOf_list]
      have hRWl : RW.data.toList = rwx q := by rw [← hRW, strOf_list]
      rw [hID] at hdg
      rw [hRW] at hrw
      have hgs := hbl.size
      have hbl2 : Below w.heap.size w (wr.alloc (.cells #[.int .i64 t, .int .i64 (m : Int), .int .i64 q] 39)) := gr_alloc hbl _
      have ht : t = 1 ∨ t = 2 ∨ t = 3 ∨ t = 4 ∨ t = 5 ∨ t = 6 := by omega
      have HIR := Lib.hid (And.intro hIDl hRWl)
      clear hok hID hRW hIe hIDl hRWl
      by_cases h0 : i = 0
      · have HT := Lib.hid (HF.out h0)
        have hi0 : decide ((0 : Int) < (i : Int)) = false := decide_eq_false (by omega)
        have hi0' : decide (0 < i) = false := decide_eq_false (by omega)
        clear HF HM h0
        rcases ht with rfl | rfl | rfl | rfl | rfl | rfl
        · go_wp2_with fail
          refine (hnm.out _).mono ?_
          rintro e w2 ⟨he, hb2⟩
          obtain rfl : e = .returned (.bool false) := he
          have d1 : w2.cell? ⟨wr.heap.size, 1, none⟩ = some (.int .i64 (m : Int)) := cell_kept hb2 (by simp [go_sem])
          have d2 : w2.cell? ⟨wr.heap.size, 2, none⟩ = some (.int .i64 q) := cell_kept hb2 (by simp [go_sem])
          have hbl3 : Below w.heap.size w w2 := gr_call (gr_alloc hbl2 _) hb2
          clear hb2 hnm
          go_wp2_with fail
          refine (hrw.out _).mono ?_
          rintro e w4 ⟨rfl, hb4⟩
          replace hbl3 := gr_call hbl3 hb4
          clear hb4 hrw
          go_wp2_with fail
          go_roundw
          case rel =>
            refine ⟨i + 1, _, rfl, rfl, by omega, hbl3, Lib.hid ?_⟩
            rw [HT.out, ← HS.out]
            simp [bytes_list, HIR.out.1, HIR.out.2, partText, idText, hasId, letter]
          case measure => simp only [intOf]; omega
        · go_wp2_with fail
          refine (hnm.out _).mono ?_
          rintro e w2 ⟨he, hb2⟩
          obtain rfl : e = .returned (.bool true) := he
          have d1 : w2.cell? ⟨wr.heap.size, 1, none⟩ = some (.int .i64 (m : Int)) := cell_kept hb2 (by simp [go_sem])
          have d2 : w2.cell? ⟨wr.heap.size, 2, none⟩ = some (.int .i64 q) := cell_kept hb2 (by simp [go_sem])
          have hbl3 : Below w.heap.size w w2 := gr_call (gr_alloc hbl2 _) hb2
          clear hb2 hnm
          go_wp2_with fail
          refine (hdg.out _).mono ?_
          rintro e w3 ⟨rfl, hb3⟩
          have d3 := cell_kept hb3 d2
          replace hbl3 := gr_call hbl3 hb3
          clear hb3 hdg d1 d2
          go_wp2_with fail
          refine (hrw.out _).mono ?_
          rintro e w4 ⟨rfl, hb4⟩
          replace hbl3 := gr_call hbl3 hb4
          clear hb4 hrw
          go_wp2_with fail
          go_roundw
          case rel =>
            refine ⟨i + 1, _, rfl, rfl, by omega, hbl3, Lib.hid ?_⟩
            rw [HT.out, ← HS.out]
            simp [bytes_list, HIR.out.1, HIR.out.2, partText, idText, hasId, letter]
          case measure => simp only [intOf]; omega
        · go_wp2_with fail
          refine (hnm.out _).mono ?_
          rintro e w2 ⟨he, hb2⟩
          obtain rfl : e = .returned (.bool false) := he
          have d1 : w2.cell? ⟨wr.heap.size, 1, none⟩ = some (.int .i64 (m : Int)) := cell_kept hb2 (by simp [go_sem])
          have d2 : w2.cell? ⟨wr.heap.size, 2, none⟩ = some (.int .i64 q) := cell_kept hb2 (by simp [go_sem])
          have hbl3 : Below w.heap.size w w2 := gr_call (gr_alloc hbl2 _) hb2
          clear hb2 hnm
          go_wp2_with fail
          refine (hrw.out _).mono ?_
          rintro e w4 ⟨rfl, hb4⟩
          replace hbl3 := gr_call hbl3 hb4
          clear hb4 hrw
          go_wp2_with fail
          go_roundw
          case rel =>
            refine ⟨i + 1, _, rfl, rfl, by omega, hbl3, Lib.hid ?_⟩
            rw [HT.out, ← HS.out]
            simp [bytes_list, HIR.out.1, HIR.out.2, partText, idText, hasId, letter]
          case measure => simp only [intOf]; omega
        · go_wp2_with fail
          refine (hnm.out _).mono ?_
          rintro e w2 ⟨he, hb2⟩
          obtain rfl : e = .returned (.bool true) := he
          have d1 : w2.cell? ⟨wr.heap.size, 1, none⟩ = some (.int .i64 (m : Int)) := cell_kept hb2 (by simp [go_sem])
          have d2 : w2.cell? ⟨wr.heap.size, 2, none⟩ = some (.int .i64 q) := cell_kept hb2 (by simp [go_sem])
          have hbl3 : Below w.heap.size w w2 := gr_call (gr_alloc hbl2 _) hb2
          clear hb2 hnm
          go_wp2_with fail
          refine (hdg.out _).mono ?_
          rintro e w3 ⟨rfl, hb3⟩
          have d3 := cell_kept hb3 d2
          replace hbl3 := gr_call hbl3 hb3
          clear hb3 hdg d1 d2
          go_wp2_with fail
          refine (hrw.out _).mono ?_
          rintro e w4 ⟨rfl, hb4⟩
          replace hbl3 := gr_call hbl3 hb4
          clear hb4 hrw
          go_wp2_with fail
          go_roundw
          case rel =>
            refine ⟨i + 1, _, rfl, rfl, by omega, hbl3, Lib.hid ?_⟩
            rw [HT.out, ← HS.out]
            simp [bytes_list, HIR.out.1, HIR.out.2, partText, idText, hasId, letter]
          case measure => simp only [intOf]; omega
        · go_wp2_with fail
          refine (hnm.out _).mono ?_
          rintro e w2 ⟨he, hb2⟩
          obtain rfl : e = .returned (.bool false) := he
          have d1 : w2.cell? ⟨wr.heap.size, 1, none⟩ = some (.int .i64 (m : Int)) := cell_kept hb2 (by simp [go_sem])
          have d2 : w2.cell? ⟨wr.heap.size, 2, none⟩ = some (.int .i64 q) := cell_kept hb2 (by simp [go_sem])
          have hbl3 : Below w.heap.size w w2 := gr_call (gr_alloc hbl2 _) hb2
          clear hb2 hnm
          go_wp2_with fail
          refine (hrw.out _).mono ?_
          rintro e w4 ⟨rfl, hb4⟩
          replace hbl3 := gr_call hbl3 hb4
          clear hb4 hrw
          go_wp2_with fail
          go_roundw
          case rel =>
            refine ⟨i + 1, _, rfl, rfl, by omega, hbl3, Lib.hid ?_⟩
            rw [HT.out, ← HS.out]
            simp [bytes_list, HIR.out.1, HIR.out.2, partText, idText, hasId, letter]
          case measure => simp only [intOf]; omega
        · go_wp2_with fail
          refine (hnm.out _).mono ?_
          rintro e w2 ⟨he, hb2⟩
          obtain rfl : e = .returned (.bool false) := he
          have d1 : w2.cell? ⟨wr.heap.size, 1, none⟩ = some (.int .i64 (m : Int)) := cell_kept hb2 (by simp [go_sem])
          have d2 : w2.cell? ⟨wr.heap.size, 2, none⟩ = some (.int .i64 q) := cell_kept hb2 (by simp [go_sem])
          have hbl3 : Below w.heap.size w w2 := gr_call (gr_alloc hbl2 _) hb2
          clear hb2 hnm
          go_wp2_with fail
          refine (hrw.out _).mono ?_
          rintro e w4 ⟨rfl, hb4⟩
          replace hbl3 := gr_call hbl3 hb4
          clear hb4 hrw
          go_wp2_with fail
          go_roundw
          case rel =>
            refine ⟨i + 1, _, rfl, rfl, by omega, hbl3, Lib.hid ?_⟩
            rw [HT.out, ← HS.out]
            simp [bytes_list, HIR.out.1, HIR.out.2, partText, idText, hasId, letter]
          case measure => simp only [intOf]; omega
      · have HT := Lib.hid (HM.out h0)
        have hi0 : decide ((0 : Int) < (i : Int)) = true := decide_eq_true (by omega)
        have hi0' : decide (0 < i) = true := decide_eq_true (by omega)
        clear HF HM h0
        rcases ht with rfl | rfl | rfl | rfl | rfl | rfl
        · go_wp2_with fail
          refine (hnm.out _).mono ?_
          rintro e w2 ⟨he, hb2⟩
          obtain rfl : e = .returned (.bool false) := he
          have d1 : w2.cell? ⟨wr.heap.size, 1, none⟩ = some (.int .i64 (m : Int)) := cell_kept hb2 (by simp [go_sem])
          have d2 : w2.cell? ⟨wr.heap.size, 2, none⟩ = some (.int .i64 q) := cell_kept hb2 (by simp [go_sem])
          have hbl3 : Below w.heap.size w w2 := gr_call (gr_alloc hbl2 _) hb2
          clear hb2 hnm
          go_wp2_with fail
          refine (hrw.out _).mono ?_
          rintro e w4 ⟨rfl, hb4⟩
          replace hbl3 := gr_call hbl3 hb4
          clear hb4 hrw
          go_wp2_with fail
          go_roundw
          case rel =>
            refine ⟨i + 1, _, rfl, rfl, by omega, hbl3, Lib.hid ?_⟩
            rw [HT.out, ← HS.out]
            simp [bytes_list, HIR.out.1, HIR.out.2, partText, idText, hasId, letter]
          case measure => simp only [intOf]; omega
        · go_wp2_with fail
          refine (hnm.out _).mono ?_
          rintro e w2 ⟨he, hb2⟩
          obtain rfl : e = .returned (.bool true) := he
          have d1 : w2.cell? ⟨wr.heap.size, 1, none⟩ = some (.int .i64 (m : Int)) := cell_kept hb2 (by simp [go_sem])
          have d2 : w2.cell? ⟨wr.heap.size, 2, none⟩ = some (.int .i64 q) := cell_kept hb2 (by simp [go_sem])
          have hbl3 : Below w.heap.size w w2 := gr_call (gr_alloc hbl2 _) hb2
          clear hb2 hnm
          go_wp2_with fail
          refine (hdg.out _).mono ?_
          rintro e w3 ⟨rfl, hb3⟩
          have d3 := cell_kept hb3 d2
          replace hbl3 := gr_call hbl3 hb3
          clear hb3 hdg d1 d2
          go_wp2_with fail
          refine (hrw.out _).mono ?_
          rintro e w4 ⟨rfl, hb4⟩
          replace hbl3 := gr_call hbl3 hb4
          clear hb4 hrw
          go_wp2_with fail
          go_roundw
          case rel =>
            refine ⟨i + 1, _, rfl, rfl, by omega, hbl3, Lib.hid ?_⟩
            rw [HT.out, ← HS.out]
            simp [bytes_list, HIR.out.1, HIR.out.2, partText, idText, hasId, letter]
          case measure => simp only [intOf]; omega
        · go_wp2_with fail
          refine (hnm.out _).mono ?_
          rintro e w2 ⟨he, hb2⟩
          obtain rfl : e = .returned (.bool false) := he
          have d1 : w2.cell? ⟨wr.heap.size, 1, none⟩ = some (.int .i64 (m : Int)) := cell_kept hb2 (by simp [go_sem])
          have d2 : w2.cell? ⟨wr.heap.size, 2, none⟩ = some (.int .i64 q) := cell_kept hb2 (by simp [go_sem])
          have hbl3 : Below w.heap.size w w2 := gr_call (gr_alloc hbl2 _) hb2
          clear hb2 hnm
          go_wp2_with fail
          refine (hrw.out _).mono ?_
          rintro e w4 ⟨rfl, hb4⟩
          replace hbl3 := gr_call hbl3 hb4
          clear hb4 hrw
          go_wp2_with fail
          go_roundw
          case rel =>
            refine ⟨i + 1, _, rfl, rfl, by omega, hbl3, Lib.hid ?_⟩
            rw [HT.out, ← HS.out]
            simp [bytes_list, HIR.out.1, HIR.out.2, partText, idText, hasId, letter]
          case measure => simp only [intOf]; omega
        · go_wp2_with fail
          refine (hnm.out _).mono ?_
          rintro e w2 ⟨he, hb2⟩
          obtain rfl : e = .returned (.bool true) := he
          have d1 : w2.cell? ⟨wr.heap.size, 1, none⟩ = some (.int .i64 (m : Int)) := cell_kept hb2 (by simp [go_sem])
          have d2 : w2.cell? ⟨wr.heap.size, 2, none⟩ = some (.int .i64 q) := cell_kept hb2 (by simp [go_sem])
          have hbl3 : Below w.heap.size w w2 := gr_call (gr_alloc hbl2 _) hb2
          clear hb2 hnm
          go_wp2_with fail
          refine (hdg.out _).mono ?_
          rintro e w3 ⟨rfl, hb3⟩
          have d3 := cell_kept hb3 d2
          replace hbl3 := gr_call hbl3 hb3
          clear hb3 hdg d1 d2
          go_wp2_with fail
          refine (hrw.out _).mono ?_
          rintro e w4 ⟨rfl, hb4⟩
          replace hbl3 := gr_call hbl3 hb4
          clear hb4 hrw
          go_wp2_with fail
          go_roundw
          case rel =>
            refine ⟨i + 1, _, rfl, rfl, by omega, hbl3, Lib.hid ?_⟩
            rw [HT.out, ← HS.out]
            simp [bytes_list, HIR.out.1, HIR.out.2, partText, idText, hasId, letter]
          case measure => simp only [intOf]; omega
        · go_wp2_with fail
          refine (hnm.out _).mono ?_
          rintro e w2 ⟨he, hb2⟩
          obtain rfl : e = .returned (.bool false) := he
          have d1 : w2.cell? ⟨wr.heap.size, 1, none⟩ = some (.int .i64 (m : Int)) := cell_kept hb2 (by simp [go_sem])
          have d2 : w2.cell? ⟨wr.heap.size, 2, none⟩ = some (.int .i64 q) := cell_kept hb2 (by simp [go_sem])
          have hbl3 : Below w.heap.size w w2 := gr_call (gr_alloc hbl2 _) hb2
          clear hb2 hnm
          go_wp2_with fail
          refine (hrw.out _).mono ?_
          rintro e w4 ⟨rfl, hb4⟩
          replace hbl3 := gr_call hbl3 hb4
          clear hb4 hrw
          go_wp2_with fail
          go_roundw
          case rel =>
            refine ⟨i + 1, _, rfl, rfl, by omega, hbl3, Lib.hid ?_⟩
            rw [HT.out, ← HS.out]
            simp [bytes_list, HIR.out.1, HIR.out.2, partText, idText, hasId, letter]
          case measure => simp only [intOf]; omega
        · go_wp2_with fail
          refine (hnm.out _).mono ?_
          rintro e w2 ⟨he, hb2⟩
          obtain rfl : e = .returned (.bool false) := he
          have d1 : w2.cell? ⟨wr.heap.size, 1, none⟩ = some (.int .i64 (m : Int)) := cell_kept hb2 (by simp [go_sem])
          have d2 : w2.cell? ⟨wr.heap.size, 2, none⟩ = some (.int .i64 q) := cell_kept hb2 (by simp [go_sem])
          have hbl3 : Below w.heap.size w w2 := gr_call (gr_alloc hbl2 _) hb2
          clear hb2 hnm
          go_wp2_with fail
          refine (hrw.out _).mono ?_
          rintro e w4 ⟨rfl, hb4⟩
          replace hbl3 := gr_call hbl3 hb4
          clear hb4 hrw
          go_wp2_with fail
          go_roundw
          case rel =>
            refine ⟨i + 1, _, rfl, rfl, by omega, hbl3, Lib.hid ?_⟩
            rw [HT.out, ← HS.out]
            simp [bytes_list, HIR.out.1, HIR.out.2, partText, idText, hasId, letter]
          case measure => simp only [intOf]; omega
    · have hlt' : decide ((i : Int) < (z : Int)) = false := decide_eq_false (by omega)
      have hlt2 : decide (i < z) = false := decide_eq_false hlt
      have HE := Lib.hid (show S = strOf (textL l) by
        have := HS.out
        rw [List.take_of_length_le (by rw [Hz.out]; omega)] at this
        exact str_eq this)
      go_wp2_with fail
      go_ret
      exact ⟨by rw [← HE.out]; rfl, by (repeat' (first | exact Below.refl _ _ | assumption | refine gr_drew ?_ | refine gr_drewN ?_ _ | refine gr_alloc ?_ _ | refine gr_set ?_ ?_ _ | refine gr_call ?_ (by assumption)) <;> (try (simp; done)) <;> (try (simp; omega)) <;> (try omega))⟩
end Go.Proofs.YtdjffnhkfpjafaaDoor
