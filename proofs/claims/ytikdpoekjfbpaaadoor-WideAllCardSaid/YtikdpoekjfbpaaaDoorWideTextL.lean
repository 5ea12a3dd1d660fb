/- Walks over package wide: a list's text. -/
import Derived.Test.YtikdpoekjfbpaaaDoorWideText
import Derived.Test.YtikdpoekjfbpaaaDoorBldK
namespace Go.Proofs.YtikdpoekjfbpaaaDoor
open Go.RowKit
open WideM
attribute [local irreducible] Row At
set_option linter.unusedVariables false

theorem textL_first {l : List Wid} {i : Nat} (h : i < l.length) (h0 : i = 0) : textL (l.take (i + 1)) = textL (l.take i) ++ partText l[i] := by
  subst h0
  rw [List.take_succ_eq_append_getElem h, textL_snoc]
  rfl
theorem textL_more {l : List Wid} {i : Nat} (h : i < l.length) (h0 : i ≠ 0) : textL (l.take (i + 1)) = (textL (l.take i) ++ [44]) ++ partText l[i] := by
  rw [List.take_succ_eq_append_getElem h, textL_snoc, if_neg]
  intro e
  have := congrArg List.length e
  rw [List.length_take, List.length_nil] at this
  omega
theorem textL_take {l : List Wid} (h : ∀ a ∈ l, okPart a = true) (h32 : l.length ≤ 32) (i : Nat) : (textL (l.take i)).length ≤ 8992 := by
  have := joinC_len ((l.take i).map partText) (by intro p hp; obtain ⟨a, ha, rfl⟩ := List.mem_map.1 hp; exact part_len (h a (List.mem_of_mem_take ha)))
  rw [List.length_map, List.length_take] at this
  unfold textL
  omega
/-- What Text hands back. -/
def textR (l : List Wid) : List UInt8 := if may l = true then textL l else []

set_option maxHeartbeats 1600000 in
theorem textL_any (v : Value) (l : List Wid) (w : World) (hat : At wideE v l w) (hl : l.length ≤ 1000000) :
    Calls Tryd.prog 12 #[v] w fun e w' => e = .returned (.string (strOf (textR l))) ∧ Below w.heap.size w w' := by
  have hmay := Lib.hid (may_any v l w hat hl)
  unfold textR
  rcases hb : may l with _ | _
  · rw [hb] at hmay
    clear hat hl
    go_enter Tryd.func12, Tryd.ntmps12
    go_wp2_with fail
    refine (hmay.out).mono ?_
    rintro e w1 ⟨rfl, hb1⟩
    go_wp2_with fail
    go_ret
    exact ⟨rfl, hb1⟩
  · rw [hb] at hmay
    obtain ⟨hok, h32⟩ := may_parts hb
    have Hok := Lib.hid hok
    have Hlen := Lib.hid (textL_take hok h32)
    have HE := Lib.hid (show (if true = true then textL l else []) = textL l from if_pos rfl)
    obtain ⟨z, hz⟩ : ∃ z, l.length = z := ⟨_, rfl⟩
    obtain ⟨p, cap, rfl, hcap, hcell⟩ := wide_look hat
    rw [hz] at hl hcap h32 hmay ⊢
    have Hcell := Lib.hid hcell
    have Hz := Lib.hid hz
    have Htext := Lib.hid text_any
    clear hcell hat hz hok hb
    rw [HE.out]
    clear HE
    go_enter Tryd.func12, Tryd.ntmps12
    go_wp2_with fail
    refine (hmay.out).mono ?_
    rintro e w1 ⟨rfl, hb1⟩
    clear hmay
    have hs1 := hb1.size
    have hbld0 := newBld w1
    obtain ⟨b, hbb⟩ : ∃ b, w1.heap.size = b := ⟨_, rfl⟩
    have hbl0 : Below w.heap.size w (w1.alloc (.cells #[.pointer none, .slice none 0 0] 50)) := gr_alloc hb1 _
    have hwb : w.heap.size ≤ b := by rw [← hbb]; exact hs1
    rw [hbb] at hbld0
    go_wp2_with fail
    go_loopw [11] (fun iv wr => ∃ i : Nat, iv = .int .i64 (i : Int) ∧ i ≤ z ∧ Below w.heap.size w wr ∧ Bld b (textL (l.take i)) wr) (fun iv _ => z - (intOf iv).toNat)
    case atStart => exact ⟨0, rfl, by omega, hbl0, by simpa [textL, AclM.joinC] using hbld0⟩
    case round =>
      clear hbld0 hbl0 hbb hb1 hs1
      obtain ⟨i, rfl, hi, hbl, hB⟩ := hrel
      rename_i wr
      by_cases hlt : i < z
      · have hlt' : decide ((i : Int) < (z : Int)) = true := decide_eq_true (by omega)
        have hlt2 : decide (i < z) = true := decide_eq_true hlt
        have hi' : i < l.length := by rw [Hz.out]; exact hlt
        obtain ⟨g, off, rfl, hg, hcc⟩ := Hcell.out i hi'
        obtain ⟨c0, c1, c2, c3⟩ := hcc.kept hbl
        clear hcc
        have hli := Hlen.out i
        have hok := okPart_iff (Hok.out l[i] (List.getElem_mem hi'))
        have hpl := part_len (Hok.out l[i] (List.getElem_mem hi'))
        have HF := Lib.hid (textL_first hi')
        have HM := Lib.hid (textL_more hi')
        generalize l[i] = a at *
        have htx := Lib.hid (fun w' => Htext.out a w' hok.1 hok.2.1 (by have := hok.2.2.1; omega) hok.2.2.2.1 (by have := hok.2.2.2.2.1; omega) (by have := hok.2.2.2.2.2.2.1; rw [len_list] at this; omega))
        obtain ⟨T, hT⟩ : ∃ T, strOf (partText a) = T := ⟨_, rfl⟩
        rw [hT] at htx
        have hTl : T.data.toList = partText a := by rw [← hT, strOf_list]
        have hTs : T.size ≤ 280 := by rw [← hT, strOf_size]; exact hpl
        rw [← hTl] at HF HM
        clear hT hTl hpl hok
        obtain ⟨t, f, m, W⟩ := a
        unfold wideV at htx
        simp only at c0 c1 c2 c3 htx
        have hgs := hbl.size
        have hbw := bld_lt hB
        have hB2 := hB.keep (gr_alloc (Below.refl _ _) (.cells #[.int .i64 t, .int .i64 f, .int .i64 m, .string W] 41))
        have hbl2 : Below w.heap.size w (wr.alloc (.cells #[.int .i64 t, .int .i64 f, .int .i64 m, .string W] 41)) := gr_alloc hbl _
        have hk0 : (wr.alloc (.cells #[.int .i64 t, .int .i64 f, .int .i64 m, .string W] 41)).heap[wr.heap.size]? = some (.cells #[.int .i64 t, .int .i64 f, .int .i64 m, .string W] 41 (0, 0)) := heap_alloc_new wr _
        by_cases h0 : i = 0
        · have hi0 : decide ((0 : Int) < (i : Int)) = false := decide_eq_false (by omega)
          have hi0' : decide (0 < i) = false := decide_eq_false (by omega)
          have HT := Lib.hid (HF.out h0)
          clear HF HM h0
          go_wp2_with fail
          refine (htx.out _).mono ?_
          rintro e w2 ⟨rfl, hb2⟩
          have hB3 := hB2.keep hb2
          have hbl3 := gr_call hbl2 hb2
          clear hB2 hbl2 hB hk0 htx
          go_wp2_with fail
          refine (writeStr_b b _ T _ hB3 (by omega) (bld_lt hB3)).mono ?_
          rintro e w3 ⟨rfl, hB4, hb3⟩
          have hbl4 : Below w.heap.size w w3 := hbl3.trans (hb3.mono hwb)
          rw [← HT.out] at hB4
          clear hb2 hb3 hB3 hbl3
          go_wp2_with fail
          go_roundw
          case rel => exact ⟨i + 1, rfl, by omega, hbl4, hB4⟩
          case measure => simp only [intOf]; omega
        · have hi0 : decide ((0 : Int) < (i : Int)) = true := decide_eq_true (by omega)
          have hi0' : decide (0 < i) = true := decide_eq_true (by omega)
          have HT := Lib.hid (HM.out h0)
          have hbuf : ∀ u, (wr.alloc (.cells #[.int .i64 t, .int .i64 f, .int .i64 m, .string W] 41)).cell? ⟨b, 1, none⟩ = some u → u.ownBlock ≠ some wr.heap.size := by
            intro u hu e
            rw [World.cell?_alloc_lt _ _ _ hbw] at hu
            have := hB.buf u hu _ e
            omega
          clear HF HM h0
          go_wp2_with fail
          refine (writeByte_k wr.heap.size b _ 44 44 rfl _ hB2 (by omega) (bld_lt hB2) (by simp) (by omega) hbuf).mono ?_
          rintro e w2 ⟨rfl, hB3, hb2, hk2⟩
          have hbl3 : Below w.heap.size w w2 := hbl2.trans (hb2.mono hwb)
          rw [hk0] at hk2
          have d0 : w2.cell? ⟨wr.heap.size, 0, none⟩ = some (.int .i64 t) := cell_of_row _ _ _ _ _ _ hk2
          have d1 : w2.cell? ⟨wr.heap.size, 1, none⟩ = some (.int .i64 f) := cell_of_row _ _ _ _ _ _ hk2
          have d2 : w2.cell? ⟨wr.heap.size, 2, none⟩ = some (.int .i64 m) := cell_of_row _ _ _ _ _ _ hk2
          have d3 : w2.cell? ⟨wr.heap.size, 3, none⟩ = some (.string W) := cell_of_row _ _ _ _ _ _ hk2
          clear hB2 hbl2 hB hk0 hbuf hk2 hb2
          go_wp2_with fail
          refine (htx.out _).mono ?_
          rintro e w3 ⟨rfl, hb3⟩
          have hB4 := hB3.keep hb3
          have hbl4 := gr_call hbl3 hb3
          clear hbl3 hB3 htx
          go_wp2_with fail
          refine (writeStr_b b _ T _ hB4 (by simp; omega) (bld_lt hB4)).mono ?_
          rintro e w4 ⟨rfl, hB5, hb4⟩
          have hbl5 : Below w.heap.size w w4 := hbl4.trans (hb4.mono hwb)
          rw [← HT.out] at hB5
          clear hb3 hb4 hB4 hbl4
          go_wp2_with fail
          go_roundw
          case rel => exact ⟨i + 1, rfl, by omega, hbl5, hB5⟩
          case measure => simp only [intOf]; omega
      · have hlt' : decide ((i : Int) < (z : Int)) = false := decide_eq_false (by omega)
        have hlt2 : decide (i < z) = false := decide_eq_false hlt
        rw [List.take_of_length_le (by rw [Hz.out]; omega)] at hB
        go_wp2_with fail
        refine (string_b b _ _ hB).mono ?_
        rintro e w2 ⟨rfl, hb2⟩
        have hbl2 : Below w.heap.size w w2 := hbl.trans (hb2.mono hwb)
        go_wp2_with fail
        go_ret
        exact ⟨rfl, hbl2⟩
end Go.Proofs.YtikdpoekjfbpaaaDoor
