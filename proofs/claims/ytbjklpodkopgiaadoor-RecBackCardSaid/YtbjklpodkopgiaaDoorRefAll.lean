/- Walks over the document's answer for records: all of some bytes; are two lists one? -/
import Derived.Test.YtbjklpodkopgiaaDoorRecAll
import Derived.Test.YtbjklpodkopgiaaDoorRefGetRec2
namespace Go.Proofs.YtbjklpodkopgiaaDoor
open Go.RowKit
open RecM
set_option linter.unusedVariables false

set_option maxHeartbeats 1600000 in
theorem refAll_any (S : ByteArray) (hS : S.size ≤ 65536) (w : World) :
    Calls Tryd.prog 12 #[.string S] w fun e w' => AllEndR (allF S.data.toList) e w' ∧ Below w.heap.size w w' := by
  obtain ⟨z, hz⟩ : ∃ z, S.size = z := ⟨_, rfl⟩
  obtain ⟨L, hL⟩ : ∃ L, S.data.toList = L := ⟨_, rfl⟩
  have hlen : L.length = z := by rw [← hL, len_list, hz]
  have hget := Lib.hid (fun i (h : i < z) => refGet_any S i (by omega) (by omega))
  rw [hL] at hget ⊢
  rw [hz] at hS
  have h1 : decide (65536 < (z : Int)) = false := decide_eq_false (by omega)
  have h1' : decide (65536 < z) = false := decide_eq_false (by omega)
  have Hlen := Lib.hid hlen
  clear hlen hL
  go_enter Tryd.func12, Tryd.ntmps12
  go_wp2_with fail
  obtain ⟨W0, hW0⟩ : ∃ W0, w.alloc (.cells #[.slice none 0 0, .int .i64 0] 35) = W0 := ⟨_, rfl⟩
  have k0 : W0.cell? ⟨w.heap.size, 0, none⟩ = some (.slice none 0 0) := by subst hW0; simp [go_sem]
  have k1 : W0.cell? ⟨w.heap.size, 1, none⟩ = some (.int .i64 0) := by subst hW0; simp [go_sem]
  have f0 : W0.frozen? ⟨w.heap.size, 0, none⟩ = false := by subst hW0; simp [go_sem]
  have f1 : W0.frozen? ⟨w.heap.size, 1, none⟩ = false := by subst hW0; simp [go_sem]
  have z0 : W0.heap.size = w.heap.size + 1 := by subst hW0; simp
  have hb0 : Below w.heap.size w W0 := by subst hW0; (repeat' (first | exact Below.refl _ _ | assumption | refine gr_drew ?_ | refine gr_drewN ?_ _ | refine gr_alloc ?_ _ | refine gr_set ?_ ?_ _ | refine gr_call ?_ (by assumption)) <;> (try (simp; done)) <;> (try (simp; omega)) <;> (try omega))
  rw [hW0]
  have Z0 := Lib.hid z0
  clear hW0 z0
  go_loopw [3, 4] (fun lv iv wr => ∃ (i : Nat) (acc : List (List UInt8 × List UInt8)), iv = .int .i64 (i : Int) ∧ i ≤ z ∧ RecRow W0.heap.size lv acc wr ∧ Below W0.heap.size W0 wr ∧ acc.length ≤ i ∧ Hid ((allF (L.drop i)).map (acc ++ ·) = allF L)) (fun _ iv _ => z - (intOf iv).toNat)
  case atStart => exact ⟨0, [], rfl, by omega, RecRow.nil _ _, Below.refl _ _, by simp, Lib.hid (by simp only [List.drop_zero, List.nil_append]; cases allF L <;> rfl)⟩
  case round =>
    obtain ⟨i, acc, rfl, hi, hR, hbl, hacc, HR⟩ := hrel
    rename_i lv wr
    by_cases hlt : i < z
    · have hlt' : decide ((i : Int) < (z : Int)) = true := decide_eq_true (by omega)
      have hlt2 : decide (i < z) = true := decide_eq_true hlt
      have hg := Lib.hid (hget.out i hlt)
      go_wp2_with fail
      refine (hg.out _).mono ?_
      rintro e w1 ⟨rfl, hb1⟩
      have hbl1 := gr_call hbl hb1
      have hR1 := hR.call hb1
      have j0 := cell_kept hbl1 k0
      have j1 := cell_kept hbl1 k1
      have g0 := free_kept hbl1 k0 f0
      have g1 := free_kept hbl1 k1 f1
      have hsw := hbl1.size
      have hsw2 : w.heap.size < w1.heap.size := by have := Z0.out; omega
      have hbw := hb0.trans (hbl1.mono hb0.size)
      clear hR
      rcases hgf : getF (L.drop i) with _ | ⟨k, v, n⟩
      · have Hn := Lib.hid (all_none HR.out (by rw [Hlen.out]; exact hlt) hgf)
        rw [ref_get, hgf]
        simp only [refV]
        clear hg HR hlt hgf
        go_wp2_with fail
        rw [Hn.out]
        exact bodyPost_ret (v := .agg #[.slice none 0 0, .int .i64 4]) (by simp [results, Tryd.results12, go_sem, *]) rfl ⟨rfl, by (repeat' (first | exact Below.refl _ _ | assumption | refine gr_drew ?_ | refine gr_drewN ?_ _ | refine gr_alloc ?_ _ | refine gr_set ?_ ?_ _ | refine gr_call ?_ (by assumption)) <;> (try (simp; done)) <;> (try (simp; omega)) <;> (try omega))⟩
      · have hp := get_pos hgf
        rw [List.length_drop, Hlen.out] at hp
        have HT := Lib.hid (all_at HR.out hgf)
        obtain ⟨j, hj⟩ : ∃ j, i + n = j := ⟨_, rfl⟩
        rw [ref_get, hgf]
        simp only [refV]
        rw [hj] at HT ⊢
        have hjz : j ≤ z := by omega
        have hij : i < j := by omega
        clear hg HR hlt hgf hp hj
        have hR2 := hR1.alloc (.cells #[.string (strOf k), .string (strOf v), .int .i64 (j : Int), .int .i64 0] 29)
        have hl1 : acc.length + 1 ≤ 1000000 := by omega
        have hsz : W0.heap.size ≤ (w1.alloc (.cells #[.string (strOf k), .string (strOf v), .int .i64 (j : Int), .int .i64 0] 29)).heap.size := by simp; omega
        go_wp2_with (at_builtin; refine wp_append_rec rfl _ _ rfl W0.heap.size _ _ (w1.alloc (.cells #[.string (strOf k), .string (strOf v), .int .i64 (j : Int), .int .i64 0] 29)) (k, v) rfl (by exact hR2) ?hx hl1 hsz ?_)
        case hx => show Value.slice (some ⟨w1.heap.size + 1, 0, none⟩) 1 1 = _; simp
        intro v' w' hR' hb' hfar
        have hbl' : Below W0.heap.size W0 w' := (gr_alloc hbl1 _).trans hb'
        have hnext : w'.cell? ⟨w1.heap.size, 2, none⟩ = some (.int .i64 (j : Int)) := by
          rw [hfar ⟨w1.heap.size, 2, none⟩ (by simp) (by intro e; have h : w1.heap.size < w1.heap.size := hR1.lt _ e.symm; omega)]
          simp [go_sem]
        clear hR1 hR2 hb' hfar hb1 hbl1
        go_wp2_with fail
        go_roundw
        case rel => exact ⟨j, _, rfl, hjz, hR', hbl', by rw [List.length_append]; simp only [List.length_cons, List.length_nil]; omega, HT⟩
        case measure => simp only [intOf]; omega
    · have hlt' : decide ((i : Int) < (z : Int)) = false := decide_eq_false (by omega)
      have hlt2 : decide (i < z) = false := decide_eq_false hlt
      have Hn := Lib.hid (all_end HR.out (by rw [Hlen.out]; omega))
      have j0 := cell_kept hbl k0
      have j1 := cell_kept hbl k1
      have g0 := free_kept hbl k0 f0
      have g1 := free_kept hbl k1 f1
      have hbw := hb0.trans (hbl.mono hb0.size)
      have hsw := hbl.size
      have hsw2 : w.heap.size < wr.heap.size := by have := Z0.out; omega
      obtain ⟨p, cap, rfl⟩ := hR.at.shape
      clear HR hlt
      go_wp2_with fail
      rw [Hn.out]
      refine bodyPost_ret (v := .agg #[.slice p acc.length cap, .int .i64 0]) (by simp [results, Tryd.results12, go_sem, *]) rfl ⟨⟨_, rfl, ?_⟩, by (repeat' (first | exact Below.refl _ _ | assumption | refine gr_drew ?_ | refine gr_drewN ?_ _ | refine gr_alloc ?_ _ | refine gr_set ?_ ?_ _ | refine gr_call ?_ (by assumption)) <;> (try (simp; done)) <;> (try (simp; omega)) <;> (try omega))⟩
      have hr1 : RecRow W0.heap.size (.slice p acc.length cap) acc (wr.setCell ⟨w.heap.size, 0, none⟩ (.slice p acc.length cap)) := ownsRow_setCell_below hR (by show w.heap.size < W0.heap.size; have := Z0.out; omega) _
      exact RecRow.at (ownsRow_setCell_below hr1 (by show w.heap.size < W0.heap.size; have := Z0.out; omega) _)

theorem strOf_toList (l : List UInt8) : (strOf l).toList = l := by rw [Lib.toList_data, strOf_list]
theorem strOf_ne {a b : List UInt8} (h : ¬ a = b) : ¬ (strOf a).toList = (strOf b).toList := by rw [strOf_toList, strOf_toList]; exact h

set_option maxHeartbeats 1600000 in
theorem same_any (va vb : Value) (a b : List (List UInt8 × List UInt8)) (w : World) (ha : RecAt va a w) (hb : RecAt vb b w) (hl : a.length ≤ 1000000) (hl2 : b.length ≤ 1000000) :
    Calls Tryd.prog 18 #[va, vb] w fun e w' => e = .returned (.bool (decide (a = b))) ∧ Below w.heap.size w w' := by
  obtain ⟨pa, ca, rfl⟩ := ha.shape
  obtain ⟨pb, cb, rfl⟩ := hb.shape
  by_cases hlen : a.length = b.length
  · have hne : ((a.length : Int) != (b.length : Int)) = false := by rw [hlen]; simp
    by_cases hnil : a = []
    · subst hnil
      obtain rfl : b = [] := List.eq_nil_of_length_eq_zero hlen.symm
      rw [decide_eq_true rfl]
      clear hne hlen
      go_enter Tryd.func18, Tryd.ntmps18
      go_wp2_with fail
      go_loopw [5] (fun iv wr => iv = .int .i64 0 ∧ Below w.heap.size w wr) (fun iv _ => 0)
      case atStart => exact ⟨rfl, Below.refl _ _⟩
      case round =>
        obtain ⟨rfl, hbl⟩ := hrel
        go_wp2_with fail
        go_ret
        exact ⟨rfl, hbl⟩
    · obtain ⟨ga, ca', ea, hca, hga, hja⟩ := ha.open hnil
      obtain ⟨gb, cb', eb, hcb, hgb, hjb⟩ := hb.open (fun h => hnil (List.eq_nil_of_length_eq_zero (by rw [hlen, h]; rfl)))
      simp only [Value.slice.injEq] at ea eb
      obtain ⟨rfl, _, rfl⟩ := ea
      obtain ⟨rfl, _, rfl⟩ := eb
      obtain ⟨n, hn⟩ : ∃ n, a.length = n := ⟨_, rfl⟩
      have hn2 : b.length = n := by rw [← hlen, hn]
      have HA := Lib.hid hja
      have HB := Lib.hid hjb
      have HN := Lib.hid hn
      have HN2 := Lib.hid hn2
      rw [hn] at hca hl ⊢
      rw [hn2] at hcb ⊢
      obtain ⟨r, hr⟩ : ∃ r, decide (a = b) = r := ⟨_, rfl⟩
      have Hr := Lib.hid hr
      rw [hr]
      clear hne hlen hja hjb hn hn2 ha hb hnil hr hl2
      go_enter Tryd.func18, Tryd.ntmps18
      go_wp2_with fail
      go_loopw [5] (fun iv wr => ∃ i : Nat, iv = .int .i64 (i : Int) ∧ i ≤ n ∧ Below w.heap.size w wr ∧ Hid (a.take i = b.take i)) (fun iv _ => n - (intOf iv).toNat)
      case atStart => exact ⟨0, rfl, by omega, Below.refl _ _, Lib.hid (by simp)⟩
      case round =>
        obtain ⟨i, rfl, hi, hbl, HT⟩ := hrel
        rename_i wr
        by_cases hlt : i < n
        · have hlt' : decide ((i : Int) < (n : Int)) = true := decide_eq_true (by omega)
          have hlt2 : decide (i < n) = true := decide_eq_true hlt
          have hia : i < a.length := by rw [HN.out]; exact hlt
          have hib : i < b.length := by rw [HN2.out]; exact hlt
          have ca0 := cell_kept hbl (HA.out i hia).1
          have ca1 := cell_kept hbl (HA.out i hia).2
          have cb0 := cell_kept hbl (HB.out i hib).1
          have cb1 := cell_kept hbl (HB.out i hib).2
          rw [Nat.mul_comm 2 i] at ca0 ca1 cb0 cb1
          obtain ⟨ra, hra⟩ : ∃ r, a[i] = r := ⟨_, rfl⟩
          obtain ⟨rb, hrb⟩ : ∃ r, b[i] = r := ⟨_, rfl⟩
          rw [hra] at ca0 ca1
          rw [hrb] at cb0 cb1
          obtain ⟨ka, va⟩ := ra
          obtain ⟨kb, vb⟩ := rb
          have i0 : (0 : Int) ≤ (i : Int) := by omega
          have i1 : (i : Int) < (n : Int) := by omega
          by_cases hk : ka = kb
          · subst hk
            by_cases hv : va = vb
            · subst hv
              have HT2 := Lib.hid (show a.take (i + 1) = b.take (i + 1) by
                rw [List.take_succ_eq_append_getElem hia, List.take_succ_eq_append_getElem hib, HT.out, hra, hrb])
              clear hra hrb HT hia hib
              go_wp2_with fail
              go_region
              go_wp2_with fail
              go_roundw
              case rel => exact ⟨i + 1, by go_num, by omega, by (repeat' (first | exact Below.refl _ _ | assumption | refine gr_drew ?_ | refine gr_drewN ?_ _ | refine gr_alloc ?_ _ | refine gr_set ?_ ?_ _ | refine gr_call ?_ (by assumption)) <;> (try (simp; done)) <;> (try (simp; omega)) <;> (try omega)), HT2⟩
              case measure => simp only [intOf]; omega
            · have hv' := strOf_ne hv
              have Hq := Lib.hid (show r = false by
                rw [← Hr.out, decide_eq_false_iff_not]
                intro h; subst h; rw [hra] at hrb
                exact hv (congrArg Prod.snd hrb))
              clear hra hrb HT hia hib hv
              go_wp2_with fail
              go_region
              go_wp2_with fail
              go_ret
              exact ⟨ret_bool Hq.out.symm, by (repeat' (first | exact Below.refl _ _ | assumption | refine gr_drew ?_ | refine gr_drewN ?_ _ | refine gr_alloc ?_ _ | refine gr_set ?_ ?_ _ | refine gr_call ?_ (by assumption)) <;> (try (simp; done)) <;> (try (simp; omega)) <;> (try omega))⟩
          · have hk' := strOf_ne hk
            have Hq := Lib.hid (show r = false by
              rw [← Hr.out, decide_eq_false_iff_not]
              intro h; subst h; rw [hra] at hrb
              exact hk (congrArg Prod.fst hrb))
            clear hra hrb HT hia hib hk
            go_wp2_with fail
            go_region
            go_wp2_with fail
            go_ret
            exact ⟨ret_bool Hq.out.symm, by (repeat' (first | exact Below.refl _ _ | assumption | refine gr_drew ?_ | refine gr_drewN ?_ _ | refine gr_alloc ?_ _ | refine gr_set ?_ ?_ _ | refine gr_call ?_ (by assumption)) <;> (try (simp; done)) <;> (try (simp; omega)) <;> (try omega))⟩
        · have hlt' : decide ((i : Int) < (n : Int)) = false := decide_eq_false (by omega)
          have hlt2 : decide (i < n) = false := decide_eq_false hlt
          have Hq := Lib.hid (show r = true by
            rw [← Hr.out, decide_eq_true_eq]
            have := HT.out
            rw [List.take_of_length_le (by rw [HN.out]; omega), List.take_of_length_le (by rw [HN2.out]; omega)] at this
            exact this)
          clear hlt
          go_wp2_with fail
          go_ret
          exact ⟨ret_bool Hq.out.symm, hbl⟩
  · have hne : ((a.length : Int) != (b.length : Int)) = true := by rw [bne_iff_ne]; omega
    rw [decide_eq_false (fun h => hlen (by rw [h]))]
    clear hlen
    go_enter Tryd.func18, Tryd.ntmps18
    go_wp2_with fail
    go_ret
    exact ⟨rfl, Below.refl _ _⟩
end Go.Proofs.YtbjklpodkopgiaaDoor
