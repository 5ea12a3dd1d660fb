/- Walks over package rec: all records of some bytes. -/
import Derived.Test.YtbjklpodkopgiaaDoorRecGet2
import Derived.Test.YtbjklpodkopgiaaDoorRecRow
namespace Go.Proofs.YtbjklpodkopgiaaDoor
open Go.RowKit
open RecM
set_option linter.unusedVariables false

/-- How All ends. -/
def AllEnd (o : Option (List (List UInt8 × List UInt8))) (e : Ending) (w' : World) : Prop := match o with
  | some l => ∃ v, e = .returned (.tuple #[v, .int .i64 0]) ∧ RecAt v l w'
  | none => e = .returned (.tuple #[.slice none 0 0, .int .i64 4])
theorem all_at {L : List UInt8} {acc : List (List UInt8 × List UInt8)} {i : Nat} {k v : List UInt8} {n : Nat} (h : (allF (L.drop i)).map (acc ++ ·) = allF L) (hg : getF (L.drop i) = some (k, v, n)) :
    (allF (L.drop (i + n))).map ((acc ++ [(k, v)]) ++ ·) = allF L := by
  rw [all_step hg, Option.map_map, List.drop_drop] at h
  rw [← h]
  congr 1
  funext x
  simp
theorem all_none {L : List UInt8} {acc : List (List UInt8 × List UInt8)} {i : Nat} (h : (allF (L.drop i)).map (acc ++ ·) = allF L) (hi : i < L.length) (hg : getF (L.drop i) = none) : allF L = none := by
  rw [← h, all_bad (by intro e; have := congrArg List.length e; rw [List.length_drop] at this; simp at this; omega) hg]
  rfl
theorem all_end {L : List UInt8} {acc : List (List UInt8 × List UInt8)} {i : Nat} (h : (allF (L.drop i)).map (acc ++ ·) = allF L) (hi : L.length ≤ i) : allF L = some acc := by
  rw [← h, List.drop_eq_nil_of_le hi, all_nil]
  simp

set_option maxHeartbeats 1600000 in
theorem all_any (S : ByteArray) (hS : S.size ≤ 65536) (w : World) (hA : Amb w) :
    Calls Tryd.prog 11 #[.string S] w fun e w' => AllEnd (allF S.data.toList) e w' ∧ Below w.heap.size w w' := by
  obtain ⟨z, hz⟩ : ∃ z, S.size = z := ⟨_, rfl⟩
  obtain ⟨L, hL⟩ : ∃ L, S.data.toList = L := ⟨_, rfl⟩
  have hlen : L.length = z := by rw [← hL, len_list, hz]
  have hget := Lib.hid (fun i (h : i < z) => get_any S i (by omega) (by omega))
  rw [hL] at hget ⊢
  rw [hz] at hS
  have h1 : decide (65536 < (z : Int)) = false := decide_eq_false (by omega)
  have h1' : decide (65536 < z) = false := decide_eq_false (by omega)
  have Hlen := Lib.hid hlen
  clear hlen hL
  go_enter Tryd.func11, Tryd.ntmps11
  go_wp2_with fail
  go_loopw [4, 5] (fun lv iv wr => ∃ (i : Nat) (acc : List (List UInt8 × List UInt8)), iv = .int .i64 (i : Int) ∧ i ≤ z ∧ RecRow w.heap.size lv acc wr ∧ Below w.heap.size w wr ∧ acc.length ≤ i ∧ Hid ((allF (L.drop i)).map (acc ++ ·) = allF L)) (fun _ iv _ => z - (intOf iv).toNat)
  case atStart => exact ⟨0, [], rfl, by omega, RecRow.nil _ _, Below.refl _ _, by simp, Lib.hid (by simp only [List.drop_zero, List.nil_append]; cases allF L <;> rfl)⟩
  case round =>
    obtain ⟨i, acc, rfl, hi, hR, hbl, hacc, HR⟩ := hrel
    rename_i lv wr
    by_cases hlt : i < z
    · have hlt' : decide ((i : Int) < (z : Int)) = true := decide_eq_true (by omega)
      have hlt2 : decide (i < z) = true := decide_eq_true hlt
      have hg := Lib.hid (hget.out i hlt)
      go_wp2_with fail
      refine (hg.out _ (hA.on hbl)).mono ?_
      rintro e w1 ⟨rfl, hb1⟩
      have hbl1 := gr_call hbl hb1
      have hR1 := hR.call hb1
      clear hR
      rcases hgf : getF (L.drop i) with _ | ⟨k, v, n⟩
      · have Hn := Lib.hid (all_none HR.out (by rw [Hlen.out]; exact hlt) hgf)
        simp only [getV]
        clear hg HR hlt hgf
        go_wp2_with fail
        go_ret2
        rw [Hn.out]
        exact ⟨rfl, by (repeat' (first | exact Below.refl _ _ | assumption | refine gr_drew ?_ | refine gr_drewN ?_ _ | refine gr_alloc ?_ _ | refine gr_set ?_ ?_ _ | refine gr_call ?_ (by assumption)) <;> (try (simp; done)) <;> (try (simp; omega)) <;> (try omega))⟩
      · have hp := get_pos hgf
        rw [List.length_drop, Hlen.out] at hp
        have HT := Lib.hid (all_at HR.out hgf)
        obtain ⟨j, hj⟩ : ∃ j, i + n = j := ⟨_, rfl⟩
        simp only [getV]
        rw [hj] at HT ⊢
        have hjz : j ≤ z := by omega
        have hij : i < j := by omega
        clear hg HR hlt hgf hp hj
        have hR2 := hR1.alloc (.cells #[.string (strOf k), .string (strOf v)] 23)
        have hl1 : acc.length + 1 ≤ 1000000 := by omega
        have hsz : w.heap.size ≤ (w1.alloc (.cells #[.string (strOf k), .string (strOf v)] 23)).heap.size := by have := hbl1.size; simp; omega
        go_wp2_with (at_builtin; refine wp_append_rec rfl _ _ rfl w.heap.size _ _ (w1.alloc (.cells #[.string (strOf k), .string (strOf v)] 23)) (k, v) rfl (by exact hR2) ?hx hl1 hsz ?_)
        case hx => show Value.slice (some ⟨w1.heap.size + 1, 0, none⟩) 1 1 = _; simp
        intro v' w' hR' hb' hfar
        have hbl' : Below w.heap.size w w' := (gr_alloc hbl1 _).trans hb'
        clear hR1 hR2 hb' hfar hb1 hbl1
        go_wp2_with fail
        go_roundw
        case rel => exact ⟨j, _, rfl, hjz, hR', hbl', by rw [List.length_append]; simp only [List.length_cons, List.length_nil]; omega, HT⟩
        case measure => simp only [intOf]; omega
    · have hlt' : decide ((i : Int) < (z : Int)) = false := decide_eq_false (by omega)
      have hlt2 : decide (i < z) = false := decide_eq_false hlt
      have Hn := Lib.hid (all_end HR.out (by rw [Hlen.out]; omega))
      clear HR hlt
      go_wp2_with fail
      go_ret2
      rw [Hn.out]
      exact ⟨⟨_, rfl, hR.at⟩, hbl⟩

/-- How AllRecs ends. -/
def AllEndR (o : Option (List (List UInt8 × List UInt8))) (e : Ending) (w' : World) : Prop := match o with
  | some l => ∃ v, e = .returned (.agg #[v, .int .i64 0]) ∧ RecAt v l w'
  | none => e = .returned (.agg #[.slice none 0 0, .int .i64 4])
end Go.Proofs.YtbjklpodkopgiaaDoor
