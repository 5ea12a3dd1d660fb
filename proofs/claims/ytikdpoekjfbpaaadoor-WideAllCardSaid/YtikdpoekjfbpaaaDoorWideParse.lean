/- Walks over package wide: parse, Parse. -/
import Derived.Test.YtikdpoekjfbpaaaDoorWidePart
namespace Go.Proofs.YtikdpoekjfbpaaaDoor
open Go.RowKit
open WideM
open AclM (cutAt)
set_option linter.unusedVariables false
attribute [local irreducible] Row At

/-- How the parsing ends. -/
def parseEnd (B : Nat) (o : Option (List Wid)) (e : Ending) (w' : World) : Prop := match o with
  | some l => ∃ v, e = .returned v ∧ Row wideE B v l w'
  | none => e = .panicked notPart
theorem parts_step {ps : List (List UInt8)} {acc : List Wid} {i : Nat} {a : Wid} (hi : i < ps.length) (h : partsOf ps = (partsOf (ps.drop i)).map (acc ++ ·)) (ha : partOf ps[i] = some a) :
    partsOf ps = (partsOf (ps.drop (i + 1))).map ((acc ++ [a]) ++ ·) := by
  rw [h, drop_cons hi]
  show Option.map _ (match partOf ps[i] with | none => none | some a => (partsOf (ps.drop (i + 1))).map (a :: ·)) = _
  rw [ha]
  simp only [Option.map_map]
  congr 1
  funext x
  simp
theorem parts_bad {ps : List (List UInt8)} {acc : List Wid} {i : Nat} (hi : i < ps.length) (h : partsOf ps = (partsOf (ps.drop i)).map (acc ++ ·)) (ha : partOf ps[i] = none) : partsOf ps = none := by
  rw [h, drop_cons hi]
  show Option.map _ (match partOf ps[i] with | none => none | some a => (partsOf (ps.drop (i + 1))).map (a :: ·)) = _
  rw [ha]
  rfl
theorem parts_end {ps : List (List UInt8)} {acc : List Wid} {i : Nat} (hi : ps.length ≤ i) (h : partsOf ps = (partsOf (ps.drop i)).map (acc ++ ·)) : partsOf ps = some acc := by
  rw [h, List.drop_eq_nil_of_le hi]
  show Option.map _ (some []) = _
  simp
set_option maxHeartbeats 1600000 in
set_option maxRecDepth 100000 in
theorem parse_any (S : ByteArray) (hS : S.size ≤ 800000) (w : World) (hA : Amb w) :
    Calls Tryd.prog 18 #[.string S] w fun e w' => parseEnd w.heap.size (getL S.data.toList) e w' ∧ Below w.heap.size w w' := by
  by_cases hS0 : S.data.toList = []
  · have g1 : S.toList = [] := by rw [Lib.toList_data]; exact hS0
    have g2 : S.toList.isEmpty = true := by rw [g1]; rfl
    have HE := Lib.hid (show getL S.data.toList = some [] by unfold getL; rw [if_pos hS0])
    clear hS0 hS
    go_enter Tryd.func18, Tryd.ntmps18
    go_wp2_with fail
    go_ret
    exact ⟨by rw [HE.out]; exact ⟨_, rfl, Row.nil _ _⟩, Below.refl _ _⟩
  have g1 : ¬ S.toList = [] := by rw [Lib.toList_data]; exact hS0
  have g2 : S.toList.isEmpty = false := by rw [Bool.eq_false_iff]; intro e; exact g1 (List.isEmpty_iff.1 e)
  have hsp := Lib.hid (split_any S 44 ⟨#[44]⟩ rfl w hA (by omega))
  obtain ⟨hk1, hk2⟩ := cutAt_sum 44 S.data.toList
  rw [len_list] at hk1 hk2
  obtain ⟨o, ho⟩ : ∃ o, getL S.data.toList = o := ⟨_, rfl⟩
  rw [ho]
  unfold getL at ho
  rw [if_neg hS0] at ho
  clear hS0
  generalize cutAt 44 S.data.toList = ps at *
  have hpart := Lib.hid (fun (j : Nat) (h : j < ps.length) w' (hA' : Amb w') => parsePart_any (strOf ps[j]) (by rw [strOf_size]; have := hk2 ps[j] (List.getElem_mem h); omega) w' hA')
  obtain ⟨z, hz⟩ : ∃ z, ps.length = z := ⟨_, rfl⟩
  have Hz := Lib.hid hz
  rw [hz] at hk1
  have Ho := Lib.hid ho
  clear hk2 ho
  go_enter Tryd.func18, Tryd.ntmps18
  go_wp2_with fail
  refine (hsp.out).mono ?_
  rintro e w1 ⟨⟨v, rfl, hRs⟩, hb1⟩
  have hat := hRs.at
  clear hRs
  have hlk : ∃ p cap, v = .slice p z cap ∧ z ≤ cap ∧ ∀ j (h : j < ps.length), ∃ g off, p = some ⟨g, off, none⟩ ∧ g < w1.heap.size ∧ w1.cell? ⟨g, off + j, none⟩ = some (.string (strOf ps[j])) := by
    by_cases hl : ps = []
    · obtain ⟨p, cap, h1, h2⟩ := hat.shape
      rw [hz] at h1 h2
      exact ⟨p, cap, h1, h2, fun j hj => by subst hl; simp at hj⟩
    · obtain ⟨g, off, cap, h1, h2, h3, h4⟩ := str_open hat hl
      rw [hz] at h1 h2
      exact ⟨_, cap, h1, h2, fun j hj => ⟨g, off, rfl, h3, h4 j hj⟩⟩
  obtain ⟨p, cap, rfl, hcap, hcell⟩ := hlk
  have Hcell := Lib.hid hcell
  clear hcell hat hz hsp
  go_wp2_with fail
  go_loopw [3, 11] (fun lv iv wr => ∃ (i : Nat) (acc : List Wid), iv = .int .i64 (i : Int) ∧ i ≤ z ∧ Row wideE w1.heap.size lv acc wr ∧ Below w1.heap.size w1 wr ∧ acc.length ≤ i ∧ Hid (partsOf ps = (partsOf (ps.drop i)).map (acc ++ ·))) (fun _ iv _ => z - (intOf iv).toNat)
  case atStart => exact ⟨0, [], rfl, by omega, Row.nil _ _, Below.refl _ _, by simp, Lib.hid (by simp only [List.drop_zero, List.nil_append]; cases partsOf ps <;> rfl)⟩
  case round =>
    obtain ⟨i, acc, rfl, hi, hR, hbm, hacc, HR⟩ := hrel
    rename_i wr
    have hbl := gr_call hb1 hbm
    by_cases hlt : i < z
    · have hlt' : decide ((i : Int) < (z : Int)) = true := decide_eq_true (by omega)
      have hlt2 : decide (i < z) = true := decide_eq_true hlt
      have hi' : i < ps.length := by rw [Hz.out]; exact hlt
      obtain ⟨g, off, rfl, hg, c0⟩ := Hcell.out i hi'
      replace c0 := cell_kept hbm c0
      have hp := Lib.hid (hpart.out i hi' wr (hA.on hbl))
      rw [strOf_list] at hp
      obtain ⟨X, hX⟩ : ∃ X, strOf ps[i] = X := ⟨_, rfl⟩
      rw [hX] at c0 hp
      have HB := Lib.hid (fun h => parts_bad hi' HR.out h)
      have HS := Lib.hid (fun a h => parts_step (a := a) hi' HR.out h)
      generalize partOf ps[i] = op at *
      clear HR hX
      go_wp2_with fail
      refine (hp.out).mono ?_
      rintro e w2 ⟨he, hb2⟩
      have hR2 := hR.call hb2
      have hbl2 := gr_call hbl hb2
      have hbm2 := gr_call hbm hb2
      clear hp
      rcases op with _ | a
      · obtain rfl : e = .panicked notPart := he
        have HE := Lib.hid (HB.out rfl)
        clear HB HS
        go_wp2_with fail
        exact ⟨rfl, by rw [← Ho.out, HE.out]; rfl, hbl2⟩
      · obtain rfl : e = .returned (wideV a) := he
        have HE := Lib.hid (HS.out a rfl)
        clear HB HS
        obtain ⟨t, f, m, W⟩ := a
        have hs2 := hbm2.size
        have hR3 := hR2.alloc (.cells #[.int .i64 t, .int .i64 f, .int .i64 m, .string W] 41)
        have hone := (one_wide w2 ⟨t, f, m, W⟩ w1.heap.size hs2).at
        simp only at hone
        unfold wideV
        simp only
        have hl1 : acc.length + [(⟨t, f, m, W⟩ : Wid)].length ≤ 1000000 := by simp; omega
        have hsz : w1.heap.size ≤ (w2.alloc (.cells #[.int .i64 t, .int .i64 f, .int .i64 m, .string W] 41)).heap.size := by simp; omega
        go_wp2_with (at_builtin; refine wp_append_at wideE rfl _ _ rfl w1.heap.size _ (.slice (some ⟨w2.heap.size, 0, none⟩) 1 1) acc [⟨t, f, m, W⟩] (w2.alloc (.cells #[.int .i64 t, .int .i64 f, .int .i64 m, .string W] 41)) rfl (by exact hR3) (by rfl) (by exact hone) hl1 hsz ?_)
        intro v' w3 hR' hb' hgr _
        have hbm3 : Below w1.heap.size w1 w3 := (gr_alloc hbm2 _).trans hb'
        clear hR hR2 hR3 hone hb' hb2 hbl hbl2 hbm hbm2 hgr
        go_wp2_with fail
        go_roundw
        case rel => exact ⟨i + 1, _, rfl, by omega, hR', hbm3, by rw [List.length_append]; simp only [List.length_cons, List.length_nil]; omega, HE⟩
        case measure => simp only [intOf]; omega
    · have hlt' : decide ((i : Int) < (z : Int)) = false := decide_eq_false (by omega)
      have hlt2 : decide (i < z) = false := decide_eq_false hlt
      have HE := Lib.hid (parts_end (by rw [Hz.out]; omega) HR.out)
      have hmay := Lib.hid (may_any _ acc _ hR.at (by omega))
      clear HR
      rcases hm : may acc with _ | _
      · rw [hm] at hmay
        have HO : Hid (o = none) := Lib.hid (by rw [← Ho.out, HE.out]; simp [hm])
        clear HE Ho
        go_wp2_with fail
        refine (hmay.out).mono ?_
        rintro e w2 ⟨rfl, hb2⟩
        go_wp2_with fail
        exact ⟨rfl, by rw [HO.out]; rfl, gr_call hbl hb2⟩
      · rw [hm] at hmay
        have HO : Hid (o = some acc) := Lib.hid (by rw [← Ho.out, HE.out]; simp [hm])
        clear HE Ho
        go_wp2_with fail
        refine (hmay.out).mono ?_
        rintro e w2 ⟨rfl, hb2⟩
        have hR2 := hR.call hb2
        go_wp2_with fail
        go_ret
        exact ⟨by rw [HO.out]; exact ⟨_, rfl, hR2.mono hb1.size⟩, gr_call hbl hb2⟩
end Go.Proofs.YtikdpoekjfbpaaaDoor
