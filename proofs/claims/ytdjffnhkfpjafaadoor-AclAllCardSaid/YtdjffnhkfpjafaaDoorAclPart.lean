/- Walks over package acl: a part's reading. -/
import Derived.Test.YtdjffnhkfpjafaaDoorAclPiece
namespace Go.Proofs.YtdjffnhkfpjafaaDoor
open Go.RowKit
open AclM DecM
set_option linter.unusedVariables false

/-- How a part's reading ends. -/
def partEnd (o : Option Ace) (e : Ending) : Prop := match o with
  | some a => e = .returned (aceV a)
  | none => e = .panicked notList

theorem cutA_len (c : UInt8) (s : List UInt8) : (cutA c s).1.length ≤ s.length ∧ (cutA c s).2.length ≤ s.length := by
  unfold cutA Lib.cut
  split
  · simp only [List.length_take, List.length_drop]; omega
  · simp
theorem tagOf_in {l id : List UInt8} {t : Int} (h : tagOf l id = some t) : 1 ≤ t ∧ t ≤ 6 := by
  unfold tagOf at h
  repeat' (split at h)
  all_goals first | (cases h; omega) | (cases h)
theorem permOf_in {l : List UInt8} {p : Int} (h : permOf l = some p) : 0 ≤ p ∧ p ≤ 7 := by
  match l, h with
  | [a, b, c], h =>
    simp only [permOf, Option.some.injEq] at h
    subst h
    repeat' split
    all_goals omega
theorem idOf_in {l : List UInt8} {n : Int} (h : idOf l = some n) : -9223372036854775808 ≤ n ∧ n ≤ 9223372036854775807 := by
  unfold idOf at h
  split at h
  · cases h; omega
  · split at h
    · rename_i h2
      cases h
      exact Lib.atoiAll_bounds h2
    · cases h

set_option maxHeartbeats 1600000 in
theorem parsePart_any (S : ByteArray) (hS : S.size ≤ 1000000) (w : World) (hA : Amb w) :
    Calls Tryd.prog 42 #[.string S] w fun e w' => partEnd (partOf S.data.toList) e ∧ Below w.heap.size w w' := by
  have hl1 := cutA_len 58 S.data.toList
  have hl2 := cutA_len 58 (cutA 58 S.data.toList).2
  rw [len_list] at hl1
  have hc1 := Lib.hid (fun w' (hA' : Amb w') => cut_any S w' hA' (by omega))
  have hz1 := strOf_size (cutA 58 S.data.toList).1
  have hz2 := strOf_size (cutA 58 S.data.toList).2
  have hz3 := strOf_size (cutA 58 (cutA 58 S.data.toList).2).1
  have hz4 := strOf_size (cutA 58 (cutA 58 S.data.toList).2).2
  have hc2 := Lib.hid (fun w' (hA' : Amb w') => cut_any (strOf (cutA 58 S.data.toList).2) w' hA' (by omega))
  rw [strOf_list] at hc2
  have ht := Lib.hid (fun w' => parseTag_any (strOf (cutA 58 S.data.toList).1) (strOf (cutA 58 (cutA 58 S.data.toList).2).1) w')
  have hi := Lib.hid (fun w' (hA' : Amb w') => parseId_any (strOf (cutA 58 (cutA 58 S.data.toList).2).1) (by omega) w' hA')
  have hp := Lib.hid (fun w' => parsePerm_any (strOf (cutA 58 (cutA 58 S.data.toList).2).2) (by omega) w')
  rw [strOf_list] at hi hp
  rw [strOf_list, strOf_list] at ht
  obtain ⟨o, ho⟩ : ∃ o, partOf S.data.toList = o := ⟨_, rfl⟩
  rw [ho]
  unfold partOf guess at ho
  generalize strOf (cutA 58 S.data.toList).1 = LT at *
  generalize strOf (cutA 58 S.data.toList).2 = RE at *
  generalize strOf (cutA 58 (cutA 58 S.data.toList).2).1 = ID at *
  generalize strOf (cutA 58 (cutA 58 S.data.toList).2).2 = PE at *
  have Htg := Lib.hid (fun t (h : tagOf (cutA 58 S.data.toList).1 (cutA 58 (cutA 58 S.data.toList).2).1 = some t) => tagOf_in h)
  have Hid2 := Lib.hid (fun t (h : idOf (cutA 58 (cutA 58 S.data.toList).2).1 = some t) => idOf_in h)
  have Hpm := Lib.hid (fun t (h : permOf (cutA 58 (cutA 58 S.data.toList).2).2 = some t) => permOf_in h)
  generalize tagOf (cutA 58 S.data.toList).1 (cutA 58 (cutA 58 S.data.toList).2).1 = ot at *
  generalize idOf (cutA 58 (cutA 58 S.data.toList).2).1 = oi at *
  generalize permOf (cutA 58 (cutA 58 S.data.toList).2).2 = op at *
  have Ho := Lib.hid ho
  clear hz1 hz2 hz3 hz4 hl1 hl2 ho
  have hx0 : Below w.heap.size w (w.alloc (.cells #[.int .i64 0, .int .i64 0, .int .i64 0] 39)) := by (repeat' (first | exact Below.refl _ _ | assumption | refine gr_drew ?_ | refine gr_drewN ?_ _ | refine gr_alloc ?_ _ | refine gr_set ?_ ?_ _ | refine gr_call ?_ (by assumption)) <;> (try (simp; done)) <;> (try (simp; omega)) <;> (try omega))
  go_enter Tryd.func42, Tryd.ntmps42
  go_wp2_with fail
  refine (hc1.out _ (hA.on hx0)).mono ?_
  rintro e w1 ⟨⟨b1, rfl⟩, hb1⟩
  go_wp2_with fail
  refine (hc2.out _ (hA.on (gr_call hx0 hb1))).mono ?_
  rintro e w2 ⟨⟨b2, rfl⟩, hb2⟩
  replace hb2 := gr_call hb1 hb2
  clear hc1 hc2 hb1
  rcases ot with _ | t
  · go_wp2_with fail
    refine (ht.out _).mono ?_
    rintro e w3 ⟨he, rfl⟩
    obtain rfl : e = .panicked notList := he
    go_wp2_with fail
    exact ⟨rfl, by rw [← Ho.out]; rfl, gr_call hx0 hb2⟩
  have htg := Htg.out _ rfl
  go_wp2_with fail
  refine (ht.out _).mono ?_
  rintro e w3 ⟨he, rfl⟩
  obtain rfl : e = .returned (.int .i64 t) := he
  clear ht Htg
  rcases oi with _ | d
  · go_wp2_with fail
    refine (hi.out _ (hA.on (gr_call hx0 hb2))).mono ?_
    rintro e w3 ⟨he, hb3⟩
    obtain rfl : e = .panicked notList := he
    go_wp2_with fail
    exact ⟨rfl, by rw [← Ho.out]; rfl, gr_call hx0 (gr_call hb2 hb3)⟩
  have hid := Hid2.out _ rfl
  go_wp2_with fail
  refine (hi.out _ (hA.on (gr_call hx0 hb2))).mono ?_
  rintro e w3 ⟨he, hb3⟩
  obtain rfl : e = .returned (.int .i64 d) := he
  replace hb3 := gr_call hb2 hb3
  clear hi Hid2 hb2
  rcases op with _ | q
  · go_wp2_with fail
    refine (hp.out _).mono ?_
    rintro e w4 ⟨he, hb4⟩
    obtain rfl : e = .panicked notList := he
    go_wp2_with fail
    exact ⟨rfl, by rw [← Ho.out]; rfl, gr_call hx0 (gr_call hb3 hb4)⟩
  have hpm := Hpm.out _ rfl
  go_wp2_with fail
  refine (hp.out _).mono ?_
  rintro e w4 ⟨he, hb4⟩
  obtain rfl : e = .returned (.int .i64 q) := he
  replace hb4 := gr_call hb3 hb4
  clear hp Hpm hb3
  have hb5 : Below (w.alloc (.cells #[.int .i64 0, .int .i64 0, .int .i64 0] 39)).heap.size (w.alloc (.cells #[.int .i64 0, .int .i64 0, .int .i64 0] 39)) (w4.alloc (.cells #[.int .i64 t, .int .i64 d, .int .i64 q] 39)) := gr_alloc hb4 _
  have htx := Lib.hid (text_any (t, d, q) _ (hA.on (gr_call hx0 hb5)) htg.1 htg.2 hpm.1 hpm.2 hid.1 hid.2)
  obtain ⟨T, hT⟩ : ∃ T, strOf (partText (t, d, q)) = T := ⟨_, rfl⟩
  rw [hT] at htx
  have hTl : partText (t, d, q) = T.data.toList := by rw [← hT, strOf_list]
  have hs4 := hb4.size
  have hTe : T.toList = T.data.toList := Lib.toList_data T
  have hSe : S.toList = S.data.toList := Lib.toList_data S
  by_cases hTS : T.data.toList = S.data.toList
  · have hq : T.toList = S.toList := by rw [hTe, hSe]; exact hTS
    have HP : Hid (o = some (t, d, q)) := Lib.hid (by rw [← Ho.out]; exact if_pos (by rw [hTl]; exact hTS))
    clear hTS hTe hSe hTl hT
    go_wp2_with fail
    refine (htx.out).mono ?_
    rintro e w5 ⟨rfl, hb6⟩
    have c0 : w5.cell? ⟨w4.heap.size, 0, none⟩ = some (.int .i64 t) := cell_kept hb6 (by simp [go_sem])
    have c1 : w5.cell? ⟨w4.heap.size, 1, none⟩ = some (.int .i64 d) := cell_kept hb6 (by simp [go_sem])
    have c2 : w5.cell? ⟨w4.heap.size, 2, none⟩ = some (.int .i64 q) := cell_kept hb6 (by simp [go_sem])
    replace hb6 := gr_call hb5 hb6
    have d0 : w5.cell? ⟨w.heap.size, 0, none⟩ = some (.int .i64 0) := cell_kept hb6 (by simp [go_sem])
    have d1 : w5.cell? ⟨w.heap.size, 1, none⟩ = some (.int .i64 0) := cell_kept hb6 (by simp [go_sem])
    have d2 : w5.cell? ⟨w.heap.size, 2, none⟩ = some (.int .i64 0) := cell_kept hb6 (by simp [go_sem])
    have f0 : w5.frozen? ⟨w.heap.size, 0, none⟩ = false := free_kept hb6 (v := .int .i64 0) (by simp [go_sem]) (by simp [go_sem])
    have f1 : w5.frozen? ⟨w.heap.size, 1, none⟩ = false := free_kept hb6 (v := .int .i64 0) (by simp [go_sem]) (by simp [go_sem])
    have f2 : w5.frozen? ⟨w.heap.size, 2, none⟩ = false := free_kept hb6 (v := .int .i64 0) (by simp [go_sem]) (by simp [go_sem])
    have hb7 := gr_call hx0 hb6
    clear hb5 htx hb4
    go_wp2_with fail
    refine bodyPost_ret (v := aceV (t, d, q)) ?_ rfl ⟨by rw [HP.out]; rfl, by (repeat' (first | exact Below.refl _ _ | assumption | refine gr_drew ?_ | refine gr_drewN ?_ _ | refine gr_alloc ?_ _ | refine gr_set ?_ ?_ _ | refine gr_call ?_ (by assumption)) <;> (try (simp; done)) <;> (try (simp; omega)) <;> (try omega))⟩
    simp [results, Tryd.results42, go_sem, aceV, *]
  · have hq : ¬ T.toList = S.toList := by rw [hTe, hSe]; exact hTS
    have hq2 : (T.toList == S.toList) = false := beq_eq_false_iff_ne.2 hq
    clear hq
    have HP : Hid (o = none) := Lib.hid (by rw [← Ho.out]; exact if_neg (by rw [hTl]; exact hTS))
    clear hTS hTe hSe hTl hT
    go_wp2_with fail
    refine (htx.out).mono ?_
    rintro e w5 ⟨rfl, hb6⟩
    replace hb6 := gr_call hb5 hb6
    go_wp2_with fail
    exact ⟨rfl, by rw [HP.out]; rfl, gr_call hx0 hb6⟩
end Go.Proofs.YtdjffnhkfpjafaaDoor
