/- Bundle of 2 texts. -/
import Derived.Test.YtajjhndpdjfcpaaXwRow
import Derived.Test.YtajjhndpdjfcpaaChecked
import Derived.Deep.QuietTactic
import Derived.BigQuiet
import Derived.Outline
/- The document's answer: whether two lists are one. -/
namespace Go.Proofs.Ytajjhndpdjfcpaa.XatW
open Go.RowKit
open XatM
set_option linter.unusedVariables false

theorem strOf_toList (l : List UInt8) : (strOf l).toList = l := by rw [Lib.toList_data, strOf_list]
theorem strOf_ne {a b : List UInt8} (h : ¬ a = b) : ¬ (strOf a).toList = (strOf b).toList := by rw [strOf_toList, strOf_toList]; exact h
attribute [local irreducible] Row At

set_option maxHeartbeats 1600000 in
theorem refSameX_any (va vb : Value) (a b : List Xa) (w : World) (ha : At xatE va a w) (hb : At xatE vb b w) (hl : a.length ≤ 1000000) (hl2 : b.length ≤ 1000000) :
    Calls Try.prog 30 #[va, vb] w fun e w' => e = .returned (.bool (decide (a = b))) ∧ Below w.heap.size w w' := by
  obtain ⟨pa, ca, rfl, hca, hja⟩ := two_look xat_two ha
  obtain ⟨pb, cb, rfl, hcb, hjb⟩ := two_look xat_two hb
  by_cases hlen : a.length = b.length
  · have hne : ((a.length : Int) != (b.length : Int)) = false := by rw [hlen]; simp
    obtain ⟨n, hn⟩ : ∃ n, a.length = n := ⟨_, rfl⟩
    have hn2 : b.length = n := by rw [← hlen, hn]
    have HA := Lib.hid hja
    have HB := Lib.hid hjb
    have HN := Lib.hid hn
    have HN2 := Lib.hid hn2
    rw [hn] at hca hl ⊢
    rw [hn2] at hcb ⊢
    obtain ⟨r, hr⟩ : ∃ r, decide (a = b) = r := ⟨_, rfl⟩
    have Hr := Lib.hid hr
    rw [hr]
    clear hne hlen hja hjb hn hn2 ha hb hr hl2
    go_enter Try.func30, Try.ntmps30
    go_wp2_with fail
    go_loopw [5] (fun iv wr => ∃ i : Nat, iv = .int .i64 (i : Int) ∧ i ≤ n ∧ Below w.heap.size w wr ∧ Hid (a.take i = b.take i)) (fun iv _ => n - (intOf iv).toNat)
    case atStart => exact ⟨0, rfl, by omega, Below.refl _ _, Lib.hid (by simp)⟩
    case round =>
      obtain ⟨i, rfl, hi, hbl, HT⟩ := hrel
      rename_i wr
      by_cases hlt : i < n
      · have hlt' : decide ((i : Int) < (n : Int)) = true := decide_eq_true (by omega)
        have hlt2 : decide (i < n) = true := decide_eq_true hlt
        have hia : i < a.length := by rw [HN.out]; exact hlt
        have hib : i < b.length := by rw [HN2.out]; exact hlt
        obtain ⟨ga, oa, rfl, hga, ta⟩ := HA.out i hia
        obtain ⟨gb, ob, rfl, hgb, tb⟩ := HB.out i hib
        obtain ⟨ca0, ca1⟩ := ta.kept hbl
        obtain ⟨cb0, cb1⟩ := tb.kept hbl
        obtain ⟨ra, hra⟩ : ∃ r, a[i] = r := ⟨_, rfl⟩
        obtain ⟨rb, hrb⟩ : ∃ r, b[i] = r := ⟨_, rfl⟩
        rw [hra] at ca0 ca1
        rw [hrb] at cb0 cb1
        obtain ⟨ka, va⟩ := ra
        obtain ⟨kb, vb⟩ := rb
        simp only at ca0 ca1 cb0 cb1
        have i0 : (0 : Int) ≤ (i : Int) := by omega
        have i1 : (i : Int) < (n : Int) := by omega
        clear ta tb
        by_cases hk : ka = kb
        · subst hk
          by_cases hv : va = vb
          · subst hv
            have HT2 := Lib.hid (show a.take (i + 1) = b.take (i + 1) by
              rw [List.take_succ_eq_append_getElem hia, List.take_succ_eq_append_getElem hib, HT.out, hra, hrb])
            clear hra hrb HT hia hib
            go_wp2_with fail
            go_region
            go_wp2_with fail
            go_roundw
            case rel => exact ⟨i + 1, by go_num, by omega, by (repeat' (first | exact Below.refl _ _ | assumption | refine gr_drew ?_ | refine gr_drewN ?_ _ | refine gr_alloc ?_ _ | refine gr_set ?_ ?_ _ | refine gr_call ?_ (by assumption)) <;> (try (simp; done)) <;> (try (simp; omega)) <;> (try omega)), HT2⟩
            case measure => simp only [intOf]; omega
          · have hv' := strOf_ne hv
            have Hq := Lib.hid (show r = false by
              rw [← Hr.out, decide_eq_false_iff_not]
              intro h; subst h; rw [hra] at hrb
              exact hv (congrArg Prod.snd hrb))
            clear hra hrb HT hia hib hv
            go_wp2_with fail
            go_region
            go_wp2_with fail
            go_ret
            exact ⟨ret_bool Hq.out.symm, by (repeat' (first | exact Below.refl _ _ | assumption | refine gr_drew ?_ | refine gr_drewN ?_ _ | refine gr_alloc ?_ _ | refine gr_set ?_ ?_ _ | refine gr_call ?_ (by assumption)) <;> (try (simp; done)) <;> (try (simp; omega)) <;> (try omega))⟩
        · have hk' := strOf_ne hk
          have Hq := Lib.hid (show r = false by
            rw [← Hr.out, decide_eq_false_iff_not]
            intro h; subst h; rw [hra] at hrb
            exact hk (congrArg Prod.fst hrb))
          clear hra hrb HT hia hib hk
          go_wp2_with fail
          go_region
          go_wp2_with fail
          go_ret
          exact ⟨ret_bool Hq.out.symm, by (repeat' (first | exact Below.refl _ _ | assumption | refine gr_drew ?_ | refine gr_drewN ?_ _ | refine gr_alloc ?_ _ | refine gr_set ?_ ?_ _ | refine gr_call ?_ (by assumption)) <;> (try (simp; done)) <;> (try (simp; omega)) <;> (try omega))⟩
      · have hlt' : decide ((i : Int) < (n : Int)) = false := decide_eq_false (by omega)
        have hlt2 : decide (i < n) = false := decide_eq_false hlt
        have Hq := Lib.hid (show r = true by
          rw [← Hr.out, decide_eq_true_eq]
          have := HT.out
          rw [List.take_of_length_le (by rw [HN.out]; omega), List.take_of_length_le (by rw [HN2.out]; omega)] at this
          exact this)
        clear hlt
        go_wp2_with fail
        go_ret
        exact ⟨ret_bool Hq.out.symm, hbl⟩
  · have hne : ((a.length : Int) != (b.length : Int)) = true := by rw [bne_iff_ne]; omega
    rw [decide_eq_false (fun h => hlen (by rw [h]))]
    clear hlen
    go_enter Try.func30, Try.ntmps30
    go_wp2_with fail
    go_ret
    exact ⟨rfl, Below.refl _ _⟩

end Go.Proofs.Ytajjhndpdjfcpaa.XatW

/- slices.Equal of two lists of names with values; package xattr's Same. -/
namespace Go.Proofs.Ytajjhndpdjfcpaa.XatW
open Go.RowKit
open XatM
set_option linter.unusedVariables false
attribute [local irreducible] Row At

set_option maxHeartbeats 1600000 in
theorem equal_any (va vb : Value) (a b : List Xa) (w : World) (ha : At xatE va a w) (hb : At xatE vb b w) (hl : a.length ≤ 1000000) (hl2 : b.length ≤ 1000000) :
    Calls Try.prog 49 #[va, vb] w fun e w' => e = .returned (.bool (decide (a = b))) ∧ Below w.heap.size w w' := by
  obtain ⟨pa, ca, rfl, hca, hja⟩ := two_look xat_two ha
  obtain ⟨pb, cb, rfl, hcb, hjb⟩ := two_look xat_two hb
  by_cases hlen : a.length = b.length
  · have hne : ((a.length : Int) != (b.length : Int)) = false := by rw [hlen]; simp
    obtain ⟨n, hn⟩ : ∃ n, a.length = n := ⟨_, rfl⟩
    have hn2 : b.length = n := by rw [← hlen, hn]
    have HA := Lib.hid hja
    have HB := Lib.hid hjb
    have HN := Lib.hid hn
    have HN2 := Lib.hid hn2
    rw [hn] at hca hl ⊢
    rw [hn2] at hcb ⊢
    obtain ⟨r, hr⟩ : ∃ r, decide (a = b) = r := ⟨_, rfl⟩
    have Hr := Lib.hid hr
    rw [hr]
    clear hne hlen hja hjb hn hn2 ha hb hr hl2
    go_enter Try.func49, Try.ntmps49
    go_wp2_with fail
    go_loopw [13] (fun iv wr => ∃ i : Nat, iv = .int .i64 (i : Int) ∧ i ≤ n ∧ Below w.heap.size w wr ∧ Hid (a.take i = b.take i)) (fun iv _ => n - (intOf iv).toNat)
    case atStart => exact ⟨0, rfl, by omega, Below.refl _ _, Lib.hid (by simp)⟩
    case round =>
      obtain ⟨i, rfl, hi, hbl, HT⟩ := hrel
      rename_i wr
      by_cases hlt : i < n
      · have hlt' : decide ((i : Int) < (n : Int)) = true := decide_eq_true (by omega)
        have hlt2 : decide (i < n) = true := decide_eq_true hlt
        have hia : i < a.length := by rw [HN.out]; exact hlt
        have hib : i < b.length := by rw [HN2.out]; exact hlt
        obtain ⟨ga, oa, rfl, hga, ta⟩ := HA.out i hia
        obtain ⟨gb, ob, rfl, hgb, tb⟩ := HB.out i hib
        obtain ⟨ca0, ca1⟩ := ta.kept hbl
        obtain ⟨cb0, cb1⟩ := tb.kept hbl
        obtain ⟨ra, hra⟩ : ∃ r, a[i] = r := ⟨_, rfl⟩
        obtain ⟨rb, hrb⟩ : ∃ r, b[i] = r := ⟨_, rfl⟩
        rw [hra] at ca0 ca1
        rw [hrb] at cb0 cb1
        obtain ⟨ka, va⟩ := ra
        obtain ⟨kb, vb⟩ := rb
        simp only at ca0 ca1 cb0 cb1
        have i0 : (0 : Int) ≤ (i : Int) := by omega
        have i1 : (i : Int) < (n : Int) := by omega
        clear ta tb
        by_cases hk : ka = kb
        · subst hk
          by_cases hv : va = vb
          · subst hv
            have HT2 := Lib.hid (show a.take (i + 1) = b.take (i + 1) by
              rw [List.take_succ_eq_append_getElem hia, List.take_succ_eq_append_getElem hib, HT.out, hra, hrb])
            clear hra hrb HT hia hib
            go_wp2_with fail
            go_region
            go_wp2_with fail
            go_roundw
            case rel => exact ⟨i + 1, by go_num, by omega, by (repeat' (first | exact Below.refl _ _ | assumption | refine gr_drew ?_ | refine gr_drewN ?_ _ | refine gr_alloc ?_ _ | refine gr_set ?_ ?_ _ | refine gr_call ?_ (by assumption)) <;> (try (simp; done)) <;> (try (simp; omega)) <;> (try omega)), HT2⟩
            case measure => simp only [intOf]; omega
          · have hv' := strOf_ne hv
            have Hq := Lib.hid (show r = false by
              rw [← Hr.out, decide_eq_false_iff_not]
              intro h; subst h; rw [hra] at hrb
              exact hv (congrArg Prod.snd hrb))
            clear hra hrb HT hia hib hv
            go_wp2_with fail
            go_region
            go_wp2_with fail
            go_ret
            exact ⟨ret_bool Hq.out.symm, by (repeat' (first | exact Below.refl _ _ | assumption | refine gr_drew ?_ | refine gr_drewN ?_ _ | refine gr_alloc ?_ _ | refine gr_set ?_ ?_ _ | refine gr_call ?_ (by assumption)) <;> (try (simp; done)) <;> (try (simp; omega)) <;> (try omega))⟩
        · have hk' := strOf_ne hk
          have Hq := Lib.hid (show r = false by
            rw [← Hr.out, decide_eq_false_iff_not]
            intro h; subst h; rw [hra] at hrb
            exact hk (congrArg Prod.fst hrb))
          clear hra hrb HT hia hib hk
          go_wp2_with fail
          go_region
          go_wp2_with fail
          go_ret
          exact ⟨ret_bool Hq.out.symm, by (repeat' (first | exact Below.refl _ _ | assumption | refine gr_drew ?_ | refine gr_drewN ?_ _ | refine gr_alloc ?_ _ | refine gr_set ?_ ?_ _ | refine gr_call ?_ (by assumption)) <;> (try (simp; done)) <;> (try (simp; omega)) <;> (try omega))⟩
      · have hlt' : decide ((i : Int) < (n : Int)) = false := decide_eq_false (by omega)
        have hlt2 : decide (i < n) = false := decide_eq_false hlt
        have Hq := Lib.hid (show r = true by
          rw [← Hr.out, decide_eq_true_eq]
          have := HT.out
          rw [List.take_of_length_le (by rw [HN.out]; omega), List.take_of_length_le (by rw [HN2.out]; omega)] at this
          exact this)
        clear hlt
        go_wp2_with fail
        go_ret
        exact ⟨ret_bool Hq.out.symm, hbl⟩
  · have hne : ((a.length : Int) != (b.length : Int)) = true := by rw [bne_iff_ne]; omega
    rw [decide_eq_false (fun h => hlen (by rw [h]))]
    clear hlen
    go_enter Try.func49, Try.ntmps49
    go_wp2_with fail
    go_ret
    exact ⟨rfl, Below.refl _ _⟩

theorem SameX_go (va vb : Value) (a b : List Xa) (w : World) (ha : At xatE va a w) (hb : At xatE vb b w) (hl : a.length ≤ 1000000) (hl2 : b.length ≤ 1000000) :
    Calls Try.prog 28 #[va, vb] w fun e w' => e = .returned (.bool (decide (a = b))) ∧ Below w.heap.size w w' := by
  have H := Lib.hid (equal_any va vb a b w ha hb hl hl2)
  clear ha hb hl hl2
  go_enter Try.func28, Try.ntmps28
  go_wp2_with (go_at_call 49; refine H.out.mono ?_; rintro e w1 ⟨rfl, hb⟩)
  go_ret
  exact ⟨rfl, hb⟩
end Go.Proofs.Ytajjhndpdjfcpaa.XatW
