/- Walks over package acl: whether parts are in order. -/
import Derived.Test.YtdjffnhkfpjafaaDoorAclMay
import Derived.Deep.RegionHeld3
namespace Go.Proofs.YtdjffnhkfpjafaaDoor
open Go.RowKit
open AclM
set_option linter.unusedVariables false

/-- A list's cells, empty or not. -/
theorem ace_look {v : Value} {l : List Ace} {w : World} (h : At aceE v l w) :
    ∃ p cap, v = .slice p l.length cap ∧ l.length ≤ cap ∧ ∀ j (h : j < l.length), ∃ g off, p = some ⟨g, off, none⟩ ∧ g < w.heap.size ∧ w.cell? ⟨g, off + j * 3, none⟩ = some (.int .i64 l[j].1) ∧ w.cell? ⟨g, off + j * 3 + 1, none⟩ = some (.int .i64 l[j].2.1) ∧ w.cell? ⟨g, off + j * 3 + 2, none⟩ = some (.int .i64 l[j].2.2) := by
  by_cases hl : l = []
  · obtain ⟨p, cap, h1, h2⟩ := h.shape
    exact ⟨p, cap, h1, h2, fun j hj => by subst hl; simp at hj⟩
  · obtain ⟨g, off, cap, h1, h2, h3, h4⟩ := ace_open h hl
    exact ⟨_, cap, h1, h2, fun j hj => ⟨g, off, rfl, h3, h4 j hj⟩⟩
theorem order_drop {l : List Ace} {i : Nat} (h1 : 1 ≤ i) (h : i < l.length) : order (l.drop (i - 1)) = (ltA (l[i - 1]'(by omega)) l[i] && order (l.drop i)) := by
  obtain ⟨k, rfl⟩ : ∃ k, i = k + 1 := ⟨i - 1, by omega⟩
  simp only [Nat.add_sub_cancel]
  rw [drop_cons (by omega : k < l.length), drop_cons h]
  rfl
theorem order_end {l : List Ace} {i : Nat} (h : l.length ≤ i) : order (l.drop (i - 1)) = true := by
  rcases hd : l.drop (i - 1) with _ | ⟨a, _ | ⟨b, r⟩⟩
  · rfl
  · rfl
  · have := congrArg List.length hd
    rw [List.length_drop] at this
    simp at this
    omega

set_option maxHeartbeats 1600000 in
theorem mayOrder_any (v : Value) (l : List Ace) (w : World) (hat : At aceE v l w) (hl : l.length ≤ 1000000) :
    Calls Tryd.prog 28 #[v] w fun e w' => e = .returned (.bool (order l)) ∧ Below w.heap.size w w' := by
  obtain ⟨z, hz⟩ : ∃ z, l.length = z := ⟨_, rfl⟩
  obtain ⟨p, cap, rfl, hcap, hcell⟩ := ace_look hat
  rw [hz] at hl hcap ⊢
  have Hcell := Lib.hid hcell
  have Hz := Lib.hid hz
  clear hcell hat hz
  go_enter Tryd.func28, Tryd.ntmps28
  go_wp2_with fail
  go_loopw [3] (fun iv wr => ∃ i : Nat, iv = .int .i64 (i : Int) ∧ 1 ≤ i ∧ i ≤ z + 1 ∧ Below w.heap.size w wr ∧ Hid (order l = order (l.drop (i - 1)))) (fun iv _ => z + 1 - (intOf iv).toNat)
  case atStart => exact ⟨1, rfl, by omega, by omega, Below.refl _ _, Lib.hid (by simp)⟩
  case round =>
    obtain ⟨i, rfl, hi1, hi, hbl, HR⟩ := hrel
    rename_i wr
    by_cases hlt : i < z
    · have hlt' : decide ((i : Int) < (z : Int)) = true := decide_eq_true (by omega)
      have hlt2 : decide (i < z) = true := decide_eq_true hlt
      have hi' : i < l.length := by rw [Hz.out]; exact hlt
      obtain ⟨g, off, rfl, hg, c0, c1, c2⟩ := Hcell.out i hi'
      obtain ⟨g', off', ho, _, d0, d1, d2⟩ := Hcell.out (i - 1) (by omega)
      cases ho
      replace c0 := cell_kept hbl c0
      replace c1 := cell_kept hbl c1
      replace c2 := cell_kept hbl c2
      replace d0 := cell_kept hbl d0
      replace d1 := cell_kept hbl d1
      replace d2 := cell_kept hbl d2
      have HS := Lib.hid (order_drop hi1 hi')
      generalize l[i] = b at *
      generalize l[i - 1] = a at *
      obtain ⟨t, d, q⟩ := a
      obtain ⟨t', d', q'⟩ := b
      simp only at c0 c1 c2 d0 d1 d2
      have hn0 : (1 : Int) ≤ (i : Int) := by omega
      have hn1 : (i : Int) - 1 < (z : Int) := by omega
      have hwr : IntKind.i64.wrap ((i : Int) - 1) = (i : Int) - 1 := by rw [IntKind.wrap_i64]; omega
      have hgs := hbl.size
      go_wp2_with fail
      go_region_held3 (fun w' => Below w.heap.size w w' ∧ w'.cell? ⟨g, off + i * 3, none⟩ = some (.int .i64 t') ∧ w'.cell? ⟨g, off + i * 3 + 1, none⟩ = some (.int .i64 d') ∧ w'.cell? ⟨g, off + i * 3 + 2, none⟩ = some (.int .i64 q') ∧ w'.cell? ⟨g, off + (i - 1) * 3, none⟩ = some (.int .i64 t) ∧ w'.cell? ⟨g, off + (i - 1) * 3 + 1, none⟩ = some (.int .i64 d) ∧ w'.cell? ⟨g, off + (i - 1) * 3 + 2, none⟩ = some (.int .i64 q))
        (first | (go_keep; done) | (go_split_ands; (repeat' apply And.intro) <;> (first | assumption | exact Amb.on (by assumption) hb1 | exact gr_call (by assumption) hb1 | exact cell_kept hb1 (by assumption) | exact free_kept hb1 (by assumption) (by assumption) | (show Below _ _ _; (repeat' (first | exact Below.refl _ _ | assumption | refine gr_drew ?_ | refine gr_drewN ?_ _ | refine gr_alloc ?_ _ | refine gr_set ?_ ?_ _ | refine gr_call ?_ (by assumption)) <;> (try (simp; done)) <;> (try (simp; omega)) <;> (try omega)); done) | (go_keep; done) | (simp [go_sem, *]; done)))) (fail)
      all_goals
        clear c0 c1 c2 d0 d1 d2
        by_cases ha : t' < t
        · have f1 : decide (t' < t) = true := decide_eq_true ha
          have HE := Lib.hid (show order l = false by
            rw [HR.out, HS.out]
            have : ltA (t, d, q) (t', d', q') = false := by simp [ltA]; omega
            rw [this]; rfl)
          clear HR HS ha
          go_wp2_with fail
          go_ret
          exact ⟨by rw [HE.out]; rfl, by (repeat' (first | exact Below.refl _ _ | assumption | refine gr_drew ?_ | refine gr_drewN ?_ _ | refine gr_alloc ?_ _ | refine gr_set ?_ ?_ _ | refine gr_call ?_ (by assumption)) <;> (try (simp; done)) <;> (try (simp; omega)) <;> (try omega))⟩
        · have f1 : decide (t' < t) = false := decide_eq_false ha
          by_cases hb : t = t'
          · subst hb
            have f2 : (t == t) = true := beq_self_eq_true t
            by_cases hc : d' ≤ d
            · have f3 : decide (d' ≤ d) = true := decide_eq_true hc
              have HE := Lib.hid (show order l = false by
                rw [HR.out, HS.out]
                have : ltA (t, d, q) (t, d', q') = false := by simp [ltA]; omega
                rw [this]; rfl)
              clear HR HS ha hc
              go_wp2_with fail
              go_ret
              exact ⟨by rw [HE.out]; rfl, by (repeat' (first | exact Below.refl _ _ | assumption | refine gr_drew ?_ | refine gr_drewN ?_ _ | refine gr_alloc ?_ _ | refine gr_set ?_ ?_ _ | refine gr_call ?_ (by assumption)) <;> (try (simp; done)) <;> (try (simp; omega)) <;> (try omega))⟩
            · have f3 : decide (d' ≤ d) = false := decide_eq_false hc
              have HE := Lib.hid (show order l = order (l.drop (i + 1 - 1)) by
                rw [HR.out, HS.out]
                have : ltA (t, d, q) (t, d', q') = true := by simp [ltA]; omega
                rw [this]; rfl)
              clear HR HS ha hc
              go_wp2_with fail
              go_roundw
              case rel => exact ⟨i + 1, rfl, by omega, by omega, by (repeat' (first | exact Below.refl _ _ | assumption | refine gr_drew ?_ | refine gr_drewN ?_ _ | refine gr_alloc ?_ _ | refine gr_set ?_ ?_ _ | refine gr_call ?_ (by assumption)) <;> (try (simp; done)) <;> (try (simp; omega)) <;> (try omega)), HE⟩
              case measure => simp only [intOf]; omega
          · have f2 : (t == t') = false := beq_eq_false_iff_ne.2 hb
            have HE := Lib.hid (show order l = order (l.drop (i + 1 - 1)) by
              rw [HR.out, HS.out]
              have : ltA (t, d, q) (t', d', q') = true := by simp [ltA]; omega
              rw [this]; rfl)
            clear HR HS ha hb
            go_wp2_with fail
            go_roundw
            case rel => exact ⟨i + 1, rfl, by omega, by omega, by (repeat' (first | exact Below.refl _ _ | assumption | refine gr_drew ?_ | refine gr_drewN ?_ _ | refine gr_alloc ?_ _ | refine gr_set ?_ ?_ _ | refine gr_call ?_ (by assumption)) <;> (try (simp; done)) <;> (try (simp; omega)) <;> (try omega)), HE⟩
            case measure => simp only [intOf]; omega
    · have hlt' : decide ((i : Int) < (z : Int)) = false := decide_eq_false (by omega)
      have hlt2 : decide (i < z) = false := decide_eq_false hlt
      have HE := Lib.hid (show order l = true by rw [HR.out, order_end (by rw [Hz.out]; omega)])
      clear HR
      go_wp2_with fail
      go_ret
      exact ⟨by rw [HE.out]; rfl, by (repeat' (first | exact Below.refl _ _ | assumption | refine gr_drew ?_ | refine gr_drewN ?_ _ | refine gr_alloc ?_ _ | refine gr_set ?_ ?_ _ | refine gr_call ?_ (by assumption)) <;> (try (simp; done)) <;> (try (simp; omega)) <;> (try omega))⟩

/-! ### The first part of a tag -/
theorem isTag_any (a : Ace) (t : Int) (b : Nat) (w : World) (hc : w.cell? ⟨b, 0, none⟩ = some (.int .i64 t)) :
    Calls Tryd.prog 56 #[aceV a, .pointer (some ⟨b, 0, none⟩)] w fun e w' => e = .returned (.bool (decide (a.1 = t))) ∧ Below w.heap.size w w' := by
  obtain ⟨u, d, p⟩ := a
  have hb : b < w.heap.size := block_lt hc
  have hbne : b ≠ w.heap.size := Nat.ne_of_lt hb
  have e0 : (u == t) = decide (u = t) := by by_cases h : u = t <;> simp [h]
  unfold aceV
  simp only
  generalize hd : decide (u = t) = x at e0 ⊢
  have hc2 : (w.alloc (.cells #[.int .i64 u, .int .i64 d, .int .i64 p] 39)).cell? ⟨b, 0, none⟩ = some (.int .i64 t) := cell_kept (gr_alloc (Below.refl _ _) _) hc
  go_enter Tryd.func56, Tryd.ntmps56
  go_wp2_with fail
  go_ret
  exact ⟨rfl, by (repeat' (first | exact Below.refl _ _ | assumption | refine gr_drew ?_ | refine gr_drewN ?_ _ | refine gr_alloc ?_ _ | refine gr_set ?_ ?_ _ | refine gr_call ?_ (by assumption)) <;> (try (simp; done)) <;> (try (simp; omega)) <;> (try omega))⟩
end Go.Proofs.YtdjffnhkfpjafaaDoor
