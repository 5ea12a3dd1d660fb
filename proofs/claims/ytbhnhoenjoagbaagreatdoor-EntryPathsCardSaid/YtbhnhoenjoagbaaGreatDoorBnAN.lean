/- Bundle of 4 texts. -/
import Derived.Test.YtbhnhoenjoagbaaGreatDoorBnAM
import Derived.Test.YtbhnhoenjoagbaaGreatDoorBnAM
import Derived.Shelf.RegionOpenPlain
import Derived.Deep.RegionHeld3
/- Access lists in memory. -/
namespace Go.Proofs.YtbhnhoenjoagbaaGreatDoor.AclW
open Go.RowKit
open AclM
set_option linter.unusedVariables false

def aceE : Elt Ace where
  t := 115
  st := 31
  k := 3
  z := .agg #[.int .i64 0, .int .i64 0, .int .i64 0]
  bytes := 24
  enc a := [.int .i64 a.1, .int .i64 a.2.1, .int .i64 a.2.2]
  len _ := rfl
  one _ u h := by simp at h; rcases h with rfl | rfl | rfl <;> rfl
  pos := by decide
  und := Tryz.underlying31
  inf := by kernel_rfl
  zk := rfl
  small := by decide
theorem ace_open {v : Value} {l : List Ace} {w : World} (h : At aceE v l w) (hl : l ≠ []) :
    ∃ g off cap, v = .slice (some ⟨g, off, none⟩) l.length cap ∧ l.length ≤ cap ∧ g < w.heap.size ∧ ∀ j (h : j < l.length), w.cell? ⟨g, off + j * 3, none⟩ = some (.int .i64 l[j].1) ∧ w.cell? ⟨g, off + j * 3 + 1, none⟩ = some (.int .i64 l[j].2.1) ∧ w.cell? ⟨g, off + j * 3 + 2, none⟩ = some (.int .i64 l[j].2.2) := by
  obtain ⟨g, off, cap, h1, h2, h3, h4⟩ := h.open hl
  refine ⟨g, off, cap, h1, h2, h3, fun j hj => ?_⟩
  have e : ∀ i, off + (j * aceE.k + i) = off + j * 3 + i := by intro i; show off + (j * 3 + i) = _; omega
  have a0 := h4 j hj 0 _ rfl
  have a1 := h4 j hj 1 _ rfl
  have a2 := h4 j hj 2 _ rfl
  rw [e] at a0 a1 a2
  exact ⟨a0, a1, a2⟩
/-- Known cells as a list that can be read. -/
theorem ace_at {w : World} {g off cap n : Nat} {l : List Ace} (hn : n = l.length) (hc : l.length ≤ cap) (hg : g < w.heap.size)
    (h : ∀ j (h : j < l.length), w.cell? ⟨g, off + j * 3, none⟩ = some (.int .i64 l[j].1) ∧ w.cell? ⟨g, off + j * 3 + 1, none⟩ = some (.int .i64 l[j].2.1) ∧ w.cell? ⟨g, off + j * 3 + 2, none⟩ = some (.int .i64 l[j].2.2)) : At aceE (.slice (some ⟨g, off, none⟩) n cap) l w := by
  subst hn
  refine .inr ⟨g, off, cap, rfl, hc, hg, fun j hj i u hu => ?_⟩
  have e : off + (j * aceE.k + i) = off + j * 3 + i := by show off + (j * 3 + i) = _; omega
  rw [e]
  obtain ⟨a0, a1, a2⟩ := h j hj
  have hi : i < 3 := (List.getElem?_eq_some_iff.1 hu).1
  have : i = 0 ∨ i = 1 ∨ i = 2 := by omega
  rcases this with rfl | rfl | rfl <;> (cases hu; assumption)
/-- The ints of a list are ints. -/
def Ints (l : List Ace) : Prop := ∀ a ∈ l, -9223372036854775808 ≤ a.1 ∧ a.1 ≤ 9223372036854775807 ∧ -9223372036854775808 ≤ a.2.1 ∧ a.2.1 ≤ 9223372036854775807 ∧ -9223372036854775808 ≤ a.2.2 ∧ a.2.2 ≤ 9223372036854775807
/-- Aces as cells. -/
theorem one_ace (w : World) (a : Ace) (B : Nat) (hB : B ≤ w.heap.size) : Row aceE B (.slice (some ⟨w.heap.size, 0, none⟩) 1 1) [a] (w.alloc (.cells #[.int .i64 a.1, .int .i64 a.2.1, .int .i64 a.2.2] 115)) :=
  lit_row (E := aceE) w [a] _ B 1 rfl hB (by simp) rfl
end Go.Proofs.YtbhnhoenjoagbaaGreatDoor.AclW

/- Walks over package acl: whether a list is valid. -/
namespace Go.Proofs.YtbhnhoenjoagbaaGreatDoor.AclW
open Go.RowKit
open AclM
set_option linter.unusedVariables false

/-- A part by value. -/
def aceV (a : Ace) : Value := .agg #[.int .i64 a.1, .int .i64 a.2.1, .int .i64 a.2.2]

theorem hasId_any (t : Int) (w : World) : Calls Tryz.prog 196 #[.int .i64 t] w fun e w' => e = .returned (.bool (hasId t)) ∧ w = w' := by
  unfold hasId
  by_cases h2 : t = 2
  · subst h2
    go_enter Tryz.func196, Tryz.ntmps196
    go_wp2_with fail
    go_ret
    exact ⟨rfl, rfl⟩
  · have e2 : (t == 2) = false := beq_eq_false_iff_ne.2 h2
    have e2' : decide (t = 2) = false := decide_eq_false h2
    have e4 : (t == 4) = decide (t = 4) := by by_cases h : t = 4 <;> simp [h]
    generalize hd : decide (t = 4) = d at e4 ⊢
    clear hd h2
    go_enter Tryz.func196, Tryz.ntmps196
    go_wp2_with fail
    go_ret
    exact ⟨by simp [e2'], rfl⟩
theorem mayPart_any (a : Ace) (w : World) : Calls Tryz.prog 246 #[aceV a] w fun e w' => e = .returned (.bool (okPart a)) ∧ Below w.heap.size w w' := by
  have hh := hasId_any a.1
  obtain ⟨t, i, p⟩ := a
  unfold okPart aceV
  simp only at hh ⊢
  by_cases h1 : 1 ≤ t
  · by_cases h2 : t ≤ 6
    · by_cases h3 : 0 ≤ p
      · by_cases h4 : p ≤ 7
        · have f1 : decide (t < 1) = false := decide_eq_false (by omega)
          have f2 : decide (6 < t) = false := decide_eq_false (by omega)
          have f3 : decide (p < 0) = false := decide_eq_false (by omega)
          have f4 : decide (7 < p) = false := decide_eq_false (by omega)
          rw [decide_eq_true h1, decide_eq_true h2, decide_eq_true h3, decide_eq_true h4]
          rcases hb : hasId t with _ | _
          · rw [hb] at hh
            have e0 : (i == 0) = decide (i = 0) := by by_cases h : i = 0 <;> simp [h]
            generalize hd : decide (i = 0) = d at e0 ⊢
            clear hd h1 h2 h3 h4
            go_enter Tryz.func246, Tryz.ntmps246
            go_wp2_with fail
            refine (hh _).mono ?_
            rintro e w1 ⟨rfl, rfl⟩
            go_wp2_with fail
            go_ret
            exact ⟨by simp, by (repeat' (first | exact Below.refl _ _ | assumption | refine gr_drew ?_ | refine gr_drewN ?_ _ | refine gr_alloc ?_ _ | refine gr_set ?_ ?_ _ | refine gr_call ?_ (by assumption)) <;> (try (simp; done)) <;> (try (simp; omega)) <;> (try omega))⟩
          · rw [hb] at hh
            by_cases h5 : 0 ≤ i
            · have f5 : decide (0 ≤ i) = true := decide_eq_true h5
              generalize hd : decide (i ≤ 2147483647) = d at ⊢
              clear h1 h2 h3 h4 h5
              go_enter Tryz.func246, Tryz.ntmps246
              go_wp2_with fail
              refine (hh _).mono ?_
              rintro e w1 ⟨rfl, rfl⟩
              go_wp2_with fail
              go_ret
              exact ⟨by simp [f5], by (repeat' (first | exact Below.refl _ _ | assumption | refine gr_drew ?_ | refine gr_drewN ?_ _ | refine gr_alloc ?_ _ | refine gr_set ?_ ?_ _ | refine gr_call ?_ (by assumption)) <;> (try (simp; done)) <;> (try (simp; omega)) <;> (try omega))⟩
            · have f5 : decide (0 ≤ i) = false := decide_eq_false h5
              clear h1 h2 h3 h4 h5
              go_enter Tryz.func246, Tryz.ntmps246
              go_wp2_with fail
              refine (hh _).mono ?_
              rintro e w1 ⟨rfl, rfl⟩
              go_wp2_with fail
              go_ret
              exact ⟨by simp [f5], by (repeat' (first | exact Below.refl _ _ | assumption | refine gr_drew ?_ | refine gr_drewN ?_ _ | refine gr_alloc ?_ _ | refine gr_set ?_ ?_ _ | refine gr_call ?_ (by assumption)) <;> (try (simp; done)) <;> (try (simp; omega)) <;> (try omega))⟩
        · have f1 : decide (t < 1) = false := decide_eq_false (by omega)
          have f2 : decide (6 < t) = false := decide_eq_false (by omega)
          have f3 : decide (p < 0) = false := decide_eq_false (by omega)
          have f4 : decide (7 < p) = true := decide_eq_true (by omega)
          rw [decide_eq_false h4]
          simp only [Bool.and_false, Bool.false_and]
          clear h1 h2 h3 h4 hh
          go_enter Tryz.func246, Tryz.ntmps246
          go_wp2_with fail
          go_ret
          exact ⟨by simp, by (repeat' (first | exact Below.refl _ _ | assumption | refine gr_drew ?_ | refine gr_drewN ?_ _ | refine gr_alloc ?_ _ | refine gr_set ?_ ?_ _ | refine gr_call ?_ (by assumption)) <;> (try (simp; done)) <;> (try (simp; omega)) <;> (try omega))⟩
      · have f1 : decide (t < 1) = false := decide_eq_false (by omega)
        have f2 : decide (6 < t) = false := decide_eq_false (by omega)
        have f3 : decide (p < 0) = true := decide_eq_true (by omega)
        rw [decide_eq_false h3]
        simp only [Bool.and_false, Bool.false_and]
        clear h1 h2 h3 hh
        go_enter Tryz.func246, Tryz.ntmps246
        go_wp2_with fail
        go_ret
        exact ⟨by simp, by (repeat' (first | exact Below.refl _ _ | assumption | refine gr_drew ?_ | refine gr_drewN ?_ _ | refine gr_alloc ?_ _ | refine gr_set ?_ ?_ _ | refine gr_call ?_ (by assumption)) <;> (try (simp; done)) <;> (try (simp; omega)) <;> (try omega))⟩
    · have f1 : decide (t < 1) = false := decide_eq_false (by omega)
      have f2 : decide (6 < t) = true := decide_eq_true (by omega)
      rw [decide_eq_false h2]
      simp only [Bool.and_false, Bool.false_and]
      clear h1 h2 hh
      go_enter Tryz.func246, Tryz.ntmps246
      go_wp2_with fail
      go_ret
      exact ⟨by simp, by (repeat' (first | exact Below.refl _ _ | assumption | refine gr_drew ?_ | refine gr_drewN ?_ _ | refine gr_alloc ?_ _ | refine gr_set ?_ ?_ _ | refine gr_call ?_ (by assumption)) <;> (try (simp; done)) <;> (try (simp; omega)) <;> (try omega))⟩
  · have f1 : decide (t < 1) = true := decide_eq_true (by omega)
    rw [decide_eq_false h1]
    simp only [Bool.and_false, Bool.false_and]
    clear h1 hh
    go_enter Tryz.func246, Tryz.ntmps246
    go_wp2_with fail
    go_ret
    exact ⟨by simp, by (repeat' (first | exact Below.refl _ _ | assumption | refine gr_drew ?_ | refine gr_drewN ?_ _ | refine gr_alloc ?_ _ | refine gr_set ?_ ?_ _ | refine gr_call ?_ (by assumption)) <;> (try (simp; done)) <;> (try (simp; omega)) <;> (try omega))⟩

theorem drop_cons {β : Type} {l : List β} {i : Nat} (h : i < l.length) : l.drop i = l[i] :: l.drop (i + 1) := List.drop_eq_getElem_cons h
theorem mayParts_any (v : Value) (l : List Ace) (w : World) (hat : At aceE v l w) (hl : l.length ≤ 1000000) :
    Calls Tryz.prog 192 #[v] w fun e w' => e = .returned (.bool (l.all okPart)) ∧ Below w.heap.size w w' := by
  have hpart := Lib.hid mayPart_any
  obtain ⟨z, hz⟩ : ∃ z, l.length = z := ⟨_, rfl⟩
  rw [hz] at hl
  rcases List.eq_nil_or_concat l with rfl | ⟨_, _, hne⟩
  · obtain ⟨p, cap, rfl, hcap⟩ := hat.shape
    simp only [List.length_nil]
    go_enter Tryz.func192, Tryz.ntmps192
    go_wp2_with fail
    go_loopw [7] (fun iv wr => iv = .int .i64 0 ∧ wr = w) (fun _ _ => 0)
    case atStart => exact ⟨rfl, rfl⟩
    case round =>
      obtain ⟨rfl, rfl⟩ := hrel
      go_wp2_with fail
      go_ret
      exact ⟨rfl, Below.refl _ _⟩
  · have hne' : l ≠ [] := by rw [hne]; simp
    clear hne
    obtain ⟨g, off, cap, rfl, hcap, hg, hcell⟩ := ace_open hat hne'
    rw [hz] at hcap ⊢
    have Hcell := Lib.hid hcell
    have Hz := Lib.hid hz
    clear hcell hat hne' hz
    go_enter Tryz.func192, Tryz.ntmps192
    go_wp2_with fail
    go_loopw [7] (fun iv wr => ∃ i : Nat, iv = .int .i64 (i : Int) ∧ i ≤ z ∧ Below w.heap.size w wr ∧ Hid (l.all okPart = (l.drop i).all okPart)) (fun iv _ => z - (intOf iv).toNat)
    case atStart => exact ⟨0, rfl, by omega, Below.refl _ _, Lib.hid (by simp)⟩
    case round =>
      obtain ⟨i, rfl, hi, hbl, HR⟩ := hrel
      rename_i wr
      by_cases hlt : i < z
      · have hlt' : decide ((i : Int) < (z : Int)) = true := decide_eq_true (by omega)
        have hlt2 : decide (i < z) = true := decide_eq_true hlt
        have hi' : i < l.length := by rw [Hz.out]; exact hlt
        obtain ⟨c0, c1, c2⟩ := Hcell.out i hi'
        replace c0 := cell_kept hbl c0
        replace c1 := cell_kept hbl c1
        replace c2 := cell_kept hbl c2
        have hp := Lib.hid (hpart.out l[i])
        have HS : Hid ((l.drop i).all okPart = (okPart l[i] && (l.drop (i + 1)).all okPart)) := Lib.hid (by rw [drop_cons hi']; rfl)
        generalize l[i] = a at *
        obtain ⟨t, d, p⟩ := a
        simp only at c0 c1 c2
        rcases hb : okPart (t, d, p) with _ | _
        · rw [hb] at hp HS
          go_wp2_with fail
          refine (hp.out _).mono ?_
          rintro e w1 ⟨rfl, hb1⟩
          have HE := Lib.hid (show l.all okPart = false by rw [HR.out, HS.out]; rfl)
          clear HS HR hb hp
          go_wp2_with fail
          go_ret
          exact ⟨by rw [HE.out]; rfl, by (repeat' (first | exact Below.refl _ _ | assumption | refine gr_drew ?_ | refine gr_drewN ?_ _ | refine gr_alloc ?_ _ | refine gr_set ?_ ?_ _ | refine gr_call ?_ (by assumption)) <;> (try (simp; done)) <;> (try (simp; omega)) <;> (try omega))⟩
        · rw [hb] at hp HS
          go_wp2_with fail
          refine (hp.out _).mono ?_
          rintro e w1 ⟨rfl, hb1⟩
          have HE := Lib.hid (show l.all okPart = (l.drop (i + 1)).all okPart by rw [HR.out, HS.out]; simp)
          clear HS HR hb hp
          go_wp2_with fail
          go_roundw
          case rel => exact ⟨i + 1, rfl, by omega, by (repeat' (first | exact Below.refl _ _ | assumption | refine gr_drew ?_ | refine gr_drewN ?_ _ | refine gr_alloc ?_ _ | refine gr_set ?_ ?_ _ | refine gr_call ?_ (by assumption)) <;> (try (simp; done)) <;> (try (simp; omega)) <;> (try omega)), HE⟩
          case measure => simp only [intOf]; omega
      · have hlt' : decide ((i : Int) < (z : Int)) = false := decide_eq_false (by omega)
        have hlt2 : decide (i < z) = false := decide_eq_false hlt
        have HE := Lib.hid (show l.all okPart = true by rw [HR.out, List.drop_eq_nil_of_le (by rw [Hz.out]; omega)]; rfl)
        clear HR
        go_wp2_with fail
        go_ret
        exact ⟨by rw [HE.out]; rfl, by (repeat' (first | exact Below.refl _ _ | assumption | refine gr_drew ?_ | refine gr_drewN ?_ _ | refine gr_alloc ?_ _ | refine gr_set ?_ ?_ _ | refine gr_call ?_ (by assumption)) <;> (try (simp; done)) <;> (try (simp; omega)) <;> (try omega))⟩
end Go.Proofs.YtbhnhoenjoagbaaGreatDoor.AclW

/- Walks over package acl: whether parts are in order. -/
namespace Go.Proofs.YtbhnhoenjoagbaaGreatDoor.AclW
open Go.RowKit
open AclM
set_option linter.unusedVariables false

/-- A list's cells, empty or not. -/
theorem ace_look {v : Value} {l : List Ace} {w : World} (h : At aceE v l w) :
    ∃ p cap, v = .slice p l.length cap ∧ l.length ≤ cap ∧ ∀ j (h : j < l.length), ∃ g off, p = some ⟨g, off, none⟩ ∧ g < w.heap.size ∧ w.cell? ⟨g, off + j * 3, none⟩ = some (.int .i64 l[j].1) ∧ w.cell? ⟨g, off + j * 3 + 1, none⟩ = some (.int .i64 l[j].2.1) ∧ w.cell? ⟨g, off + j * 3 + 2, none⟩ = some (.int .i64 l[j].2.2) := by
  by_cases hl : l = []
  · obtain ⟨p, cap, h1, h2⟩ := h.shape
    exact ⟨p, cap, h1, h2, fun j hj => by subst hl; simp at hj⟩
  · obtain ⟨g, off, cap, h1, h2, h3, h4⟩ := ace_open h hl
    exact ⟨_, cap, h1, h2, fun j hj => ⟨g, off, rfl, h3, h4 j hj⟩⟩
theorem order_drop {l : List Ace} {i : Nat} (h1 : 1 ≤ i) (h : i < l.length) : order (l.drop (i - 1)) = (ltA (l[i - 1]'(by omega)) l[i] && order (l.drop i)) := by
  obtain ⟨k, rfl⟩ : ∃ k, i = k + 1 := ⟨i - 1, by omega⟩
  simp only [Nat.add_sub_cancel]
  rw [drop_cons (by omega : k < l.length), drop_cons h]
  rfl
theorem order_end {l : List Ace} {i : Nat} (h : l.length ≤ i) : order (l.drop (i - 1)) = true := by
  rcases hd : l.drop (i - 1) with _ | ⟨a, _ | ⟨b, r⟩⟩
  · rfl
  · rfl
  · have := congrArg List.length hd
    rw [List.length_drop] at this
    simp at this
    omega

set_option maxHeartbeats 1600000 in
theorem mayOrder_any (v : Value) (l : List Ace) (w : World) (hat : At aceE v l w) (hl : l.length ≤ 1000000) :
    Calls Tryz.prog 193 #[v] w fun e w' => e = .returned (.bool (order l)) ∧ Below w.heap.size w w' := by
  obtain ⟨z, hz⟩ : ∃ z, l.length = z := ⟨_, rfl⟩
  obtain ⟨p, cap, rfl, hcap, hcell⟩ := ace_look hat
  rw [hz] at hl hcap ⊢
  have Hcell := Lib.hid hcell
  have Hz := Lib.hid hz
  clear hcell hat hz
  go_enter Tryz.func193, Tryz.ntmps193
  go_wp2_with fail
  go_loopw [3] (fun iv wr => ∃ i : Nat, iv = .int .i64 (i : Int) ∧ 1 ≤ i ∧ i ≤ z + 1 ∧ Below w.heap.size w wr ∧ Hid (order l = order (l.drop (i - 1)))) (fun iv _ => z + 1 - (intOf iv).toNat)
  case atStart => exact ⟨1, rfl, by omega, by omega, Below.refl _ _, Lib.hid (by simp)⟩
  case round =>
    obtain ⟨i, rfl, hi1, hi, hbl, HR⟩ := hrel
    rename_i wr
    by_cases hlt : i < z
    · have hlt' : decide ((i : Int) < (z : Int)) = true := decide_eq_true (by omega)
      have hlt2 : decide (i < z) = true := decide_eq_true hlt
      have hi' : i < l.length := by rw [Hz.out]; exact hlt
      obtain ⟨g, off, rfl, hg, c0, c1, c2⟩ := Hcell.out i hi'
      obtain ⟨g', off', ho, _, d0, d1, d2⟩ := Hcell.out (i - 1) (by omega)
      cases ho
      replace c0 := cell_kept hbl c0
      replace c1 := cell_kept hbl c1
      replace c2 := cell_kept hbl c2
      replace d0 := cell_kept hbl d0
      replace d1 := cell_kept hbl d1
      replace d2 := cell_kept hbl d2
      have HS := Lib.hid (order_drop hi1 hi')
      generalize l[i] = b at *
      generalize l[i - 1] = a at *
      obtain ⟨t, d, q⟩ := a
      obtain ⟨t', d', q'⟩ := b
      simp only at c0 c1 c2 d0 d1 d2
      have hn0 : (1 : Int) ≤ (i : Int) := by omega
      have hn1 : (i : Int) - 1 < (z : Int) := by omega
      have hwr : IntKind.i64.wrap ((i : Int) - 1) = (i : Int) - 1 := by rw [IntKind.wrap_i64]; omega
      have hgs := hbl.size
      go_wp2_with fail
      go_region_held3 (fun w' => Below w.heap.size w w' ∧ w'.cell? ⟨g, off + i * 3, none⟩ = some (.int .i64 t') ∧ w'.cell? ⟨g, off + i * 3 + 1, none⟩ = some (.int .i64 d') ∧ w'.cell? ⟨g, off + i * 3 + 2, none⟩ = some (.int .i64 q') ∧ w'.cell? ⟨g, off + (i - 1) * 3, none⟩ = some (.int .i64 t) ∧ w'.cell? ⟨g, off + (i - 1) * 3 + 1, none⟩ = some (.int .i64 d) ∧ w'.cell? ⟨g, off + (i - 1) * 3 + 2, none⟩ = some (.int .i64 q))
        (first | (go_keep; done) | (go_split_ands; (repeat' apply And.intro) <;> (first | assumption | exact Amb.on (by assumption) hb1 | exact AmbB.on (by assumption) hb1 | exact gr_call (by assumption) hb1 | exact cell_kept hb1 (by assumption) | exact free_kept hb1 (by assumption) (by assumption) | (show Below _ _ _; (repeat' (first | exact Below.refl _ _ | assumption | refine gr_drew ?_ | refine gr_drewN ?_ _ | refine gr_alloc ?_ _ | refine gr_set ?_ ?_ _ | refine gr_call ?_ (by assumption)) <;> (try (simp; done)) <;> (try (simp; omega)) <;> (try omega)); done) | (go_keep; done) | (simp [go_sem, *]; done)))) (fail)
      all_goals
        clear c0 c1 c2 d0 d1 d2
        by_cases ha : t' < t
        · have f1 : decide (t' < t) = true := decide_eq_true ha
          have HE := Lib.hid (show order l = false by
            rw [HR.out, HS.out]
            have : ltA (t, d, q) (t', d', q') = false := by simp [ltA]; omega
            rw [this]; rfl)
          clear HR HS ha
          go_wp2_with fail
          go_ret
          exact ⟨by rw [HE.out]; rfl, by (repeat' (first | exact Below.refl _ _ | assumption | refine gr_drew ?_ | refine gr_drewN ?_ _ | refine gr_alloc ?_ _ | refine gr_set ?_ ?_ _ | refine gr_call ?_ (by assumption)) <;> (try (simp; done)) <;> (try (simp; omega)) <;> (try omega))⟩
        · have f1 : decide (t' < t) = false := decide_eq_false ha
          by_cases hb : t = t'
          · subst hb
            have f2 : (t == t) = true := beq_self_eq_true t
            by_cases hc : d' ≤ d
            · have f3 : decide (d' ≤ d) = true := decide_eq_true hc
              have HE := Lib.hid (show order l = false by
                rw [HR.out, HS.out]
                have : ltA (t, d, q) (t, d', q') = false := by simp [ltA]; omega
                rw [this]; rfl)
              clear HR HS ha hc
              go_wp2_with fail
              go_ret
              exact ⟨by rw [HE.out]; rfl, by (repeat' (first | exact Below.refl _ _ | assumption | refine gr_drew ?_ | refine gr_drewN ?_ _ | refine gr_alloc ?_ _ | refine gr_set ?_ ?_ _ | refine gr_call ?_ (by assumption)) <;> (try (simp; done)) <;> (try (simp; omega)) <;> (try omega))⟩
            · have f3 : decide (d' ≤ d) = false := decide_eq_false hc
              have HE := Lib.hid (show order l = order (l.drop (i + 1 - 1)) by
                rw [HR.out, HS.out]
                have : ltA (t, d, q) (t, d', q') = true := by simp [ltA]; omega
                rw [this]; rfl)
              clear HR HS ha hc
              go_wp2_with fail
              go_roundw
              case rel => exact ⟨i + 1, rfl, by omega, by omega, by (repeat' (first | exact Below.refl _ _ | assumption | refine gr_drew ?_ | refine gr_drewN ?_ _ | refine gr_alloc ?_ _ | refine gr_set ?_ ?_ _ | refine gr_call ?_ (by assumption)) <;> (try (simp; done)) <;> (try (simp; omega)) <;> (try omega)), HE⟩
              case measure => simp only [intOf]; omega
          · have f2 : (t == t') = false := beq_eq_false_iff_ne.2 hb
            have HE := Lib.hid (show order l = order (l.drop (i + 1 - 1)) by
              rw [HR.out, HS.out]
              have : ltA (t, d, q) (t', d', q') = true := by simp [ltA]; omega
              rw [this]; rfl)
            clear HR HS ha hb
            go_wp2_with fail
            go_roundw
            case rel => exact ⟨i + 1, rfl, by omega, by omega, by (repeat' (first | exact Below.refl _ _ | assumption | refine gr_drew ?_ | refine gr_drewN ?_ _ | refine gr_alloc ?_ _ | refine gr_set ?_ ?_ _ | refine gr_call ?_ (by assumption)) <;> (try (simp; done)) <;> (try (simp; omega)) <;> (try omega)), HE⟩
            case measure => simp only [intOf]; omega
    · have hlt' : decide ((i : Int) < (z : Int)) = false := decide_eq_false (by omega)
      have hlt2 : decide (i < z) = false := decide_eq_false hlt
      have HE := Lib.hid (show order l = true by rw [HR.out, order_end (by rw [Hz.out]; omega)])
      clear HR
      go_wp2_with fail
      go_ret
      exact ⟨by rw [HE.out]; rfl, by (repeat' (first | exact Below.refl _ _ | assumption | refine gr_drew ?_ | refine gr_drewN ?_ _ | refine gr_alloc ?_ _ | refine gr_set ?_ ?_ _ | refine gr_call ?_ (by assumption)) <;> (try (simp; done)) <;> (try (simp; omega)) <;> (try omega))⟩

/-! ### The first part of a tag -/
theorem isTag_any (a : Ace) (t : Int) (b : Nat) (w : World) (hc : w.cell? ⟨b, 0, none⟩ = some (.int .i64 t)) :
    Calls Tryz.prog 322 #[aceV a, .pointer (some ⟨b, 0, none⟩)] w fun e w' => e = .returned (.bool (decide (a.1 = t))) ∧ Below w.heap.size w w' := by
  obtain ⟨u, d, p⟩ := a
  have hb : b < w.heap.size := block_lt hc
  have hbne : b ≠ w.heap.size := Nat.ne_of_lt hb
  have e0 : (u == t) = decide (u = t) := by by_cases h : u = t <;> simp [h]
  unfold aceV
  simp only
  generalize hd : decide (u = t) = x at e0 ⊢
  have hc2 : (w.alloc (.cells #[.int .i64 u, .int .i64 d, .int .i64 p] 115)).cell? ⟨b, 0, none⟩ = some (.int .i64 t) := cell_kept (gr_alloc (Below.refl _ _) _) hc
  go_enter Tryz.func322, Tryz.ntmps322
  go_wp2_with fail
  go_ret
  exact ⟨rfl, by (repeat' (first | exact Below.refl _ _ | assumption | refine gr_drew ?_ | refine gr_drewN ?_ _ | refine gr_alloc ?_ _ | refine gr_set ?_ ?_ _ | refine gr_call ?_ (by assumption)) <;> (try (simp; done)) <;> (try (simp; omega)) <;> (try omega))⟩
end Go.Proofs.YtbhnhoenjoagbaaGreatDoor.AclW

/- Walks over package acl: the first part of a tag; whether a list is valid. -/
namespace Go.Proofs.YtbhnhoenjoagbaaGreatDoor.AclW
open Go.RowKit
open AclM
set_option linter.unusedVariables false

theorem find_drop {t : Int} {l : List Ace} {i : Nat} (h : i < l.length) : findN t (l.drop i) i = if l[i].1 = t then (i : Int) else findN t (l.drop (i + 1)) (i + 1) := by
  rw [drop_cons h]
  rfl
theorem find_end {t : Int} {l : List Ace} {i : Nat} (h : l.length ≤ i) : findN t (l.drop i) i = -1 := by
  rw [List.drop_eq_nil_of_le h]
  rfl
set_option maxHeartbeats 1600000 in
theorem indexFunc_any (v : Value) (l : List Ace) (t : Int) (b : Nat) (w : World) (hat : At aceE v l w) (hl : l.length ≤ 1000000) (hc : w.cell? ⟨b, 0, none⟩ = some (.int .i64 t)) :
    Calls Tryz.prog 321 #[v, .func (.func 322) #[] #[.pointer (some ⟨b, 0, none⟩)]] w fun e w' => e = .returned (.int .i64 (findN t l 0)) ∧ Below w.heap.size w w' := by
  obtain ⟨z, hz⟩ : ∃ z, l.length = z := ⟨_, rfl⟩
  obtain ⟨p, cap, rfl, hcap, hcell⟩ := ace_look hat
  rw [hz] at hl hcap ⊢
  have Hcell := Lib.hid hcell
  have Hz := Lib.hid hz
  have Htag := Lib.hid isTag_any
  clear hcell hat hz
  go_enter Tryz.func321, Tryz.ntmps321
  go_wp2_with fail
  go_loopw [8] (fun iv wr => ∃ i : Nat, iv = .int .i64 (i : Int) ∧ i ≤ z ∧ Below w.heap.size w wr ∧ Hid (findN t l 0 = findN t (l.drop i) i)) (fun iv _ => z - (intOf iv).toNat)
  case atStart => exact ⟨0, rfl, by omega, Below.refl _ _, Lib.hid (by simp)⟩
  case round =>
    obtain ⟨i, rfl, hi, hbl, HR⟩ := hrel
    rename_i wr
    by_cases hlt : i < z
    · have hlt' : decide ((i : Int) < (z : Int)) = true := decide_eq_true (by omega)
      have hlt2 : decide (i < z) = true := decide_eq_true hlt
      have hi' : i < l.length := by rw [Hz.out]; exact hlt
      obtain ⟨g, off, rfl, hg, c0, c1, c2⟩ := Hcell.out i hi'
      replace c0 := cell_kept hbl c0
      replace c1 := cell_kept hbl c1
      replace c2 := cell_kept hbl c2
      have ht := Lib.hid (Htag.out l[i] t b _ (cell_kept hbl hc))
      have HS := Lib.hid (find_drop (t := t) hi')
      generalize l[i] = a at *
      obtain ⟨u, d, q⟩ := a
      simp only at c0 c1 c2
      have hgs := hbl.size
      by_cases hu : u = t
      · have HE := Lib.hid (show findN t l 0 = (i : Int) by rw [HR.out, HS.out, if_pos hu])
        have ht2 := Lib.hid (by simpa only [decide_eq_true hu] using ht.out)
        clear HR HS hu ht
        go_wp2_with fail
        refine (ht2.out).mono ?_
        rintro e w1 ⟨rfl, hb1⟩
        go_wp2_with fail
        go_ret
        exact ⟨by rw [HE.out]; rfl, by (repeat' (first | exact Below.refl _ _ | assumption | refine gr_drew ?_ | refine gr_drewN ?_ _ | refine gr_alloc ?_ _ | refine gr_set ?_ ?_ _ | refine gr_call ?_ (by assumption)) <;> (try (simp; done)) <;> (try (simp; omega)) <;> (try omega))⟩
      · have HE := Lib.hid (show findN t l 0 = findN t (l.drop (i + 1)) (i + 1) by rw [HR.out, HS.out, if_neg hu])
        have ht2 := Lib.hid (by simpa only [decide_eq_false hu] using ht.out)
        clear HR HS hu ht
        go_wp2_with fail
        refine (ht2.out).mono ?_
        rintro e w1 ⟨rfl, hb1⟩
        go_wp2_with fail
        go_roundw
        case rel => exact ⟨i + 1, rfl, by omega, by (repeat' (first | exact Below.refl _ _ | assumption | refine gr_drew ?_ | refine gr_drewN ?_ _ | refine gr_alloc ?_ _ | refine gr_set ?_ ?_ _ | refine gr_call ?_ (by assumption)) <;> (try (simp; done)) <;> (try (simp; omega)) <;> (try omega)), HE⟩
        case measure => simp only [intOf]; omega
    · have hlt' : decide ((i : Int) < (z : Int)) = false := decide_eq_false (by omega)
      have hlt2 : decide (i < z) = false := decide_eq_false hlt
      have HE := Lib.hid (show findN t l 0 = -1 by rw [HR.out, find_end (by rw [Hz.out]; omega)])
      clear HR
      go_wp2_with fail
      go_ret
      exact ⟨by rw [HE.out]; rfl, by (repeat' (first | exact Below.refl _ _ | assumption | refine gr_drew ?_ | refine gr_drewN ?_ _ | refine gr_alloc ?_ _ | refine gr_set ?_ ?_ _ | refine gr_call ?_ (by assumption)) <;> (try (simp; done)) <;> (try (simp; omega)) <;> (try omega))⟩

theorem find_any (v : Value) (l : List Ace) (t : Int) (w : World) (hat : At aceE v l w) (hl : l.length ≤ 1000000) :
    Calls Tryz.prog 292 #[v, .int .i64 t] w fun e w' => e = .returned (.int .i64 (findN t l 0)) ∧ Below w.heap.size w w' := by
  have hmf : ∀ (fn : Fn) (first cap : Array Value) (w : World), (Instr.makeFunc fn first cap).run Tryz.prog w = .ok (.func fn first cap) w := fun _ _ _ _ => rfl
  have hix := Lib.hid (indexFunc_any v l t w.heap.size (w.alloc (.cells #[.int .i64 t] 3)) (hat.alloc _) hl (by simp [go_sem]))
  generalize findN t l 0 = r at hix ⊢
  clear hat hl
  go_enter Tryz.func292, Tryz.ntmps292
  go_wp2_with fail
  refine (hix.out).mono ?_
  rintro e w1 ⟨rfl, hb1⟩
  go_wp2_with fail
  go_ret
  exact ⟨rfl, by (repeat' (first | exact Below.refl _ _ | assumption | refine gr_drew ?_ | refine gr_drewN ?_ _ | refine gr_alloc ?_ _ | refine gr_set ?_ ?_ _ | refine gr_call ?_ (by assumption)) <;> (try (simp; done)) <;> (try (simp; omega)) <;> (try omega))⟩
theorem has_any (v : Value) (l : List Ace) (t : Int) (w : World) (hat : At aceE v l w) (hl : l.length ≤ 1000000) :
    Calls Tryz.prog 247 #[v, .int .i64 t] w fun e w' => e = .returned (.bool (has l t)) ∧ Below w.heap.size w w' := by
  have hix := Lib.hid (find_any v l t w hat hl)
  unfold has
  generalize findN t l 0 = r at hix ⊢
  clear hat hl
  go_enter Tryz.func247, Tryz.ntmps247
  go_wp2_with fail
  refine (hix.out).mono ?_
  rintro e w1 ⟨rfl, hb1⟩
  go_wp2_with fail
  go_ret
  exact ⟨rfl, hb1⟩

set_option maxHeartbeats 1600000 in
theorem mayTags_any (v : Value) (l : List Ace) (w : World) (hat : At aceE v l w) (hl : l.length ≤ 1000000) :
    Calls Tryz.prog 194 #[v] w fun e w' => e = .returned (.bool (tags l)) ∧ Below w.heap.size w w' := by
  have hh : ∀ t w', Below w.heap.size w w' → Calls Tryz.prog 247 #[v, .int .i64 t] w' fun e w'' => e = .returned (.bool (has l t)) ∧ Below w'.heap.size w' w'' := fun t w' hb => has_any v l t w' (hat.call hb) hl
  have Hh := Lib.hid hh
  unfold tags
  generalize ha : has l = f at *
  clear hh hat hl ha l
  obtain ⟨b1, h1⟩ : ∃ b, f 1 = b := ⟨_, rfl⟩
  obtain ⟨b2, h2⟩ : ∃ b, f 2 = b := ⟨_, rfl⟩
  obtain ⟨b3, h3⟩ : ∃ b, f 3 = b := ⟨_, rfl⟩
  obtain ⟨b4, h4⟩ : ∃ b, f 4 = b := ⟨_, rfl⟩
  obtain ⟨b5, h5⟩ : ∃ b, f 5 = b := ⟨_, rfl⟩
  obtain ⟨b6, h6⟩ : ∃ b, f 6 = b := ⟨_, rfl⟩
  rw [h1, h2, h3, h4, h5, h6]
  have q1 := fun w' hb => by simpa only [h1] using Hh.out 1 w' hb
  have q2 := fun w' hb => by simpa only [h2] using Hh.out 2 w' hb
  have q3 := fun w' hb => by simpa only [h3] using Hh.out 3 w' hb
  have q4 := fun w' hb => by simpa only [h4] using Hh.out 4 w' hb
  have q5 := fun w' hb => by simpa only [h5] using Hh.out 5 w' hb
  have q6 := fun w' hb => by simpa only [h6] using Hh.out 6 w' hb
  replace q1 := Lib.hid q1
  replace q2 := Lib.hid q2
  replace q3 := Lib.hid q3
  replace q4 := Lib.hid q4
  replace q5 := Lib.hid q5
  replace q6 := Lib.hid q6
  clear Hh h1 h2 h3 h4 h5 h6
  have hbl := Below.refl w.heap.size w
  rcases b2 with _ | _
  · go_enter Tryz.func194, Tryz.ntmps194
    go_wp2_with fail
    refine (q2.out _ hbl).mono ?_
    rintro e w1 ⟨rfl, hb1⟩
    replace hbl := gr_call hbl hb1
    clear hb1
    go_wp2_with fail
    refine (q4.out _ hbl).mono ?_
    rintro e w1 ⟨rfl, hb1⟩
    replace hbl := gr_call hbl hb1
    clear hb1
    go_wp2_with fail
    rcases b1 with _ | _
    · refine (q1.out _ hbl).mono ?_
      rintro e w1 ⟨rfl, hb1⟩
      replace hbl := gr_call hbl hb1
      clear hb1
      go_wp2_with fail
      go_ret
      exact ⟨rfl, hbl⟩
    · refine (q1.out _ hbl).mono ?_
      rintro e w1 ⟨rfl, hb1⟩
      replace hbl := gr_call hbl hb1
      clear hb1
      go_wp2_with fail
      rcases b3 with _ | _
      · refine (q3.out _ hbl).mono ?_
        rintro e w1 ⟨rfl, hb1⟩
        replace hbl := gr_call hbl hb1
        clear hb1
        go_wp2_with fail
        go_ret
        exact ⟨rfl, hbl⟩
      · refine (q3.out _ hbl).mono ?_
        rintro e w1 ⟨rfl, hb1⟩
        replace hbl := gr_call hbl hb1
        clear hb1
        go_wp2_with fail
        rcases b6 with _ | _
        · refine (q6.out _ hbl).mono ?_
          rintro e w1 ⟨rfl, hb1⟩
          replace hbl := gr_call hbl hb1
          clear hb1
          go_wp2_with fail
          go_ret
          exact ⟨rfl, hbl⟩
        · refine (q6.out _ hbl).mono ?_
          rintro e w1 ⟨rfl, hb1⟩
          replace hbl := gr_call hbl hb1
          clear hb1
          go_wp2_with fail
          refine (q5.out _ hbl).mono ?_
          rintro e w1 ⟨rfl, hb1⟩
          replace hbl := gr_call hbl hb1
          clear hb1
          go_wp2_with fail
          go_ret
          exact ⟨rfl, hbl⟩
  · go_enter Tryz.func194, Tryz.ntmps194
    go_wp2_with fail
    refine (q2.out _ hbl).mono ?_
    rintro e w1 ⟨rfl, hb1⟩
    replace hbl := gr_call hbl hb1
    clear hb1
    go_wp2_with fail
    rcases b1 with _ | _
    · refine (q1.out _ hbl).mono ?_
      rintro e w1 ⟨rfl, hb1⟩
      replace hbl := gr_call hbl hb1
      clear hb1
      go_wp2_with fail
      go_ret
      exact ⟨rfl, hbl⟩
    · refine (q1.out _ hbl).mono ?_
      rintro e w1 ⟨rfl, hb1⟩
      replace hbl := gr_call hbl hb1
      clear hb1
      go_wp2_with fail
      rcases b3 with _ | _
      · refine (q3.out _ hbl).mono ?_
        rintro e w1 ⟨rfl, hb1⟩
        replace hbl := gr_call hbl hb1
        clear hb1
        go_wp2_with fail
        go_ret
        exact ⟨rfl, hbl⟩
      · refine (q3.out _ hbl).mono ?_
        rintro e w1 ⟨rfl, hb1⟩
        replace hbl := gr_call hbl hb1
        clear hb1
        go_wp2_with fail
        rcases b6 with _ | _
        · refine (q6.out _ hbl).mono ?_
          rintro e w1 ⟨rfl, hb1⟩
          replace hbl := gr_call hbl hb1
          clear hb1
          go_wp2_with fail
          go_ret
          exact ⟨rfl, hbl⟩
        · refine (q6.out _ hbl).mono ?_
          rintro e w1 ⟨rfl, hb1⟩
          replace hbl := gr_call hbl hb1
          clear hb1
          go_wp2_with fail
          refine (q5.out _ hbl).mono ?_
          rintro e w1 ⟨rfl, hb1⟩
          replace hbl := gr_call hbl hb1
          clear hb1
          go_wp2_with fail
          go_ret
          exact ⟨by cases b5 <;> rfl, hbl⟩
end Go.Proofs.YtbhnhoenjoagbaaGreatDoor.AclW
