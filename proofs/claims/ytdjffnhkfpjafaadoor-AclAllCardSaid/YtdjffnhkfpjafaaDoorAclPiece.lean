/- Walks over package acl: an Id and a perm in letters. -/
import Derived.Test.YtdjffnhkfpjafaaDoorAclTag
namespace Go.Proofs.YtdjffnhkfpjafaaDoor
open Go.RowKit
open AclM DecM
set_option linter.unusedVariables false

theorem parseId_any (I : ByteArray) (hI : I.size ≤ 1000000) (w : World) (hA : Amb w) :
    Calls Tryd.prog 51 #[.string I] w fun e w' => intEnd (idOf I.data.toList) e ∧ Below w.heap.size w w' := by
  have ha := Lib.hid (atoi_any I (by omega) w hA)
  have hIe : I.toList = I.data.toList := Lib.toList_data I
  unfold idOf
  by_cases hid : I.data.toList = []
  · have hid1 : I.toList = [] := by rw [hIe]; exact hid
    rw [if_pos hid]
    clear hIe hid ha
    go_enter Tryd.func51, Tryd.ntmps51
    go_wp2_with fail
    go_ret
    exact ⟨rfl, Below.refl _ _⟩
  · have hid1 : ¬ I.toList = [] := by rw [hIe]; exact hid
    have hid2 : I.toList.isEmpty = false := by rw [Bool.eq_false_iff]; intro e; exact hid1 (List.isEmpty_iff.1 e)
    rw [if_neg hid]
    clear hIe hid
    unfold atoiEnd at ha
    rcases h : Lib.atoiAll I.data.toList with n | _ | _
    · rw [h] at ha
      go_enter Tryd.func51, Tryd.ntmps51
      go_wp2_with fail
      refine (ha.out).mono ?_
      rintro e w1 ⟨rfl, hb1⟩
      go_wp2_with fail
      go_ret
      exact ⟨rfl, hb1⟩
    all_goals
      rw [h] at ha
      go_enter Tryd.func51, Tryd.ntmps51
      go_wp2_with fail
      refine (ha.out).mono ?_
      rintro e w1 ⟨⟨m, N, rfl⟩, hb1⟩
      go_wp2_with fail
      exact ⟨rfl, rfl, hb1⟩

def pu (x y z : Bool) (i : Nat) : Int := (if x = true ∧ 0 < i then 4 else 0) + (if y = true ∧ 1 < i then 2 else 0) + (if z = true ∧ 2 < i then 1 else 0)
theorem perm_three {a b c : UInt8} {x y z : Bool} (ha : decide (a = 114) = x) (hb : decide (b = 119) = y) (hc : decide (c = 120) = z) : permOf [a, b, c] = some (pu x y z 3) := by
  subst ha hb hc
  simp [permOf, pu]
theorem perm_none {l : List UInt8} (h : l.length ≠ 3) : permOf l = none := by
  match l with
  | [] => rfl
  | [_] => rfl
  | [_, _] => rfl
  | [_, _, _] => simp at h
  | _ :: _ :: _ :: _ :: _ => rfl
theorem beq_u8 (a : UInt8) (k : Nat) (c : UInt8) (hk : c.toNat = k) (x : Bool) (h : decide (a = c) = x) : ((a.toNat : Int) == (k : Int)) = x := by
  subst h
  by_cases h : a = c
  · subst h; rw [decide_eq_true rfl, hk]; exact beq_self_eq_true _
  · rw [decide_eq_false h, beq_eq_false_iff_ne]
    intro e
    exact h (UInt8.toNat_inj.1 (by omega))

set_option maxHeartbeats 3200000 in
theorem parsePerm_any (S : ByteArray) (hS : S.size ≤ 1000000) (w : World) :
    Calls Tryd.prog 52 #[.string S] w fun e w' => intEnd (permOf S.data.toList) e ∧ Below w.heap.size w w' := by
  have hlen : S.data.toList.length = S.size := len_list S
  by_cases h3 : S.size = 3
  · rcases hd : S.data.toList with _ | ⟨a, _ | ⟨b, _ | ⟨c, _ | ⟨d, r⟩⟩⟩⟩
    · rw [hd] at hlen; simp at hlen; omega
    · rw [hd] at hlen; simp at hlen; omega
    · rw [hd] at hlen; simp at hlen; omega
    · have hidx : ∀ (i : Nat) (u : UInt8), S.data.toList[i]? = some u → ∀ w, (Instr.index 9 (.string S) (.int .i64 (i : Int))).run Tryd.prog w = .ok (.int .u8 (u.toNat : Int)) w := by
        intro i u hu w
        obtain ⟨u', hu', h⟩ := idxAt (P := Tryd.prog) Tryd.underlying9 S i (by rw [← hlen]; exact (List.getElem?_eq_some_iff.1 hu).1)
        rw [hu] at hu'
        cases hu'
        exact h w
      rw [hd] at hidx
      have i0 := hidx 0 a rfl
      have i1 := hidx 1 b rfl
      have i2 := hidx 2 c rfl
      simp only [show ((0 : Nat) : Int) = 0 from rfl, show ((1 : Nat) : Int) = 1 from rfl, show ((2 : Nat) : Int) = 2 from rfl] at i0 i1 i2
      have z3 : (S.size : Int) = 3 := by omega
      obtain ⟨x, hx⟩ : ∃ x, decide (a = 114) = x := ⟨_, rfl⟩
      obtain ⟨y, hy⟩ : ∃ y, decide (b = 119) = y := ⟨_, rfl⟩
      obtain ⟨z, hz⟩ : ∃ z, decide (c = 120) = z := ⟨_, rfl⟩
      have HP := Lib.hid (perm_three hx hy hz)
      have f0 : ((a.toNat : Int) == ((({ data := #[114, 119, 120] } : ByteArray)[0]'(by decide)).toNat : Int)) = x := beq_u8 a _ (({ data := #[114, 119, 120] } : ByteArray)[0]'(by decide)) rfl x hx
      have f1 : ((b.toNat : Int) == ((({ data := #[114, 119, 120] } : ByteArray)[1]'(by decide)).toNat : Int)) = y := beq_u8 b _ (({ data := #[114, 119, 120] } : ByteArray)[1]'(by decide)) rfl y hy
      have f2 : ((c.toNat : Int) == ((({ data := #[114, 119, 120] } : ByteArray)[2]'(by decide)).toNat : Int)) = z := beq_u8 c _ (({ data := #[114, 119, 120] } : ByteArray)[2]'(by decide)) rfl z hz
      clear hidx hd hx hy hz hlen
      cases x <;> cases y <;> cases z
      · go_enter Tryd.func52, Tryd.ntmps52
        go_wp2_with fail
        go_loopw [3, 10] (fun pv iv wr => ∃ i : Nat, iv = .int .i64 (i : Int) ∧ i ≤ 3 ∧ pv = .int .i64 (pu false false false i) ∧ Below w.heap.size w wr) (fun _ iv _ => 3 - (intOf iv).toNat)
        case atStart => exact ⟨0, rfl, by omega, rfl, Below.refl _ _⟩
        case round =>
          obtain ⟨i, rfl, hi, rfl, hbl⟩ := hrel
          have hi4 : i = 0 ∨ i = 1 ∨ i = 2 ∨ i = 3 := by omega
          rcases hi4 with rfl | rfl | rfl | rfl
          · rw [show pu false false false 0 = 0 from rfl]
            go_wp2_with fail
            go_quiet (fail)
            go_wp2_with fail
            go_roundw
            case rel => exact ⟨1, rfl, by omega, rfl, by (repeat' (first | exact Below.refl _ _ | assumption | refine gr_drew ?_ | refine gr_drewN ?_ _ | refine gr_alloc ?_ _ | refine gr_set ?_ ?_ _ | refine gr_call ?_ (by assumption)) <;> (try (simp; done)) <;> (try (simp; omega)) <;> (try omega))⟩
            case measure => simp only [intOf]; omega
          · rw [show pu false false false 1 = 0 from rfl]
            go_wp2_with fail
            go_quiet (fail)
            go_wp2_with fail
            go_roundw
            case rel => exact ⟨2, rfl, by omega, rfl, by (repeat' (first | exact Below.refl _ _ | assumption | refine gr_drew ?_ | refine gr_drewN ?_ _ | refine gr_alloc ?_ _ | refine gr_set ?_ ?_ _ | refine gr_call ?_ (by assumption)) <;> (try (simp; done)) <;> (try (simp; omega)) <;> (try omega))⟩
            case measure => simp only [intOf]; omega
          · rw [show pu false false false 2 = 0 from rfl]
            go_wp2_with fail
            go_quiet (fail)
            go_wp2_with fail
            go_roundw
            case rel => exact ⟨3, rfl, by omega, rfl, by (repeat' (first | exact Below.refl _ _ | assumption | refine gr_drew ?_ | refine gr_drewN ?_ _ | refine gr_alloc ?_ _ | refine gr_set ?_ ?_ _ | refine gr_call ?_ (by assumption)) <;> (try (simp; done)) <;> (try (simp; omega)) <;> (try omega))⟩
            case measure => simp only [intOf]; omega
          · rw [show pu false false false 3 = 0 from rfl]
            go_wp2_with fail
            go_ret
            exact ⟨by rw [HP.out]; rfl, by (repeat' (first | exact Below.refl _ _ | assumption | refine gr_drew ?_ | refine gr_drewN ?_ _ | refine gr_alloc ?_ _ | refine gr_set ?_ ?_ _ | refine gr_call ?_ (by assumption)) <;> (try (simp; done)) <;> (try (simp; omega)) <;> (try omega))⟩
      · go_enter Tryd.func52, Tryd.ntmps52
        go_wp2_with fail
        go_loopw [3, 10] (fun pv iv wr => ∃ i : Nat, iv = .int .i64 (i : Int) ∧ i ≤ 3 ∧ pv = .int .i64 (pu false false true i) ∧ Below w.heap.size w wr) (fun _ iv _ => 3 - (intOf iv).toNat)
        case atStart => exact ⟨0, rfl, by omega, rfl, Below.refl _ _⟩
        case round =>
          obtain ⟨i, rfl, hi, rfl, hbl⟩ := hrel
          have hi4 : i = 0 ∨ i = 1 ∨ i = 2 ∨ i = 3 := by omega
          rcases hi4 with rfl | rfl | rfl | rfl
          · rw [show pu false false true 0 = 0 from rfl]
            go_wp2_with fail
            go_quiet (fail)
            go_wp2_with fail
            go_roundw
            case rel => exact ⟨1, rfl, by omega, rfl, by (repeat' (first | exact Below.refl _ _ | assumption | refine gr_drew ?_ | refine gr_drewN ?_ _ | refine gr_alloc ?_ _ | refine gr_set ?_ ?_ _ | refine gr_call ?_ (by assumption)) <;> (try (simp; done)) <;> (try (simp; omega)) <;> (try omega))⟩
            case measure => simp only [intOf]; omega
          · rw [show pu false false true 1 = 0 from rfl]
            go_wp2_with fail
            go_quiet (fail)
            go_wp2_with fail
            go_roundw
            case rel => exact ⟨2, rfl, by omega, rfl, by (repeat' (first | exact Below.refl _ _ | assumption | refine gr_drew ?_ | refine gr_drewN ?_ _ | refine gr_alloc ?_ _ | refine gr_set ?_ ?_ _ | refine gr_call ?_ (by assumption)) <;> (try (simp; done)) <;> (try (simp; omega)) <;> (try omega))⟩
            case measure => simp only [intOf]; omega
          · rw [show pu false false true 2 = 0 from rfl]
            go_wp2_with fail
            go_quiet (fail)
            go_wp2_with fail
            go_roundw
            case rel => exact ⟨3, rfl, by omega, rfl, by (repeat' (first | exact Below.refl _ _ | assumption | refine gr_drew ?_ | refine gr_drewN ?_ _ | refine gr_alloc ?_ _ | refine gr_set ?_ ?_ _ | refine gr_call ?_ (by assumption)) <;> (try (simp; done)) <;> (try (simp; omega)) <;> (try omega))⟩
            case measure => simp only [intOf]; omega
          · rw [show pu false false true 3 = 1 from rfl]
            go_wp2_with fail
            go_ret
            exact ⟨by rw [HP.out]; rfl, by (repeat' (first | exact Below.refl _ _ | assumption | refine gr_drew ?_ | refine gr_drewN ?_ _ | refine gr_alloc ?_ _ | refine gr_set ?_ ?_ _ | refine gr_call ?_ (by assumption)) <;> (try (simp; done)) <;> (try (simp; omega)) <;> (try omega))⟩
      · go_enter Tryd.func52, Tryd.ntmps52
        go_wp2_with fail
        go_loopw [3, 10] (fun pv iv wr => ∃ i : Nat, iv = .int .i64 (i : Int) ∧ i ≤ 3 ∧ pv = .int .i64 (pu false true false i) ∧ Below w.heap.size w wr) (fun _ iv _ => 3 - (intOf iv).toNat)
        case atStart => exact ⟨0, rfl, by omega, rfl, Below.refl _ _⟩
        case round =>
          obtain ⟨i, rfl, hi, rfl, hbl⟩ := hrel
          have hi4 : i = 0 ∨ i = 1 ∨ i = 2 ∨ i = 3 := by omega
          rcases hi4 with rfl | rfl | rfl | rfl
          · rw [show pu false true false 0 = 0 from rfl]
            go_wp2_with fail
            go_quiet (fail)
            go_wp2_with fail
            go_roundw
            case rel => exact ⟨1, rfl, by omega, rfl, by (repeat' (first | exact Below.refl _ _ | assumption | refine gr_drew ?_ | refine gr_drewN ?_ _ | refine gr_alloc ?_ _ | refine gr_set ?_ ?_ _ | refine gr_call ?_ (by assumption)) <;> (try (simp; done)) <;> (try (simp; omega)) <;> (try omega))⟩
            case measure => simp only [intOf]; omega
          · rw [show pu false true false 1 = 0 from rfl]
            go_wp2_with fail
            go_quiet (fail)
            go_wp2_with fail
            go_roundw
            case rel => exact ⟨2, rfl, by omega, rfl, by (repeat' (first | exact Below.refl _ _ | assumption | refine gr_drew ?_ | refine gr_drewN ?_ _ | refine gr_alloc ?_ _ | refine gr_set ?_ ?_ _ | refine gr_call ?_ (by assumption)) <;> (try (simp; done)) <;> (try (simp; omega)) <;> (try omega))⟩
            case measure => simp only [intOf]; omega
          · rw [show pu false true false 2 = 2 from rfl]
            go_wp2_with fail
            go_quiet (fail)
            go_wp2_with fail
            go_roundw
            case rel => exact ⟨3, rfl, by omega, rfl, by (repeat' (first | exact Below.refl _ _ | assumption | refine gr_drew ?_ | refine gr_drewN ?_ _ | refine gr_alloc ?_ _ | refine gr_set ?_ ?_ _ | refine gr_call ?_ (by assumption)) <;> (try (simp; done)) <;> (try (simp; omega)) <;> (try omega))⟩
            case measure => simp only [intOf]; omega
          · rw [show pu false true false 3 = 2 from rfl]
            go_wp2_with fail
            go_ret
            exact ⟨by rw [HP.out]; rfl, by (repeat' (first | exact Below.refl _ _ | assumption | refine gr_drew ?_ | refine gr_drewN ?_ _ | refine gr_alloc ?_ _ | refine gr_set ?_ ?_ _ | refine gr_call ?_ (by assumption)) <;> (try (simp; done)) <;> (try (simp; omega)) <;> (try omega))⟩
      · go_enter Tryd.func52, Tryd.ntmps52
        go_wp2_with fail
        go_loopw [3, 10] (fun pv iv wr => ∃ i : Nat, iv = .int .i64 (i : Int) ∧ i ≤ 3 ∧ pv = .int .i64 (pu false true true i) ∧ Below w.heap.size w wr) (fun _ iv _ => 3 - (intOf iv).toNat)
        case atStart => exact ⟨0, rfl, by omega, rfl, Below.refl _ _⟩
        case round =>
          obtain ⟨i, rfl, hi, rfl, hbl⟩ := hrel
          have hi4 : i = 0 ∨ i = 1 ∨ i = 2 ∨ i = 3 := by omega
          rcases hi4 with rfl | rfl | rfl | rfl
          · rw [show pu false true true 0 = 0 from rfl]
            go_wp2_with fail
            go_quiet (fail)
            go_wp2_with fail
            go_roundw
            case rel => exact ⟨1, rfl, by omega, rfl, by (repeat' (first | exact Below.refl _ _ | assumption | refine gr_drew ?_ | refine gr_drewN ?_ _ | refine gr_alloc ?_ _ | refine gr_set ?_ ?_ _ | refine gr_call ?_ (by assumption)) <;> (try (simp; done)) <;> (try (simp; omega)) <;> (try omega))⟩
            case measure => simp only [intOf]; omega
          · rw [show pu false true true 1 = 0 from rfl]
            go_wp2_with fail
            go_quiet (fail)
            go_wp2_with fail
            go_roundw
            case rel => exact ⟨2, rfl, by omega, rfl, by (repeat' (first | exact Below.refl _ _ | assumption | refine gr_drew ?_ | refine gr_drewN ?_ _ | refine gr_alloc ?_ _ | refine gr_set ?_ ?_ _ | refine gr_call ?_ (by assumption)) <;> (try (simp; done)) <;> (try (simp; omega)) <;> (try omega))⟩
            case measure => simp only [intOf]; omega
          · rw [show pu false true true 2 = 2 from rfl]
            go_wp2_with fail
            go_quiet (fail)
            go_wp2_with fail
            go_roundw
            case rel => exact ⟨3, rfl, by omega, rfl, by (repeat' (first | exact Below.refl _ _ | assumption | refine gr_drew ?_ | refine gr_drewN ?_ _ | refine gr_alloc ?_ _ | refine gr_set ?_ ?_ _ | refine gr_call ?_ (by assumption)) <;> (try (simp; done)) <;> (try (simp; omega)) <;> (try omega))⟩
            case measure => simp only [intOf]; omega
          · rw [show pu false true true 3 = 3 from rfl]
            go_wp2_with fail
            go_ret
            exact ⟨by rw [HP.out]; rfl, by (repeat' (first | exact Below.refl _ _ | assumption | refine gr_drew ?_ | refine gr_drewN ?_ _ | refine gr_alloc ?_ _ | refine gr_set ?_ ?_ _ | refine gr_call ?_ (by assumption)) <;> (try (simp; done)) <;> (try (simp; omega)) <;> (try omega))⟩
      · go_enter Tryd.func52, Tryd.ntmps52
        go_wp2_with fail
        go_loopw [3, 10] (fun pv iv wr => ∃ i : Nat, iv = .int .i64 (i : Int) ∧ i ≤ 3 ∧ pv = .int .i64 (pu true false false i) ∧ Below w.heap.size w wr) (fun _ iv _ => 3 - (intOf iv).toNat)
        case atStart => exact ⟨0, rfl, by omega, rfl, Below.refl _ _⟩
        case round =>
          obtain ⟨i, rfl, hi, rfl, hbl⟩ := hrel
          have hi4 : i = 0 ∨ i = 1 ∨ i = 2 ∨ i = 3 := by omega
          rcases hi4 with rfl | rfl | rfl | rfl
          · rw [show pu true false false 0 = 0 from rfl]
            go_wp2_with fail
            go_quiet (fail)
            go_wp2_with fail
            go_roundw
            case rel => exact ⟨1, rfl, by omega, rfl, by (repeat' (first | exact Below.refl _ _ | assumption | refine gr_drew ?_ | refine gr_drewN ?_ _ | refine gr_alloc ?_ _ | refine gr_set ?_ ?_ _ | refine gr_call ?_ (by assumption)) <;> (try (simp; done)) <;> (try (simp; omega)) <;> (try omega))⟩
            case measure => simp only [intOf]; omega
          · rw [show pu true false false 1 = 4 from rfl]
            go_wp2_with fail
            go_quiet (fail)
            go_wp2_with fail
            go_roundw
            case rel => exact ⟨2, rfl, by omega, rfl, by (repeat' (first | exact Below.refl _ _ | assumption | refine gr_drew ?_ | refine gr_drewN ?_ _ | refine gr_alloc ?_ _ | refine gr_set ?_ ?_ _ | refine gr_call ?_ (by assumption)) <;> (try (simp; done)) <;> (try (simp; omega)) <;> (try omega))⟩
            case measure => simp only [intOf]; omega
          · rw [show pu true false false 2 = 4 from rfl]
            go_wp2_with fail
            go_quiet (fail)
            go_wp2_with fail
            go_roundw
            case rel => exact ⟨3, rfl, by omega, rfl, by (repeat' (first | exact Below.refl _ _ | assumption | refine gr_drew ?_ | refine gr_drewN ?_ _ | refine gr_alloc ?_ _ | refine gr_set ?_ ?_ _ | refine gr_call ?_ (by assumption)) <;> (try (simp; done)) <;> (try (simp; omega)) <;> (try omega))⟩
            case measure => simp only [intOf]; omega
          · rw [show pu true false false 3 = 4 from rfl]
            go_wp2_with fail
            go_ret
            exact ⟨by rw [HP.out]; rfl, by (repeat' (first | exact Below.refl _ _ | assumption | refine gr_drew ?_ | refine gr_drewN ?_ _ | refine gr_alloc ?_ _ | refine gr_set ?_ ?_ _ | refine gr_call ?_ (by assumption)) <;> (try (simp; done)) <;> (try (simp; omega)) <;> (try omega))⟩
      · go_enter Tryd.func52, Tryd.ntmps52
        go_wp2_with fail
        go_loopw [3, 10] (fun pv iv wr => ∃ i : Nat, iv = .int .i64 (i : Int) ∧ i ≤ 3 ∧ pv = .int .i64 (pu true false true i) ∧ Below w.heap.size w wr) (fun _ iv _ => 3 - (intOf iv).toNat)
        case atStart => exact ⟨0, rfl, by omega, rfl, Below.refl _ _⟩
        case round =>
          obtain ⟨i, rfl, hi, rfl, hbl⟩ := hrel
          have hi4 : i = 0 ∨ i = 1 ∨ i = 2 ∨ i = 3 := by omega
          rcases hi4 with rfl | rfl | rfl | rfl
          · rw [show pu true false true 0 = 0 from rfl]
            go_wp2_with fail
            go_quiet (fail)
            go_wp2_with fail
            go_roundw
            case rel => exact ⟨1, rfl, by omega, rfl, by (repeat' (first | exact Below.refl _ _ | assumption | refine gr_drew ?_ | refine gr_drewN ?_ _ | refine gr_alloc ?_ _ | refine gr_set ?_ ?_ _ | refine gr_call ?_ (by assumption)) <;> (try (simp; done)) <;> (try (simp; omega)) <;> (try omega))⟩
            case measure => simp only [intOf]; omega
          · rw [show pu true false true 1 = 4 from rfl]
            go_wp2_with fail
            go_quiet (fail)
            go_wp2_with fail
            go_roundw
            case rel => exact ⟨2, rfl, by omega, rfl, by (repeat' (first | exact Below.refl _ _ | assumption | refine gr_drew ?_ | refine gr_drewN ?_ _ | refine gr_alloc ?_ _ | refine gr_set ?_ ?_ _ | refine gr_call ?_ (by assumption)) <;> (try (simp; done)) <;> (try (simp; omega)) <;> (try omega))⟩
            case measure => simp only [intOf]; omega
          · rw [show pu true false true 2 = 4 from rfl]
            go_wp2_with fail
            go_quiet (fail)
            go_wp2_with fail
            go_roundw
            case rel => exact ⟨3, rfl, by omega, rfl, by (repeat' (first | exact Below.refl _ _ | assumption | refine gr_drew ?_ | refine gr_drewN ?_ _ | refine gr_alloc ?_ _ | refine gr_set ?_ ?_ _ | refine gr_call ?_ (by assumption)) <;> (try (simp; done)) <;> (try (simp; omega)) <;> (try omega))⟩
            case measure => simp only [intOf]; omega
          · rw [show pu true false true 3 = 5 from rfl]
            go_wp2_with fail
            go_ret
            exact ⟨by rw [HP.out]; rfl, by (repeat' (first | exact Below.refl _ _ | assumption | refine gr_drew ?_ | refine gr_drewN ?_ _ | refine gr_alloc ?_ _ | refine gr_set ?_ ?_ _ | refine gr_call ?_ (by assumption)) <;> (try (simp; done)) <;> (try (simp; omega)) <;> (try omega))⟩
      · go_enter Tryd.func52, Tryd.ntmps52
        go_wp2_with fail
        go_loopw [3, 10] (fun pv iv wr => ∃ i : Nat, iv = .int .i64 (i : Int) ∧ i ≤ 3 ∧ pv = .int .i64 (pu true true false i) ∧ Below w.heap.size w wr) (fun _ iv _ => 3 - (intOf iv).toNat)
        case atStart => exact ⟨0, rfl, by omega, rfl, Below.refl _ _⟩
        case round =>
          obtain ⟨i, rfl, hi, rfl, hbl⟩ := hrel
          have hi4 : i = 0 ∨ i = 1 ∨ i = 2 ∨ i = 3 := by omega
          rcases hi4 with rfl | rfl | rfl | rfl
          · rw [show pu true true false 0 = 0 from rfl]
            go_wp2_with fail
            go_quiet (fail)
            go_wp2_with fail
            go_roundw
            case rel => exact ⟨1, rfl, by omega, rfl, by (repeat' (first | exact Below.refl _ _ | assumption | refine gr_drew ?_ | refine gr_drewN ?_ _ | refine gr_alloc ?_ _ | refine gr_set ?_ ?_ _ | refine gr_call ?_ (by assumption)) <;> (try (simp; done)) <;> (try (simp; omega)) <;> (try omega))⟩
            case measure => simp only [intOf]; omega
          · rw [show pu true true false 1 = 4 from rfl]
            go_wp2_with fail
            go_quiet (fail)
            go_wp2_with fail
            go_roundw
            case rel => exact ⟨2, rfl, by omega, rfl, by (repeat' (first | exact Below.refl _ _ | assumption | refine gr_drew ?_ | refine gr_drewN ?_ _ | refine gr_alloc ?_ _ | refine gr_set ?_ ?_ _ | refine gr_call ?_ (by assumption)) <;> (try (simp; done)) <;> (try (simp; omega)) <;> (try omega))⟩
            case measure => simp only [intOf]; omega
          · rw [show pu true true false 2 = 6 from rfl]
            go_wp2_with fail
            go_quiet (fail)
            go_wp2_with fail
            go_roundw
            case rel => exact ⟨3, rfl, by omega, rfl, by (repeat' (first | exact Below.refl _ _ | assumption | refine gr_drew ?_ | refine gr_drewN ?_ _ | refine gr_alloc ?_ _ | refine gr_set ?_ ?_ _ | refine gr_call ?_ (by assumption)) <;> (try (simp; done)) <;> (try (simp; omega)) <;> (try omega))⟩
            case measure => simp only [intOf]; omega
          · rw [show pu true true false 3 = 6 from rfl]
            go_wp2_with fail
            go_ret
            exact ⟨by rw [HP.out]; rfl, by (repeat' (first | exact Below.refl _ _ | assumption | refine gr_drew ?_ | refine gr_drewN ?_ _ | refine gr_alloc ?_ _ | refine gr_set ?_ ?_ _ | refine gr_call ?_ (by assumption)) <;> (try (simp; done)) <;> (try (simp; omega)) <;> (try omega))⟩
      · go_enter Tryd.func52, Tryd.ntmps52
        go_wp2_with fail
        go_loopw [3, 10] (fun pv iv wr => ∃ i : Nat, iv = .int .i64 (i : Int) ∧ i ≤ 3 ∧ pv = .int .i64 (pu true true true i) ∧ Below w.heap.size w wr) (fun _ iv _ => 3 - (intOf iv).toNat)
        case atStart => exact ⟨0, rfl, by omega, rfl, Below.refl _ _⟩
        case round =>
          obtain ⟨i, rfl, hi, rfl, hbl⟩ := hrel
          have hi4 : i = 0 ∨ i = 1 ∨ i = 2 ∨ i = 3 := by omega
          rcases hi4 with rfl | rfl | rfl | rfl
          · rw [show pu true true true 0 = 0 from rfl]
            go_wp2_with fail
            go_quiet (fail)
            go_wp2_with fail
            go_roundw
            case rel => exact ⟨1, rfl, by omega, rfl, by (repeat' (first | exact Below.refl _ _ | assumption | refine gr_drew ?_ | refine gr_drewN ?_ _ | refine gr_alloc ?_ _ | refine gr_set ?_ ?_ _ | refine gr_call ?_ (by assumption)) <;> (try (simp; done)) <;> (try (simp; omega)) <;> (try omega))⟩
            case measure => simp only [intOf]; omega
          · rw [show pu true true true 1 = 4 from rfl]
            go_wp2_with fail
            go_quiet (fail)
            go_wp2_with fail
            go_roundw
            case rel => exact ⟨2, rfl, by omega, rfl, by (repeat' (first | exact Below.refl _ _ | assumption | refine gr_drew ?_ | refine gr_drewN ?_ _ | refine gr_alloc ?_ _ | refine gr_set ?_ ?_ _ | refine gr_call ?_ (by assumption)) <;> (try (simp; done)) <;> (try (simp; omega)) <;> (try omega))⟩
            case measure => simp only [intOf]; omega
          · rw [show pu true true true 2 = 6 from rfl]
            go_wp2_with fail
            go_quiet (fail)
            go_wp2_with fail
            go_roundw
            case rel => exact ⟨3, rfl, by omega, rfl, by (repeat' (first | exact Below.refl _ _ | assumption | refine gr_drew ?_ | refine gr_drewN ?_ _ | refine gr_alloc ?_ _ | refine gr_set ?_ ?_ _ | refine gr_call ?_ (by assumption)) <;> (try (simp; done)) <;> (try (simp; omega)) <;> (try omega))⟩
            case measure => simp only [intOf]; omega
          · rw [show pu true true true 3 = 7 from rfl]
            go_wp2_with fail
            go_ret
            exact ⟨by rw [HP.out]; rfl, by (repeat' (first | exact Below.refl _ _ | assumption | refine gr_drew ?_ | refine gr_drewN ?_ _ | refine gr_alloc ?_ _ | refine gr_set ?_ ?_ _ | refine gr_call ?_ (by assumption)) <;> (try (simp; done)) <;> (try (simp; omega)) <;> (try omega))⟩
    · rw [hd] at hlen; simp at hlen; omega
  · rw [perm_none (by rw [hlen]; exact h3)]
    have h3' : ((S.size : Int) == 3) = false := beq_eq_false_iff_ne.2 (by omega)
    go_enter Tryd.func52, Tryd.ntmps52
    go_wp2_with fail
    exact ⟨rfl, rfl, Below.refl _ _⟩
end Go.Proofs.YtdjffnhkfpjafaaDoor
