/- Bundle of 2 texts. -/
import Derived.Test.YtbhnhoenjoagbaaGreatDoorAwTag
/- Walks over package acl: an Id and a perm in letters. -/
namespace Go.Proofs.YtbhnhoenjoagbaaGreatDoor.AclW
open Go.RowKit
open AclM DecM
set_option linter.unusedVariables false

theorem parseId_any (I : ByteArray) (hI : I.size ≤ 1000000) (w : World) (hA : AmbF w) :
    Calls Tryz.prog 308 #[.string I] w fun e w' => intEnd (idOf I.data.toList) e ∧ Below w.heap.size w w' := by
  have ha := Lib.hid (atoi_any I (by omega) w hA)
  have hIe : I.toList = I.data.toList := Lib.toList_data I
  unfold idOf
  by_cases hid : I.data.toList = []
  · have hid1 : I.toList = [] := by rw [hIe]; exact hid
    rw [if_pos hid]
    clear hIe hid ha
    go_enter Tryz.func308, Tryz.ntmps308
    go_wp2_with fail
    go_ret
    exact ⟨rfl, Below.refl _ _⟩
  · have hid1 : ¬ I.toList = [] := by rw [hIe]; exact hid
    have hid2 : I.toList.isEmpty = false := by rw [Bool.eq_false_iff]; intro e; exact hid1 (List.isEmpty_iff.1 e)
    rw [if_neg hid]
    clear hIe hid
    unfold atoiEnd at ha
    rcases h : Lib.atoiAll I.data.toList with n | _ | _
    · rw [h] at ha
      go_enter Tryz.func308, Tryz.ntmps308
      go_wp2_with fail
      refine (ha.out).mono ?_
      rintro e w1 ⟨rfl, hb1⟩
      go_wp2_with fail
      go_ret
      exact ⟨rfl, hb1⟩
    all_goals
      rw [h] at ha
      go_enter Tryz.func308, Tryz.ntmps308
      go_wp2_with fail
      refine (ha.out).mono ?_
      rintro e w1 ⟨⟨m, N, rfl⟩, hb1⟩
      go_wp2_with fail
      exact ⟨rfl, rfl, hb1⟩

def pu (x y z : Bool) (i : Nat) : Int := (if x = true ∧ 0 < i then 4 else 0) + (if y = true ∧ 1 < i then 2 else 0) + (if z = true ∧ 2 < i then 1 else 0)
theorem perm_three {a b c : UInt8} {x y z : Bool} (ha : decide (a = 114) = x) (hb : decide (b = 119) = y) (hc : decide (c = 120) = z) : permOf [a, b, c] = some (pu x y z 3) := by
  subst ha hb hc
  simp [permOf, pu]
theorem perm_none {l : List UInt8} (h : l.length ≠ 3) : permOf l = none := by
  match l with
  | [] => rfl
  | [_] => rfl
  | [_, _] => rfl
  | [_, _, _] => simp at h
  | _ :: _ :: _ :: _ :: _ => rfl
theorem beq_u8 (a : UInt8) (k : Nat) (c : UInt8) (hk : c.toNat = k) (x : Bool) (h : decide (a = c) = x) : ((a.toNat : Int) == (k : Int)) = x := by
  subst h
  by_cases h : a = c
  · subst h; rw [decide_eq_true rfl, hk]; exact beq_self_eq_true _
  · rw [decide_eq_false h, beq_eq_false_iff_ne]
    intro e
    exact h (UInt8.toNat_inj.1 (by omega))

set_option maxHeartbeats 3200000 in
theorem parsePerm_any (S : ByteArray) (hS : S.size ≤ 1000000) (w : World) :
    Calls Tryz.prog 309 #[.string S] w fun e w' => intEnd (permOf S.data.toList) e ∧ Below w.heap.size w w' := by
  have hlen : S.data.toList.length = S.size := len_list S
  by_cases h3 : S.size = 3
  · rcases hd : S.data.toList with _ | ⟨a, _ | ⟨b, _ | ⟨c, _ | ⟨d, r⟩⟩⟩⟩
    · rw [hd] at hlen; simp at hlen; omega
    · rw [hd] at hlen; simp at hlen; omega
    · rw [hd] at hlen; simp at hlen; omega
    · have hidx : ∀ (i : Nat) (u : UInt8), S.data.toList[i]? = some u → ∀ w, (Instr.index 9 (.string S) (.int .i64 (i : Int))).run Tryz.prog w = .ok (.int .u8 (u.toNat : Int)) w := by
        intro i u hu w
        obtain ⟨u', hu', h⟩ := idxAt (P := Tryz.prog) Tryz.underlying9 S i (by rw [← hlen]; exact (List.getElem?_eq_some_iff.1 hu).1)
        rw [hu] at hu'
        cases hu'
        exact h w
      rw [hd] at hidx
      have i0 := hidx 0 a rfl
      have i1 := hidx 1 b rfl
      have i2 := hidx 2 c rfl
      simp only [show ((0 : Nat) : Int) = 0 from rfl, show ((1 : Nat) : Int) = 1 from rfl, show ((2 : Nat) : Int) = 2 from rfl] at i0 i1 i2
      have z3 : (S.size : Int) = 3 := by omega
      obtain ⟨x, hx⟩ : ∃ x, decide (a = 114) = x := ⟨_, rfl⟩
      obtain ⟨y, hy⟩ : ∃ y, decide (b = 119) = y := ⟨_, rfl⟩
      obtain ⟨z, hz⟩ : ∃ z, decide (c = 120) = z := ⟨_, rfl⟩
      have HP := Lib.hid (perm_three hx hy hz)
      have f0 : ((a.toNat : Int) == ((({ data := #[114, 119, 120] } : ByteArray)[0]'(by decide)).toNat : Int)) = x := beq_u8 a _ (({ data := #[114, 119, 120] } : ByteArray)[0]'(by decide)) rfl x hx
      have f1 : ((b.toNat : Int) == ((({ data := #[114, 119, 120] } : ByteArray)[1]'(by decide)).toNat : Int)) = y := beq_u8 b _ (({ data := #[114, 119, 120] } : ByteArray)[1]'(by decide)) rfl y hy
      have f2 : ((c.toNat : Int) == ((({ data := #[114, 119, 120] } : ByteArray)[2]'(by decide)).toNat : Int)) = z := beq_u8 c _ (({ data := #[114, 119, 120] } : ByteArray)[2]'(by decide)) rfl z hz
      clear hidx hd hx hy hz hlen
      cases x <;> cases y <;> cases z
      · go_enter Tryz.func309, Tryz.ntmps309
        go_wp2_with fail
        go_loopw [3, 10] (fun pv iv wr => ∃ i : Nat, iv = .int .i64 (i : Int) ∧ i ≤ 3 ∧ pv = .int .i64 (pu false false false i) ∧ Below w.heap.size w wr) (fun _ iv _ => 3 - (intOf iv).toNat)
        case atStart => exact ⟨0, rfl, by omega, rfl, Below.refl _ _⟩
        case round =>
          obtain ⟨i, rfl, hi, rfl, hbl⟩ := hrel
          have hi4 : i = 0 ∨ i = 1 ∨ i = 2 ∨ i = 3 := by omega
          rcases hi4 with rfl | rfl | rfl | rfl
          · rw [show pu false false false 0 = 0 from rfl]
            go_wp2_with fail
            go_quiet (fail)
            go_wp2_with fail
            go_roundw
            case rel => exact ⟨1, rfl, by omega, rfl, by (repeat' (first | exact Below.refl _ _ | assumption | refine gr_drew ?_ | refine gr_drewN ?_ _ | refine gr_alloc ?_ _ | refine gr_set ?_ ?_ _ | refine gr_call ?_ (by assumption)) <;> (try (simp; done)) <;> (try (simp; omega)) <;> (try omega))⟩
            case measure => simp only [intOf]; omega
          · rw [show pu false false false 1 = 0 from rfl]
            go_wp2_with fail
            go_quiet (fail)
            go_wp2_with fail
            go_roundw
            case rel => exact ⟨2, rfl, by omega, rfl, by (repeat' (first | exact Below.refl _ _ | assumption | refine gr_drew ?_ | refine gr_drewN ?_ _ | refine gr_alloc ?_ _ | refine gr_set ?_ ?_ _ | refine gr_call ?_ (by assumption)) <;> (try (simp; done)) <;> (try (simp; omega)) <;> (try omega))⟩
            case measure => simp only [intOf]; omega
          · rw [show pu false false false 2 = 0 from rfl]
            go_wp2_with fail
            go_quiet (fail)
            go_wp2_with fail
            go_roundw
            case rel => exact ⟨3, rfl, by omega, rfl, by (repeat' (first | exact Below.refl _ _ | assumption | refine gr_drew ?_ | refine gr_drewN ?_ _ | refine gr_alloc ?_ _ | refine gr_set ?_ ?_ _ | refine gr_call ?_ (by assumption)) <;> (try (simp; done)) <;> (try (simp; omega)) <;> (try omega))⟩
            case measure => simp only [intOf]; omega
          · rw [show pu false false false 3 = 0 from rfl]
            go_wp2_with fail
            go_ret
            exact ⟨by rw [HP.out]; rfl, by (repeat' (first | exact Below.refl _ _ | assumption | refine gr_drew ?_ | refine gr_drewN ?_ _ | refine gr_alloc ?_ _ | refine gr_set ?_ ?_ _ | refine gr_call ?_ (by assumption)) <;> (try (simp; done)) <;> (try (simp; omega)) <;> (try omega))⟩
      · go_enter Tryz.func309, Tryz.ntmps309
        go_wp2_with fail
        go_loopw [3, 10] (fun pv iv wr => ∃ i : Nat, iv = .int .i64 (i : Int) ∧ i ≤ 3 ∧ pv = .int .i64 (pu false false true i) ∧ Below w.heap.size w wr) (fun _ iv _ => 3 - (intOf iv).toNat)
        case atStart => exact ⟨0, rfl, by omega, rfl, Below.refl _ _⟩
        case round =>
          obtain ⟨i, rfl, hi, rfl, hbl⟩ := hrel
          have hi4 : i = 0 ∨ i = 1 ∨ i = 2 ∨ i = 3 := by omega
          rcases hi4 with rfl | rfl | rfl | rfl
          · rw [show pu false false true 0 = 0 from rfl]
            go_wp2_with fail
            go_quiet (fail)
            go_wp2_with fail
            go_roundw
            case rel => exact ⟨1, rfl, by omega, rfl, by (repeat' (first | exact Below.refl _ _ | assumption | refine gr_drew ?_ | refine gr_drewN ?_ _ | refine gr_alloc ?_ _ | refine gr_set ?_ ?_ _ | refine gr_call ?_ (by assumption)) <;> (try (simp; done)) <;> (try (simp; omega)) <;> (try omega))⟩
            case measure => simp only [intOf]; omega
          · rw [show pu false false true 1 = 0 from rfl]
            go_wp2_with fail
            go_quiet (fail)
            go_wp2_with fail
            go_roundw
            case rel => exact ⟨2, rfl, by omega, rfl, by (repeat' (first | exact Below.refl _ _ | assumption | refine gr_drew ?_ | refine gr_drewN ?_ _ | refine gr_alloc ?_ _ | refine gr_set ?_ ?_ _ | refine gr_call ?_ (by assumption)) <;> (try (simp; done)) <;> (try (simp; omega)) <;> (try omega))⟩
            case measure => simp only [intOf]; omega
          · rw [show pu false false true 2 = 0 from rfl]
            go_wp2_with fail
            go_quiet (fail)
            go_wp2_with fail
            go_roundw
            case rel => exact ⟨3, rfl, by omega, rfl, by (repeat' (first | exact Below.refl _ _ | assumption | refine gr_drew ?_ | refine gr_drewN ?_ _ | refine gr_alloc ?_ _ | refine gr_set ?_ ?_ _ | refine gr_call ?_ (by assumption)) <;> (try (simp; done)) <;> (try (simp; omega)) <;> (try omega))⟩
            case measure => simp only [intOf]; omega
          · rw [show pu false false true 3 = 1 from rfl]
            go_wp2_with fail
            go_ret
            exact ⟨by rw [HP.out]; rfl, by (repeat' (first | exact Below.refl _ _ | assumption | refine gr_drew ?_ | refine gr_drewN ?_ _ | refine gr_alloc ?_ _ | refine gr_set ?_ ?_ _ | refine gr_call ?_ (by assumption)) <;> (try (simp; done)) <;> (try (simp; omega)) <;> (try omega))⟩
      · go_enter Tryz.func309, Tryz.ntmps309
        go_wp2_with fail
        go_loopw [3, 10] (fun pv iv wr => ∃ i : Nat, iv = .int .i64 (i : Int) ∧ i ≤ 3 ∧ pv = .int .i64 (pu false true false i) ∧ Below w.heap.size w wr) (fun _ iv _ => 3 - (intOf iv).toNat)
        case atStart => exact ⟨0, rfl, by omega, rfl, Below.refl _ _⟩
        case round =>
          obtain ⟨i, rfl, hi, rfl, hbl⟩ := hrel
          have hi4 : i = 0 ∨ i = 1 ∨ i = 2 ∨ i = 3 := by omega
          rcases hi4 with rfl | rfl | rfl | rfl
          · rw [show pu false true false 0 = 0 from rfl]
            go_wp2_with fail
            go_quiet (fail)
            go_wp2_with fail
            go_roundw
            case rel => exact ⟨1, rfl, by omega, rfl, by (repeat' (first | exact Below.refl _ _ | assumption | refine gr_drew ?_ | refine gr_drewN ?_ _ | refine gr_alloc ?_ _ | refine gr_set ?_ ?_ _ | refine gr_call ?_ (by assumption)) <;> (try (simp; done)) <;> (try (simp; omega)) <;> (try omega))⟩
            case measure => simp only [intOf]; omega
          · rw [show pu false true false 1 = 0 from rfl]
            go_wp2_with fail
            go_quiet (fail)
            go_wp2_with fail
            go_roundw
            case rel => exact ⟨2, rfl, by omega, rfl, by (repeat' (first | exact Below.refl _ _ | assumption | refine gr_drew ?_ | refine gr_drewN ?_ _ | refine gr_alloc ?_ _ | refine gr_set ?_ ?_ _ | refine gr_call ?_ (by assumption)) <;> (try (simp; done)) <;> (try (simp; omega)) <;> (try omega))⟩
            case measure => simp only [intOf]; omega
          · rw [show pu false true false 2 = 2 from rfl]
            go_wp2_with fail
            go_quiet (fail)
            go_wp2_with fail
            go_roundw
            case rel => exact ⟨3, rfl, by omega, rfl, by (repeat' (first | exact Below.refl _ _ | assumption | refine gr_drew ?_ | refine gr_drewN ?_ _ | refine gr_alloc ?_ _ | refine gr_set ?_ ?_ _ | refine gr_call ?_ (by assumption)) <;> (try (simp; done)) <;> (try (simp; omega)) <;> (try omega))⟩
            case measure => simp only [intOf]; omega
          · rw [show pu false true false 3 = 2 from rfl]
            go_wp2_with fail
            go_ret
            exact ⟨by rw [HP.out]; rfl, by (repeat' (first | exact Below.refl _ _ | assumption | refine gr_drew ?_ | refine gr_drewN ?_ _ | refine gr_alloc ?_ _ | refine gr_set ?_ ?_ _ | refine gr_call ?_ (by assumption)) <;> (try (simp; done)) <;> (try (simp; omega)) <;> (try omega))⟩
      · go_enter Tryz.func309, Tryz.ntmps309
        go_wp2_with fail
        go_loopw [3, 10] (fun pv iv wr => ∃ i : Nat, iv = .int .i64 (i : Int) ∧ i ≤ 3 ∧ pv = .int .i64 (pu false true true i) ∧ Below w.heap.size w wr) (fun _ iv _ => 3 - (intOf iv).toNat)
        case atStart => exact ⟨0, rfl, by omega, rfl, Below.refl _ _⟩
        case round =>
          obtain ⟨i, rfl, hi, rfl, hbl⟩ := hrel
          have hi4 : i = 0 ∨ i = 1 ∨ i = 2 ∨ i = 3 := by omega
          rcases hi4 with rfl | rfl | rfl | rfl
          · rw [show pu false true true 0 = 0 from rfl]
            go_wp2_with fail
            go_quiet (fail)
            go_wp2_with fail
            go_roundw
            case rel => exact ⟨1, rfl, by omega, rfl, by (repeat' (first | exact Below.refl _ _ | assumption | refine gr_drew ?_ | refine gr_drewN ?_ _ | refine gr_alloc ?_ _ | refine gr_set ?_ ?_ _ | refine gr_call ?_ (by assumption)) <;> (try (simp; done)) <;> (try (simp; omega)) <;> (try omega))⟩
            case measure => simp only [intOf]; omega
          · rw [show pu false true true 1 = 0 from rfl]
            go_wp2_with fail
            go_quiet (fail)
            go_wp2_with fail
            go_roundw
            case rel => exact ⟨2, rfl, by omega, rfl, by (repeat' (first | exact Below.refl _ _ | assumption | refine gr_drew ?_ | refine gr_drewN ?_ _ | refine gr_alloc ?_ _ | refine gr_set ?_ ?_ _ | refine gr_call ?_ (by assumption)) <;> (try (simp; done)) <;> (try (simp; omega)) <;> (try omega))⟩
            case measure => simp only [intOf]; omega
          · rw [show pu false true true 2 = 2 from rfl]
            go_wp2_with fail
            go_quiet (fail)
            go_wp2_with fail
            go_roundw
            case rel => exact ⟨3, rfl, by omega, rfl, by (repeat' (first | exact Below.refl _ _ | assumption | refine gr_drew ?_ | refine gr_drewN ?_ _ | refine gr_alloc ?_ _ | refine gr_set ?_ ?_ _ | refine gr_call ?_ (by assumption)) <;> (try (simp; done)) <;> (try (simp; omega)) <;> (try omega))⟩
            case measure => simp only [intOf]; omega
          · rw [show pu false true true 3 = 3 from rfl]
            go_wp2_with fail
            go_ret
            exact ⟨by rw [HP.out]; rfl, by (repeat' (first | exact Below.refl _ _ | assumption | refine gr_drew ?_ | refine gr_drewN ?_ _ | refine gr_alloc ?_ _ | refine gr_set ?_ ?_ _ | refine gr_call ?_ (by assumption)) <;> (try (simp; done)) <;> (try (simp; omega)) <;> (try omega))⟩
      · go_enter Tryz.func309, Tryz.ntmps309
        go_wp2_with fail
        go_loopw [3, 10] (fun pv iv wr => ∃ i : Nat, iv = .int .i64 (i : Int) ∧ i ≤ 3 ∧ pv = .int .i64 (pu true false false i) ∧ Below w.heap.size w wr) (fun _ iv _ => 3 - (intOf iv).toNat)
        case atStart => exact ⟨0, rfl, by omega, rfl, Below.refl _ _⟩
        case round =>
          obtain ⟨i, rfl, hi, rfl, hbl⟩ := hrel
          have hi4 : i = 0 ∨ i = 1 ∨ i = 2 ∨ i = 3 := by omega
          rcases hi4 with rfl | rfl | rfl | rfl
          · rw [show pu true false false 0 = 0 from rfl]
            go_wp2_with fail
            go_quiet (fail)
            go_wp2_with fail
            go_roundw
            case rel => exact ⟨1, rfl, by omega, rfl, by (repeat' (first | exact Below.refl _ _ | assumption | refine gr_drew ?_ | refine gr_drewN ?_ _ | refine gr_alloc ?_ _ | refine gr_set ?_ ?_ _ | refine gr_call ?_ (by assumption)) <;> (try (simp; done)) <;> (try (simp; omega)) <;> (try omega))⟩
            case measure => simp only [intOf]; omega
          · rw [show pu true false false 1 = 4 from rfl]
            go_wp2_with fail
            go_quiet (fail)
            go_wp2_with fail
            go_roundw
            case rel => exact ⟨2, rfl, by omega, rfl, by (repeat' (first | exact Below.refl _ _ | assumption | refine gr_drew ?_ | refine gr_drewN ?_ _ | refine gr_alloc ?_ _ | refine gr_set ?_ ?_ _ | refine gr_call ?_ (by assumption)) <;> (try (simp; done)) <;> (try (simp; omega)) <;> (try omega))⟩
            case measure => simp only [intOf]; omega
          · rw [show pu true false false 2 = 4 from rfl]
            go_wp2_with fail
            go_quiet (fail)
            go_wp2_with fail
            go_roundw
            case rel => exact ⟨3, rfl, by omega, rfl, by (repeat' (first | exact Below.refl _ _ | assumption | refine gr_drew ?_ | refine gr_drewN ?_ _ | refine gr_alloc ?_ _ | refine gr_set ?_ ?_ _ | refine gr_call ?_ (by assumption)) <;> (try (simp; done)) <;> (try (simp; omega)) <;> (try omega))⟩
            case measure => simp only [intOf]; omega
          · rw [show pu true false false 3 = 4 from rfl]
            go_wp2_with fail
            go_ret
            exact ⟨by rw [HP.out]; rfl, by (repeat' (first | exact Below.refl _ _ | assumption | refine gr_drew ?_ | refine gr_drewN ?_ _ | refine gr_alloc ?_ _ | refine gr_set ?_ ?_ _ | refine gr_call ?_ (by assumption)) <;> (try (simp; done)) <;> (try (simp; omega)) <;> (try omega))⟩
      · go_enter Tryz.func309, Tryz.ntmps309
        go_wp2_with fail
        go_loopw [3, 10] (fun pv iv wr => ∃ i : Nat, iv = .int .i64 (i : Int) ∧ i ≤ 3 ∧ pv = .int .i64 (pu true false true i) ∧ Below w.heap.size w wr) (fun _ iv _ => 3 - (intOf iv).toNat)
        case atStart => exact ⟨0, rfl, by omega, rfl, Below.refl _ _⟩
        case round =>
          obtain ⟨i, rfl, hi, rfl, hbl⟩ := hrel
          have hi4 : i = 0 ∨ i = 1 ∨ i = 2 ∨ i = 3 := by omega
          rcases hi4 with rfl | rfl | rfl | rfl
          · rw [show pu true false true 0 = 0 from rfl]
            go_wp2_with fail
            go_quiet (fail)
            go_wp2_with fail
            go_roundw
            case rel => exact ⟨1, rfl, by omega, rfl, by (repeat' (first | exact Below.refl _ _ | assumption | refine gr_drew ?_ | refine gr_drewN ?_ _ | refine gr_alloc ?_ _ | refine gr_set ?_ ?_ _ | refine gr_call ?_ (by assumption)) <;> (try (simp; done)) <;> (try (simp; omega)) <;> (try omega))⟩
            case measure => simp only [intOf]; omega
          · rw [show pu true false true 1 = 4 from rfl]
            go_wp2_with fail
            go_quiet (fail)
            go_wp2_with fail
            go_roundw
            case rel => exact ⟨2, rfl, by omega, rfl, by (repeat' (first | exact Below.refl _ _ | assumption | refine gr_drew ?_ | refine gr_drewN ?_ _ | refine gr_alloc ?_ _ | refine gr_set ?_ ?_ _ | refine gr_call ?_ (by assumption)) <;> (try (simp; done)) <;> (try (simp; omega)) <;> (try omega))⟩
            case measure => simp only [intOf]; omega
          · rw [show pu true false true 2 = 4 from rfl]
            go_wp2_with fail
            go_quiet (fail)
            go_wp2_with fail
            go_roundw
            case rel => exact ⟨3, rfl, by omega, rfl, by (repeat' (first | exact Below.refl _ _ | assumption | refine gr_drew ?_ | refine gr_drewN ?_ _ | refine gr_alloc ?_ _ | refine gr_set ?_ ?_ _ | refine gr_call ?_ (by assumption)) <;> (try (simp; done)) <;> (try (simp; omega)) <;> (try omega))⟩
            case measure => simp only [intOf]; omega
          · rw [show pu true false true 3 = 5 from rfl]
            go_wp2_with fail
            go_ret
            exact ⟨by rw [HP.out]; rfl, by (repeat' (first | exact Below.refl _ _ | assumption | refine gr_drew ?_ | refine gr_drewN ?_ _ | refine gr_alloc ?_ _ | refine gr_set ?_ ?_ _ | refine gr_call ?_ (by assumption)) <;> (try (simp; done)) <;> (try (simp; omega)) <;> (try omega))⟩
      · go_enter Tryz.func309, Tryz.ntmps309
        go_wp2_with fail
        go_loopw [3, 10] (fun pv iv wr => ∃ i : Nat, iv = .int .i64 (i : Int) ∧ i ≤ 3 ∧ pv = .int .i64 (pu true true false i) ∧ Below w.heap.size w wr) (fun _ iv _ => 3 - (intOf iv).toNat)
        case atStart => exact ⟨0, rfl, by omega, rfl, Below.refl _ _⟩
        case round =>
          obtain ⟨i, rfl, hi, rfl, hbl⟩ := hrel
          have hi4 : i = 0 ∨ i = 1 ∨ i = 2 ∨ i = 3 := by omega
          rcases hi4 with rfl | rfl | rfl | rfl
          · rw [show pu true true false 0 = 0 from rfl]
            go_wp2_with fail
            go_quiet (fail)
            go_wp2_with fail
            go_roundw
            case rel => exact ⟨1, rfl, by omega, rfl, by (repeat' (first | exact Below.refl _ _ | assumption | refine gr_drew ?_ | refine gr_drewN ?_ _ | refine gr_alloc ?_ _ | refine gr_set ?_ ?_ _ | refine gr_call ?_ (by assumption)) <;> (try (simp; done)) <;> (try (simp; omega)) <;> (try omega))⟩
            case measure => simp only [intOf]; omega
          · rw [show pu true true false 1 = 4 from rfl]
            go_wp2_with fail
            go_quiet (fail)
            go_wp2_with fail
            go_roundw
            case rel => exact ⟨2, rfl, by omega, rfl, by (repeat' (first | exact Below.refl _ _ | assumption | refine gr_drew ?_ | refine gr_drewN ?_ _ | refine gr_alloc ?_ _ | refine gr_set ?_ ?_ _ | refine gr_call ?_ (by assumption)) <;> (try (simp; done)) <;> (try (simp; omega)) <;> (try omega))⟩
            case measure => simp only [intOf]; omega
          · rw [show pu true true false 2 = 6 from rfl]
            go_wp2_with fail
            go_quiet (fail)
            go_wp2_with fail
            go_roundw
            case rel => exact ⟨3, rfl, by omega, rfl, by (repeat' (first | exact Below.refl _ _ | assumption | refine gr_drew ?_ | refine gr_drewN ?_ _ | refine gr_alloc ?_ _ | refine gr_set ?_ ?_ _ | refine gr_call ?_ (by assumption)) <;> (try (simp; done)) <;> (try (simp; omega)) <;> (try omega))⟩
            case measure => simp only [intOf]; omega
          · rw [show pu true true false 3 = 6 from rfl]
            go_wp2_with fail
            go_ret
            exact ⟨by rw [HP.out]; rfl, by (repeat' (first | exact Below.refl _ _ | assumption | refine gr_drew ?_ | refine gr_drewN ?_ _ | refine gr_alloc ?_ _ | refine gr_set ?_ ?_ _ | refine gr_call ?_ (by assumption)) <;> (try (simp; done)) <;> (try (simp; omega)) <;> (try omega))⟩
      · go_enter Tryz.func309, Tryz.ntmps309
        go_wp2_with fail
        go_loopw [3, 10] (fun pv iv wr => ∃ i : Nat, iv = .int .i64 (i : Int) ∧ i ≤ 3 ∧ pv = .int .i64 (pu true true true i) ∧ Below w.heap.size w wr) (fun _ iv _ => 3 - (intOf iv).toNat)
        case atStart => exact ⟨0, rfl, by omega, rfl, Below.refl _ _⟩
        case round =>
          obtain ⟨i, rfl, hi, rfl, hbl⟩ := hrel
          have hi4 : i = 0 ∨ i = 1 ∨ i = 2 ∨ i = 3 := by omega
          rcases hi4 with rfl | rfl | rfl | rfl
          · rw [show pu true true true 0 = 0 from rfl]
            go_wp2_with fail
            go_quiet (fail)
            go_wp2_with fail
            go_roundw
            case rel => exact ⟨1, rfl, by omega, rfl, by (repeat' (first | exact Below.refl _ _ | assumption | refine gr_drew ?_ | refine gr_drewN ?_ _ | refine gr_alloc ?_ _ | refine gr_set ?_ ?_ _ | refine gr_call ?_ (by assumption)) <;> (try (simp; done)) <;> (try (simp; omega)) <;> (try omega))⟩
            case measure => simp only [intOf]; omega
          · rw [show pu true true true 1 = 4 from rfl]
            go_wp2_with fail
            go_quiet (fail)
            go_wp2_with fail
            go_roundw
            case rel => exact ⟨2, rfl, by omega, rfl, by (repeat' (first | exact Below.refl _ _ | assumption | refine gr_drew ?_ | refine gr_drewN ?_ _ | refine gr_alloc ?_ _ | refine gr_set ?_ ?_ _ | refine gr_call ?_ (by assumption)) <;> (try (simp; done)) <;> (try (simp; omega)) <;> (try omega))⟩
            case measure => simp only [intOf]; omega
          · rw [show pu true true true 2 = 6 from rfl]
            go_wp2_with fail
            go_quiet (fail)
            go_wp2_with fail
            go_roundw
            case rel => exact ⟨3, rfl, by omega, rfl, by (repeat' (first | exact Below.refl _ _ | assumption | refine gr_drew ?_ | refine gr_drewN ?_ _ | refine gr_alloc ?_ _ | refine gr_set ?_ ?_ _ | refine gr_call ?_ (by assumption)) <;> (try (simp; done)) <;> (try (simp; omega)) <;> (try omega))⟩
            case measure => simp only [intOf]; omega
          · rw [show pu true true true 3 = 7 from rfl]
            go_wp2_with fail
            go_ret
            exact ⟨by rw [HP.out]; rfl, by (repeat' (first | exact Below.refl _ _ | assumption | refine gr_drew ?_ | refine gr_drewN ?_ _ | refine gr_alloc ?_ _ | refine gr_set ?_ ?_ _ | refine gr_call ?_ (by assumption)) <;> (try (simp; done)) <;> (try (simp; omega)) <;> (try omega))⟩
    · rw [hd] at hlen; simp at hlen; omega
  · rw [perm_none (by rw [hlen]; exact h3)]
    have h3' : ((S.size : Int) == 3) = false := beq_eq_false_iff_ne.2 (by omega)
    go_enter Tryz.func309, Tryz.ntmps309
    go_wp2_with fail
    exact ⟨rfl, rfl, Below.refl _ _⟩
end Go.Proofs.YtbhnhoenjoagbaaGreatDoor.AclW

/- Walks over package acl: a part's reading. -/
namespace Go.Proofs.YtbhnhoenjoagbaaGreatDoor.AclW
open Go.RowKit
open AclM DecM
set_option linter.unusedVariables false

/-- How a part's reading ends. -/
def partEnd (o : Option Ace) (e : Ending) : Prop := match o with
  | some a => e = .returned (aceV a)
  | none => e = .panicked notList

theorem cutA_len (c : UInt8) (s : List UInt8) : (cutA c s).1.length ≤ s.length ∧ (cutA c s).2.length ≤ s.length := by
  unfold cutA Lib.cut
  split
  · simp only [List.length_take, List.length_drop]; omega
  · simp
theorem tagOf_in {l id : List UInt8} {t : Int} (h : tagOf l id = some t) : 1 ≤ t ∧ t ≤ 6 := by
  unfold tagOf at h
  repeat' (split at h)
  all_goals first | (cases h; omega) | (cases h)
theorem permOf_in {l : List UInt8} {p : Int} (h : permOf l = some p) : 0 ≤ p ∧ p ≤ 7 := by
  match l, h with
  | [a, b, c], h =>
    simp only [permOf, Option.some.injEq] at h
    subst h
    repeat' split
    all_goals omega
theorem idOf_in {l : List UInt8} {n : Int} (h : idOf l = some n) : -9223372036854775808 ≤ n ∧ n ≤ 9223372036854775807 := by
  unfold idOf at h
  split at h
  · cases h; omega
  · split at h
    · rename_i h2
      cases h
      exact Lib.atoiAll_bounds h2
    · cases h

set_option maxHeartbeats 1600000 in
theorem parsePart_any (S : ByteArray) (hS : S.size ≤ 1000000) (w : World) (hA : AmbF w) :
    Calls Tryz.prog 272 #[.string S] w fun e w' => partEnd (partOf S.data.toList) e ∧ Below w.heap.size w w' := by
  have hl1 := cutA_len 58 S.data.toList
  have hl2 := cutA_len 58 (cutA 58 S.data.toList).2
  rw [len_list] at hl1
  have hc1 := Lib.hid (fun w' (hA' : AmbF w') => cut_any S w' hA' (by omega))
  have hz1 := strOf_size (cutA 58 S.data.toList).1
  have hz2 := strOf_size (cutA 58 S.data.toList).2
  have hz3 := strOf_size (cutA 58 (cutA 58 S.data.toList).2).1
  have hz4 := strOf_size (cutA 58 (cutA 58 S.data.toList).2).2
  have hc2 := Lib.hid (fun w' (hA' : AmbF w') => cut_any (strOf (cutA 58 S.data.toList).2) w' hA' (by omega))
  rw [strOf_list] at hc2
  have ht := Lib.hid (fun w' => parseTag_any (strOf (cutA 58 S.data.toList).1) (strOf (cutA 58 (cutA 58 S.data.toList).2).1) w')
  have hi := Lib.hid (fun w' (hA' : AmbF w') => parseId_any (strOf (cutA 58 (cutA 58 S.data.toList).2).1) (by omega) w' hA')
  have hp := Lib.hid (fun w' => parsePerm_any (strOf (cutA 58 (cutA 58 S.data.toList).2).2) (by omega) w')
  rw [strOf_list] at hi hp
  rw [strOf_list, strOf_list] at ht
  obtain ⟨o, ho⟩ : ∃ o, partOf S.data.toList = o := ⟨_, rfl⟩
  rw [ho]
  unfold partOf guess at ho
  generalize strOf (cutA 58 S.data.toList).1 = LT at *
  generalize strOf (cutA 58 S.data.toList).2 = RE at *
  generalize strOf (cutA 58 (cutA 58 S.data.toList).2).1 = ID at *
  generalize strOf (cutA 58 (cutA 58 S.data.toList).2).2 = PE at *
  have Htg := Lib.hid (fun t (h : tagOf (cutA 58 S.data.toList).1 (cutA 58 (cutA 58 S.data.toList).2).1 = some t) => tagOf_in h)
  have Hid2 := Lib.hid (fun t (h : idOf (cutA 58 (cutA 58 S.data.toList).2).1 = some t) => idOf_in h)
  have Hpm := Lib.hid (fun t (h : permOf (cutA 58 (cutA 58 S.data.toList).2).2 = some t) => permOf_in h)
  generalize tagOf (cutA 58 S.data.toList).1 (cutA 58 (cutA 58 S.data.toList).2).1 = ot at *
  generalize idOf (cutA 58 (cutA 58 S.data.toList).2).1 = oi at *
  generalize permOf (cutA 58 (cutA 58 S.data.toList).2).2 = op at *
  have Ho := Lib.hid ho
  clear hz1 hz2 hz3 hz4 hl1 hl2 ho
  have hx0 : Below w.heap.size w (w.alloc (.cells #[.int .i64 0, .int .i64 0, .int .i64 0] 115)) := by (repeat' (first | exact Below.refl _ _ | assumption | refine gr_drew ?_ | refine gr_drewN ?_ _ | refine gr_alloc ?_ _ | refine gr_set ?_ ?_ _ | refine gr_call ?_ (by assumption)) <;> (try (simp; done)) <;> (try (simp; omega)) <;> (try omega))
  go_enter Tryz.func272, Tryz.ntmps272
  go_wp2_with fail
  refine (hc1.out _ (hA.on hx0)).mono ?_
  rintro e w1 ⟨⟨b1, rfl⟩, hb1⟩
  go_wp2_with fail
  refine (hc2.out _ (hA.on (gr_call hx0 hb1))).mono ?_
  rintro e w2 ⟨⟨b2, rfl⟩, hb2⟩
  replace hb2 := gr_call hb1 hb2
  clear hc1 hc2 hb1
  rcases ot with _ | t
  · go_wp2_with fail
    refine (ht.out _).mono ?_
    rintro e w3 ⟨he, rfl⟩
    obtain rfl : e = .panicked notList := he
    go_wp2_with fail
    exact ⟨rfl, by rw [← Ho.out]; rfl, gr_call hx0 hb2⟩
  have htg := Htg.out _ rfl
  go_wp2_with fail
  refine (ht.out _).mono ?_
  rintro e w3 ⟨he, rfl⟩
  obtain rfl : e = .returned (.int .i64 t) := he
  clear ht Htg
  rcases oi with _ | d
  · go_wp2_with fail
    refine (hi.out _ (hA.on (gr_call hx0 hb2))).mono ?_
    rintro e w3 ⟨he, hb3⟩
    obtain rfl : e = .panicked notList := he
    go_wp2_with fail
    exact ⟨rfl, by rw [← Ho.out]; rfl, gr_call hx0 (gr_call hb2 hb3)⟩
  have hid := Hid2.out _ rfl
  go_wp2_with fail
  refine (hi.out _ (hA.on (gr_call hx0 hb2))).mono ?_
  rintro e w3 ⟨he, hb3⟩
  obtain rfl : e = .returned (.int .i64 d) := he
  replace hb3 := gr_call hb2 hb3
  clear hi Hid2 hb2
  rcases op with _ | q
  · go_wp2_with fail
    refine (hp.out _).mono ?_
    rintro e w4 ⟨he, hb4⟩
    obtain rfl : e = .panicked notList := he
    go_wp2_with fail
    exact ⟨rfl, by rw [← Ho.out]; rfl, gr_call hx0 (gr_call hb3 hb4)⟩
  have hpm := Hpm.out _ rfl
  go_wp2_with fail
  refine (hp.out _).mono ?_
  rintro e w4 ⟨he, hb4⟩
  obtain rfl : e = .returned (.int .i64 q) := he
  replace hb4 := gr_call hb3 hb4
  clear hp Hpm hb3
  have hb5 : Below (w.alloc (.cells #[.int .i64 0, .int .i64 0, .int .i64 0] 115)).heap.size (w.alloc (.cells #[.int .i64 0, .int .i64 0, .int .i64 0] 115)) (w4.alloc (.cells #[.int .i64 t, .int .i64 d, .int .i64 q] 115)) := gr_alloc hb4 _
  have htx := Lib.hid (text_any (t, d, q) _ (hA.on (gr_call hx0 hb5)).b htg.1 htg.2 hpm.1 hpm.2 hid.1 hid.2)
  obtain ⟨T, hT⟩ : ∃ T, strOf (partText (t, d, q)) = T := ⟨_, rfl⟩
  rw [hT] at htx
  have hTl : partText (t, d, q) = T.data.toList := by rw [← hT, strOf_list]
  have hs4 := hb4.size
  have hTe : T.toList = T.data.toList := Lib.toList_data T
  have hSe : S.toList = S.data.toList := Lib.toList_data S
  by_cases hTS : T.data.toList = S.data.toList
  · have hq : T.toList = S.toList := by rw [hTe, hSe]; exact hTS
    have HP : Hid (o = some (t, d, q)) := Lib.hid (by rw [← Ho.out]; exact if_pos (by rw [hTl]; exact hTS))
    clear hTS hTe hSe hTl hT
    go_wp2_with fail
    refine (htx.out).mono ?_
    rintro e w5 ⟨rfl, hb6⟩
    have c0 : w5.cell? ⟨w4.heap.size, 0, none⟩ = some (.int .i64 t) := cell_kept hb6 (by simp [go_sem])
    have c1 : w5.cell? ⟨w4.heap.size, 1, none⟩ = some (.int .i64 d) := cell_kept hb6 (by simp [go_sem])
    have c2 : w5.cell? ⟨w4.heap.size, 2, none⟩ = some (.int .i64 q) := cell_kept hb6 (by simp [go_sem])
    replace hb6 := gr_call hb5 hb6
    have d0 : w5.cell? ⟨w.heap.size, 0, none⟩ = some (.int .i64 0) := cell_kept hb6 (by simp [go_sem])
    have d1 : w5.cell? ⟨w.heap.size, 1, none⟩ = some (.int .i64 0) := cell_kept hb6 (by simp [go_sem])
    have d2 : w5.cell? ⟨w.heap.size, 2, none⟩ = some (.int .i64 0) := cell_kept hb6 (by simp [go_sem])
    have f0 : w5.frozen? ⟨w.heap.size, 0, none⟩ = false := free_kept hb6 (v := .int .i64 0) (by simp [go_sem]) (by simp [go_sem])
    have f1 : w5.frozen? ⟨w.heap.size, 1, none⟩ = false := free_kept hb6 (v := .int .i64 0) (by simp [go_sem]) (by simp [go_sem])
    have f2 : w5.frozen? ⟨w.heap.size, 2, none⟩ = false := free_kept hb6 (v := .int .i64 0) (by simp [go_sem]) (by simp [go_sem])
    have hb7 := gr_call hx0 hb6
    clear hb5 htx hb4
    go_wp2_with fail
    refine bodyPost_ret (v := aceV (t, d, q)) ?_ rfl ⟨by rw [HP.out]; rfl, by (repeat' (first | exact Below.refl _ _ | assumption | refine gr_drew ?_ | refine gr_drewN ?_ _ | refine gr_alloc ?_ _ | refine gr_set ?_ ?_ _ | refine gr_call ?_ (by assumption)) <;> (try (simp; done)) <;> (try (simp; omega)) <;> (try omega))⟩
    simp [results, Tryz.results272, go_sem, aceV, *]
  · have hq : ¬ T.toList = S.toList := by rw [hTe, hSe]; exact hTS
    have hq2 : (T.toList == S.toList) = false := beq_eq_false_iff_ne.2 hq
    clear hq
    have HP : Hid (o = none) := Lib.hid (by rw [← Ho.out]; exact if_neg (by rw [hTl]; exact hTS))
    clear hTS hTe hSe hTl hT
    go_wp2_with fail
    refine (htx.out).mono ?_
    rintro e w5 ⟨rfl, hb6⟩
    replace hb6 := gr_call hb5 hb6
    go_wp2_with fail
    exact ⟨rfl, by rw [HP.out]; rfl, gr_call hx0 hb6⟩
end Go.Proofs.YtbhnhoenjoagbaaGreatDoor.AclW
