/- The document's answer: what a list allows. -/
import Derived.Test.YtikdpoekjfbpaaaDoorWideUnbits
import Derived.Deep.QuietTactic
namespace Go.Proofs.YtikdpoekjfbpaaaDoor
open Go.RowKit
open WideM
set_option linter.unusedVariables false
attribute [local irreducible] Row At

theorem take_con {ws : List (List UInt8)} {j : Nat} (h : j < ws.length) (c : List UInt8) : (ws.take (j + 1)).contains c = ((ws.take j).contains c || decide (ws[j] = c)) := by
  rw [List.take_succ_eq_append_getElem h, Bool.eq_iff_iff, List.contains_iff_mem, List.mem_append, List.mem_singleton, Bool.or_eq_true, List.contains_iff_mem, decide_eq_true_eq]
  exact ⟨fun e => e.imp id Eq.symm, fun e => e.imp id Eq.symm⟩

set_option maxHeartbeats 3200000 in
set_option maxRecDepth 100000 in
theorem refAllows_any (v x : Value) (l : List Wid) (ws : List (List UInt8)) (b : Int) (w : World) (hat : At wideE v l w) (hax : At strE x ws w) (hok : ∀ a ∈ l, okPart a = true) (hl : l.length ≤ 1000000) (hw : ws.length ≤ 1000000) :
    Calls Tryd.prog 15 #[v, x, .int .i64 b] w fun e w' => e = .returned (.bool (allows l ws b)) ∧ Below w.heap.size w w' := by
  unfold allows
  have Hok := Lib.hid (fun a (h : a ∈ l) => okPart_iff (hok a h))
  obtain ⟨z, hz⟩ : ∃ z, l.length = z := ⟨_, rfl⟩
  obtain ⟨y, hy⟩ : ∃ z, ws.length = z := ⟨_, rfl⟩
  obtain ⟨p, cap, rfl, hcap, hcell⟩ := wide_look hat
  obtain ⟨p2, cap2, rfl, hcap2, hcell2⟩ := str_look hax
  rw [hz] at hl hcap ⊢
  rw [hy] at hw hcap2 ⊢
  have Hcell := Lib.hid hcell
  have Hcell2 := Lib.hid hcell2
  have Hz := Lib.hid hz
  have Hy := Lib.hid hy
  clear hcell hcell2 hat hax hz hy hok
  by_cases hr : 0 ≤ b ∧ b < 14
  · rw [if_pos hr]
    obtain ⟨k, rfl⟩ : ∃ k : Nat, b = (k : Int) := ⟨b.toNat, by omega⟩
    rw [Int.toNat_natCast]
    have hk : k < 14 := by omega
    have d0 : decide (0 ≤ (k : Int)) = true := decide_eq_true (by omega)
    have d1 : decide ((k : Int) ≤ 13) = true := decide_eq_true (by omega)
    have d1' : decide (k ≤ 13) = true := decide_eq_true (by omega)
    clear hr
    go_enter Tryd.func15, Tryd.ntmps15
    go_wp2_with fail
    go_loopw [7] (fun iv wr => ∃ i : Nat, iv = .int .i64 (i : Int) ∧ i ≤ z ∧ Below w.heap.size w wr ∧ Hid (allowsL l ws k = allowsL (l.drop i) ws k)) (fun iv _ => z - (intOf iv).toNat)
    case atStart => exact ⟨0, rfl, by omega, Below.refl _ _, Lib.hid (by simp)⟩
    case round =>
      obtain ⟨i, rfl, hi, hbl, HR⟩ := hrel
      rename World => w1
      by_cases hlt : i < z
      · have hlt' : decide ((i : Int) < (z : Int)) = true := decide_eq_true (by omega)
        have hlt2 : decide (i < z) = true := decide_eq_true hlt
        have hi' : i < l.length := by rw [Hz.out]; exact hlt
        have hlt3 : (i : Int) < (z : Int) := by omega
        obtain ⟨g, off, rfl, hg, hc⟩ := Hcell.out i hi'
        have HS := Lib.hid (allows_step (ws := ws) (b := k) hi')
        have hok := Hok.out l[i] (List.getElem_mem hi')
        generalize l[i] = a at *
        obtain ⟨t, f, m, W⟩ := a
        simp only at hok
        have hbit := hasBit_is k hok.2.2.2.1 hok.2.2.2.2.1
        have HS2 : Hid (allowsL (l.drop i) ws k = if hasBit m k = true ∧ ws.contains W.data.toList = true then decide (t = 1) else allowsL (l.drop (i + 1)) ws k) := Lib.hid HS.out
        have Hc := Lib.hid hc
        clear HS hok hc
        generalize hasBit m k = q at *
        go_wp2_with fail
        go_loopw [8, 9] (fun sv kv wr => ∃ (j : Nat) (c : Bool), kv = .int .i64 (j : Int) ∧ j ≤ y ∧ sv = .bool c ∧ Below w.heap.size w wr ∧ Hid (c = (ws.take j).contains W.data.toList)) (fun _ kv _ => y - (intOf kv).toNat)
        case atStart => exact ⟨0, false, rfl, by omega, rfl, hbl, Lib.hid (by simp)⟩
        case round =>
          clear hbl
          obtain ⟨j, c, rfl, hj, rfl, hbl, HJ⟩ := hrel
          rename_i wr
          obtain ⟨c0, c1, c2, c3⟩ := Hc.out.kept hbl
          by_cases hjt : j < y
          · have hjt' : decide ((j : Int) < (y : Int)) = true := decide_eq_true (by omega)
            have hjt2 : decide (j < y) = true := decide_eq_true hjt
            have hjt3 : (j : Int) < (y : Int) := by omega
            have hj' : j < ws.length := by rw [Hy.out]; exact hjt
            obtain ⟨g2, off2, rfl, hg2, e0⟩ := Hcell2.out j hj'
            replace e0 := cell_kept hbl e0
            have HT := Lib.hid (take_con hj' W.data.toList)
            have hWe : W.toList = W.data.toList := Lib.toList_data W
            have hXe : (strOf ws[j]).toList = ws[j] := by rw [Lib.toList_data, strOf_list]
            generalize ws[j] = u at *
            obtain ⟨X, hX⟩ : ∃ X, strOf u = X := ⟨_, rfl⟩
            rw [hX] at e0 hXe
            rcases c with _ | _
            · by_cases hu : u = W.data.toList
              · have fq : (X.toList == W.toList) = true := by rw [hXe, hWe, hu]; exact beq_self_eq_true _
                have fq2 : X.toList = W.toList := by rw [hXe, hWe, hu]
                have HE := Lib.hid (show true = (ws.take (j + 1)).contains W.data.toList by rw [HT.out, decide_eq_true hu, Bool.or_true])
                clear HT HJ hu hXe hWe hX
                go_wp2_with fail
                go_quiet (fail)
                go_wp2_with fail
                go_roundw
                case rel => exact ⟨j + 1, true, rfl, by omega, rfl, by (repeat' (first | exact Below.refl _ _ | assumption | refine gr_drew ?_ | refine gr_drewN ?_ _ | refine gr_alloc ?_ _ | refine gr_set ?_ ?_ _ | refine gr_call ?_ (by assumption)) <;> (try (simp; done)) <;> (try (simp; omega)) <;> (try omega)), HE⟩
                case measure => simp only [intOf]; omega
              · have fq : (X.toList == W.toList) = false := by rw [hXe, hWe]; exact beq_eq_false_iff_ne.2 hu
                have fq2 : ¬ X.toList = W.toList := by rw [hXe, hWe]; exact hu
                have HE := Lib.hid (show false = (ws.take (j + 1)).contains W.data.toList by rw [HT.out, ← HJ.out, decide_eq_false hu]; rfl)
                clear HT HJ hu hXe hWe hX
                go_wp2_with fail
                go_quiet (fail)
                go_wp2_with fail
                go_roundw
                case rel => exact ⟨j + 1, false, rfl, by omega, rfl, by (repeat' (first | exact Below.refl _ _ | assumption | refine gr_drew ?_ | refine gr_drewN ?_ _ | refine gr_alloc ?_ _ | refine gr_set ?_ ?_ _ | refine gr_call ?_ (by assumption)) <;> (try (simp; done)) <;> (try (simp; omega)) <;> (try omega)), HE⟩
                case measure => simp only [intOf]; omega
            · have HE := Lib.hid (show true = (ws.take (j + 1)).contains W.data.toList by rw [HT.out, ← HJ.out]; rfl)
              clear HT HJ hXe hWe hX
              go_wp2_with fail
              go_quiet (fail)
              go_wp2_with fail
              go_roundw
              case rel => exact ⟨j + 1, true, rfl, by omega, rfl, by (repeat' (first | exact Below.refl _ _ | assumption | refine gr_drew ?_ | refine gr_drewN ?_ _ | refine gr_alloc ?_ _ | refine gr_set ?_ ?_ _ | refine gr_call ?_ (by assumption)) <;> (try (simp; done)) <;> (try (simp; omega)) <;> (try omega)), HE⟩
              case measure => simp only [intOf]; omega
          · have hjt' : decide ((j : Int) < (y : Int)) = false := decide_eq_false (by omega)
            have hjt2 : decide (j < y) = false := decide_eq_false hjt
            have HC := Lib.hid (show ws.contains W.data.toList = c by rw [HJ.out, List.take_of_length_le (by rw [Hy.out]; omega)])
            clear HJ
            rcases c with _ | _
            · have HE := Lib.hid (show allowsL l ws k = allowsL (l.drop (i + 1)) ws k by rw [HR.out, HS2.out, HC.out, if_neg (by simp)])
              clear HR HS2 HC
              go_wp2_with fail
              go_roundw
              case rel => exact ⟨i + 1, rfl, by omega, hbl, HE⟩
              case measure => simp only [intOf]; omega
            · rcases q with _ | _
              · have HE := Lib.hid (show allowsL l ws k = allowsL (l.drop (i + 1)) ws k by rw [HR.out, HS2.out, if_neg (by simp)])
                clear HR HS2 HC
                go_wp2_with fail
                go_roundw
                case rel => exact ⟨i + 1, rfl, by omega, hbl, HE⟩
                case measure => simp only [intOf]; omega
              · have ht : (t == 1) = decide (t = 1) := by by_cases h : t = 1 <;> simp [h]
                have HE := Lib.hid (show allowsL l ws k = decide (t = 1) by rw [HR.out, HS2.out, HC.out, if_pos (by simp)])
                generalize decide (t = 1) = r at *
                clear HR HS2 HC
                go_wp2_with fail
                go_ret
                exact ⟨by rw [HE.out]; rfl, hbl⟩
      · have hlt' : decide ((i : Int) < (z : Int)) = false := decide_eq_false (by omega)
        have hlt2 : decide (i < z) = false := decide_eq_false hlt
        have HE := Lib.hid (show allowsL l ws k = false by rw [HR.out, List.drop_eq_nil_of_le (by rw [Hz.out]; omega)]; rfl)
        clear HR
        go_wp2_with fail
        go_ret
        exact ⟨by rw [HE.out]; rfl, hbl⟩
  · rw [if_neg hr]
    by_cases hz0 : z = 0
    · have d2 : decide ((0 : Int) < (z : Int)) = false := decide_eq_false (by omega)
      have d3 : decide (0 < z) = false := decide_eq_false (by omega)
      clear hr hz0
      go_enter Tryd.func15, Tryd.ntmps15
      go_wp2_with fail
      go_loopw [7] (fun iv wr => iv = .int .i64 0 ∧ wr = w) (fun _ _ => 0)
      case atStart => exact ⟨rfl, rfl⟩
      case round =>
        obtain ⟨rfl, rfl⟩ := hrel
        go_wp2_with fail
        go_ret
        exact ⟨rfl, Below.refl _ _⟩
    · have d2 : decide ((0 : Int) < (z : Int)) = true := decide_eq_true (by omega)
      have d3 : decide (0 < z) = true := decide_eq_true (by omega)
      by_cases hb0 : 0 ≤ b
      · have d0 : decide (0 ≤ b) = true := decide_eq_true hb0
        have d1 : decide (b ≤ 13) = false := decide_eq_false (by omega)
        clear hr hz0
        go_enter Tryd.func15, Tryd.ntmps15
        go_wp2_with fail
        go_loopw [7] (fun iv wr => iv = .int .i64 0 ∧ wr = w) (fun _ _ => 0)
        case atStart => exact ⟨rfl, rfl⟩
        case round =>
          obtain ⟨rfl, rfl⟩ := hrel
          go_wp2_with fail
          go_ret
          exact ⟨rfl, Below.refl _ _⟩
      · have d0 : decide (0 ≤ b) = false := decide_eq_false hb0
        clear hr hz0 hb0
        go_enter Tryd.func15, Tryd.ntmps15
        go_wp2_with fail
        go_loopw [7] (fun iv wr => iv = .int .i64 0 ∧ wr = w) (fun _ _ => 0)
        case atStart => exact ⟨rfl, rfl⟩
        case round =>
          obtain ⟨rfl, rfl⟩ := hrel
          go_wp2_with fail
          go_ret
          exact ⟨rfl, Below.refl _ _⟩
end Go.Proofs.YtikdpoekjfbpaaaDoor
