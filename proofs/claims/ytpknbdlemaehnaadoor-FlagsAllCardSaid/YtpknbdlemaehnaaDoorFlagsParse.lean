/- Walks over package flags: parse, Parse, its panic caught. -/
import Derived.Test.YtpknbdlemaehnaaDoorFlagsBit
import Derived.Test.YtpknbdlemaehnaaDoorFlagsLib
namespace Go.Proofs.YtpknbdlemaehnaaDoor
open Go.RowKit
open FlagsM
set_option linter.unusedVariables false

/-- How much is left to parse. -/
def partLeft : Value → Value → Nat
  | .string S, .bool true => S.size + 1
  | _, _ => 0
theorem cut_le2 : ∀ s, (cutC s).2.1.length ≤ s.length
  | [] => by simp [cutC]
  | x :: r => by
    unfold cutC
    by_cases hx : x = 44
    · simp [hx]
    · rw [if_neg hx]
      have := cut_le2 r
      simp only [List.length_cons]
      omega
theorem says_piece {n : Nat} {s A R : List UInt8} {m : Bool} (h : cutC s = (A, R, m)) : saysP n (pieces s) = match place A with
    | none => none
    | some i => if 2 ^ i ≤ n then none else saysP (n ||| 2 ^ i) (if m then pieces R else []) := by
  rw [pieces_cut s, h]
  rfl

set_option maxHeartbeats 1600000 in
set_option maxRecDepth 100000 in
theorem parse_any (S0 : ByteArray) (hS0 : S0.size ≤ 100000) (w : World) (hA : Amb w) :
    Calls Tryd.prog 14 #[.string S0] w fun e w' => natEnd (saysP 0 (pieces S0.data.toList)) e ∧ Below w.heap.size w w' := by
  obtain ⟨o, ho⟩ : ∃ o, saysP 0 (pieces S0.data.toList) = o := ⟨_, rfl⟩
  rw [ho]
  have Hcut := Lib.hid (fun S h w => cut_any S h w)
  have Hbit := Lib.hid (fun p w h => bitOf_any p w h)
  obtain ⟨C1, hC1⟩ : ∃ O : ByteArray, (⟨#[44]⟩ : ByteArray) = O := ⟨_, rfl⟩
  rw [hC1] at Hcut
  have Ho := Lib.hid ho
  clear ho
  go_enter Tryd.func14, Tryd.ntmps14
  simp only [hC1]
  clear hC1
  go_wp2_with fail
  go_loopw [0, 3, 4] (fun sv nv mv wr => ∃ (S : ByteArray) (n : Nat) (b : Bool), sv = .string S ∧ nv = .int .i64 (n : Int) ∧ mv = .bool b ∧ n < 16 ∧ S.size ≤ 100000 ∧ Below w.heap.size w wr ∧ Hid (o = if b then saysP n (pieces S.data.toList) else some n)) (fun sv _ mv _ => partLeft sv mv)
  case atStart => exact ⟨S0, 0, true, rfl, rfl, rfl, by omega, hS0, Below.refl _ _, Lib.hid Ho.out.symm⟩
  case round =>
    clear Ho hS0
    obtain ⟨S, n, b, rfl, rfl, rfl, hn, hS, hbl, HR⟩ := hrel
    rename World => wr
    rcases b with _ | _
    · have HE : Hid (o = some n) := Lib.hid HR.out
      clear HR
      go_wp2_with fail
      go_ret
      exact ⟨by rw [HE.out]; rfl, hbl⟩
    · have hcut := Lib.hid (Hcut.out S hS wr)
      obtain ⟨A, R, m, hc⟩ : ∃ A R m, cutC S.data.toList = (A, R, m) := ⟨_, _, _, rfl⟩
      have HP : Hid (o = _) := Lib.hid (HR.out.trans (says_piece (n := n) hc))
      have hless : m = true → R.length < S.size := by
        intro h
        have := cut_less S.data.toList (by rw [hc]; exact h)
        rw [hc, len_list] at this
        exact this
      have hall : R.length ≤ S.size := by
        have := cut_le2 S.data.toList
        rw [hc, len_list] at this
        exact this
      rw [hc] at hcut
      simp only at hcut
      clear HR hc
      go_wp2_with fail
      refine (hcut.out).mono ?_
      rintro e w1 ⟨rfl, hb1⟩
      replace hb1 := gr_call hbl hb1
      have hbit := Hbit.out (strOf A) w1 (hA.on hb1)
      rw [strOf_list] at hbit
      have Hbit1 := Lib.hid hbit
      clear hcut hbl hbit
      rcases hpl : place A with _ | i
      · rw [hpl] at Hbit1 HP
        have HE : Hid (o = none) := Lib.hid HP.out
        clear HP hpl hless
        go_wp2_with fail
        refine (Hbit1.out).mono ?_
        rintro e w2 ⟨he, rfl⟩
        obtain rfl : e = .panicked noFlags := he
        go_wp2_with fail
        exact ⟨rfl, by rw [HE.out]; rfl, hb1⟩
      · have hi := (place_nm hpl).1
        rw [hpl] at Hbit1 HP
        have HP2 : Hid (o = if 2 ^ i ≤ n then none else saysP (n ||| 2 ^ i) (if m then pieces R else [])) := Lib.hid HP.out
        have hq : n ||| 2 ^ i < 16 := or_16 hn hi
        have hq2 : (2 : Nat) ^ i < 16 := Nat.pow_lt_pow_right (n := 4) (by decide) hi
        have hbit2 : Hid (Calls Tryd.prog 16 #[.string (strOf A)] w1 fun e w' => e = .returned (.int .i64 ((2 ^ i : Nat) : Int)) ∧ w' = w1) := Lib.hid Hbit1.out
        clear HP Hbit1 hpl hi
        generalize 2 ^ i = q at *
        have hor := or_i64 n q (by omega) (by omega)
        by_cases hle : q ≤ n
        · have d : decide ((q : Int) ≤ (n : Int)) = true := decide_eq_true (by omega)
          have d2 : decide (q ≤ n) = true := decide_eq_true hle
          have HE : Hid (o = none) := Lib.hid (by rw [HP2.out, if_pos hle])
          clear HP2 hless
          go_wp2_with fail
          refine (hbit2.out).mono ?_
          rintro e w2 ⟨rfl, rfl⟩
          go_wp2_with fail
          exact ⟨rfl, by rw [HE.out]; rfl, hb1⟩
        · have d : decide ((q : Int) ≤ (n : Int)) = false := decide_eq_false (by omega)
          have d2 : decide (q ≤ n) = false := decide_eq_false hle
          have HE : Hid (o = saysP (n ||| q) (if m then pieces R else [])) := Lib.hid (by rw [HP2.out, if_neg hle])
          clear HP2
          have HE2 : Hid (o = if m then saysP (n ||| q) (pieces (strOf R).data.toList) else some (n ||| q)) := Lib.hid (by
            rw [HE.out, strOf_list]
            cases m <;> rfl)
          have hsz : m = true → (strOf R).size < S.size := by rw [strOf_size]; exact hless
          have hall2 : (strOf R).size ≤ S.size := by rw [strOf_size]; exact hall
          clear HE hless hall
          generalize strOf R = R1 at *
          go_wp2_with fail
          refine (hbit2.out).mono ?_
          rintro e w2 ⟨rfl, rfl⟩
          rcases m with _ | _
          · clear hsz hbit2
            go_wp2_with fail
            go_roundw
            case rel => exact ⟨R1, n ||| q, false, rfl, rfl, rfl, hq, by omega, hb1, HE2⟩
            case measure => simp only [partLeft]; omega
          · have hsz := hsz rfl
            clear hbit2
            go_wp2_with fail
            go_roundw
            case rel => exact ⟨R1, n ||| q, true, rfl, rfl, rfl, hq, by omega, hb1, HE2⟩
            case measure => simp only [partLeft]; omega

theorem catch_panic (p : Addr) (x : Bool) (u : TypeId) (pv : Value) (older : List PanicEntry) (w : World) (hc : w.cell? p = some (.bool x)) (hz : w.frozen? p = false) :
    CallsD Tryd.prog 13 #[.pointer (some p)] (.panicking ({ v := .iface u pv, recovered := false } :: older)) w fun e u' w' =>
      e = .returned (.tuple #[]) ∧ u' = .panicking ({ v := .iface u pv, recovered := true } :: older) ∧ w' = w.setCell p (.bool false) := by
  refine callsD_of_wpS Tryd.func13 rfl fun c₀ cs hu => ?_
  apply wpS_region
  simp [wpOpsS, go_sem, recoverD, hu, Tryd.ntmps13, hc, hz, bodyPostS, results, Tryd.results13]
theorem catch_idle (p : Addr) (x : Bool) (w : World) (hc : w.cell? p = some (.bool x)) (hz : w.frozen? p = false) :
    CallsD Tryd.prog 13 #[.pointer (some p)] .returning w fun e u' w' => e = .returned (.tuple #[]) ∧ u' = .returning ∧ w' = w.setCell p (.bool true) := by
  refine callsD_of_wpS Tryd.func13 rfl fun c₀ cs hu => ?_
  apply wpS_region
  simp [wpOpsS, go_sem, recoverD, hu, Tryd.ntmps13, hc, hz, bodyPostS, results, Tryd.results13]
  cases c₀
  simp_all

/-- What Parse hands back: the number, and whether there is one. -/
def numOf (o : Option Nat) : Int := match o with | some n => (n : Int) | none => 0
def isOf (o : Option Nat) : Bool := match o with | some _ => true | none => false

set_option maxHeartbeats 1600000 in
theorem Parse_any (S : ByteArray) (hS : S.size ≤ 100000) (w : World) (hA : Amb w) :
    Calls Tryd.prog 7 #[.string S] w fun e w' => e = .returned (.tuple #[.int .i64 (numOf (getL S.data.toList)), .bool (isOf (getL S.data.toList))]) ∧ Below w.heap.size w w' := by
  have hmf : ∀ (fn : Fn) (first cap : Array Value) (w : World), (Instr.makeFunc fn first cap).run Tryd.prog w = .ok (.func fn first cap) w := fun _ _ _ _ => rfl
  have hx0 : Below w.heap.size w (w.alloc (.cells #[.bool false] 4)) := by (repeat' (first | exact Below.refl _ _ | assumption | refine gr_drew ?_ | refine gr_drewN ?_ _ | refine gr_alloc ?_ _ | refine gr_set ?_ ?_ _ | refine gr_call ?_ (by assumption)) <;> (try (simp; done)) <;> (try (simp; omega)) <;> (try omega))
  by_cases hS0 : S.data.toList = []
  · have g1 : S.toList = [] := by rw [Lib.toList_data]; exact hS0
    have g2 : S.toList.isEmpty = true := by rw [g1]; rfl
    have HE := Lib.hid (show getL S.data.toList = some 0 by unfold getL; rw [if_pos hS0])
    rw [HE.out]
    clear hS0 hS HE
    go_enter_defers Tryd.func7, Tryd.ntmps7
    go_wp2_with fail
    obtain ⟨W, hW⟩ : ∃ W, (w.alloc (.cells #[.bool false] 4)) = W := ⟨_, rfl⟩
    have d2 : W.cell? ⟨w.heap.size, 0, none⟩ = some (.bool false) := by subst hW; simp [go_sem, *]
    have d3 : W.frozen? ⟨w.heap.size, 0, none⟩ = false := by subst hW; simp [go_sem, *]
    simp only [hW] at hx0 ⊢
    clear hW
    simp [bodyPostD, Leaves, settle, results, Tryd.results7, go_sem, d2, d3, numOf, isOf]
    exact gr_alloc (Below.refl _ _) _
  have g1 : ¬ S.toList = [] := by rw [Lib.toList_data]; exact hS0
  have g2 : S.toList.isEmpty = false := by rw [Bool.eq_false_iff]; intro e; exact g1 (List.isEmpty_iff.1 e)
  have hp := Lib.hid (parse_any S hS _ (hA.on hx0))
  rw [show saysP 0 (pieces S.data.toList) = getL S.data.toList by unfold getL; rw [if_neg hS0]] at hp
  clear hA hS0 hS
  generalize getL S.data.toList = o at *
  go_enter_defers Tryd.func7, Tryd.ntmps7
  go_wp2_with fail
  refine (hp.out).mono ?_
  rintro e w2 ⟨he, hb2⟩
  have hc2 : w2.cell? ⟨w.heap.size, 0, none⟩ = some (.bool false) := cell_kept hb2 (by simp [go_sem])
  have hf2 : w2.frozen? ⟨w.heap.size, 0, none⟩ = false := free_kept hb2 (v := .bool false) (by simp [go_sem]) (by simp [go_sem])
  have hs2 := hb2.size
  have hb : Below w.heap.size w w2 := gr_call hx0 hb2
  clear hp hx0
  rcases o with _ | n
  · obtain rfl : e = .panicked noFlags := he
    clear hb2
    go_wp2_with fail
    refine leaves_cons (f := 13) (args := #[.pointer (some ⟨w.heap.size, 0, none⟩)]) (by simp) (by simp [go_sem]) ?_
    refine (catch_panic ⟨w.heap.size, 0, none⟩ false _ _ [] w2 hc2 hf2).mono ?_
    rintro e u' w'' ⟨rfl, rfl, rfl⟩
    simp [Leaves, settle, results, Tryd.results7, go_sem, noFlags, hc2, hf2, numOf, isOf]
    exact hb.setCell (Nat.le_refl _) _
  · obtain rfl : e = .returned (.int .i64 (n : Int)) := he
    clear hb2
    go_wp2_with fail
    refine leaves_cons (f := 13) (args := #[.pointer (some ⟨w.heap.size, 0, none⟩)]) (by simp) (by simp [go_sem]) ?_
    refine (catch_idle ⟨w.heap.size, 0, none⟩ true _ ?_ ?_).mono ?_
    · simp [go_sem, hc2]
    · simp [go_sem, hf2]
    rintro e u' w'' ⟨rfl, rfl, rfl⟩
    simp [Leaves, settle, results, Tryd.results7, go_sem, hc2, hf2, numOf, isOf]
    exact (hb.setCell (Nat.le_refl _) _).setCell (Nat.le_refl _) _
end Go.Proofs.YtpknbdlemaehnaaDoor
