/- The law FlagsAll, walked. -/
import Derived.Test.YtpknbdlemaehnaaDoorFlagsAwake
import Derived.Test.YtpknbdlemaehnaaDoorFlagsRef
namespace Go.Proofs.YtpknbdlemaehnaaDoor
open Go.RowKit
open FlagsM
set_option linter.unusedVariables false

set_option maxHeartbeats 1600000 in
set_option maxRecDepth 100000 in
theorem flagsAll_walk (a0 : Int) (a1 : ByteArray) (w : World) (hA : Amb w) (w0 : (Lit.int .i64 a0).wf = true) (w1 : a1.size ≤ maxLen) :
    Calls Tryd.prog 3 #[.int .i64 a0, .string a1] w fun e w' => e = .returned (.bool true) ∧ Below w.heap.size w w' := by
  have haw := Lib.hid awake_true
  clear w0 w1
  by_cases hs : 100 < a1.size
  · have d1 : decide ((100 : Int) < (a1.size : Int)) = true := decide_eq_true (by omega)
    have d2 : decide (100 < a1.size) = true := decide_eq_true hs
    go_enter Tryd.func3, Tryd.ntmps3
    go_wp2_with fail
    refine (haw.out _ hA).mono ?_
    rintro e w1 ⟨rfl, hb1⟩
    go_wp2_with fail
    go_ret
    exact ⟨rfl, hb1⟩
  · have d1 : decide ((100 : Int) < (a1.size : Int)) = false := decide_eq_false (by omega)
    have d2 : decide (100 < a1.size) = false := decide_eq_false hs
    have hp := Lib.hid (Parse_any a1 (by omega) w hA)
    have hr := Lib.hid (fun w => refParse_any a1 w)
    have hm1 := Lib.hid (fun w => may_any a0 w)
    have hm2 := Lib.hid (fun w => refMay_any a0 w)
    have ht1 := Lib.hid (fun w h => text_any a0 w h)
    have ht2 := Lib.hid (fun w => refText_any a0 w)
    unfold refGet at hr
    generalize textI a0 = t at *
    generalize strOf t = T at *
    generalize mayI a0 = b at *
    have hself : (T.toList == T.toList) = true := beq_self_eq_true _
    have hbb : (b == b) = true := beq_self_eq_true _
    clear hs
    rcases ho : getL a1.data.toList with _ | n
    · rw [ho] at hp hr
      have hp2 : Hid (Calls Tryd.prog 7 #[.string a1] w fun e w' => e = .returned (.tuple #[.int .i64 0, .bool false]) ∧ Below w.heap.size w w') := Lib.hid hp.out
      have hr2 : Hid (∀ w, Calls Tryd.prog 8 #[.string a1] w fun e w' => e = .returned (.int .i64 (-1)) ∧ Below w.heap.size w w') := Lib.hid hr.out
      clear hp hr ho
      go_enter Tryd.func3, Tryd.ntmps3
      go_wp2_with fail
      refine (hp2.out).mono ?_
      rintro e w1 ⟨rfl, hb1⟩
      go_wp2_with fail
      refine (hr2.out _).mono ?_
      rintro e w2 ⟨rfl, hb2⟩
      replace hb2 := gr_call hb1 hb2
      go_wp2_with fail
      refine (hm1.out _).mono ?_
      rintro e w3 ⟨rfl, rfl⟩
      go_wp2_with fail
      refine (hm2.out _).mono ?_
      rintro e w3 ⟨rfl, rfl⟩
      go_wp2_with fail
      refine (ht1.out _ (hA.on hb2)).mono ?_
      rintro e w4 ⟨rfl, hb4⟩
      replace hb4 := gr_call hb2 hb4
      go_wp2_with fail
      refine (ht2.out _).mono ?_
      rintro e w5 ⟨rfl, hb5⟩
      replace hb5 := gr_call hb4 hb5
      go_wp2_with fail
      refine (haw.out _ (hA.on hb5)).mono ?_
      rintro e w6 ⟨rfl, hb6⟩
      replace hb6 := gr_call hb5 hb6
      go_wp2_with fail
      go_ret
      exact ⟨rfl, hb6⟩
    · rw [ho] at hp hr
      have hp2 : Hid (Calls Tryd.prog 7 #[.string a1] w fun e w' => e = .returned (.tuple #[.int .i64 (n : Int), .bool true]) ∧ Below w.heap.size w w') := Lib.hid hp.out
      have hr2 : Hid (∀ w, Calls Tryd.prog 8 #[.string a1] w fun e w' => e = .returned (.int .i64 (n : Int)) ∧ Below w.heap.size w w') := Lib.hid hr.out
      have e1 : decide ((0 : Int) ≤ (n : Int)) = true := decide_eq_true (by omega)
      have e2 : max (n : Int) 0 = (n : Int) := by omega
      have e3 : ((n : Int) == (n : Int)) = true := beq_self_eq_true _
      clear hp hr ho
      go_enter Tryd.func3, Tryd.ntmps3
      go_wp2_with fail
      refine (hp2.out).mono ?_
      rintro e w1 ⟨rfl, hb1⟩
      go_wp2_with fail
      refine (hr2.out _).mono ?_
      rintro e w2 ⟨rfl, hb2⟩
      replace hb2 := gr_call hb1 hb2
      go_wp2_with fail
      refine (hm1.out _).mono ?_
      rintro e w3 ⟨rfl, rfl⟩
      go_wp2_with fail
      refine (hm2.out _).mono ?_
      rintro e w3 ⟨rfl, rfl⟩
      go_wp2_with fail
      refine (ht1.out _ (hA.on hb2)).mono ?_
      rintro e w4 ⟨rfl, hb4⟩
      replace hb4 := gr_call hb2 hb4
      go_wp2_with fail
      refine (ht2.out _).mono ?_
      rintro e w5 ⟨rfl, hb5⟩
      replace hb5 := gr_call hb4 hb5
      go_wp2_with fail
      refine (haw.out _ (hA.on hb5)).mono ?_
      rintro e w6 ⟨rfl, hb6⟩
      replace hb6 := gr_call hb5 hb6
      go_wp2_with fail
      go_ret
      exact ⟨rfl, hb6⟩
end Go.Proofs.YtpknbdlemaehnaaDoor
