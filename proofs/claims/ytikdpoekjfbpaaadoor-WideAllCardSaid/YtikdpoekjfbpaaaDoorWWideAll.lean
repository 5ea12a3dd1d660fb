/- The law WideAll, walked. -/
import Derived.Test.YtikdpoekjfbpaaaDoorWideRefParse
import Derived.Test.YtikdpoekjfbpaaaDoorWideRefAllows
import Derived.Test.YtikdpoekjfbpaaaDoorWideSame
import Derived.Test.YtikdpoekjfbpaaaDoorWideOpen
namespace Go.Proofs.YtikdpoekjfbpaaaDoor
open Go.RowKit
open WideM
set_option linter.unusedVariables false
attribute [local irreducible] Row At

set_option maxHeartbeats 6400000 in
set_option maxRecDepth 100000 in
theorem wideAll_walk (a0 : Option Addr) (len0 cap0 : Nat) (z0 : List WideM.Wid) (a1 : ByteArray) (a2 : Option Addr) (len2 cap2 : Nat) (z2 : List (List UInt8)) (a3 : Int) (w : World) (hA : Amb w) (w0 : z0.length = len0 ∧ At wideE (.slice a0 len0 cap0) z0 w) (w1 : a1.size ≤ maxLen) (w2 : z2.length = len2 ∧ At strE (.slice a2 len2 cap2) z2 w) (w3 : (Lit.int .i64 a3).wf = true) :
    Calls Tryd.prog 3 #[.slice a0 len0 cap0, .string a1, .slice a2 len2 cap2, .int .i64 a3] w fun e w' => e = .returned (.bool true) ∧ Below w.heap.size w w' := by
  have haw := Lib.hid awake_true
  obtain ⟨hl0, hat0⟩ := w0
  obtain ⟨hl2, hat2⟩ := w2
  clear w1 w3
  obtain ⟨n, hn⟩ : ∃ n, a1.size = n := ⟨_, rfl⟩
  by_cases h0 : 60 < len0
  · have d0 : decide ((60 : Int) < (len0 : Int)) = true := decide_eq_true (by omega)
    have d0' : decide (60 < len0) = true := decide_eq_true h0
    clear hat0 hat2 hl0 hl2 h0
    go_enter Tryd.func3, Tryd.ntmps3
    go_wp2_with fail
    refine (haw.out _ hA).mono ?_
    rintro e w1 ⟨rfl, hb1⟩
    go_wp2_with fail
    go_ret
    exact ⟨rfl, hb1⟩
  have d0 : decide ((60 : Int) < (len0 : Int)) = false := decide_eq_false (by omega)
  have d0' : decide (60 < len0) = false := decide_eq_false h0
  by_cases h1 : 500 < n
  · have d1 : decide ((500 : Int) < (n : Int)) = true := decide_eq_true (by omega)
    have d1' : decide (500 < n) = true := decide_eq_true h1
    clear hat0 hat2 hl0 hl2 h0 h1
    go_enter Tryd.func3, Tryd.ntmps3
    go_wp2_with fail
    refine (haw.out _ hA).mono ?_
    rintro e w1 ⟨rfl, hb1⟩
    go_wp2_with fail
    go_ret
    exact ⟨rfl, hb1⟩
  have d1 : decide ((500 : Int) < (n : Int)) = false := decide_eq_false (by omega)
  have d1' : decide (500 < n) = false := decide_eq_false h1
  by_cases h2 : 20 < len2
  · have d2 : decide ((20 : Int) < (len2 : Int)) = true := decide_eq_true (by omega)
    have d2' : decide (20 < len2) = true := decide_eq_true h2
    clear hat0 hat2 hl0 hl2 h0 h1 h2
    go_enter Tryd.func3, Tryd.ntmps3
    go_wp2_with fail
    refine (haw.out _ hA).mono ?_
    rintro e w1 ⟨rfl, hb1⟩
    go_wp2_with fail
    go_ret
    exact ⟨rfl, hb1⟩
  have d2 : decide ((20 : Int) < (len2 : Int)) = false := decide_eq_false (by omega)
  have d2' : decide (20 < len2) = false := decide_eq_false h2
  have hp1 := Lib.hid (fun W hA' => Parse_any a1 (by omega) W hA')
  have hp2 := Lib.hid (fun W => refParse_any a1 (by omega) W)
  have hm1 := Lib.hid (fun W (h : At wideE (.slice a0 len0 cap0) z0 W) => may_any _ z0 W h (by omega))
  have hm2 := Lib.hid (fun W (h : At wideE (.slice a0 len0 cap0) z0 W) => refMay_any _ z0 W h (by omega))
  have ht1 := Lib.hid (fun W (h : At wideE (.slice a0 len0 cap0) z0 W) => textL_any _ z0 W h (by omega))
  have ht2 := Lib.hid (fun (hmy : may z0 = true) W (h : At wideE (.slice a0 len0 cap0) z0 W) => refText_any _ z0 W h hmy)
  have hal1 := Lib.hid (fun (hmy : may z0 = true) W (h : At wideE (.slice a0 len0 cap0) z0 W) (h' : At strE (.slice a2 len2 cap2) z2 W) => allows_any _ _ z0 z2 a3 W h h' (may_parts hmy).1 (by omega) (by omega))
  have hal2 := Lib.hid (fun (hmy : may z0 = true) W (h : At wideE (.slice a0 len0 cap0) z0 W) (h' : At strE (.slice a2 len2 cap2) z2 W) => refAllows_any _ _ z0 z2 a3 W h h' (may_parts hmy).1 (by omega) (by omega))
  generalize allows z0 z2 a3 = ab at *
  have Hlen := Lib.hid (fun x (h : getL a1.data.toList = some x) => (may_parts ((get_iff _ _).1 h).1).2)
  have Htr := Lib.hid (show may z0 = true → textR z0 = textL z0 from fun h => if_pos h)
  have bself : ∀ b : Bool, (b != b) = false := fun b => by cases b <;> rfl
  have bself2 : (ab == ab) = true := beq_self_eq_true _
  clear hl0 hl2 h0 h1 h2
  obtain ⟨o, ho⟩ : ∃ o, getL a1.data.toList = o := ⟨_, rfl⟩
  rw [ho] at hp1 hp2 Hlen
  go_enter Tryd.func3, Tryd.ntmps3
  go_wp2_with fail
  refine (hp1.out _ hA).mono ?_
  rintro e w1 ⟨he1, hb1⟩
  replace hat0 := hat0.call hb1
  replace hat2 := hat2.call hb1
  clear hp1
  obtain ⟨xv, x, k, hatx, hxl, rfl, Hp2⟩ : ∃ (xv : Value) (x : List Wid) (k : Bool), At wideE xv x w1 ∧ x.length ≤ 1000000 ∧ e = .returned (.tuple #[xv, .bool k]) ∧ Hid (∀ W, Calls Tryd.prog 8 #[.string a1] W fun e w' => (∃ yv, e = .returned (.agg #[yv, .bool k]) ∧ At wideE yv x w') ∧ Below W.heap.size W w') := by
    rcases o with _ | x
    · obtain rfl : e = .returned (.tuple #[.slice none 0 0, .bool false]) := he1
      refine ⟨_, [], false, At.nil _, by simp, rfl, Lib.hid (fun W => (hp2.out W).mono ?_)⟩
      rintro e w' ⟨he, hb⟩
      obtain rfl : e = .returned (.agg #[.slice none 0 0, .bool false]) := he
      exact ⟨⟨_, rfl, At.nil _⟩, hb⟩
    · obtain ⟨xv, rfl, hRx⟩ := he1
      refine ⟨_, x, true, hRx.at, by have := Hlen.out x rfl; omega, rfl, Lib.hid (fun W => (hp2.out W).mono ?_)⟩
      rintro e w' ⟨⟨yv, rfl, hy⟩, hb⟩
      exact ⟨⟨yv, rfl, hy⟩, hb⟩
  clear hp2 he1 Hlen ho
  go_wp2_with fail
  refine (Hp2.out _).mono ?_
  rintro e w2 ⟨⟨yv, rfl, haty⟩, hb2⟩
  replace hat0 := hat0.call hb2
  replace hat2 := hat2.call hb2
  replace hatx := hatx.call hb2
  replace hb2 := gr_call hb1 hb2
  have hsm := Lib.hid (fun W h h' => refSame_any xv yv x x W h h' hxl hxl)
  rw [same_yes rfl] at hsm
  clear hb1 Hp2
  obtain ⟨zx, hzx⟩ : ∃ z, x.length = z := ⟨_, rfl⟩
  obtain ⟨py, cy, rfl, _⟩ := haty.shape
  rw [hzx] at haty hsm ⊢
  clear hzx
  have hyb := BlkIs.made w2 28 #[.slice py zx cy, .bool k]
  have hb3 := gr_alloc hb2 (.cells #[.slice py zx cy, .bool k] 28)
  replace hat0 := hat0.alloc (.cells #[.slice py zx cy, .bool k] 28)
  replace hat2 := hat2.alloc (.cells #[.slice py zx cy, .bool k] 28)
  replace hatx := hatx.alloc (.cells #[.slice py zx cy, .bool k] 28)
  replace haty := haty.alloc (.cells #[.slice py zx cy, .bool k] 28)
  clear hb2
  go_wp2_with fail
  generalize hmv : may z0 = mv at *
  have bs2 := bself mv
  have bs3 := bself k
  refine (hm1.out _ hat0).mono ?_
  rintro e w4 ⟨rfl, hb4⟩
  replace hat0 := hat0.call hb4
  replace hat2 := hat2.call hb4
  replace hatx := hatx.call hb4
  replace haty := haty.call hb4
  replace hyb := hyb.kept hb4 hyb.size
  replace hb4 := gr_call hb3 hb4
  clear hb3 hm1
  go_wp2_with fail
  refine (hm2.out _ hat0).mono ?_
  rintro e w5 ⟨rfl, hb5⟩
  replace hat0 := hat0.call hb5
  replace hat2 := hat2.call hb5
  replace hatx := hatx.call hb5
  replace haty := haty.call hb5
  replace hyb := hyb.kept hb5 hyb.size
  replace hb5 := gr_call hb4 hb5
  clear hb4
  have y0 := hyb.cell_some 0 _ rfl
  go_wp2_with fail
  refine (hsm.out _ hatx haty).mono ?_
  rintro e w6 ⟨rfl, hb6⟩
  replace hat0 := hat0.call hb6
  replace hat2 := hat2.call hb6
  replace hyb := hyb.kept hb6 hyb.size
  replace hb6 := gr_call hb5 hb6
  clear hb5 hsm hatx haty y0
  have y1 := hyb.cell_some 1 _ rfl
  go_wp2_with fail
  refine (hm2.out _ hat0).mono ?_
  rintro e w7 ⟨rfl, hb7⟩
  replace hat0 := hat0.call hb7
  replace hat2 := hat2.call hb7
  replace hb7 := gr_call hb6 hb7
  clear hb6 hm2 y1 hyb bs2 bs3
  rcases mv with _ | _
  · go_wp2_with fail
    refine (haw.out _ (hA.on hb7)).mono ?_
    rintro e w8 ⟨rfl, hb8⟩
    replace hb8 := gr_call hb7 hb8
    go_wp2_with fail
    go_ret
    exact ⟨rfl, hb8⟩
  · rw [Htr.out rfl] at ht1
    obtain ⟨T, hT⟩ : ∃ T, strOf (textL z0) = T := ⟨_, rfl⟩
    have ht3 := Lib.hid (ht2.out rfl)
    have hal3 := Lib.hid (hal1.out rfl)
    have hal4 := Lib.hid (hal2.out rfl)
    rw [hT] at ht1 ht3
    have tself : (T.toList == T.toList) = true := beq_self_eq_true _
    clear ht2 hal1 hal2 Htr hT hmv
    go_wp2_with fail
    refine (ht1.out _ hat0).mono ?_
    rintro e w8 ⟨rfl, hb8⟩
    replace hat0 := hat0.call hb8
    replace hat2 := hat2.call hb8
    replace hb8 := gr_call hb7 hb8
    clear hb7 ht1
    go_wp2_with fail
    refine (ht3.out _ hat0).mono ?_
    rintro e w9 ⟨rfl, hb9⟩
    replace hat0 := hat0.call hb9
    replace hat2 := hat2.call hb9
    replace hb9 := gr_call hb8 hb9
    clear hb8 ht3
    go_wp2_with fail
    refine (hal3.out _ hat0 hat2).mono ?_
    rintro e w10 ⟨rfl, hb10⟩
    replace hat0 := hat0.call hb10
    replace hat2 := hat2.call hb10
    replace hb10 := gr_call hb9 hb10
    clear hb9 hal3
    go_wp2_with fail
    refine (hal4.out _ hat0 hat2).mono ?_
    rintro e w11 ⟨rfl, hb11⟩
    replace hb11 := gr_call hb10 hb11
    clear hb10 hal4
    go_wp2_with fail
    refine (haw.out _ (hA.on hb11)).mono ?_
    rintro e w12 ⟨rfl, hb12⟩
    replace hb12 := gr_call hb11 hb12
    go_wp2_with fail
    go_ret
    exact ⟨rfl, hb12⟩
end Go.Proofs.YtikdpoekjfbpaaaDoor
