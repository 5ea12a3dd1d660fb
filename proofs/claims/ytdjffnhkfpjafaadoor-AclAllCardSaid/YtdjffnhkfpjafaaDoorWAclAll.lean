/- The law AclAll, walked. -/
import Derived.Test.YtdjffnhkfpjafaaDoorAclRefParse
import Derived.Test.YtdjffnhkfpjafaaDoorAclAwake
namespace Go.Proofs.YtdjffnhkfpjafaaDoor
open Go.RowKit
open AclM DecM
set_option linter.unusedVariables false
attribute [local irreducible] Row At

theorem same_refl (l : List Ace) : sameL l l = true := decide_eq_true rfl
/-- What both parsers hand on. -/
theorem getEnd_is {B : Nat} {o : Option (List Ace)} {e : Ending} {w : World} (h : getEnd B o e w) : ∃ v, e = .returned (.tuple #[v, .bool o.isSome]) ∧ At aceE v (o.getD []) w := by
  rcases o with _ | l
  · exact ⟨_, h, At.nil w⟩
  · obtain ⟨v, he, hR⟩ := h
    exact ⟨v, he, hR.at⟩
theorem refEnd_is {o : Option (List Ace)} {e : Ending} {w : World} (h : refEnd o e w) : ∃ v, e = .returned (.agg #[v, .bool o.isSome]) ∧ At aceE v (o.getD []) w := by
  rcases o with _ | l
  · exact ⟨_, h, At.nil w⟩
  · obtain ⟨v, he, hR⟩ := h
    exact ⟨v, he, hR⟩
theorem getD_len (s : List UInt8) : ((getL s).getD []).length ≤ 32 := by
  rcases h : getL s with _ | l
  · simp
  · exact (may_parts ((get_iff _ _).1 h).1).2.1

set_option maxHeartbeats 6400000 in
set_option maxRecDepth 100000 in
theorem aclAll_walk (a0 : Option Addr) (len0 cap0 : Nat) (z0 : List AclM.Ace) (a1 : Option Addr) (len1 cap1 : Nat) (z1 : List AclM.Ace) (a2 : ByteArray) (a3 : Int) (w : World) (hA : Amb w) (w0 : z0.length = len0 ∧ At aceE (.slice a0 len0 cap0) z0 w) (w1 : z1.length = len1 ∧ At aceE (.slice a1 len1 cap1) z1 w) (w2 : a2.size ≤ maxLen) (w3 : (Lit.int .i64 a3).wf = true) :
    Calls Tryd.prog 3 #[.slice a0 len0 cap0, .slice a1 len1 cap1, .string a2, .int .i64 a3] w fun e w' => e = .returned (.bool true) ∧ Below w.heap.size w w' := by
  obtain ⟨hl0, hat⟩ := w0
  obtain ⟨hl1, hax⟩ := w1
  have hw3 : -9223372036854775808 ≤ a3 ∧ a3 ≤ 9223372036854775807 := by simpa [Lit.wf, IntKind.min, IntKind.max, IntKind.signed, IntKind.bits] using w3
  have haw := Lib.hid awake_true
  obtain ⟨n, hn⟩ : ∃ n, a2.size = n := ⟨_, rfl⟩
  clear w3
  by_cases h300 : 300 < n
  · have e1 : decide ((300 : Int) < (n : Int)) = true := decide_eq_true (by omega)
    clear hat hax w2
    go_enter Tryd.func3, Tryd.ntmps3
    go_wp2_with fail
    refine (haw.out _ hA).mono ?_
    rintro e w1 ⟨rfl, hb1⟩
    go_wp2_with fail
    go_ret
    exact ⟨rfl, hb1⟩
  have e1 : decide ((300 : Int) < (n : Int)) = false := decide_eq_false (by omega)
  by_cases h60 : 60 < len0
  · have e2 : decide ((60 : Int) < (len0 : Int)) = true := decide_eq_true (by omega)
    clear hat hax w2
    go_enter Tryd.func3, Tryd.ntmps3
    go_wp2_with fail
    refine (haw.out _ hA).mono ?_
    rintro e w1 ⟨rfl, hb1⟩
    go_wp2_with fail
    go_ret
    exact ⟨rfl, hb1⟩
  have e2 : decide ((60 : Int) < (len0 : Int)) = false := decide_eq_false (by omega)
  by_cases h61 : 60 < len1
  · have e3 : decide ((60 : Int) < (len1 : Int)) = true := decide_eq_true (by omega)
    clear hat hax w2
    go_enter Tryd.func3, Tryd.ntmps3
    go_wp2_with fail
    refine (haw.out _ hA).mono ?_
    rintro e w1 ⟨rfl, hb1⟩
    go_wp2_with fail
    go_ret
    exact ⟨rfl, hb1⟩
  have e3 : decide ((60 : Int) < (len1 : Int)) = false := decide_eq_false (by omega)
  have hp := Lib.hid (fun W hA' => Parse_any a2 (by omega) W hA')
  have hq := Lib.hid (fun W => refParse_any a2 (by omega) W)
  have hXl := getD_len a2.data.toList
  generalize getL a2.data.toList = o at *
  have Hget := Lib.hid (fun B e W h => @getEnd_is B o e W h)
  have Href := Lib.hid (fun e W h => @refEnd_is o e W h)
  obtain ⟨X, hX⟩ : ∃ X, o.getD [] = X := ⟨_, rfl⟩
  obtain ⟨b, hb⟩ : ∃ b, o.isSome = b := ⟨_, rfl⟩
  rw [hX, hb] at Hget Href
  rw [hX] at hXl
  clear hX hb
  obtain ⟨A, hAv⟩ : ∃ A, Value.slice a0 len0 cap0 = A := ⟨_, rfl⟩
  obtain ⟨M, hMv⟩ : ∃ M, Value.slice a1 len1 cap1 = M := ⟨_, rfl⟩
  have hmy := Lib.hid (fun W (h : At aceE (.slice a0 len0 cap0) z0 W) => may_any _ z0 W h (by omega))
  have hmr := Lib.hid (fun W (h : At aceE (.slice a0 len0 cap0) z0 W) => refMay_any _ z0 W h (by omega))
  have hsx := Lib.hid (fun x y W (h : At aceE x X W) (h' : At aceE y X W) => refSame_any x y X X W h h' (by omega) (by omega))
  rw [same_refl] at hsx
  have hsp := Lib.hid (fun W (h : At aceE (.slice a0 len0 cap0) z0 W) (h' : At aceE (.slice a1 len1 cap1) z1 W) => same_any _ _ z0 z1 W h h' (by omega) (by omega))
  have hsr := Lib.hid (fun W (h : At aceE (.slice a0 len0 cap0) z0 W) (h' : At aceE (.slice a1 len1 cap1) z1 W) => refSame_any _ _ z0 z1 W h h' (by omega) (by omega))
  have hfp := Lib.hid (fun W => from_any a3 W hw3.1 hw3.2)
  have hfr := Lib.hid (fun W => refFrom_any a3 W hw3.1 hw3.2)
  have hsf := Lib.hid (fun x y W (h : At aceE x (fromL a3) W) (h' : At aceE y (fromL a3) W) => refSame_any x y (fromL a3) (fromL a3) W h h' (by simp [fromL]) (by simp [fromL]))
  rw [same_refl] at hsf
  generalize fromL a3 = F at *
  have htx := Lib.hid (fun W (hA' : Amb W) (h : At aceE (.slice a0 len0 cap0) z0 W) => textL_any _ z0 W hA' h (by omega))
  have htr := Lib.hid (fun (hm : may z0 = true) W (h : At aceE (.slice a0 len0 cap0) z0 W) => refText_any _ z0 W h hm)
  have hmo := Lib.hid (fun (hm : may z0 = true) W (h : At aceE (.slice a0 len0 cap0) z0 W) => mode_any _ z0 W h (by omega) (may_parts hm).1)
  have hmq := Lib.hid (fun (hm : may z0 = true) W (h : At aceE (.slice a0 len0 cap0) z0 W) => refMode_any _ z0 W h hm)
  have htR : may z0 = true → textR z0 = textL z0 := fun h => if_pos h
  clear hAv hMv
  generalize sameL z0 z1 = c at *
  have hcc : (c == c) = true := beq_self_eq_true c
  have hbb : (b == b) = true := beq_self_eq_true b
  clear w2
  go_enter Tryd.func3, Tryd.ntmps3
  go_wp2_with fail
  have hbl := Below.refl w.heap.size w
  refine (hp.out _ hA).mono ?_
  rintro e w4 ⟨he, hbn⟩
  obtain ⟨vx, rfl, hx⟩ := Hget.out _ _ _ he
  replace hat := hat.call hbn
  replace hax := hax.call hbn
  replace hbl := gr_call hbl hbn
  clear hbn he
  go_wp2_with fail
  refine (hq.out _).mono ?_
  rintro e w5 ⟨he, hbn⟩
  obtain ⟨vy, rfl, hy⟩ := Href.out _ _ he
  obtain ⟨py, cy, rfl, _⟩ := hy.shape
  replace hat := hat.call hbn
  replace hax := hax.call hbn
  replace hx := hx.call hbn
  replace hbl := gr_call hbl hbn
  clear hbn he hp hq Hget Href
  replace hat := hat.alloc (.cells #[.slice py X.length cy, .bool b] 27)
  replace hax := hax.alloc (.cells #[.slice py X.length cy, .bool b] 27)
  replace hx := hx.alloc (.cells #[.slice py X.length cy, .bool b] 27)
  replace hy := hy.alloc (.cells #[.slice py X.length cy, .bool b] 27)
  replace hbl := gr_alloc hbl (.cells #[.slice py X.length cy, .bool b] 27)
  have k0 : (w5.alloc (.cells #[.slice py X.length cy, .bool b] 27)).cell? ⟨w5.heap.size, 0, none⟩ = some (.slice py X.length cy) := by simp [go_sem]
  have k1 : (w5.alloc (.cells #[.slice py X.length cy, .bool b] 27)).cell? ⟨w5.heap.size, 1, none⟩ = some (.bool b) := by simp [go_sem]
  rcases hm : may z0 with _ | _ <;> rw [hm] at hmy hmr
  · clear htx htr hmo hmq htR hm
    go_wp2_with fail
    refine (hmy.out _ hat).mono ?_
    rintro e w7 ⟨rfl, hbn⟩
    replace hat := hat.call hbn
    replace hax := hax.call hbn
    replace hx := hx.call hbn
    replace hy := hy.call hbn
    replace k0 := cell_kept hbn k0
    replace k1 := cell_kept hbn k1
    replace hbl := gr_call hbl hbn
    clear hbn
    go_wp2_with fail
    refine (hmr.out _ hat).mono ?_
    rintro e w8 ⟨rfl, hbn⟩
    replace hat := hat.call hbn
    replace hax := hax.call hbn
    replace hx := hx.call hbn
    replace hy := hy.call hbn
    replace k0 := cell_kept hbn k0
    replace k1 := cell_kept hbn k1
    replace hbl := gr_call hbl hbn
    clear hbn
    go_wp2_with fail
    refine (hsx.out _ _ _ hx hy).mono ?_
    rintro e w9 ⟨rfl, hbn⟩
    replace hat := hat.call hbn
    replace hax := hax.call hbn
    replace k0 := cell_kept hbn k0
    replace k1 := cell_kept hbn k1
    replace hbl := gr_call hbl hbn
    clear hbn
    go_wp2_with fail
    refine (hsp.out _ hat hax).mono ?_
    rintro e w10 ⟨rfl, hbn⟩
    replace hat := hat.call hbn
    replace hax := hax.call hbn
    replace hbl := gr_call hbl hbn
    clear hbn
    go_wp2_with fail
    refine (hsr.out _ hat hax).mono ?_
    rintro e w11 ⟨rfl, hbn⟩
    replace hat := hat.call hbn
    replace hbl := gr_call hbl hbn
    clear hbn
    go_wp2_with fail
    refine (hfp.out _).mono ?_
    rintro e w12 ⟨⟨vf, rfl, hf⟩, hbn⟩
    replace hat := hat.call hbn
    have hf1 := hf.at
    clear hf
    replace hbl := gr_call hbl hbn
    clear hbn
    go_wp2_with fail
    refine (hfr.out _).mono ?_
    rintro e w13 ⟨⟨vg, rfl, hg⟩, hbn⟩
    replace hat := hat.call hbn
    replace hf1 := hf1.call hbn
    have hg1 := hg.at
    clear hg
    replace hbl := gr_call hbl hbn
    clear hbn
    go_wp2_with fail
    refine (hsf.out _ _ _ hf1 hg1).mono ?_
    rintro e w14 ⟨rfl, hbn⟩
    replace hat := hat.call hbn
    replace hbl := gr_call hbl hbn
    clear hbn
    go_wp2_with fail
    refine (hmr.out _ hat).mono ?_
    rintro e w15 ⟨rfl, hbn⟩
    replace hat := hat.call hbn
    replace hbl := gr_call hbl hbn
    clear hbn
    go_wp2_with fail
    refine (haw.out _ (hA.on hbl)).mono ?_
    rintro e w16 ⟨rfl, hbn⟩
    replace hbl := gr_call hbl hbn
    clear hbn
    go_wp2_with fail
    go_ret
    exact ⟨rfl, hbl⟩
  · have htx2 := htx
    rw [htR hm] at htx2
    have htr2 := Lib.hid (htr.out hm)
    have hmo2 := Lib.hid (hmo.out hm)
    have hmq2 := Lib.hid (hmq.out hm)
    obtain ⟨T, hT⟩ : ∃ T, strOf (textL z0) = T := ⟨_, rfl⟩
    rw [hT] at htx2 htr2
    obtain ⟨Q, hQ⟩ : ∃ Q, modeL z0 = Q := ⟨_, rfl⟩
    rw [hQ] at hmo2 hmq2
    have hTT : (T.toList == T.toList) = true := beq_self_eq_true _
    have hQQ : (Q == Q) = true := beq_self_eq_true _
    clear hT hQ htx htr hmo hmq htR hm
    go_wp2_with fail
    refine (hmy.out _ hat).mono ?_
    rintro e w7 ⟨rfl, hbn⟩
    replace hat := hat.call hbn
    replace hax := hax.call hbn
    replace hx := hx.call hbn
    replace hy := hy.call hbn
    replace k0 := cell_kept hbn k0
    replace k1 := cell_kept hbn k1
    replace hbl := gr_call hbl hbn
    clear hbn
    go_wp2_with fail
    refine (hmr.out _ hat).mono ?_
    rintro e w8 ⟨rfl, hbn⟩
    replace hat := hat.call hbn
    replace hax := hax.call hbn
    replace hx := hx.call hbn
    replace hy := hy.call hbn
    replace k0 := cell_kept hbn k0
    replace k1 := cell_kept hbn k1
    replace hbl := gr_call hbl hbn
    clear hbn
    go_wp2_with fail
    refine (hsx.out _ _ _ hx hy).mono ?_
    rintro e w9 ⟨rfl, hbn⟩
    replace hat := hat.call hbn
    replace hax := hax.call hbn
    replace k0 := cell_kept hbn k0
    replace k1 := cell_kept hbn k1
    replace hbl := gr_call hbl hbn
    clear hbn
    go_wp2_with fail
    refine (hsp.out _ hat hax).mono ?_
    rintro e w10 ⟨rfl, hbn⟩
    replace hat := hat.call hbn
    replace hax := hax.call hbn
    replace hbl := gr_call hbl hbn
    clear hbn
    go_wp2_with fail
    refine (hsr.out _ hat hax).mono ?_
    rintro e w11 ⟨rfl, hbn⟩
    replace hat := hat.call hbn
    replace hbl := gr_call hbl hbn
    clear hbn
    go_wp2_with fail
    refine (hfp.out _).mono ?_
    rintro e w12 ⟨⟨vf, rfl, hf⟩, hbn⟩
    replace hat := hat.call hbn
    have hf1 := hf.at
    clear hf
    replace hbl := gr_call hbl hbn
    clear hbn
    go_wp2_with fail
    refine (hfr.out _).mono ?_
    rintro e w13 ⟨⟨vg, rfl, hg⟩, hbn⟩
    replace hat := hat.call hbn
    replace hf1 := hf1.call hbn
    have hg1 := hg.at
    clear hg
    replace hbl := gr_call hbl hbn
    clear hbn
    go_wp2_with fail
    refine (hsf.out _ _ _ hf1 hg1).mono ?_
    rintro e w14 ⟨rfl, hbn⟩
    replace hat := hat.call hbn
    replace hbl := gr_call hbl hbn
    clear hbn
    go_wp2_with fail
    refine (hmr.out _ hat).mono ?_
    rintro e w15 ⟨rfl, hbn⟩
    replace hat := hat.call hbn
    replace hbl := gr_call hbl hbn
    clear hbn
    go_wp2_with fail
    refine (htx2.out _ (hA.on hbl) hat).mono ?_
    rintro e w16 ⟨rfl, hbn⟩
    replace hat := hat.call hbn
    replace hbl := gr_call hbl hbn
    clear hbn
    go_wp2_with fail
    refine (htr2.out _ hat).mono ?_
    rintro e w17 ⟨rfl, hbn⟩
    replace hat := hat.call hbn
    replace hbl := gr_call hbl hbn
    clear hbn
    go_wp2_with fail
    refine (hmo2.out _ hat).mono ?_
    rintro e w18 ⟨rfl, hbn⟩
    replace hat := hat.call hbn
    replace hbl := gr_call hbl hbn
    clear hbn
    go_wp2_with fail
    refine (hmq2.out _ hat).mono ?_
    rintro e w19 ⟨rfl, hbn⟩
    replace hbl := gr_call hbl hbn
    clear hbn
    go_wp2_with fail
    refine (haw.out _ (hA.on hbl)).mono ?_
    rintro e w20 ⟨rfl, hbn⟩
    replace hbl := gr_call hbl hbn
    clear hbn
    go_wp2_with fail
    go_ret
    exact ⟨rfl, hbl⟩
end Go.Proofs.YtdjffnhkfpjafaaDoor
