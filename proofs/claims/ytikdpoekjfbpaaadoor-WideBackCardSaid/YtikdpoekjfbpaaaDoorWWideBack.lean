/- The law WideBack, walked. -/
import Derived.Test.YtikdpoekjfbpaaaDoorWideMake
import Derived.Test.YtikdpoekjfbpaaaDoorWideSame
import Derived.Test.YtikdpoekjfbpaaaDoorWideFrame
import Derived.Test.YtikdpoekjfbpaaaDoorByteRow
namespace Go.Proofs.YtikdpoekjfbpaaaDoor
open Go.RowKit
open WideM
open AclM (cutAt cutAt_cons cutAt_ne)
set_option linter.unusedVariables false

theorem IsRow.le {k : IntKind} {w : World} {a : Option Addr} {len cap : Nat} {zs : List Int} (h : IsRow k w a len cap zs) : len ≤ 9223372036854775807 := by
  rcases h with ⟨_, h, _⟩ | ⟨x, _, h1, h2, _⟩
  · omega
  · unfold maxLen at h2; omega
theorem cut_comma : ∀ (s : List UInt8), cutAt 44 (s ++ [44]) = cutAt 44 s ++ [[]]
  | [] => by simp [cutAt]
  | x :: r => by
    rw [List.cons_append, cutAt_cons, cutAt_cons, cut_comma r]
    by_cases hx : x = 44
    · rw [if_pos hx, if_pos hx]; rfl
    · rw [if_neg hx, if_neg hx]
      rcases hc : cutAt 44 r with _ | ⟨p, ps⟩
      · exact absurd hc (cutAt_ne _ _)
      · rfl
theorem parts_nil : ∀ (ps : List (List UInt8)), partsOf (ps ++ [[]]) = none
  | [] => by decide
  | p :: ps => by
    rw [List.cons_append]
    unfold partsOf
    rw [parts_nil ps]
    cases partOf p <;> rfl
theorem get_comma (s : List UInt8) : getL (s ++ [44]) = none := by
  unfold getL
  rw [if_neg (by simp), cut_comma, parts_nil]
theorem same_other {l y : List Wid} {s : List UInt8} (hy : getL s = some y) (hs : s ≠ textL l) : sameB y l = false := by
  refine same_no ?_
  rintro rfl
  exact hs ((get_iff _ _).1 hy).2.symm
def bk1 : List UInt8 := [65, 58, 58, 79, 87, 78, 69, 82, 64, 58, 119, 114]
def bk2 : List UInt8 := [65, 58, 102, 102, 58, 79, 87, 78, 69, 82, 64, 58, 114]
def bk3 : List UInt8 := [65, 58, 58, 58, 114]
theorem bk_none : getL bk1 = none ∧ getL bk2 = none ∧ getL bk3 = none := by decide
attribute [local irreducible] Row At

set_option maxHeartbeats 6400000 in
set_option maxRecDepth 100000 in
theorem wideBack_walk (a0 : Option Addr) (len0 cap0 : Nat) (z0 : List Int) (a1 : Int) (a2 : Int) (w : World) (hA : Amb w) (w0 : IsRow .u16 w a0 len0 cap0 z0) (w1 : (Lit.int .u16 a1).wf = true) (w2 : (Lit.int .u8 a2).wf = true) :
    Calls Tryd.prog 4 #[.slice a0 len0 cap0, .int .u16 a1, .int .u8 a2] w fun e w' => e = .returned (.bool true) ∧ Below w.heap.size w w' := by
  have hw1 : 0 ≤ a1 ∧ a1 ≤ 65535 := by simpa [Lit.wf, IntKind.min, IntKind.max, IntKind.signed, IntKind.bits] using w1
  have hw2 : 0 ≤ a2 ∧ a2 ≤ 255 := by simpa [Lit.wf, IntKind.min, IntKind.max, IntKind.signed, IntKind.bits] using w2
  obtain ⟨hw1a, hw1b⟩ := hw1
  obtain ⟨hw2a, hw2b⟩ := hw2
  have hmk := Lib.hid (make_any a0 len0 cap0 z0 w w0 w0.le)
  have haw := Lib.hid awake_true
  obtain ⟨d, hd⟩ : ∃ d : UInt8, (d.toNat : Int) = a2 := ⟨UInt8.ofNat a2.toNat, by simp; omega⟩
  clear w0 w1 w2
  obtain ⟨K1, hK1⟩ : ∃ T : ByteArray, (⟨#[65, 58, 58, 79, 87, 78, 69, 82, 64, 58, 119, 114]⟩ : ByteArray) = T := ⟨_, rfl⟩
  obtain ⟨K2, hK2⟩ : ∃ T : ByteArray, (⟨#[65, 58, 102, 102, 58, 79, 87, 78, 69, 82, 64, 58, 114]⟩ : ByteArray) = T := ⟨_, rfl⟩
  obtain ⟨K3, hK3⟩ : ∃ T : ByteArray, (⟨#[65, 58, 58, 58, 114]⟩ : ByteArray) = T := ⟨_, rfl⟩
  have hp1 := Lib.hid (fun W hA' => Parse_any K1 (by rw [← hK1]; decide) W hA')
  have hp2 := Lib.hid (fun W hA' => Parse_any K2 (by rw [← hK2]; decide) W hA')
  have hp3 := Lib.hid (fun W hA' => Parse_any K3 (by rw [← hK3]; decide) W hA')
  rw [show getL K1.data.toList = none by rw [← hK1]; exact bk_none.1] at hp1
  rw [show getL K2.data.toList = none by rw [← hK2]; exact bk_none.2.1] at hp2
  rw [show getL K3.data.toList = none by rw [← hK3]; exact bk_none.2.2] at hp3
  go_enter Tryd.func4, Tryd.ntmps4
  simp only [hK1, hK2, hK3]
  clear hK1 hK2 hK3
  go_wp2_with fail
  refine (hmk.out).mono ?_
  rintro e w1 ⟨⟨v, l, rfl, hR, hmay⟩, hb1⟩
  have hat := hR.at
  clear hR hmk
  obtain ⟨hok, hl32⟩ := may_parts hmay
  have htx := Lib.hid (fun W (h : At wideE v l W) => textL_any v l W h (by omega))
  rw [show textR l = textL l from if_pos hmay] at htx
  have hTlen := text_len hmay
  obtain ⟨T, hT⟩ : ∃ T, strOf (textL l) = T := ⟨_, rfl⟩
  have HTl : Hid (T.data.toList = textL l) := Lib.hid (by rw [← hT, strOf_list])
  have hpT := Lib.hid (fun W hA' => Parse_any T (by rw [← hT, strOf_size]; omega) W hA')
  rw [HTl.out, get_text hmay] at hpT
  rw [hT] at htx
  obtain ⟨N, hN⟩ : ∃ N, T.size = N := ⟨_, rfl⟩
  have HTn : Hid (T.data.toList.length = N) := Lib.hid (by rw [len_list, hN])
  have hN5 : N ≤ 8992 := by rw [← HTn.out, HTl.out]; exact hTlen
  obtain ⟨TC, hTC⟩ : ∃ TC, T ++ ⟨#[44]⟩ = TC := ⟨_, rfl⟩
  have hTCl : TC.data.toList = T.data.toList ++ [44] := by rw [← hTC]; simp [bytes_list]
  have hbig : ¬ 9223372036854775807 < T.size + 1 := by omega
  have hbig2 : ¬ 9223372036854775807 < N + 1 := by omega
  have hpC := Lib.hid (fun W hA' => Parse_any TC (by rw [← len_list, hTCl, List.length_append, HTn.out]; simp; omega) W hA')
  rw [hTCl, get_comma] at hpC
  have hmy := Lib.hid (fun W (h : At wideE v l W) => may_any v l W h (by omega))
  rw [hmay] at hmy
  have hsm := Lib.hid (fun x W (h : At wideE x l W) (h' : At wideE v l W) => refSame_any x v l l W h h' (by omega) (by omega))
  rw [same_yes rfl] at hsm
  have Hsm := Lib.hid (fun x y W (h : At wideE x y W) (h' : At wideE v l W) (hy : y.length ≤ 1000000) => refSame_any x v y l W h h' hy (by omega))
  have Hoth := Lib.hid (fun y s hy hs => same_other (l := l) (y := y) (s := s) hy hs)
  clear hTlen hT hok hTCl
  go_wp2_with fail
  refine (htx.out _ hat).mono ?_
  rintro e w2 ⟨rfl, hb2⟩
  replace hat := hat.call hb2
  replace hb2 := gr_call hb1 hb2
  clear hb1 htx
  go_wp2_with fail
  refine (hpT.out _ (hA.on hb2)).mono ?_
  rintro e w3 ⟨⟨v2, rfl, hR2⟩, hb3⟩
  replace hat := hat.call hb3
  replace hb3 := gr_call hb2 hb3
  have hat2 := hR2.at
  clear hb2 hR2 hpT
  go_wp2_with fail
  refine (hmy.out _ hat).mono ?_
  rintro e w4 ⟨rfl, hb4⟩
  replace hat := hat.call hb4
  replace hat2 := hat2.call hb4
  replace hb4 := gr_call hb3 hb4
  clear hb3 hmy
  go_wp2_with fail
  refine (hsm.out _ _ hat2 hat).mono ?_
  rintro e w5 ⟨rfl, hb5⟩
  replace hat := hat.call hb5
  replace hb5 := gr_call hb4 hb5
  clear hb4 hat2 hsm
  go_wp2_with fail
  refine (hp1.out _ (hA.on hb5)).mono ?_
  rintro e w6 ⟨he, hb6⟩
  obtain rfl : e = .returned (.tuple #[.slice none 0 0, .bool false]) := he
  replace hat := hat.call hb6
  replace hb6 := gr_call hb5 hb6
  clear hb5 hp1
  go_wp2_with fail
  refine (hp2.out _ (hA.on hb6)).mono ?_
  rintro e w7 ⟨he, hb7⟩
  obtain rfl : e = .returned (.tuple #[.slice none 0 0, .bool false]) := he
  replace hat := hat.call hb7
  replace hb7 := gr_call hb6 hb7
  clear hb6 hp2
  go_wp2_with fail
  refine (hp3.out _ (hA.on hb7)).mono ?_
  rintro e w8 ⟨he, hb8⟩
  obtain rfl : e = .returned (.tuple #[.slice none 0 0, .bool false]) := he
  replace hat := hat.call hb8
  replace hb8 := gr_call hb7 hb8
  clear hb7 hp3
  go_wp2_with fail
  refine (hpC.out _ (hA.on hb8)).mono ?_
  rintro e w9 ⟨he, hb9⟩
  obtain rfl : e = .returned (.tuple #[.slice none 0 0, .bool false]) := he
  replace hat := hat.call hb9
  replace hb9 := gr_call hb8 hb9
  clear hb8 hpC hTC hbig hbig2
  by_cases hN0 : N = 0
  · have hz : ((N : Int) == 0) = true := by rw [hN0]; rfl
    clear hat Hsm Hoth
    go_wp2_with fail
    refine (haw.out _ (hA.on hb9)).mono ?_
    rintro e w10 ⟨rfl, hb10⟩
    replace hb10 := gr_call hb9 hb10
    go_wp2_with fail
    go_ret
    exact ⟨rfl, hb10⟩
  have hNz : ((N : Int) == 0) = false := beq_eq_false_iff_ne.2 (by omega)
  -- the bytes, one of them turned
  obtain ⟨I, hI, hI2⟩ : ∃ I : Nat, a1 % (N : Int) = (I : Int) ∧ I < N := ⟨(a1 % (N : Int)).toNat, by have := Int.emod_nonneg a1 (b := (N : Int)) (by omega); omega, by have := Int.emod_nonneg a1 (b := (N : Int)) (by omega); have := Int.emod_lt_of_pos a1 (b := (N : Int)) (by omega); omega⟩
  have hIt : a1.tmod (N : Int) = (I : Int) := by rw [Int.tmod_eq_emod_of_nonneg hw1a]; exact hI
  have hN1 : ¬ (N : Int) = 0 := by omega
  have hN2 : ¬ N = 0 := hN0
  have hIN : (I : Int) < (N : Int) := by omega
  have hcv5 : (convert 9 38 (.string T)).run Tryd.prog w9 = .ok (.slice (some ⟨w9.heap.size, 0, none⟩) N (grownCap w9 T.size 0 5)) (Lib.bytesWorld w9 5 T) := by
    have := Lib.run_convert_string_bytes (P := Tryd.prog) w9 9 38 5 T Tryd.underlying9 Tryd.underlying38 Tryd.underlying5
    rw [hN] at this ⊢
    exact this
  have hR := RowIs.of w9 5 T
  have hb10 := below_bytesWorld hb9 hb9.size 5 T
  have hb910 : Below w9.heap.size w9 (Lib.bytesWorld w9 5 T) := below_bytesWorld (Below.refl _ _) (Nat.le_refl _) 5 T
  have hsz9 := hb9.size
  obtain ⟨gb, hgb⟩ : ∃ gb, w9.heap.size = gb := ⟨_, rfl⟩
  rw [hgb] at hR hcv5 hsz9
  have hlt : I < T.data.toList.length := by rw [HTn.out]; exact hI2
  generalize Lib.bytesWorld w9 5 T = w10 at *
  have hc := hR.cell I hlt
  have hf := hR.free I hlt
  have hR10 := hR.put I d
  rw [hd] at hR10
  have hb11 : Below w.heap.size w (w10.setCell ⟨gb, I, none⟩ (.int .u8 a2)) := hb10.setCell hsz9 _
  have hat11 : At wideE v l (w10.setCell ⟨gb, I, none⟩ (.int .u8 a2)) := hat.call (hb910.setCell (by rw [hgb]; exact Nat.le_refl _) _)
  obtain ⟨U, hU⟩ : ∃ U : ByteArray, strOf (T.data.toList.set I d) = U := ⟨_, rfl⟩
  have HUl : Hid (U.data.toList = T.data.toList.set I d) := Lib.hid (by rw [← hU, strOf_list])
  have hcb := fun cap => hR10.back (P := Tryd.prog) (src := 38) (dst := 9) cap Tryd.underlying38 Tryd.underlying5 Tryd.underlying9
  rw [List.length_set, HTn.out] at hcb
  rw [show (⟨(T.data.toList.set I d).toArray⟩ : ByteArray) = U from hU] at hcb
  have hpU := Lib.hid (fun W hA' => Parse_any U (by rw [← hU, strOf_size, List.length_set, HTn.out]; omega) W hA')
  clear hR hb10 hat hb910 hU
  go_wp2_with fail
  generalize w10.setCell ⟨gb, I, none⟩ (.int .u8 a2) = w11 at *
  have hlt8 := hR10.size
  have hcb8 : ∀ W, Below w11.heap.size w11 W → ∀ cap, (convert 38 9 (.slice (some ⟨gb, 0, none⟩) N cap)).run Tryd.prog W = .ok (.string U) W := fun W hbW cap => by
    have := (hR10.kept hbW hlt8).back (P := Tryd.prog) (src := 38) (dst := 9) cap Tryd.underlying38 Tryd.underlying5 Tryd.underlying9
    rw [List.length_set, HTn.out] at this
    rw [← HUl.out] at this
    rw [show (⟨U.data.toList.toArray⟩ : ByteArray) = U from strOf_self U] at this
    exact this
  clear hR10 hcb hc hf hcv5 hlt
  refine (hpU.out _ (hA.on hb11)).mono ?_
  rintro e w12 ⟨hend, hb12⟩
  have hcb9 := hcb8 w12 hb12
  replace hat11 := hat11.call hb12
  replace hb12 := gr_call hb11 hb12
  clear hpU hb11 hcb8
  have hUe : U.toList = U.data.toList := Lib.toList_data U
  have hTe : T.toList = T.data.toList := Lib.toList_data T
  obtain ⟨og, hge⟩ : ∃ o, getL U.data.toList = o := ⟨_, rfl⟩
  rw [hge] at hend
  by_cases hUT : U.data.toList = T.data.toList
  · have hq : (U.toList == T.toList) = true := by rw [hUe, hTe, hUT]; exact beq_self_eq_true _
    have hq2 : U.toList = T.toList := by rw [hUe, hTe, hUT]
    clear hUT hUe hTe Hsm Hoth
    rcases og with _ | y
    · obtain rfl : e = .returned (.tuple #[.slice none 0 0, .bool false]) := hend
      go_wp2_with fail
      refine (haw.out _ (hA.on hb12)).mono ?_
      rintro e w13 ⟨rfl, hb13⟩
      replace hb13 := gr_call hb12 hb13
      go_wp2_with fail
      go_ret
      exact ⟨rfl, hb13⟩
    · obtain ⟨yv, rfl, hRy⟩ := hend
      go_wp2_with fail
      refine (haw.out _ (hA.on hb12)).mono ?_
      rintro e w13 ⟨rfl, hb13⟩
      replace hb13 := gr_call hb12 hb13
      go_wp2_with fail
      go_ret
      exact ⟨rfl, hb13⟩
  · have hq : (U.toList == T.toList) = false := by rw [hUe, hTe]; exact beq_eq_false_iff_ne.2 hUT
    have hq2 : ¬ U.toList = T.toList := by rw [hUe, hTe]; exact hUT
    clear hUe hTe
    rcases og with _ | y
    · obtain rfl : e = .returned (.tuple #[.slice none 0 0, .bool false]) := hend
      clear hUT Hsm Hoth
      go_wp2_with fail
      refine (haw.out _ (hA.on hb12)).mono ?_
      rintro e w13 ⟨rfl, hb13⟩
      replace hb13 := gr_call hb12 hb13
      go_wp2_with fail
      go_ret
      exact ⟨rfl, hb13⟩
    · obtain ⟨yv, rfl, hRy⟩ := hend
      have hyl := (may_parts ((get_iff _ _).1 hge).1).2
      have hsy := Lib.hid (fun W h h' => Hsm.out yv y W h h' (by omega))
      rw [Hoth.out y _ hge (by rw [← HTl.out]; exact hUT)] at hsy
      have haty := hRy.at
      clear hUT Hsm Hoth hRy
      go_wp2_with fail
      refine (hsy.out _ haty hat11).mono ?_
      rintro e w13 ⟨rfl, hb13⟩
      replace hb13 := gr_call hb12 hb13
      clear hb12 haty hat11 hsy
      go_wp2_with fail
      refine (haw.out _ (hA.on hb13)).mono ?_
      rintro e w14 ⟨rfl, hb14⟩
      replace hb14 := gr_call hb13 hb14
      go_wp2_with fail
      go_ret
      exact ⟨rfl, hb14⟩
end Go.Proofs.YtikdpoekjfbpaaaDoor
