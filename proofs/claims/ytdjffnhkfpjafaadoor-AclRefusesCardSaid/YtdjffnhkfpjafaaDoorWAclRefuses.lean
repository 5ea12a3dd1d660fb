/- The law AclRefuses, walked. -/
import Derived.Test.YtdjffnhkfpjafaaDoorAclMake
import Derived.Test.YtdjffnhkfpjafaaDoorAclBad
import Derived.Test.YtdjffnhkfpjafaaDoorWAclBack
namespace Go.Proofs.YtdjffnhkfpjafaaDoor
open Go.RowKit
open AclM DecM
set_option linter.unusedVariables false
attribute [local irreducible] Row At

set_option maxHeartbeats 6400000 in
set_option maxRecDepth 100000 in
theorem aclRefuses_walk (a0 : Option Addr) (len0 cap0 : Nat) (z0 : List Int) (a1 : Int) (a2 : Int) (w : World) (hA : Amb w) (w0 : IsRow .u8 w a0 len0 cap0 z0) (w1 : (Lit.int .u16 a1).wf = true) (w2 : (Lit.int .u8 a2).wf = true) :
    Calls Tryd.prog 5 #[.slice a0 len0 cap0, .int .u16 a1, .int .u8 a2] w fun e w' => e = .returned (.bool true) ∧ Below w.heap.size w w' := by
  have hw1 : 0 ≤ a1 ∧ a1 ≤ 65535 := by simpa [Lit.wf, IntKind.min, IntKind.max, IntKind.signed, IntKind.bits] using w1
  have hw2 : 0 ≤ a2 ∧ a2 ≤ 255 := by simpa [Lit.wf, IntKind.min, IntKind.max, IntKind.signed, IntKind.bits] using w2
  have hmk := Lib.hid (make_any a0 len0 cap0 z0 (a1 % 512) w w0 (by omega) (by omega) w0.le)
  have haw := Lib.hid awake_true
  obtain ⟨K, hK, hK9⟩ : ∃ K : Nat, a2 % 9 = (K : Int) ∧ K < 9 := ⟨(a2 % 9).toNat, by omega, by omega⟩
  obtain ⟨S, hS, hSs, hSg⟩ := bad_at K hK9
  have hp := Lib.hid (fun W hA' => Parse_any S (by omega) W hA')
  rw [hSg] at hp
  unfold badCells at hS
  obtain ⟨T0, hT0⟩ : ∃ T : ByteArray, (⟨#[]⟩ : ByteArray) = T := ⟨_, rfl⟩
  obtain ⟨T1, hT1⟩ : ∃ T : ByteArray, (⟨#[44]⟩ : ByteArray) = T := ⟨_, rfl⟩
  obtain ⟨T2, hT2⟩ : ∃ T : ByteArray, (⟨#[117, 58, 58, 114, 119, 120]⟩ : ByteArray) = T := ⟨_, rfl⟩
  obtain ⟨T3, hT3⟩ : ∃ T : ByteArray, (⟨#[117, 58, 58, 114, 119, 120, 44, 103, 58, 58, 114, 119, 120]⟩ : ByteArray) = T := ⟨_, rfl⟩
  obtain ⟨T4, hT4⟩ : ∃ T : ByteArray, (⟨#[117, 58, 58, 114, 119, 120, 44, 103, 58, 58, 114, 119, 120, 44, 111, 58, 58, 114, 119, 120, 44]⟩ : ByteArray) = T := ⟨_, rfl⟩
  obtain ⟨T5, hT5⟩ : ∃ T : ByteArray, (⟨#[117, 58, 58, 114, 119, 120, 120, 44, 103, 58, 58, 114, 45, 45, 44, 111, 58, 58, 114, 45, 45]⟩ : ByteArray) = T := ⟨_, rfl⟩
  obtain ⟨T6, hT6⟩ : ∃ T : ByteArray, (⟨#[117, 58, 48, 49, 58, 114, 119, 120]⟩ : ByteArray) = T := ⟨_, rfl⟩
  obtain ⟨T7, hT7⟩ : ∃ T : ByteArray, (⟨#[117, 58, 58, 114, 119, 120, 44, 117, 58, 53, 58, 114, 45, 45, 44, 103, 58, 58, 114, 45, 45, 44, 111, 58, 58, 114, 45, 45]⟩ : ByteArray) = T := ⟨_, rfl⟩
  obtain ⟨T8, hT8⟩ : ∃ T : ByteArray, (⟨#[117, 58, 58, 114, 119, 120, 44, 103, 58, 58, 114, 45, 45, 44, 109, 58, 58, 114, 119, 120, 44, 111, 58, 58, 114, 45, 45]⟩ : ByteArray) = T := ⟨_, rfl⟩
  simp only [hT0, hT1, hT2, hT3, hT4, hT5, hT6, hT7, hT8] at hS
  have hS2 : ([.string T0, .string T1, .string T2, .string T3, .string T4, .string T5, .string T6, .string T7, .string T8] : List Value)[K]? = some (.string S) := by simpa using hS
  have hS3 : ([.string T0, .string T1, .string T2, .string T3, .string T4, .string T5, .string T6, .string T7, .string T8] : List Value)[K]'(by simp; omega) = .string S := by
    rw [List.getElem?_eq_getElem (by simp; omega)] at hS2
    exact Option.some.inj hS2
  have hK1 : (K : Int) < 9 := by omega
  have hK2 : decide (K < 9) = true := decide_eq_true hK9
  clear w0 w1 w2 hSg hSs
  go_enter Tryd.func5, Tryd.ntmps5
  simp only [hT0, hT1, hT2, hT3, hT4, hT5, hT6, hT7, hT8]
  clear hT0 hT1 hT2 hT3 hT4 hT5 hT6 hT7 hT8
  go_wp2_with fail
  refine (hmk.out).mono ?_
  rintro e w1 ⟨⟨v, l, rfl, hR, hmay, hmo⟩, hb1⟩
  clear hmk hmo
  have h2 := may_two hmay
  have hf1 := may_first hmay (by omega)
  have hf6 := may_last hmay (by omega)
  have hl32 := (may_parts hmay).2.1
  have hok := (may_parts hmay).1
  obtain ⟨g, cap, rfl, hcap, hgB, hg, hfr, hcell⟩ := hR.open (may_ne hmay)
  obtain ⟨n, hn⟩ : ∃ n, l.length = n := ⟨_, rfl⟩
  have Hn := Lib.hid hn
  have Hcell := Lib.hid hcell
  obtain ⟨c0, c1, c2⟩ := hcell 0 (by omega)
  obtain ⟨d0, d1, d2⟩ := hcell (l.length - 1) (by omega)
  have ok0 := okPart_iff (hok l[0] (List.getElem_mem (by omega)))
  obtain ⟨⟨t0, i0, p0⟩, hx0⟩ : ∃ x, l[0]'(by omega) = x := ⟨_, rfl⟩
  obtain ⟨⟨t1, i1, p1⟩, hx1⟩ : ∃ x, l[l.length - 1]'(by omega) = x := ⟨_, rfl⟩
  rw [hx0] at c0 c1 c2 hf1 ok0
  rw [hx1] at d0 d1 d2 hf6
  simp only at c0 c1 c2 d0 d1 d2 hf1 hf6 ok0
  have hi0 : i0 = 0 := ok0.2.2.2.2.2.2 (by rw [hf1]; rfl)
  subst hf1 hf6 hi0
  simp only [Nat.zero_mul, Nat.zero_add] at c0 c1 c2
  have Hx0 : Hid (l[0]? = some (1, 0, p0)) := Lib.hid (by rw [List.getElem?_eq_getElem (by omega), hx0])
  have Hx1 : Hid (l[n - 1]? = some (6, i1, p1)) := Lib.hid (by rw [← hn, List.getElem?_eq_getElem (by omega), hx1])
  have hat1 := hR.at
  rw [hn] at d0 d1 d2 h2 hl32 hcap hat1 hR ⊢
  have hn1 : (1 : Int) ≤ (n : Int) := by omega
  have hn2 : (n : Int) - 1 < (n : Int) := by omega
  have hn3 : (0 : Int) < (n : Int) := by omega
  have hn4 : 0 < n := by omega
  have hwr : IntKind.i64.wrap ((n : Int) - 1) = (n : Int) - 1 := by rw [IntKind.wrap_i64]; omega
  have hne1 : ∀ x y : Nat, x < 3 → y < 3 → x ≠ (n - 1) * 3 + y := by intro x y hx hy; omega
  have hne2 : ∀ x y : Nat, x < 3 → y < 3 → (n - 1) * 3 + y ≠ x := by intro x y hx hy; omega
  clear hcell hx0 hx1 hok ok0 hn
  have hq : a2 % 6 = 0 ∨ a2 % 6 = 1 ∨ a2 % 6 = 2 ∨ a2 % 6 = 3 ∨ a2 % 6 = 4 ∨ a2 % 6 = 5 := by omega
  rcases hq with hq | hq | hq | hq | hq | hq
  · have hl0 : 0 < l.length := by rw [Hn.out]; exact hn4
    have hl1 : n - 1 < l.length := by rw [Hn.out]; omega
    have hx0 : l[0] = (1, 0, p0) := by have := Hx0.out; rw [List.getElem?_eq_getElem hl0] at this; exact Option.some.inj this
    have hx1 : l[n - 1] = (6, i1, p1) := by have := Hx1.out; rw [List.getElem?_eq_getElem hl1] at this; exact Option.some.inj this
    have hln := Hn.out
    have f0 := hfr 0
    have f1 := hfr 1
    have f2 := hfr 2
    have hBX := gr_set hb1 (p := ⟨g, 2, none⟩) hgB (.int .i64 8)
    have hbad : may (l.set 0 (1, 0, 8)) = false := bad_part (a := (1, 0, 8)) (List.mem_set hl0 _) (by decide)
    have hlen : (l.set 0 (1, 0, 8)).length ≤ 1000000 := by simp; omega
    have hatX := (show At aceE (.slice (some ⟨g, 0, none⟩) n cap) (l.set 0 (1, 0, 8)) (w1.setCell ⟨g, 2, none⟩ (.int .i64 8)) by have h := at_set2 hat1 hl0 8; simp only [hx0, Nat.zero_mul, Nat.zero_add] at h; exact h)
    clear hat1 hfr Hx0 Hx1 Hcell
    go_wp2_with fail
    refine (hp.out _ (hA.on (gr_alloc hBX _))).mono ?_
    rintro e w2 ⟨he, hb2⟩
    obtain rfl : e = .returned (.tuple #[.slice none 0 0, .bool false]) := he
    have hat2 := (hatX.alloc _).call hb2
    have hb3 : Below w.heap.size w w2 := gr_call (gr_alloc hBX _) hb2
    have hmy := may_any _ _ w2 hat2 hlen
    rw [hbad] at hmy
    clear hb2 hatX
    go_wp2_with fail
    refine hmy.mono ?_
    rintro e w3 ⟨rfl, hb4⟩
    replace hb4 := gr_call hb3 hb4
    clear hb3 hmy
    go_wp2_with fail
    refine (haw.out _ (hA.on hb4)).mono ?_
    rintro e w4 ⟨rfl, hb5⟩
    replace hb5 := gr_call hb4 hb5
    go_wp2_with fail
    go_ret
    exact ⟨rfl, hb5⟩
  · have hl0 : 0 < l.length := by rw [Hn.out]; exact hn4
    have hl1 : n - 1 < l.length := by rw [Hn.out]; omega
    have hx0 : l[0] = (1, 0, p0) := by have := Hx0.out; rw [List.getElem?_eq_getElem hl0] at this; exact Option.some.inj this
    have hx1 : l[n - 1] = (6, i1, p1) := by have := Hx1.out; rw [List.getElem?_eq_getElem hl1] at this; exact Option.some.inj this
    have hln := Hn.out
    have f0 := hfr 0
    have f1 := hfr 1
    have f2 := hfr 2
    have hBX := gr_set hb1 (p := ⟨g, 1, none⟩) hgB (.int .i64 1)
    have hbad : may (l.set 0 (1, 1, p0)) = false := bad_part (a := (1, 1, p0)) (List.mem_set hl0 _) (by simp [okPart, hasId])
    have hlen : (l.set 0 (1, 1, p0)).length ≤ 1000000 := by simp; omega
    have hatX := (show At aceE (.slice (some ⟨g, 0, none⟩) n cap) (l.set 0 (1, 1, p0)) (w1.setCell ⟨g, 1, none⟩ (.int .i64 1)) by have h := at_set1 hat1 hl0 1; simp only [hx0, Nat.zero_mul, Nat.zero_add] at h; exact h)
    clear hat1 hfr Hx0 Hx1 Hcell
    go_wp2_with fail
    refine (hp.out _ (hA.on (gr_alloc hBX _))).mono ?_
    rintro e w2 ⟨he, hb2⟩
    obtain rfl : e = .returned (.tuple #[.slice none 0 0, .bool false]) := he
    have hat2 := (hatX.alloc _).call hb2
    have hb3 : Below w.heap.size w w2 := gr_call (gr_alloc hBX _) hb2
    have hmy := may_any _ _ w2 hat2 hlen
    rw [hbad] at hmy
    clear hb2 hatX
    go_wp2_with fail
    refine hmy.mono ?_
    rintro e w3 ⟨rfl, hb4⟩
    replace hb4 := gr_call hb3 hb4
    clear hb3 hmy
    go_wp2_with fail
    refine (haw.out _ (hA.on hb4)).mono ?_
    rintro e w4 ⟨rfl, hb5⟩
    replace hb5 := gr_call hb4 hb5
    go_wp2_with fail
    go_ret
    exact ⟨rfl, hb5⟩
  · have hl0 : 0 < l.length := by rw [Hn.out]; exact hn4
    have hl1 : n - 1 < l.length := by rw [Hn.out]; omega
    have hx0 : l[0] = (1, 0, p0) := by have := Hx0.out; rw [List.getElem?_eq_getElem hl0] at this; exact Option.some.inj this
    have hx1 : l[n - 1] = (6, i1, p1) := by have := Hx1.out; rw [List.getElem?_eq_getElem hl1] at this; exact Option.some.inj this
    have hln := Hn.out
    have f0 := hfr 0
    have f1 := hfr 1
    have f2 := hfr 2
    have f3 := hfr ((n - 1) * 3)
    have f4 := hfr ((n - 1) * 3 + 1)
    have f5 := hfr ((n - 1) * 3 + 2)
    have hgne : g ≠ w1.heap.size := Nat.ne_of_lt hg
    obtain ⟨q3, hq3⟩ : ∃ q3, (n - 1) * 3 = q3 + 3 := ⟨(n - 1) * 3 - 3, by omega⟩
    simp only [hq3, Nat.add_assoc, show 3 + 1 = 4 from rfl, show 3 + 2 = 5 from rfl] at d0 d1 d2 f3 f4 f5
    clear hne1 hne2
    have hBX := gr_alloc (gr_set (gr_set (gr_set (gr_set (gr_set (gr_set hb1 (p := ⟨g, 0, none⟩) hgB (.int .i64 6)) (p := ⟨g, 1, none⟩) hgB (.int .i64 i1)) (p := ⟨g, 2, none⟩) hgB (.int .i64 p1)) (p := ⟨g, q3 + 3, none⟩) hgB (.int .i64 1)) (p := ⟨g, q3 + 3 + 1, none⟩) hgB (.int .i64 0)) (p := ⟨g, q3 + 3 + 2, none⟩) hgB (.int .i64 p0)) (.cells #[.int .i64 1, .int .i64 0, .int .i64 p0] 39)
    have hbad : may ((l.set 0 (6, i1, p1)).set (n - 1) (1, 0, p0)) = false := bad_first (by simp; omega) (by rw [List.getElem_set_ne (by omega), List.getElem_set_self]; show (6 : Int) ≠ 1; decide)
    have hlen : ((l.set 0 (6, i1, p1)).set (n - 1) (1, 0, p0)).length ≤ 1000000 := by simp; omega
    have hatX := (show At aceE (.slice (some ⟨g, 0, none⟩) n cap) ((l.set 0 (6, i1, p1)).set (n - 1) (1, 0, p0)) (((((((w1.setCell ⟨g, 0, none⟩ (.int .i64 6)).setCell ⟨g, 1, none⟩ (.int .i64 i1)).setCell ⟨g, 2, none⟩ (.int .i64 p1)).setCell ⟨g, q3 + 3, none⟩ (.int .i64 1)).setCell ⟨g, q3 + 3 + 1, none⟩ (.int .i64 0)).setCell ⟨g, q3 + 3 + 2, none⟩ (.int .i64 p0)).alloc (.cells #[.int .i64 1, .int .i64 0, .int .i64 p0] 39)) by have h := at_set3 (at_set3 hat1 (i := 0) hn4 (6, i1, p1)) (i := n - 1) (by omega) (1, 0, p0); simp only [hq3, Nat.zero_mul, Nat.zero_add] at h; exact h.alloc _)
    clear hat1 hfr Hx0 Hx1 Hcell
    go_wp2_with fail
    refine (hp.out _ (hA.on (gr_alloc hBX _))).mono ?_
    rintro e w2 ⟨he, hb2⟩
    obtain rfl : e = .returned (.tuple #[.slice none 0 0, .bool false]) := he
    have hat2 := (hatX.alloc _).call hb2
    have hb3 : Below w.heap.size w w2 := gr_call (gr_alloc hBX _) hb2
    have hmy := may_any _ _ w2 hat2 hlen
    rw [hbad] at hmy
    clear hb2 hatX
    go_wp2_with fail
    refine hmy.mono ?_
    rintro e w3 ⟨rfl, hb4⟩
    replace hb4 := gr_call hb3 hb4
    clear hb3 hmy
    go_wp2_with fail
    refine (haw.out _ (hA.on hb4)).mono ?_
    rintro e w4 ⟨rfl, hb5⟩
    replace hb5 := gr_call hb4 hb5
    go_wp2_with fail
    go_ret
    exact ⟨rfl, hb5⟩
  · have hl0 : 0 < l.length := by rw [Hn.out]; exact hn4
    have hl1 : n - 1 < l.length := by rw [Hn.out]; omega
    have hx0 : l[0] = (1, 0, p0) := by have := Hx0.out; rw [List.getElem?_eq_getElem hl0] at this; exact Option.some.inj this
    have hx1 : l[n - 1] = (6, i1, p1) := by have := Hx1.out; rw [List.getElem?_eq_getElem hl1] at this; exact Option.some.inj this
    have hln := Hn.out
    have hsz1 := hb1.size
    have f0 := hfr 0
    have hrow := (show Row aceE w.heap.size (.slice (some ⟨w1.heap.size, 0, none⟩) 1 1) [(1, 0, p0)] (w1.alloc (.cells #[.int .i64 1, .int .i64 0, .int .i64 p0] 39)) from one_ace w1 (1, 0, p0) w.heap.size hsz1)
    have hatA := hat1.alloc (.cells #[.int .i64 1, .int .i64 0, .int .i64 p0] 39)
    have hlA : ([((1, 0, p0) : Ace)] : List Ace).length + (l : List Ace).length ≤ 1000000 := by simp; omega
    have hsA : w.heap.size ≤ (w1.alloc (.cells #[.int .i64 1, .int .i64 0, .int .i64 p0] 39)).heap.size := by simp; omega
    go_wp2_with (at_builtin; refine wp_append_at aceE rfl _ _ rfl w.heap.size (.slice (some ⟨w1.heap.size, 0, none⟩) 1 1) (.slice (some ⟨g, 0, none⟩) n cap) ([((1, 0, p0) : Ace)]) (l) (w1.alloc (.cells #[.int .i64 1, .int .i64 0, .int .i64 p0] 39)) rfl (by exact hrow) (by rfl) (by exact hatA) hlA hsA ?_)
    intro vN wN hRN hbN _ _
    have hBX : Below w.heap.size w wN := (gr_alloc hb1 _).trans hbN
    have hat1' := hRN.at
    clear hrow hatA hbN hRN
    have hbad : may (((1, 0, p0) : Ace) :: l) = false := by (have hle : ((1, 0, p0) : Ace) :: l = (1, 0, p0) :: (1, 0, p0) :: l.drop 1 := by rw [← hx0]; show l[0] :: l = l[0] :: (l[0] :: l.drop 1); rw [← List.drop_eq_getElem_cons hl0]; rfl); rw [hle]; exact bad_twice _ _
    have hlen : (((1, 0, p0) : Ace) :: l).length ≤ 1000000 := by simp; omega
    have hatX := hat1'
    clear hat1 hfr Hx0 Hx1 Hcell
    go_wp2_with fail
    refine (hp.out _ (hA.on (gr_alloc hBX _))).mono ?_
    rintro e w2 ⟨he, hb2⟩
    obtain rfl : e = .returned (.tuple #[.slice none 0 0, .bool false]) := he
    have hat2 := (hatX.alloc _).call hb2
    have hb3 : Below w.heap.size w w2 := gr_call (gr_alloc hBX _) hb2
    have hmy := may_any _ _ w2 hat2 hlen
    rw [hbad] at hmy
    clear hb2 hatX
    go_wp2_with fail
    refine hmy.mono ?_
    rintro e w3 ⟨rfl, hb4⟩
    replace hb4 := gr_call hb3 hb4
    clear hb3 hmy
    go_wp2_with fail
    refine (haw.out _ (hA.on hb4)).mono ?_
    rintro e w4 ⟨rfl, hb5⟩
    replace hb5 := gr_call hb4 hb5
    go_wp2_with fail
    go_ret
    exact ⟨rfl, hb5⟩
  · have hl0 : 0 < l.length := by rw [Hn.out]; exact hn4
    have hl1 : n - 1 < l.length := by rw [Hn.out]; omega
    have hx0 : l[0] = (1, 0, p0) := by have := Hx0.out; rw [List.getElem?_eq_getElem hl0] at this; exact Option.some.inj this
    have hx1 : l[n - 1] = (6, i1, p1) := by have := Hx1.out; rw [List.getElem?_eq_getElem hl1] at this; exact Option.some.inj this
    have hln := Hn.out
    have hsz1 := hb1.size
    have hrow := hR.alloc (.cells #[.int .i64 7, .int .i64 0, .int .i64 0] 39)
    have hatA := (show At aceE (.slice (some ⟨w1.heap.size, 0, none⟩) 1 1) [(7, 0, 0)] (w1.alloc (.cells #[.int .i64 7, .int .i64 0, .int .i64 0] 39)) from (one_ace w1 (7, 0, 0) 0 (Nat.zero_le _)).at)
    have hlA : (l : List Ace).length + ([((7, 0, 0) : Ace)] : List Ace).length ≤ 1000000 := by simp; omega
    have hsA : w.heap.size ≤ (w1.alloc (.cells #[.int .i64 7, .int .i64 0, .int .i64 0] 39)).heap.size := by simp; omega
    go_wp2_with (at_builtin; refine wp_append_at aceE rfl _ _ rfl w.heap.size (.slice (some ⟨g, 0, none⟩) n cap) (.slice (some ⟨w1.heap.size, 0, none⟩) 1 1) (l) ([((7, 0, 0) : Ace)]) (w1.alloc (.cells #[.int .i64 7, .int .i64 0, .int .i64 0] 39)) rfl (by exact hrow) (by rfl) (by exact hatA) hlA hsA ?_)
    intro vN wN hRN hbN _ _
    have hBX : Below w.heap.size w wN := (gr_alloc hb1 _).trans hbN
    have hat1' := hRN.at
    clear hrow hatA hbN hRN
    have hbad : may (l ++ [((7, 0, 0) : Ace)]) = false := bad_part (a := (7, 0, 0)) (by simp) (by decide)
    have hlen : (l ++ [((7, 0, 0) : Ace)]).length ≤ 1000000 := by simp; omega
    have hatX := hat1'
    clear hat1 hfr Hx0 Hx1 Hcell
    go_wp2_with fail
    refine (hp.out _ (hA.on (gr_alloc hBX _))).mono ?_
    rintro e w2 ⟨he, hb2⟩
    obtain rfl : e = .returned (.tuple #[.slice none 0 0, .bool false]) := he
    have hat2 := (hatX.alloc _).call hb2
    have hb3 : Below w.heap.size w w2 := gr_call (gr_alloc hBX _) hb2
    have hmy := may_any _ _ w2 hat2 hlen
    rw [hbad] at hmy
    clear hb2 hatX
    go_wp2_with fail
    refine hmy.mono ?_
    rintro e w3 ⟨rfl, hb4⟩
    replace hb4 := gr_call hb3 hb4
    clear hb3 hmy
    go_wp2_with fail
    refine (haw.out _ (hA.on hb4)).mono ?_
    rintro e w4 ⟨rfl, hb5⟩
    replace hb5 := gr_call hb4 hb5
    go_wp2_with fail
    go_ret
    exact ⟨rfl, hb5⟩
  · have hl0 : 0 < l.length := by rw [Hn.out]; exact hn4
    have hl1 : n - 1 < l.length := by rw [Hn.out]; omega
    have hx0 : l[0] = (1, 0, p0) := by have := Hx0.out; rw [List.getElem?_eq_getElem hl0] at this; exact Option.some.inj this
    have hx1 : l[n - 1] = (6, i1, p1) := by have := Hx1.out; rw [List.getElem?_eq_getElem hl1] at this; exact Option.some.inj this
    have hln := Hn.out
    have f0 := hfr ((n - 1) * 3)
    have f1 := hfr ((n - 1) * 3 + 1)
    have f2 := hfr ((n - 1) * 3 + 2)
    have hBX := gr_set hb1 (p := ⟨g, (n - 1) * 3 + 2, none⟩) hgB (.int .i64 (-1))
    have hbad : may (l.set (n - 1) (6, i1, -1)) = false := bad_part (a := (6, i1, -1)) (List.mem_set hl1 _) (by simp [okPart, hasId])
    have hlen : (l.set (n - 1) (6, i1, -1)).length ≤ 1000000 := by simp; omega
    have hatX := (show At aceE (.slice (some ⟨g, 0, none⟩) n cap) (l.set (n - 1) (6, i1, -1)) (w1.setCell ⟨g, (n - 1) * 3 + 2, none⟩ (.int .i64 (-1))) by have h := at_set2 hat1 hl1 (-1); simp only [hx1] at h; exact h)
    clear hat1 hfr Hx0 Hx1 Hcell
    go_wp2_with fail
    refine (hp.out _ (hA.on (gr_alloc hBX _))).mono ?_
    rintro e w2 ⟨he, hb2⟩
    obtain rfl : e = .returned (.tuple #[.slice none 0 0, .bool false]) := he
    have hat2 := (hatX.alloc _).call hb2
    have hb3 : Below w.heap.size w w2 := gr_call (gr_alloc hBX _) hb2
    have hmy := may_any _ _ w2 hat2 hlen
    rw [hbad] at hmy
    clear hb2 hatX
    go_wp2_with fail
    refine hmy.mono ?_
    rintro e w3 ⟨rfl, hb4⟩
    replace hb4 := gr_call hb3 hb4
    clear hb3 hmy
    go_wp2_with fail
    refine (haw.out _ (hA.on hb4)).mono ?_
    rintro e w4 ⟨rfl, hb5⟩
    replace hb5 := gr_call hb4 hb5
    go_wp2_with fail
    go_ret
    exact ⟨rfl, hb5⟩
end Go.Proofs.YtdjffnhkfpjafaaDoor
