/- The law AclBack, walked. -/
import Derived.Test.YtdjffnhkfpjafaaDoorAclMake
import Derived.Test.YtdjffnhkfpjafaaDoorAclAwake
import Derived.Test.YtdjffnhkfpjafaaDoorWAclModes
import Derived.Deep.RegionHeld3
namespace Go.Proofs.YtdjffnhkfpjafaaDoor
open Go.RowKit
open AclM DecM
set_option linter.unusedVariables false

theorem textL_ne {l : List Ace} (h : may l = true) : textL l ≠ [] := by
  rcases l with _ | ⟨a, r⟩
  · exact absurd rfl (may_ne h)
  · intro e
    unfold textL at e
    cases r with
    | nil => simp [joinC, partText] at e
    | cons b r => simp [joinC, partText] at e
theorem IsRow.le {k : IntKind} {w : World} {a : Option Addr} {len cap : Nat} {zs : List Int} (h : IsRow k w a len cap zs) : len ≤ 9223372036854775807 := by
  rcases h with ⟨_, h, _⟩ | ⟨x, _, h1, h2, _⟩
  · omega
  · unfold maxLen at h2; omega
theorem same_self (l : List Ace) : sameL l l = true := decide_eq_true rfl
theorem same_other {l y : List Ace} {s : List UInt8} (hy : getL s = some y) (hs : s ≠ textL l) : sameL y l = false := by
  refine decide_eq_false ?_
  rintro rfl
  exact hs ((get_iff _ _).1 hy).2.symm
attribute [local irreducible] Row At

set_option maxHeartbeats 6400000 in
set_option maxRecDepth 100000 in
theorem aclBack_walk (a0 : Option Addr) (len0 cap0 : Nat) (z0 : List Int) (a1 : Int) (a2 : Int) (a3 : Int) (a4 : Int) (w : World) (hA : Amb w) (w0 : IsRow .u8 w a0 len0 cap0 z0) (w1 : (Lit.int .u16 a1).wf = true) (w2 : (Lit.int .u8 a2).wf = true) (w3 : (Lit.int .u8 a3).wf = true) (w4 : (Lit.int .u8 a4).wf = true) :
    Calls Tryd.prog 4 #[.slice a0 len0 cap0, .int .u16 a1, .int .u8 a2, .int .u8 a3, .int .u8 a4] w fun e w' => e = .returned (.bool true) ∧ Below w.heap.size w w' := by
  have hw1 : 0 ≤ a1 ∧ a1 ≤ 65535 := by simpa [Lit.wf, IntKind.min, IntKind.max, IntKind.signed, IntKind.bits] using w1
  have hw2 : 0 ≤ a2 ∧ a2 ≤ 255 := by simpa [Lit.wf, IntKind.min, IntKind.max, IntKind.signed, IntKind.bits] using w2
  have hw3 : 0 ≤ a3 ∧ a3 ≤ 255 := by simpa [Lit.wf, IntKind.min, IntKind.max, IntKind.signed, IntKind.bits] using w3
  have hw4 : 0 ≤ a4 ∧ a4 ≤ 255 := by simpa [Lit.wf, IntKind.min, IntKind.max, IntKind.signed, IntKind.bits] using w4
  have hmk := Lib.hid (make_any a0 len0 cap0 z0 (a1 % 512) w w0 (by omega) (by omega) w0.le)
  have hfrom := Lib.hid (fun W => from_any (a1 % 512) W (by omega) (by omega))
  have hmf := Lib.hid (fun v W (hat : At aceE v (fromL (a1 % 512)) W) => mode_any v _ W hat (by simp [fromL]) (may_parts (from_may (a1 % 512))).1)
  rw [from_mode, show a1 % 512 % 512 = a1 % 512 by omega] at hmf
  generalize fromL (a1 % 512) = lf at *
  have hnn : (a1 % 512 == a1 % 512) = true := beq_self_eq_true _
  have haw := Lib.hid awake_true
  obtain ⟨d, hd⟩ : ∃ d : UInt8, (d.toNat : Int) = a3 := ⟨UInt8.ofNat a3.toNat, by simp; omega⟩
  clear w0 w1 w2 w3 w4
  go_enter Tryd.func4, Tryd.ntmps4
  go_wp2_with fail
  refine (hmk.out).mono ?_
  rintro e w1 ⟨⟨v, l, rfl, hR, hmay, hmo⟩, hb1⟩
  have hat := hR.at
  clear hR hmk
  obtain ⟨hok, hl32, _, _⟩ := may_parts hmay
  have htx := Lib.hid (fun W (hA' : Amb W) (h : At aceE v l W) => textL_any v l W hA' h (by omega))
  rw [show textR l = textL l from if_pos hmay] at htx
  have hTlen := text_len hmay
  have hTne := textL_ne hmay
  obtain ⟨T, hT⟩ : ∃ T, strOf (textL l) = T := ⟨_, rfl⟩
  have HTl : Hid (T.data.toList = textL l) := Lib.hid (by rw [← hT, strOf_list])
  have hpT := Lib.hid (fun W hA' => Parse_any T (by rw [← hT, strOf_size]; omega) W hA')
  rw [HTl.out, get_text hmay] at hpT
  rw [hT] at htx
  obtain ⟨N, hN⟩ : ∃ N, T.size = N := ⟨_, rfl⟩
  have HTn : Hid (T.data.toList.length = N) := Lib.hid (by rw [len_list, hN])
  have hN0 : 0 < N := by rw [← HTn.out, HTl.out]; exact List.length_pos_iff.2 hTne
  have hN5 : N ≤ 544 := by rw [← HTn.out, HTl.out]; exact hTlen
  have hTe : ¬ T.toList = [] := by rw [Lib.toList_data, HTl.out]; exact hTne
  have hTe2 : T.toList.isEmpty = false := by rw [Bool.eq_false_iff]; intro e; exact hTe (List.isEmpty_iff.1 e)
  have hTe3 : (T.toList == []) = false := beq_eq_false_iff_ne.2 hTe
  have hmy := Lib.hid (fun W (h : At aceE v l W) => may_any v l W h (by omega))
  rw [hmay] at hmy
  have hmd := Lib.hid (fun W (h : At aceE v l W) => mode_any v l W h (by omega) hok)
  rw [hmo] at hmd
  have hsm := Lib.hid (fun x W (h : At aceE x l W) (h' : At aceE v l W) => same_any x v l l W h h' (by omega) (by omega))
  rw [same_self] at hsm
  have Hsm := Lib.hid (fun x y W (h : At aceE x y W) (h' : At aceE v l W) (hy : y.length ≤ 1000000) => same_any x v y l W h h' hy (by omega))
  have Hless := Lib.hid (fun k hk ht => may_less hmay (k := k) hk ht)
  have Hoth := Lib.hid (fun y s hy hs => same_other (l := l) (y := y) (s := s) hy hs)
  have hl0 : 0 < l.length := List.length_pos_iff.2 (may_ne hmay)
  clear hTe hTne hTlen hT hmo hok
  go_wp2_with fail
  refine (htx.out _ (hA.on hb1) hat).mono ?_
  rintro e w2 ⟨rfl, hb2⟩
  replace hat := hat.call hb2
  replace hb2 := gr_call hb1 hb2
  clear hb1 htx
  go_wp2_with fail
  refine (hpT.out _ (hA.on hb2)).mono ?_
  rintro e w3 ⟨⟨v2, rfl, hR2⟩, hb3⟩
  replace hat := hat.call hb3
  replace hb3 := gr_call hb2 hb3
  have hat2 := hR2.at
  clear hb2 hR2
  go_wp2_with fail
  refine (hmy.out _ hat).mono ?_
  rintro e w4 ⟨rfl, hb4⟩
  replace hat := hat.call hb4
  replace hat2 := hat2.call hb4
  replace hb4 := gr_call hb3 hb4
  clear hb3 hmy
  go_wp2_with fail
  refine (hmd.out _ hat).mono ?_
  rintro e w5 ⟨rfl, hb5⟩
  replace hat := hat.call hb5
  replace hat2 := hat2.call hb5
  replace hb5 := gr_call hb4 hb5
  clear hb4 hmd
  go_wp2_with fail
  refine (hsm.out _ _ hat2 hat).mono ?_
  rintro e w6 ⟨rfl, hb6⟩
  replace hat := hat.call hb6
  replace hb6 := gr_call hb5 hb6
  clear hb5 hat2 hsm
  -- the bytes, one of them turned
  obtain ⟨I, hI, hI2⟩ : ∃ I : Nat, a2 % (N : Int) = (I : Int) ∧ I < N := ⟨(a2 % (N : Int)).toNat, by have := Int.emod_nonneg a2 (b := (N : Int)) (by omega); omega, by have := Int.emod_nonneg a2 (b := (N : Int)) (by omega); have := Int.emod_lt_of_pos a2 (b := (N : Int)) (by omega); omega⟩
  have hNz : ((N : Int) == 0) = false := beq_eq_false_iff_ne.2 (by omega)
  have hN1 : ¬ (N : Int) = 0 := by omega
  have hIN : (I : Int) < (N : Int) := by omega
  have hcv5 : (convert 9 35 (.string T)).run Tryd.prog w6 = .ok (.slice (some ⟨w6.heap.size, 0, none⟩) N (grownCap w6 T.size 0 5)) (Lib.bytesWorld w6 5 T) := by
    have := Lib.run_convert_string_bytes (P := Tryd.prog) w6 9 35 5 T Tryd.underlying9 Tryd.underlying35 Tryd.underlying5
    rw [hN] at this ⊢
    exact this
  have hR := RowIs.of w6 5 T
  have hb7 := below_bytesWorld hb6 hb6.size 5 T
  have hb67 : Below w6.heap.size w6 (Lib.bytesWorld w6 5 T) := below_bytesWorld (Below.refl _ _) (Nat.le_refl _) 5 T
  have hsz6 := hb6.size
  obtain ⟨gb, hgb⟩ : ∃ gb, w6.heap.size = gb := ⟨_, rfl⟩
  rw [hgb] at hR hcv5 hsz6
  have hlt : I < T.data.toList.length := by rw [HTn.out]; exact hI2
  generalize Lib.bytesWorld w6 5 T = w7 at *
  have hc := hR.cell I hlt
  have hf := hR.free I hlt
  have hR7 := hR.put I d
  rw [hd] at hR7
  have hb8 : Below w.heap.size w (w7.setCell ⟨gb, I, none⟩ (.int .u8 a3)) := hb7.setCell hsz6 _
  have hat8 : At aceE v l (w7.setCell ⟨gb, I, none⟩ (.int .u8 a3)) := hat.call (hb67.setCell (by rw [hgb]; exact Nat.le_refl _) _)
  obtain ⟨U, hU⟩ : ∃ U : ByteArray, strOf (T.data.toList.set I d) = U := ⟨_, rfl⟩
  have HUl : Hid (U.data.toList = T.data.toList.set I d) := Lib.hid (by rw [← hU, strOf_list])
  have hcb := fun cap => hR7.back (P := Tryd.prog) (src := 35) (dst := 9) cap Tryd.underlying35 Tryd.underlying5 Tryd.underlying9
  rw [List.length_set, HTn.out] at hcb
  rw [show (⟨(T.data.toList.set I d).toArray⟩ : ByteArray) = U from hU] at hcb
  have hpU := Lib.hid (fun W hA' => Parse_any U (by rw [← hU, strOf_size, List.length_set, HTn.out]; omega) W hA')
  clear hR hb7 hat hb67 hU
  go_wp2_with fail
  generalize w7.setCell ⟨gb, I, none⟩ (.int .u8 a3) = w8 at *
  have hlt8 := hR7.size
  have hcb8 : ∀ W, Below w8.heap.size w8 W → ∀ cap, (convert 35 9 (.slice (some ⟨gb, 0, none⟩) N cap)).run Tryd.prog W = .ok (.string U) W := fun W hbW cap => by
    have := (hR7.kept hbW hlt8).back (P := Tryd.prog) (src := 35) (dst := 9) cap Tryd.underlying35 Tryd.underlying5 Tryd.underlying9
    rw [List.length_set, HTn.out] at this
    rw [← HUl.out] at this
    rw [show (⟨U.data.toList.toArray⟩ : ByteArray) = U from strOf_self U] at this
    exact this
  clear hR7 hcb hc hf hcv5 hlt
  refine (hpU.out _ (hA.on hb8)).mono ?_
  rintro e w9 ⟨hend, hb9⟩
  have hcb9 := hcb8 w9 hb9
  have hbw8 := hb9
  replace hat8 := hat8.call hb9
  replace hb9 := gr_call hb8 hb9
  clear hpU hb8
  obtain ⟨hg, hge⟩ : ∃ o, getL U.data.toList = o := ⟨_, rfl⟩
  rw [hge] at hend
  obtain ⟨g, off, cv, rfl, hcv, hgl, hcell⟩ := ace_open hat8 (may_ne hmay)
  obtain ⟨K, hK, hK2⟩ : ∃ K : Nat, a4 % (l.length : Int) = (K : Int) ∧ K < l.length := ⟨(a4 % (l.length : Int)).toNat, by have := Int.emod_nonneg a4 (b := (l.length : Int)) (by omega); omega, by have := Int.emod_nonneg a4 (b := (l.length : Int)) (by omega); have := Int.emod_lt_of_pos a4 (b := (l.length : Int)) (by omega); omega⟩
  have hz0 : ((l.length : Int) == 0) = false := beq_eq_false_iff_ne.2 (by omega)
  have hz1 : ¬ (l.length : Int) = 0 := by omega
  have hKz : (K : Int) < (l.length : Int) := by omega
  have hwr : IntKind.i64.wrap ((K : Int) + 1) = (K : Int) + 1 := by rw [IntKind.wrap_i64]; omega
  obtain ⟨ck, _, _⟩ := hcell K hK2
  have Hno : Hid (hasId l[K].1 = false → may (l.take K ++ l.drop (K + 1)) = false) := Lib.hid (Hless.out K hK2)
  obtain ⟨tv, htv, htat, _⟩ := slice_upto hat8 (k := K) (by omega)
  obtain ⟨sv, hsv, hsat, _⟩ := slice_from hat8 (k := K + 1) (by omega)
  rw [show ((K + 1 : Nat) : Int) = (K : Int) + 1 by omega] at hsv
  have hlA : ([] : List Ace).length + (l.take K).length ≤ 1000000 := by simp; omega
  have hlB : (l.take K).length + (l.drop (K + 1)).length ≤ 1000000 := by simp; omega
  have hll : (l.take K ++ l.drop (K + 1)).length ≤ 1000000 := by simp; omega
  have Hml := Lib.hid (fun x W (h : At aceE x (l.take K ++ l.drop (K + 1)) W) => may_any x _ W h hll)
  generalize l[K].1 = tk at *
  have hsz9 := hb9.size
  have hbW : Below w9.heap.size w9 w9.drew := gr_drew (Below.refl _ _)
  have hUe : U.toList = U.data.toList := Lib.toList_data U
  have hTe5 : T.toList = T.data.toList := Lib.toList_data T
  clear hcell Hless
  rcases hg with _ | y
  · obtain rfl : e = .returned (.tuple #[.slice none 0 0, .bool false]) := hend
    have hUT : ¬ U.toList = T.toList := by
      intro e
      rw [hUe, hTe5] at e
      rw [e, HTl.out, get_text hmay] at hge
      cases hge
    have hUT2 : (U.toList == T.toList) = false := beq_eq_false_iff_ne.2 hUT
    clear hUe hTe5 hUT hge
    go_wp2_with fail
    go_region_held3 (fun w' => Below w9.heap.size w9 w')
      (first | assumption | (show Below _ _ _; (repeat' (first | exact Below.refl _ _ | assumption | refine gr_drew ?_ | refine gr_drewN ?_ _ | refine gr_alloc ?_ _ | refine gr_set ?_ ?_ _ | refine gr_call ?_ (by assumption)) <;> (try (simp; done)) <;> (try (simp; omega)) <;> (try omega)); done) | (go_keep; done))
      (first
        | (refine step_append_at aceE rfl _ _ rfl w9.heap.size v8 sv (l.take K) (l.drop (K + 1)) ?_ ?_ ?_ (hsat _ (hat8.call ?_)) hlB ?_ ?_
           · rfl
           · repeat' (first | exact hR8 | refine Row.drew ?_ | refine Row.alloc ?_ _)
           · rfl
           · first | assumption | (repeat' (first | exact Below.refl _ _ | assumption | refine gr_drew ?_ | refine gr_drewN ?_ _ | refine gr_alloc ?_ _ | refine gr_set ?_ ?_ _ | refine gr_call ?_ (by assumption)) <;> (try (simp; done)) <;> (try (simp; omega)) <;> (try omega))
           · (try simp) <;> (try omega)
           intro v10 w10 hR10 hb10 hg10 ho10
           have hbW10 : Below w9.heap.size w9 w10 := Below.trans (by first | assumption | (repeat' (first | exact Below.refl _ _ | assumption | refine gr_drew ?_ | refine gr_drewN ?_ _ | refine gr_alloc ?_ _ | refine gr_set ?_ ?_ _ | refine gr_call ?_ (by assumption)) <;> (try (simp; done)) <;> (try (simp; omega)) <;> (try omega))) hb10)
        | (refine step_append_at aceE rfl _ _ rfl w9.heap.size (.slice (some ⟨w9.heap.size, 0, none⟩) 0 0) tv [] (l.take K) ?_ ?_ ?_ (htat _ (hat8.call ?_)) hlA ?_ ?_
           · rfl
           · repeat' (first | (refine row_new _ _ _ ?_ ?_ <;> (try simp) <;> (try omega); done) | refine Row.drew ?_ | refine Row.alloc ?_ _)
           · rfl
           · (repeat' (first | exact Below.refl _ _ | assumption | refine gr_drew ?_ | refine gr_drewN ?_ _ | refine gr_alloc ?_ _ | refine gr_set ?_ ?_ _ | refine gr_call ?_ (by assumption)) <;> (try (simp; done)) <;> (try (simp; omega)) <;> (try omega))
           · (try simp) <;> (try omega)
           intro v8 w8' hR8 hb8' hg8 ho8
           rw [List.nil_append] at hR8
           have hbW8 : Below w9.heap.size w9 w8' := Below.trans (by (repeat' (first | exact Below.refl _ _ | assumption | refine gr_drew ?_ | refine gr_drewN ?_ _ | refine gr_alloc ?_ _ | refine gr_set ?_ ?_ _ | refine gr_call ?_ (by assumption)) <;> (try (simp; done)) <;> (try (simp; omega)) <;> (try omega))) hb8'
           have hs8 := hbW8.size))
    have hatW := hat8.call hbW10
    have hatL := hR10.at
    have ckW := cell_kept hbW10 ck
    have hcbW := hcb8 w10 (gr_call hbw8 hbW10)
    have hbT := gr_call hb9 hbW10
    clear hR10 hb10 hg10 ho10 hbW10 hbW8 hR8 hb8' hg8 ho8 hs8 hcb8 htv htat hsv hsat
    by_cases ht2 : tk = 2
    · subst ht2
      go_wp2_with fail
      refine (hfrom.out _).mono ?_
      rintro e w13 ⟨⟨vf, rfl, hRf⟩, hbn⟩
      replace hbT := gr_call hbT hbn
      clear hbn
      go_wp2_with fail
      refine (hmf.out _ _ hRf.at).mono ?_
      rintro e w14 ⟨rfl, hbn⟩
      replace hbT := gr_call hbT hbn
      clear hbn
      go_wp2_with fail
      refine (haw.out _ (hA.on hbT)).mono ?_
      rintro e w15 ⟨rfl, hbn⟩
      replace hbT := gr_call hbT hbn
      clear hbn
      go_wp2_with fail
      go_ret
      exact ⟨rfl, hbT⟩
    by_cases ht4 : tk = 4
    · subst ht4
      go_wp2_with fail
      refine (hfrom.out _).mono ?_
      rintro e w13 ⟨⟨vf, rfl, hRf⟩, hbn⟩
      replace hbT := gr_call hbT hbn
      clear hbn
      go_wp2_with fail
      refine (hmf.out _ _ hRf.at).mono ?_
      rintro e w14 ⟨rfl, hbn⟩
      replace hbT := gr_call hbT hbn
      clear hbn
      go_wp2_with fail
      refine (haw.out _ (hA.on hbT)).mono ?_
      rintro e w15 ⟨rfl, hbn⟩
      replace hbT := gr_call hbT hbn
      clear hbn
      go_wp2_with fail
      go_ret
      exact ⟨rfl, hbT⟩
    have g2 : (tk == 2) = false := beq_eq_false_iff_ne.2 ht2
    have g4 : (tk == 4) = false := beq_eq_false_iff_ne.2 ht4
    have hno := Hno.out (by simp [hasId, ht2, ht4])
    rw [hno] at Hml
    go_wp2_with fail
    refine (Hml.out _ _ hatL).mono ?_
    rintro e w12 ⟨rfl, hbn⟩
    replace hbT := gr_call hbT hbn
    clear hbn
    go_wp2_with fail
    refine (hfrom.out _).mono ?_
    rintro e w13 ⟨⟨vf, rfl, hRf⟩, hbn⟩
    replace hbT := gr_call hbT hbn
    clear hbn
    go_wp2_with fail
    refine (hmf.out _ _ hRf.at).mono ?_
    rintro e w14 ⟨rfl, hbn⟩
    replace hbT := gr_call hbT hbn
    clear hbn
    go_wp2_with fail
    refine (haw.out _ (hA.on hbT)).mono ?_
    rintro e w15 ⟨rfl, hbn⟩
    replace hbT := gr_call hbT hbn
    clear hbn
    go_wp2_with fail
    go_ret
    exact ⟨rfl, hbT⟩
  · obtain ⟨vy, rfl, hRy⟩ := hend
    have hay := hRy.at
    clear hRy
    have hyl : y.length ≤ 1000000 := by have := (may_parts ((get_iff _ _).1 hge).1).2.1; omega
    by_cases hUT : U.toList = T.toList
    · have hUT2 : (U.toList == T.toList) = true := by rw [hUT]; exact beq_self_eq_true _
      clear hUe hTe5
      go_wp2_with fail
      go_region_held3 (fun w' => Below w9.heap.size w9 w')
        (first | assumption | (show Below _ _ _; (repeat' (first | exact Below.refl _ _ | assumption | refine gr_drew ?_ | refine gr_drewN ?_ _ | refine gr_alloc ?_ _ | refine gr_set ?_ ?_ _ | refine gr_call ?_ (by assumption)) <;> (try (simp; done)) <;> (try (simp; omega)) <;> (try omega)); done) | (go_keep; done))
        (first
          | (refine step_append_at aceE rfl _ _ rfl w9.heap.size v8 sv (l.take K) (l.drop (K + 1)) ?_ ?_ ?_ (hsat _ (hat8.call ?_)) hlB ?_ ?_
             · rfl
             · repeat' (first | exact hR8 | refine Row.drew ?_ | refine Row.alloc ?_ _)
             · rfl
             · first | assumption | (repeat' (first | exact Below.refl _ _ | assumption | refine gr_drew ?_ | refine gr_drewN ?_ _ | refine gr_alloc ?_ _ | refine gr_set ?_ ?_ _ | refine gr_call ?_ (by assumption)) <;> (try (simp; done)) <;> (try (simp; omega)) <;> (try omega))
             · (try simp) <;> (try omega)
             intro v10 w10 hR10 hb10 hg10 ho10
             have hbW10 : Below w9.heap.size w9 w10 := Below.trans (by first | assumption | (repeat' (first | exact Below.refl _ _ | assumption | refine gr_drew ?_ | refine gr_drewN ?_ _ | refine gr_alloc ?_ _ | refine gr_set ?_ ?_ _ | refine gr_call ?_ (by assumption)) <;> (try (simp; done)) <;> (try (simp; omega)) <;> (try omega))) hb10)
          | (refine step_append_at aceE rfl _ _ rfl w9.heap.size (.slice (some ⟨w9.heap.size, 0, none⟩) 0 0) tv [] (l.take K) ?_ ?_ ?_ (htat _ (hat8.call ?_)) hlA ?_ ?_
             · rfl
             · repeat' (first | (refine row_new _ _ _ ?_ ?_ <;> (try simp) <;> (try omega); done) | refine Row.drew ?_ | refine Row.alloc ?_ _)
             · rfl
             · (repeat' (first | exact Below.refl _ _ | assumption | refine gr_drew ?_ | refine gr_drewN ?_ _ | refine gr_alloc ?_ _ | refine gr_set ?_ ?_ _ | refine gr_call ?_ (by assumption)) <;> (try (simp; done)) <;> (try (simp; omega)) <;> (try omega))
             · (try simp) <;> (try omega)
             intro v8 w8' hR8 hb8' hg8 ho8
             rw [List.nil_append] at hR8
             have hbW8 : Below w9.heap.size w9 w8' := Below.trans (by (repeat' (first | exact Below.refl _ _ | assumption | refine gr_drew ?_ | refine gr_drewN ?_ _ | refine gr_alloc ?_ _ | refine gr_set ?_ ?_ _ | refine gr_call ?_ (by assumption)) <;> (try (simp; done)) <;> (try (simp; omega)) <;> (try omega))) hb8'
             have hs8 := hbW8.size))
      have hatW := hat8.call hbW10
      have hatL := hR10.at
      have ckW := cell_kept hbW10 ck
      have hcbW := hcb8 w10 (gr_call hbw8 hbW10)
      have hbT := gr_call hb9 hbW10
      have hayW := hay.call hbW10
      clear hR10 hb10 hg10 ho10 hbW10 hbW8 hR8 hb8' hg8 ho8 hs8 hcb8 htv htat hsv hsat
      by_cases ht2 : tk = 2
      · subst ht2
        go_wp2_with fail
        refine (hfrom.out _).mono ?_
        rintro e w13 ⟨⟨vf, rfl, hRf⟩, hbn⟩
        replace hbT := gr_call hbT hbn
        clear hbn
        go_wp2_with fail
        refine (hmf.out _ _ hRf.at).mono ?_
        rintro e w14 ⟨rfl, hbn⟩
        replace hbT := gr_call hbT hbn
        clear hbn
        go_wp2_with fail
        refine (haw.out _ (hA.on hbT)).mono ?_
        rintro e w15 ⟨rfl, hbn⟩
        replace hbT := gr_call hbT hbn
        clear hbn
        go_wp2_with fail
        go_ret
        exact ⟨rfl, hbT⟩
      by_cases ht4 : tk = 4
      · subst ht4
        go_wp2_with fail
        refine (hfrom.out _).mono ?_
        rintro e w13 ⟨⟨vf, rfl, hRf⟩, hbn⟩
        replace hbT := gr_call hbT hbn
        clear hbn
        go_wp2_with fail
        refine (hmf.out _ _ hRf.at).mono ?_
        rintro e w14 ⟨rfl, hbn⟩
        replace hbT := gr_call hbT hbn
        clear hbn
        go_wp2_with fail
        refine (haw.out _ (hA.on hbT)).mono ?_
        rintro e w15 ⟨rfl, hbn⟩
        replace hbT := gr_call hbT hbn
        clear hbn
        go_wp2_with fail
        go_ret
        exact ⟨rfl, hbT⟩
      have g2 : (tk == 2) = false := beq_eq_false_iff_ne.2 ht2
      have g4 : (tk == 4) = false := beq_eq_false_iff_ne.2 ht4
      have hno := Hno.out (by simp [hasId, ht2, ht4])
      rw [hno] at Hml
      go_wp2_with fail
      refine (Hml.out _ _ hatL).mono ?_
      rintro e w12 ⟨rfl, hbn⟩
      replace hbT := gr_call hbT hbn
      clear hbn
      go_wp2_with fail
      refine (hfrom.out _).mono ?_
      rintro e w13 ⟨⟨vf, rfl, hRf⟩, hbn⟩
      replace hbT := gr_call hbT hbn
      clear hbn
      go_wp2_with fail
      refine (hmf.out _ _ hRf.at).mono ?_
      rintro e w14 ⟨rfl, hbn⟩
      replace hbT := gr_call hbT hbn
      clear hbn
      go_wp2_with fail
      refine (haw.out _ (hA.on hbT)).mono ?_
      rintro e w15 ⟨rfl, hbn⟩
      replace hbT := gr_call hbT hbn
      clear hbn
      go_wp2_with fail
      go_ret
      exact ⟨rfl, hbT⟩
    · have hUT2 : (U.toList == T.toList) = false := beq_eq_false_iff_ne.2 hUT
      have hsy := Lib.hid (fun W (h : At aceE vy y W) (h' : At aceE (.slice (some ⟨g, off, none⟩) l.length cv) l W) => Hsm.out vy y W h h' hyl)
      rw [Hoth.out y _ hge (by rw [← HTl.out, ← hUe, ← hTe5]; exact hUT)] at hsy
      clear hUe hTe5 hUT
      go_wp2_with fail
      go_region_held3 (fun w' => Below w9.heap.size w9 w')
        (first | assumption | (show Below _ _ _; (repeat' (first | exact Below.refl _ _ | assumption | refine gr_drew ?_ | refine gr_drewN ?_ _ | refine gr_alloc ?_ _ | refine gr_set ?_ ?_ _ | refine gr_call ?_ (by assumption)) <;> (try (simp; done)) <;> (try (simp; omega)) <;> (try omega)); done) | (go_keep; done))
        (first
          | (refine step_append_at aceE rfl _ _ rfl w9.heap.size v8 sv (l.take K) (l.drop (K + 1)) ?_ ?_ ?_ (hsat _ (hat8.call ?_)) hlB ?_ ?_
             · rfl
             · repeat' (first | exact hR8 | refine Row.drew ?_ | refine Row.alloc ?_ _)
             · rfl
             · first | assumption | (repeat' (first | exact Below.refl _ _ | assumption | refine gr_drew ?_ | refine gr_drewN ?_ _ | refine gr_alloc ?_ _ | refine gr_set ?_ ?_ _ | refine gr_call ?_ (by assumption)) <;> (try (simp; done)) <;> (try (simp; omega)) <;> (try omega))
             · (try simp) <;> (try omega)
             intro v10 w10 hR10 hb10 hg10 ho10
             have hbW10 : Below w9.heap.size w9 w10 := Below.trans (by first | assumption | (repeat' (first | exact Below.refl _ _ | assumption | refine gr_drew ?_ | refine gr_drewN ?_ _ | refine gr_alloc ?_ _ | refine gr_set ?_ ?_ _ | refine gr_call ?_ (by assumption)) <;> (try (simp; done)) <;> (try (simp; omega)) <;> (try omega))) hb10)
          | (refine step_append_at aceE rfl _ _ rfl w9.heap.size (.slice (some ⟨w9.heap.size, 0, none⟩) 0 0) tv [] (l.take K) ?_ ?_ ?_ (htat _ (hat8.call ?_)) hlA ?_ ?_
             · rfl
             · repeat' (first | (refine row_new _ _ _ ?_ ?_ <;> (try simp) <;> (try omega); done) | refine Row.drew ?_ | refine Row.alloc ?_ _)
             · rfl
             · (repeat' (first | exact Below.refl _ _ | assumption | refine gr_drew ?_ | refine gr_drewN ?_ _ | refine gr_alloc ?_ _ | refine gr_set ?_ ?_ _ | refine gr_call ?_ (by assumption)) <;> (try (simp; done)) <;> (try (simp; omega)) <;> (try omega))
             · (try simp) <;> (try omega)
             intro v8 w8' hR8 hb8' hg8 ho8
             rw [List.nil_append] at hR8
             have hbW8 : Below w9.heap.size w9 w8' := Below.trans (by (repeat' (first | exact Below.refl _ _ | assumption | refine gr_drew ?_ | refine gr_drewN ?_ _ | refine gr_alloc ?_ _ | refine gr_set ?_ ?_ _ | refine gr_call ?_ (by assumption)) <;> (try (simp; done)) <;> (try (simp; omega)) <;> (try omega))) hb8'
             have hs8 := hbW8.size))
      have hatW := hat8.call hbW10
      have hatL := hR10.at
      have ckW := cell_kept hbW10 ck
      have hcbW := hcb8 w10 (gr_call hbw8 hbW10)
      have hbT := gr_call hb9 hbW10
      have hayW := hay.call hbW10
      clear hR10 hb10 hg10 ho10 hbW10 hbW8 hR8 hb8' hg8 ho8 hs8 hcb8 htv htat hsv hsat
      by_cases ht2 : tk = 2
      · subst ht2
        go_wp2_with fail
        refine (hsy.out _ hayW hatW).mono ?_
        rintro e w11 ⟨rfl, hbn⟩
        replace hatL := hatL.call hbn
        replace hbT := gr_call hbT hbn
        clear hbn
        go_wp2_with fail
        refine (hfrom.out _).mono ?_
        rintro e w13 ⟨⟨vf, rfl, hRf⟩, hbn⟩
        replace hbT := gr_call hbT hbn
        clear hbn
        go_wp2_with fail
        refine (hmf.out _ _ hRf.at).mono ?_
        rintro e w14 ⟨rfl, hbn⟩
        replace hbT := gr_call hbT hbn
        clear hbn
        go_wp2_with fail
        refine (haw.out _ (hA.on hbT)).mono ?_
        rintro e w15 ⟨rfl, hbn⟩
        replace hbT := gr_call hbT hbn
        clear hbn
        go_wp2_with fail
        go_ret
        exact ⟨rfl, hbT⟩
      by_cases ht4 : tk = 4
      · subst ht4
        go_wp2_with fail
        refine (hsy.out _ hayW hatW).mono ?_
        rintro e w11 ⟨rfl, hbn⟩
        replace hatL := hatL.call hbn
        replace hbT := gr_call hbT hbn
        clear hbn
        go_wp2_with fail
        refine (hfrom.out _).mono ?_
        rintro e w13 ⟨⟨vf, rfl, hRf⟩, hbn⟩
        replace hbT := gr_call hbT hbn
        clear hbn
        go_wp2_with fail
        refine (hmf.out _ _ hRf.at).mono ?_
        rintro e w14 ⟨rfl, hbn⟩
        replace hbT := gr_call hbT hbn
        clear hbn
        go_wp2_with fail
        refine (haw.out _ (hA.on hbT)).mono ?_
        rintro e w15 ⟨rfl, hbn⟩
        replace hbT := gr_call hbT hbn
        clear hbn
        go_wp2_with fail
        go_ret
        exact ⟨rfl, hbT⟩
      have g2 : (tk == 2) = false := beq_eq_false_iff_ne.2 ht2
      have g4 : (tk == 4) = false := beq_eq_false_iff_ne.2 ht4
      have hno := Hno.out (by simp [hasId, ht2, ht4])
      rw [hno] at Hml
      go_wp2_with fail
      refine (hsy.out _ hayW hatW).mono ?_
      rintro e w11 ⟨rfl, hbn⟩
      replace hatL := hatL.call hbn
      replace hbT := gr_call hbT hbn
      clear hbn
      go_wp2_with fail
      refine (Hml.out _ _ hatL).mono ?_
      rintro e w12 ⟨rfl, hbn⟩
      replace hbT := gr_call hbT hbn
      clear hbn
      go_wp2_with fail
      refine (hfrom.out _).mono ?_
      rintro e w13 ⟨⟨vf, rfl, hRf⟩, hbn⟩
      replace hbT := gr_call hbT hbn
      clear hbn
      go_wp2_with fail
      refine (hmf.out _ _ hRf.at).mono ?_
      rintro e w14 ⟨rfl, hbn⟩
      replace hbT := gr_call hbT hbn
      clear hbn
      go_wp2_with fail
      refine (haw.out _ (hA.on hbT)).mono ?_
      rintro e w15 ⟨rfl, hbn⟩
      replace hbT := gr_call hbT hbn
      clear hbn
      go_wp2_with fail
      go_ret
      exact ⟨rfl, hbT⟩
end Go.Proofs.YtdjffnhkfpjafaaDoor
