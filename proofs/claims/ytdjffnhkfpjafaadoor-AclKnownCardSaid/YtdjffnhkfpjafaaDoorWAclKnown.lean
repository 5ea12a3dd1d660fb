/- The law AclKnown, walked. -/
import Derived.Test.YtdjffnhkfpjafaaDoorAclLists
import Derived.Test.YtdjffnhkfpjafaaDoorLater
namespace Go.Proofs.YtdjffnhkfpjafaaDoor
open Go.RowKit
open AclM DecM
set_option linter.unusedVariables false

set_option maxHeartbeats 6400000 in
set_option maxRecDepth 100000 in
theorem aclKnown_walk (a0 : Int) (w : World) (hA : Amb w) (w0 : (Lit.int .u8 a0).wf = true) :
    Calls Tryd.prog 6 #[.int .u8 a0] w fun e w' => e = .returned (.bool true) ∧ Below w.heap.size w w' := by
  have hw0 : 0 ≤ a0 ∧ a0 ≤ 255 := by simpa [Lit.wf, IntKind.min, IntKind.max, IntKind.signed, IntKind.bits] using w0
  clear w0
  have haw := Lib.hid awake_true
  obtain ⟨T0, hT0⟩ : ∃ T : ByteArray, (⟨#[117, 58, 58, 114, 119, 120, 44, 103, 58, 58, 114, 45, 120, 44, 111, 58, 58, 114, 45, 45]⟩ : ByteArray) = T := ⟨_, rfl⟩
  have hs0 : T0 = strOf knownT0 := hT0.symm
  obtain ⟨T1, hT1⟩ : ∃ T : ByteArray, (⟨#[117, 58, 58, 114, 119, 45, 44, 117, 58, 53, 58, 114, 119, 120, 44, 103, 58, 58, 114, 45, 45, 44, 109, 58, 58, 114, 45, 45, 44, 111, 58, 58, 45, 45, 45]⟩ : ByteArray) = T := ⟨_, rfl⟩
  have hs1 : T1 = strOf knownT1 := hT1.symm
  obtain ⟨T2, hT2⟩ : ∃ T : ByteArray, (⟨#[117, 58, 58, 114, 45, 45, 44, 103, 58, 58, 114, 119, 120, 44, 103, 58, 48, 58, 45, 119, 45, 44, 109, 58, 58, 45, 119, 120, 44, 111, 58, 58, 45, 45, 120]⟩ : ByteArray) = T := ⟨_, rfl⟩
  have hs2 : T2 = strOf knownT2 := hT2.symm
  obtain ⟨T3, hT3⟩ : ∃ T : ByteArray, (⟨#[117, 58, 58, 45, 45, 45, 44, 117, 58, 48, 58, 45, 45, 45, 44, 117, 58, 50, 49, 52, 55, 52, 56, 51, 54, 52, 55, 58, 114, 45, 45, 44, 103, 58, 58, 45, 45, 45, 44, 103, 58, 57, 58, 45, 45, 120, 44, 109, 58, 58, 45, 45, 45, 44, 111, 58, 58, 114, 119, 120]⟩ : ByteArray) = T := ⟨_, rfl⟩
  have hs3 : T3 = strOf knownT3 := hT3.symm
  have hk : a0 % 4 = 0 ∨ a0 % 4 = 1 ∨ a0 % 4 = 2 ∨ a0 % 4 = 3 := by omega
  rcases hk with hk | hk | hk | hk
  · obtain ⟨hg, hm, ht, ho⟩ := known0
    have hparse := Lib.hid (fun w' (hA' : Amb w') => Parse_any T0 (by rw [hs0]; decide) w' hA')
    have hmode := Lib.hid (fun v w' (hat : At aceE v knownL0 w') => mode_any v knownL0 w' hat (by decide) (may_parts hm).1)
    have hmay := Lib.hid (fun v w' (hat : At aceE v knownL0 w') => may_any v knownL0 w' hat (by decide))
    have htext := Lib.hid (fun v w' (hA' : Amb w') (hat : At aceE v knownL0 w') => textL_any v knownL0 w' hA' hat (by decide))
    rw [ho] at hmode
    rw [hm] at hmay
    rw [ht, ← hs0] at htext
    rw [show T0.data.toList = knownT0 by rw [hs0, strOf_list], hg] at hparse
    generalize knownL0 = A at *
    clear hg hm ht ho hs0 hs1 hs2 hs3
    have hx1 : Below w.heap.size w ((w.alloc (.cells #[.string T0, .string T1, .string T2, .string T3] 9)).alloc (.cells #[.int .i64 492, .int .i64 416, .int .i64 281, .int .i64 7] 3)) := by (repeat' (first | exact Below.refl _ _ | assumption | refine gr_drew ?_ | refine gr_drewN ?_ _ | refine gr_alloc ?_ _ | refine gr_set ?_ ?_ _ | refine gr_call ?_ (by assumption)) <;> (try (simp; done)) <;> (try (simp; omega)) <;> (try omega))
    go_enter Tryd.func6, Tryd.ntmps6
    simp only [hT0, hT1, hT2, hT3]
    clear hT0 hT1 hT2 hT3
    go_wp2_with fail
    refine (hparse.out _ (hA.on hx1)).mono ?_
    rintro e w1 ⟨⟨sv, rfl, hR⟩, hb1⟩
    have hat := hR.at
    have hl : BlkIs w1 w.heap.size 9 #[.string T0, .string T1, .string T2, .string T3] := (BlkIs.alloc (BlkIs.made w _ _) _).kept hb1 (by simp; omega)
    have hm : BlkIs w1 (w.heap.size + 1) 3 #[.int .i64 492, .int .i64 416, .int .i64 281, .int .i64 7] := (BlkIs.made_at (w.alloc (.cells #[.string T0, .string T1, .string T2, .string T3] 9)) _ _ _ (w.heap.size + 1) (by simp) rfl).kept hb1 (by simp)
    replace hb1 := gr_call hx1 hb1
    clear hR hx1 hparse
    obtain ⟨gl, hgl⟩ : ∃ g, w.heap.size = g := ⟨_, rfl⟩
    obtain ⟨gm, hgm⟩ : ∃ g, gl + 1 = g := ⟨_, rfl⟩
    go_wp2_with fail
    rw [hgl] at hl hm
    rw [hgm] at hm
    try rw [hgl]
    try rw [hgm]
    clear hgl hgm
    refine region_lastqgL (S := fun W => Below w.heap.size w W ∧ At aceE sv A W ∧ BlkIs W gl 9 #[.string T0, .string T1, .string T2, .string T3] ∧ BlkIs W gm 3 #[.int .i64 492, .int .i64 416, .int .i64 281, .int .i64 7]) 26
      [(fun W v => v = .bool true),
     (fun W v => v = .bool true),
     (fun W v => v = sv),
     (fun W v => v = .int .i64 492),
     (fun W v => v = .slice (some ⟨gm, 0, none⟩) 4 4),
     (fun W v => v = .int .i64 0),
     (fun W v => v = .pointer (some ⟨gm, 0, none⟩)),
     (fun W v => v = .int .i64 492),
     (fun W v => v = .bool true),
     (fun W v => v = .bool true),
     (fun W v => v = .bool true),
     (fun W v => v = sv),
     (fun W v => v = .string T0),
     (fun W v => v = .slice (some ⟨gl, 0, none⟩) 4 4),
     (fun W v => v = .int .i64 0),
     (fun W v => v = .pointer (some ⟨gl, 0, none⟩)),
     (fun W v => v = .string T0),
     (fun W v => v = .bool true),
     (fun W v => v = .bool true),
     (fun W v => v = .bool true),
     (fun W v => v = sv),
     (fun W v => v = .bool true),
     (fun W v => v = .bool true),
     (fun W v => v = .bool true),
     (fun W v => v = .bool true),
     (fun W v => v = .bool true)] (by rfl) (by kernel_rfl) (by kernel_rfl) (by kernel_rfl) (by kernel_rfl) (by rfl) (by kernel_rfl) ?hS ?hp ?hs ?he
    case hS => exact ⟨gr_drew hb1, hat.drew, hl, hm⟩
    case hp => repeat' (first | exact trivial | refine ⟨fun _ _ _ _ h => h, ?_⟩)
    case hs =>
      simp only [List.take_succ_cons, List.take_zero]
      clear hb1 hat hl hm
      refine ⟨?_, ?_, ?_, ?_, ?_, ?_, ?_, ?_, ?_, ?_, ?_, ?_, ?_, ?_, ?_, ?_, ?_, ?_, ?_, ?_, ?_, ?_, ?_, ?_, ?_, ?_, trivial⟩
      · refine ⟨met_none rfl, ?_⟩
        intro a W K hS hd hf hK
        have e7 : a.tmps.getD 7 undef = .bool true := hf 7 (by kernel_rfl)
        clear hd hf
        go_simp
        exact hK _ _ (Below.refl _ _) hS rfl
      · refine ⟨met_none rfl, ?_⟩
        intro a W K hS hd hf hK
        have e23 : a.tmps.getD 23 undef = .bool true := hd ⟨0, .data⟩ (by simp) rfl
        clear hd hf
        go_simp
        exact hK _ _ (Below.refl _ _) hS rfl
      · refine ⟨met_some 1 true rfl (fun w v h => h), ?_⟩
        intro a W K hS hd hf hK
        have e6 : a.tmps.getD 6 undef = sv := hf 6 (by kernel_rfl)
        clear hd hf
        go_simp
        exact hK _ _ (Below.refl _ _) hS rfl
      · refine ⟨met_some 1 true rfl (fun w v h => h), ?_⟩
        intro a W K hS hd hf hK
        have e25 : a.tmps.getD 25 undef = sv := hd ⟨2, .data⟩ (by simp) rfl
        clear hd hf
        go_simp
        go_at_call 19
        refine (hmode.out _ _ hS.2.1).mono ?_
        rintro e w1 ⟨rfl, hb⟩
        exact hK _ _ hb (⟨gr_call hS.1 hb, hS.2.1.call hb, hS.2.2.1.kept hb hS.2.2.1.size, hS.2.2.2.kept hb hS.2.2.2.size⟩) rfl
      · refine ⟨met_some 1 true rfl (fun w v h => h), ?_⟩
        intro a W K hS hd hf hK
        have e4 : a.tmps.getD 4 undef = .slice (some ⟨gm, 0, none⟩) 4 4 := hf 4 (by kernel_rfl)
        clear hd hf
        go_simp
        exact hK _ _ (Below.refl _ _) hS rfl
      · refine ⟨met_some 1 true rfl (fun w v h => h), ?_⟩
        intro a W K hS hd hf hK
        have e5 : a.tmps.getD 5 undef = .int .i64 0 := hf 5 (by kernel_rfl)
        clear hd hf
        go_simp
        exact hK _ _ (Below.refl _ _) hS rfl
      · refine ⟨met_some 1 true rfl (fun w v h => h), ?_⟩
        intro a W K hS hd hf hK
        have e27 : a.tmps.getD 27 undef = .slice (some ⟨gm, 0, none⟩) 4 4 := hd ⟨4, .data⟩ (by simp) rfl
        have e28 : a.tmps.getD 28 undef = .int .i64 0 := hd ⟨5, .data⟩ (by simp) rfl
        clear hd hf
        go_simp
        exact hK _ _ (Below.refl _ _) hS rfl
      · refine ⟨met_some 1 true rfl (fun w v h => h), ?_⟩
        intro a W K hS hd hf hK
        have e29 : a.tmps.getD 29 undef = .pointer (some ⟨gm, 0, none⟩) := hd ⟨6, .data⟩ (by simp) rfl
        have c0 := hS.2.2.2.cell_some 0 _ rfl
        clear hd hf
        go_simp
        exact hK _ _ (Below.refl _ _) hS rfl
      · refine ⟨met_some 1 true rfl (fun w v h => h), ?_⟩
        intro a W K hS hd hf hK
        have e26 : a.tmps.getD 26 undef = .int .i64 492 := hd ⟨3, .data⟩ (by simp) rfl
        have e30 : a.tmps.getD 30 undef = .int .i64 492 := hd ⟨7, .data⟩ (by simp) rfl
        clear hd hf
        go_simp
        exact hK _ _ (Below.refl _ _) hS rfl
      · refine ⟨met_none rfl, ?_⟩
        intro a W K hS hd hf hK
        have e24 : a.tmps.getD 24 undef = .bool true := hd ⟨1, .data⟩ (by simp) rfl
        have e31 : a.tmps.getD 31 undef = .bool true := hd ⟨8, .data⟩ (by simp) rfl
        clear hd hf
        go_simp
        exact hK _ _ (Below.refl _ _) hS rfl
      · refine ⟨met_none rfl, ?_⟩
        intro a W K hS hd hf hK
        have e32 : a.tmps.getD 32 undef = .bool true := hd ⟨9, .data⟩ (by simp) rfl
        clear hd hf
        go_simp
        exact hK _ _ (Below.refl _ _) hS rfl
      · refine ⟨met_some 10 true rfl (fun w v h => h), ?_⟩
        intro a W K hS hd hf hK
        have e6 : a.tmps.getD 6 undef = sv := hf 6 (by kernel_rfl)
        clear hd hf
        go_simp
        exact hK _ _ (Below.refl _ _) hS rfl
      · refine ⟨met_some 10 true rfl (fun w v h => h), ?_⟩
        intro a W K hS hd hf hK
        have e34 : a.tmps.getD 34 undef = sv := hd ⟨11, .data⟩ (by simp) rfl
        clear hd hf
        go_simp
        go_at_call 17
        refine (htext.out _ _ (hA.on hS.1) hS.2.1).mono ?_
        rintro e w1 ⟨rfl, hb⟩
        exact hK _ _ hb (⟨gr_call hS.1 hb, hS.2.1.call hb, hS.2.2.1.kept hb hS.2.2.1.size, hS.2.2.2.kept hb hS.2.2.2.size⟩) rfl
      · refine ⟨met_some 10 true rfl (fun w v h => h), ?_⟩
        intro a W K hS hd hf hK
        have e3 : a.tmps.getD 3 undef = .slice (some ⟨gl, 0, none⟩) 4 4 := hf 3 (by kernel_rfl)
        clear hd hf
        go_simp
        exact hK _ _ (Below.refl _ _) hS rfl
      · refine ⟨met_some 10 true rfl (fun w v h => h), ?_⟩
        intro a W K hS hd hf hK
        have e5 : a.tmps.getD 5 undef = .int .i64 0 := hf 5 (by kernel_rfl)
        clear hd hf
        go_simp
        exact hK _ _ (Below.refl _ _) hS rfl
      · refine ⟨met_some 10 true rfl (fun w v h => h), ?_⟩
        intro a W K hS hd hf hK
        have e36 : a.tmps.getD 36 undef = .slice (some ⟨gl, 0, none⟩) 4 4 := hd ⟨13, .data⟩ (by simp) rfl
        have e37 : a.tmps.getD 37 undef = .int .i64 0 := hd ⟨14, .data⟩ (by simp) rfl
        clear hd hf
        go_simp
        exact hK _ _ (Below.refl _ _) hS rfl
      · refine ⟨met_some 10 true rfl (fun w v h => h), ?_⟩
        intro a W K hS hd hf hK
        have e38 : a.tmps.getD 38 undef = .pointer (some ⟨gl, 0, none⟩) := hd ⟨15, .data⟩ (by simp) rfl
        have c0 := hS.2.2.1.cell_some 0 _ rfl
        clear hd hf
        go_simp
        exact hK _ _ (Below.refl _ _) hS rfl
      · refine ⟨met_some 10 true rfl (fun w v h => h), ?_⟩
        intro a W K hS hd hf hK
        have e35 : a.tmps.getD 35 undef = .string T0 := hd ⟨12, .data⟩ (by simp) rfl
        have e39 : a.tmps.getD 39 undef = .string T0 := hd ⟨16, .data⟩ (by simp) rfl
        clear hd hf
        go_simp
        exact hK _ _ (Below.refl _ _) hS rfl
      · refine ⟨met_none rfl, ?_⟩
        intro a W K hS hd hf hK
        have e33 : a.tmps.getD 33 undef = .bool true := hd ⟨10, .data⟩ (by simp) rfl
        have e40 : a.tmps.getD 40 undef = .bool true := hd ⟨17, .data⟩ (by simp) rfl
        clear hd hf
        go_simp
        exact hK _ _ (Below.refl _ _) hS rfl
      · refine ⟨met_none rfl, ?_⟩
        intro a W K hS hd hf hK
        have e41 : a.tmps.getD 41 undef = .bool true := hd ⟨18, .data⟩ (by simp) rfl
        clear hd hf
        go_simp
        exact hK _ _ (Below.refl _ _) hS rfl
      · refine ⟨met_some 19 true rfl (fun w v h => h), ?_⟩
        intro a W K hS hd hf hK
        have e6 : a.tmps.getD 6 undef = sv := hf 6 (by kernel_rfl)
        clear hd hf
        go_simp
        exact hK _ _ (Below.refl _ _) hS rfl
      · refine ⟨met_some 19 true rfl (fun w v h => h), ?_⟩
        intro a W K hS hd hf hK
        have e43 : a.tmps.getD 43 undef = sv := hd ⟨20, .data⟩ (by simp) rfl
        clear hd hf
        go_simp
        go_at_call 11
        refine (hmay.out _ _ hS.2.1).mono ?_
        rintro e w1 ⟨rfl, hb⟩
        exact hK _ _ hb (⟨gr_call hS.1 hb, hS.2.1.call hb, hS.2.2.1.kept hb hS.2.2.1.size, hS.2.2.2.kept hb hS.2.2.2.size⟩) rfl
      · refine ⟨met_none rfl, ?_⟩
        intro a W K hS hd hf hK
        have e42 : a.tmps.getD 42 undef = .bool true := hd ⟨19, .data⟩ (by simp) rfl
        have e44 : a.tmps.getD 44 undef = .bool true := hd ⟨21, .data⟩ (by simp) rfl
        clear hd hf
        go_simp
        exact hK _ _ (Below.refl _ _) hS rfl
      · refine ⟨met_none rfl, ?_⟩
        intro a W K hS hd hf hK
        have e45 : a.tmps.getD 45 undef = .bool true := hd ⟨22, .data⟩ (by simp) rfl
        clear hd hf
        go_simp
        exact hK _ _ (Below.refl _ _) hS rfl
      · refine ⟨met_some 23 true rfl (fun w v h => h), ?_⟩
        intro a W K hS hd hf hK
        clear hd hf
        go_simp
        go_at_call 8
        refine (haw.out _ (hA.on hS.1)).mono ?_
        rintro e w1 ⟨rfl, hb⟩
        exact hK _ _ hb (⟨gr_call hS.1 hb, hS.2.1.call hb, hS.2.2.1.kept hb hS.2.2.1.size, hS.2.2.2.kept hb hS.2.2.2.size⟩) rfl
      · refine ⟨met_none rfl, ?_⟩
        intro a W K hS hd hf hK
        have e46 : a.tmps.getD 46 undef = .bool true := hd ⟨23, .data⟩ (by simp) rfl
        have e47 : a.tmps.getD 47 undef = .bool true := hd ⟨24, .data⟩ (by simp) rfl
        clear hd hf
        go_simp
        exact hK _ _ (Below.refl _ _) hS rfl
    case he =>
      intro vals w6 K hS6 hV hK
      have e60 := hV 25 (by omega)
      clear hV
      simp only [List.getD_cons_succ, List.getD_cons_zero] at e60
      have hB6 := hS6.1
      clear hS6 hb1 hat hl hm
      refine Later.mk ?_
      simp only [List.append_eq, List.cons_append, List.nil_append, setN, Nat.reduceAdd, List.setIfInBounds_toArray, List.set_cons_succ, List.set_cons_zero]
      rw [e60]
      go_simp
      refine hK _ _ ?_
      clear hK
      go_wp2_with fail
      go_ret
      exact ⟨rfl, hB6⟩
  · obtain ⟨hg, hm, ht, ho⟩ := known1
    have hparse := Lib.hid (fun w' (hA' : Amb w') => Parse_any T1 (by rw [hs1]; decide) w' hA')
    have hmode := Lib.hid (fun v w' (hat : At aceE v knownL1 w') => mode_any v knownL1 w' hat (by decide) (may_parts hm).1)
    have hmay := Lib.hid (fun v w' (hat : At aceE v knownL1 w') => may_any v knownL1 w' hat (by decide))
    have htext := Lib.hid (fun v w' (hA' : Amb w') (hat : At aceE v knownL1 w') => textL_any v knownL1 w' hA' hat (by decide))
    rw [ho] at hmode
    rw [hm] at hmay
    rw [ht, ← hs1] at htext
    rw [show T1.data.toList = knownT1 by rw [hs1, strOf_list], hg] at hparse
    generalize knownL1 = A at *
    clear hg hm ht ho hs0 hs1 hs2 hs3
    have hx1 : Below w.heap.size w ((w.alloc (.cells #[.string T0, .string T1, .string T2, .string T3] 9)).alloc (.cells #[.int .i64 492, .int .i64 416, .int .i64 281, .int .i64 7] 3)) := by (repeat' (first | exact Below.refl _ _ | assumption | refine gr_drew ?_ | refine gr_drewN ?_ _ | refine gr_alloc ?_ _ | refine gr_set ?_ ?_ _ | refine gr_call ?_ (by assumption)) <;> (try (simp; done)) <;> (try (simp; omega)) <;> (try omega))
    go_enter Tryd.func6, Tryd.ntmps6
    simp only [hT0, hT1, hT2, hT3]
    clear hT0 hT1 hT2 hT3
    go_wp2_with fail
    refine (hparse.out _ (hA.on hx1)).mono ?_
    rintro e w1 ⟨⟨sv, rfl, hR⟩, hb1⟩
    have hat := hR.at
    have hl : BlkIs w1 w.heap.size 9 #[.string T0, .string T1, .string T2, .string T3] := (BlkIs.alloc (BlkIs.made w _ _) _).kept hb1 (by simp; omega)
    have hm : BlkIs w1 (w.heap.size + 1) 3 #[.int .i64 492, .int .i64 416, .int .i64 281, .int .i64 7] := (BlkIs.made_at (w.alloc (.cells #[.string T0, .string T1, .string T2, .string T3] 9)) _ _ _ (w.heap.size + 1) (by simp) rfl).kept hb1 (by simp)
    replace hb1 := gr_call hx1 hb1
    clear hR hx1 hparse
    obtain ⟨gl, hgl⟩ : ∃ g, w.heap.size = g := ⟨_, rfl⟩
    obtain ⟨gm, hgm⟩ : ∃ g, gl + 1 = g := ⟨_, rfl⟩
    go_wp2_with fail
    rw [hgl] at hl hm
    rw [hgm] at hm
    try rw [hgl]
    try rw [hgm]
    clear hgl hgm
    refine region_lastqgL (S := fun W => Below w.heap.size w W ∧ At aceE sv A W ∧ BlkIs W gl 9 #[.string T0, .string T1, .string T2, .string T3] ∧ BlkIs W gm 3 #[.int .i64 492, .int .i64 416, .int .i64 281, .int .i64 7]) 26
      [(fun W v => v = .bool true),
     (fun W v => v = .bool true),
     (fun W v => v = sv),
     (fun W v => v = .int .i64 416),
     (fun W v => v = .slice (some ⟨gm, 0, none⟩) 4 4),
     (fun W v => v = .int .i64 1),
     (fun W v => v = .pointer (some ⟨gm, 1, none⟩)),
     (fun W v => v = .int .i64 416),
     (fun W v => v = .bool true),
     (fun W v => v = .bool true),
     (fun W v => v = .bool true),
     (fun W v => v = sv),
     (fun W v => v = .string T1),
     (fun W v => v = .slice (some ⟨gl, 0, none⟩) 4 4),
     (fun W v => v = .int .i64 1),
     (fun W v => v = .pointer (some ⟨gl, 1, none⟩)),
     (fun W v => v = .string T1),
     (fun W v => v = .bool true),
     (fun W v => v = .bool true),
     (fun W v => v = .bool true),
     (fun W v => v = sv),
     (fun W v => v = .bool true),
     (fun W v => v = .bool true),
     (fun W v => v = .bool true),
     (fun W v => v = .bool true),
     (fun W v => v = .bool true)] (by rfl) (by kernel_rfl) (by kernel_rfl) (by kernel_rfl) (by kernel_rfl) (by rfl) (by kernel_rfl) ?hS ?hp ?hs ?he
    case hS => exact ⟨gr_drew hb1, hat.drew, hl, hm⟩
    case hp => repeat' (first | exact trivial | refine ⟨fun _ _ _ _ h => h, ?_⟩)
    case hs =>
      simp only [List.take_succ_cons, List.take_zero]
      clear hb1 hat hl hm
      refine ⟨?_, ?_, ?_, ?_, ?_, ?_, ?_, ?_, ?_, ?_, ?_, ?_, ?_, ?_, ?_, ?_, ?_, ?_, ?_, ?_, ?_, ?_, ?_, ?_, ?_, ?_, trivial⟩
      · refine ⟨met_none rfl, ?_⟩
        intro a W K hS hd hf hK
        have e7 : a.tmps.getD 7 undef = .bool true := hf 7 (by kernel_rfl)
        clear hd hf
        go_simp
        exact hK _ _ (Below.refl _ _) hS rfl
      · refine ⟨met_none rfl, ?_⟩
        intro a W K hS hd hf hK
        have e23 : a.tmps.getD 23 undef = .bool true := hd ⟨0, .data⟩ (by simp) rfl
        clear hd hf
        go_simp
        exact hK _ _ (Below.refl _ _) hS rfl
      · refine ⟨met_some 1 true rfl (fun w v h => h), ?_⟩
        intro a W K hS hd hf hK
        have e6 : a.tmps.getD 6 undef = sv := hf 6 (by kernel_rfl)
        clear hd hf
        go_simp
        exact hK _ _ (Below.refl _ _) hS rfl
      · refine ⟨met_some 1 true rfl (fun w v h => h), ?_⟩
        intro a W K hS hd hf hK
        have e25 : a.tmps.getD 25 undef = sv := hd ⟨2, .data⟩ (by simp) rfl
        clear hd hf
        go_simp
        go_at_call 19
        refine (hmode.out _ _ hS.2.1).mono ?_
        rintro e w1 ⟨rfl, hb⟩
        exact hK _ _ hb (⟨gr_call hS.1 hb, hS.2.1.call hb, hS.2.2.1.kept hb hS.2.2.1.size, hS.2.2.2.kept hb hS.2.2.2.size⟩) rfl
      · refine ⟨met_some 1 true rfl (fun w v h => h), ?_⟩
        intro a W K hS hd hf hK
        have e4 : a.tmps.getD 4 undef = .slice (some ⟨gm, 0, none⟩) 4 4 := hf 4 (by kernel_rfl)
        clear hd hf
        go_simp
        exact hK _ _ (Below.refl _ _) hS rfl
      · refine ⟨met_some 1 true rfl (fun w v h => h), ?_⟩
        intro a W K hS hd hf hK
        have e5 : a.tmps.getD 5 undef = .int .i64 1 := hf 5 (by kernel_rfl)
        clear hd hf
        go_simp
        exact hK _ _ (Below.refl _ _) hS rfl
      · refine ⟨met_some 1 true rfl (fun w v h => h), ?_⟩
        intro a W K hS hd hf hK
        have e27 : a.tmps.getD 27 undef = .slice (some ⟨gm, 0, none⟩) 4 4 := hd ⟨4, .data⟩ (by simp) rfl
        have e28 : a.tmps.getD 28 undef = .int .i64 1 := hd ⟨5, .data⟩ (by simp) rfl
        clear hd hf
        go_simp
        exact hK _ _ (Below.refl _ _) hS rfl
      · refine ⟨met_some 1 true rfl (fun w v h => h), ?_⟩
        intro a W K hS hd hf hK
        have e29 : a.tmps.getD 29 undef = .pointer (some ⟨gm, 1, none⟩) := hd ⟨6, .data⟩ (by simp) rfl
        have c0 := hS.2.2.2.cell_some 1 _ rfl
        clear hd hf
        go_simp
        exact hK _ _ (Below.refl _ _) hS rfl
      · refine ⟨met_some 1 true rfl (fun w v h => h), ?_⟩
        intro a W K hS hd hf hK
        have e26 : a.tmps.getD 26 undef = .int .i64 416 := hd ⟨3, .data⟩ (by simp) rfl
        have e30 : a.tmps.getD 30 undef = .int .i64 416 := hd ⟨7, .data⟩ (by simp) rfl
        clear hd hf
        go_simp
        exact hK _ _ (Below.refl _ _) hS rfl
      · refine ⟨met_none rfl, ?_⟩
        intro a W K hS hd hf hK
        have e24 : a.tmps.getD 24 undef = .bool true := hd ⟨1, .data⟩ (by simp) rfl
        have e31 : a.tmps.getD 31 undef = .bool true := hd ⟨8, .data⟩ (by simp) rfl
        clear hd hf
        go_simp
        exact hK _ _ (Below.refl _ _) hS rfl
      · refine ⟨met_none rfl, ?_⟩
        intro a W K hS hd hf hK
        have e32 : a.tmps.getD 32 undef = .bool true := hd ⟨9, .data⟩ (by simp) rfl
        clear hd hf
        go_simp
        exact hK _ _ (Below.refl _ _) hS rfl
      · refine ⟨met_some 10 true rfl (fun w v h => h), ?_⟩
        intro a W K hS hd hf hK
        have e6 : a.tmps.getD 6 undef = sv := hf 6 (by kernel_rfl)
        clear hd hf
        go_simp
        exact hK _ _ (Below.refl _ _) hS rfl
      · refine ⟨met_some 10 true rfl (fun w v h => h), ?_⟩
        intro a W K hS hd hf hK
        have e34 : a.tmps.getD 34 undef = sv := hd ⟨11, .data⟩ (by simp) rfl
        clear hd hf
        go_simp
        go_at_call 17
        refine (htext.out _ _ (hA.on hS.1) hS.2.1).mono ?_
        rintro e w1 ⟨rfl, hb⟩
        exact hK _ _ hb (⟨gr_call hS.1 hb, hS.2.1.call hb, hS.2.2.1.kept hb hS.2.2.1.size, hS.2.2.2.kept hb hS.2.2.2.size⟩) rfl
      · refine ⟨met_some 10 true rfl (fun w v h => h), ?_⟩
        intro a W K hS hd hf hK
        have e3 : a.tmps.getD 3 undef = .slice (some ⟨gl, 0, none⟩) 4 4 := hf 3 (by kernel_rfl)
        clear hd hf
        go_simp
        exact hK _ _ (Below.refl _ _) hS rfl
      · refine ⟨met_some 10 true rfl (fun w v h => h), ?_⟩
        intro a W K hS hd hf hK
        have e5 : a.tmps.getD 5 undef = .int .i64 1 := hf 5 (by kernel_rfl)
        clear hd hf
        go_simp
        exact hK _ _ (Below.refl _ _) hS rfl
      · refine ⟨met_some 10 true rfl (fun w v h => h), ?_⟩
        intro a W K hS hd hf hK
        have e36 : a.tmps.getD 36 undef = .slice (some ⟨gl, 0, none⟩) 4 4 := hd ⟨13, .data⟩ (by simp) rfl
        have e37 : a.tmps.getD 37 undef = .int .i64 1 := hd ⟨14, .data⟩ (by simp) rfl
        clear hd hf
        go_simp
        exact hK _ _ (Below.refl _ _) hS rfl
      · refine ⟨met_some 10 true rfl (fun w v h => h), ?_⟩
        intro a W K hS hd hf hK
        have e38 : a.tmps.getD 38 undef = .pointer (some ⟨gl, 1, none⟩) := hd ⟨15, .data⟩ (by simp) rfl
        have c0 := hS.2.2.1.cell_some 1 _ rfl
        clear hd hf
        go_simp
        exact hK _ _ (Below.refl _ _) hS rfl
      · refine ⟨met_some 10 true rfl (fun w v h => h), ?_⟩
        intro a W K hS hd hf hK
        have e35 : a.tmps.getD 35 undef = .string T1 := hd ⟨12, .data⟩ (by simp) rfl
        have e39 : a.tmps.getD 39 undef = .string T1 := hd ⟨16, .data⟩ (by simp) rfl
        clear hd hf
        go_simp
        exact hK _ _ (Below.refl _ _) hS rfl
      · refine ⟨met_none rfl, ?_⟩
        intro a W K hS hd hf hK
        have e33 : a.tmps.getD 33 undef = .bool true := hd ⟨10, .data⟩ (by simp) rfl
        have e40 : a.tmps.getD 40 undef = .bool true := hd ⟨17, .data⟩ (by simp) rfl
        clear hd hf
        go_simp
        exact hK _ _ (Below.refl _ _) hS rfl
      · refine ⟨met_none rfl, ?_⟩
        intro a W K hS hd hf hK
        have e41 : a.tmps.getD 41 undef = .bool true := hd ⟨18, .data⟩ (by simp) rfl
        clear hd hf
        go_simp
        exact hK _ _ (Below.refl _ _) hS rfl
      · refine ⟨met_some 19 true rfl (fun w v h => h), ?_⟩
        intro a W K hS hd hf hK
        have e6 : a.tmps.getD 6 undef = sv := hf 6 (by kernel_rfl)
        clear hd hf
        go_simp
        exact hK _ _ (Below.refl _ _) hS rfl
      · refine ⟨met_some 19 true rfl (fun w v h => h), ?_⟩
        intro a W K hS hd hf hK
        have e43 : a.tmps.getD 43 undef = sv := hd ⟨20, .data⟩ (by simp) rfl
        clear hd hf
        go_simp
        go_at_call 11
        refine (hmay.out _ _ hS.2.1).mono ?_
        rintro e w1 ⟨rfl, hb⟩
        exact hK _ _ hb (⟨gr_call hS.1 hb, hS.2.1.call hb, hS.2.2.1.kept hb hS.2.2.1.size, hS.2.2.2.kept hb hS.2.2.2.size⟩) rfl
      · refine ⟨met_none rfl, ?_⟩
        intro a W K hS hd hf hK
        have e42 : a.tmps.getD 42 undef = .bool true := hd ⟨19, .data⟩ (by simp) rfl
        have e44 : a.tmps.getD 44 undef = .bool true := hd ⟨21, .data⟩ (by simp) rfl
        clear hd hf
        go_simp
        exact hK _ _ (Below.refl _ _) hS rfl
      · refine ⟨met_none rfl, ?_⟩
        intro a W K hS hd hf hK
        have e45 : a.tmps.getD 45 undef = .bool true := hd ⟨22, .data⟩ (by simp) rfl
        clear hd hf
        go_simp
        exact hK _ _ (Below.refl _ _) hS rfl
      · refine ⟨met_some 23 true rfl (fun w v h => h), ?_⟩
        intro a W K hS hd hf hK
        clear hd hf
        go_simp
        go_at_call 8
        refine (haw.out _ (hA.on hS.1)).mono ?_
        rintro e w1 ⟨rfl, hb⟩
        exact hK _ _ hb (⟨gr_call hS.1 hb, hS.2.1.call hb, hS.2.2.1.kept hb hS.2.2.1.size, hS.2.2.2.kept hb hS.2.2.2.size⟩) rfl
      · refine ⟨met_none rfl, ?_⟩
        intro a W K hS hd hf hK
        have e46 : a.tmps.getD 46 undef = .bool true := hd ⟨23, .data⟩ (by simp) rfl
        have e47 : a.tmps.getD 47 undef = .bool true := hd ⟨24, .data⟩ (by simp) rfl
        clear hd hf
        go_simp
        exact hK _ _ (Below.refl _ _) hS rfl
    case he =>
      intro vals w6 K hS6 hV hK
      have e60 := hV 25 (by omega)
      clear hV
      simp only [List.getD_cons_succ, List.getD_cons_zero] at e60
      have hB6 := hS6.1
      clear hS6 hb1 hat hl hm
      refine Later.mk ?_
      simp only [List.append_eq, List.cons_append, List.nil_append, setN, Nat.reduceAdd, List.setIfInBounds_toArray, List.set_cons_succ, List.set_cons_zero]
      rw [e60]
      go_simp
      refine hK _ _ ?_
      clear hK
      go_wp2_with fail
      go_ret
      exact ⟨rfl, hB6⟩
  · obtain ⟨hg, hm, ht, ho⟩ := known2
    have hparse := Lib.hid (fun w' (hA' : Amb w') => Parse_any T2 (by rw [hs2]; decide) w' hA')
    have hmode := Lib.hid (fun v w' (hat : At aceE v knownL2 w') => mode_any v knownL2 w' hat (by decide) (may_parts hm).1)
    have hmay := Lib.hid (fun v w' (hat : At aceE v knownL2 w') => may_any v knownL2 w' hat (by decide))
    have htext := Lib.hid (fun v w' (hA' : Amb w') (hat : At aceE v knownL2 w') => textL_any v knownL2 w' hA' hat (by decide))
    rw [ho] at hmode
    rw [hm] at hmay
    rw [ht, ← hs2] at htext
    rw [show T2.data.toList = knownT2 by rw [hs2, strOf_list], hg] at hparse
    generalize knownL2 = A at *
    clear hg hm ht ho hs0 hs1 hs2 hs3
    have hx1 : Below w.heap.size w ((w.alloc (.cells #[.string T0, .string T1, .string T2, .string T3] 9)).alloc (.cells #[.int .i64 492, .int .i64 416, .int .i64 281, .int .i64 7] 3)) := by (repeat' (first | exact Below.refl _ _ | assumption | refine gr_drew ?_ | refine gr_drewN ?_ _ | refine gr_alloc ?_ _ | refine gr_set ?_ ?_ _ | refine gr_call ?_ (by assumption)) <;> (try (simp; done)) <;> (try (simp; omega)) <;> (try omega))
    go_enter Tryd.func6, Tryd.ntmps6
    simp only [hT0, hT1, hT2, hT3]
    clear hT0 hT1 hT2 hT3
    go_wp2_with fail
    refine (hparse.out _ (hA.on hx1)).mono ?_
    rintro e w1 ⟨⟨sv, rfl, hR⟩, hb1⟩
    have hat := hR.at
    have hl : BlkIs w1 w.heap.size 9 #[.string T0, .string T1, .string T2, .string T3] := (BlkIs.alloc (BlkIs.made w _ _) _).kept hb1 (by simp; omega)
    have hm : BlkIs w1 (w.heap.size + 1) 3 #[.int .i64 492, .int .i64 416, .int .i64 281, .int .i64 7] := (BlkIs.made_at (w.alloc (.cells #[.string T0, .string T1, .string T2, .string T3] 9)) _ _ _ (w.heap.size + 1) (by simp) rfl).kept hb1 (by simp)
    replace hb1 := gr_call hx1 hb1
    clear hR hx1 hparse
    obtain ⟨gl, hgl⟩ : ∃ g, w.heap.size = g := ⟨_, rfl⟩
    obtain ⟨gm, hgm⟩ : ∃ g, gl + 1 = g := ⟨_, rfl⟩
    go_wp2_with fail
    rw [hgl] at hl hm
    rw [hgm] at hm
    try rw [hgl]
    try rw [hgm]
    clear hgl hgm
    refine region_lastqgL (S := fun W => Below w.heap.size w W ∧ At aceE sv A W ∧ BlkIs W gl 9 #[.string T0, .string T1, .string T2, .string T3] ∧ BlkIs W gm 3 #[.int .i64 492, .int .i64 416, .int .i64 281, .int .i64 7]) 26
      [(fun W v => v = .bool true),
     (fun W v => v = .bool true),
     (fun W v => v = sv),
     (fun W v => v = .int .i64 281),
     (fun W v => v = .slice (some ⟨gm, 0, none⟩) 4 4),
     (fun W v => v = .int .i64 2),
     (fun W v => v = .pointer (some ⟨gm, 2, none⟩)),
     (fun W v => v = .int .i64 281),
     (fun W v => v = .bool true),
     (fun W v => v = .bool true),
     (fun W v => v = .bool true),
     (fun W v => v = sv),
     (fun W v => v = .string T2),
     (fun W v => v = .slice (some ⟨gl, 0, none⟩) 4 4),
     (fun W v => v = .int .i64 2),
     (fun W v => v = .pointer (some ⟨gl, 2, none⟩)),
     (fun W v => v = .string T2),
     (fun W v => v = .bool true),
     (fun W v => v = .bool true),
     (fun W v => v = .bool true),
     (fun W v => v = sv),
     (fun W v => v = .bool true),
     (fun W v => v = .bool true),
     (fun W v => v = .bool true),
     (fun W v => v = .bool true),
     (fun W v => v = .bool true)] (by rfl) (by kernel_rfl) (by kernel_rfl) (by kernel_rfl) (by kernel_rfl) (by rfl) (by kernel_rfl) ?hS ?hp ?hs ?he
    case hS => exact ⟨gr_drew hb1, hat.drew, hl, hm⟩
    case hp => repeat' (first | exact trivial | refine ⟨fun _ _ _ _ h => h, ?_⟩)
    case hs =>
      simp only [List.take_succ_cons, List.take_zero]
      clear hb1 hat hl hm
      refine ⟨?_, ?_, ?_, ?_, ?_, ?_, ?_, ?_, ?_, ?_, ?_, ?_, ?_, ?_, ?_, ?_, ?_, ?_, ?_, ?_, ?_, ?_, ?_, ?_, ?_, ?_, trivial⟩
      · refine ⟨met_none rfl, ?_⟩
        intro a W K hS hd hf hK
        have e7 : a.tmps.getD 7 undef = .bool true := hf 7 (by kernel_rfl)
        clear hd hf
        go_simp
        exact hK _ _ (Below.refl _ _) hS rfl
      · refine ⟨met_none rfl, ?_⟩
        intro a W K hS hd hf hK
        have e23 : a.tmps.getD 23 undef = .bool true := hd ⟨0, .data⟩ (by simp) rfl
        clear hd hf
        go_simp
        exact hK _ _ (Below.refl _ _) hS rfl
      · refine ⟨met_some 1 true rfl (fun w v h => h), ?_⟩
        intro a W K hS hd hf hK
        have e6 : a.tmps.getD 6 undef = sv := hf 6 (by kernel_rfl)
        clear hd hf
        go_simp
        exact hK _ _ (Below.refl _ _) hS rfl
      · refine ⟨met_some 1 true rfl (fun w v h => h), ?_⟩
        intro a W K hS hd hf hK
        have e25 : a.tmps.getD 25 undef = sv := hd ⟨2, .data⟩ (by simp) rfl
        clear hd hf
        go_simp
        go_at_call 19
        refine (hmode.out _ _ hS.2.1).mono ?_
        rintro e w1 ⟨rfl, hb⟩
        exact hK _ _ hb (⟨gr_call hS.1 hb, hS.2.1.call hb, hS.2.2.1.kept hb hS.2.2.1.size, hS.2.2.2.kept hb hS.2.2.2.size⟩) rfl
      · refine ⟨met_some 1 true rfl (fun w v h => h), ?_⟩
        intro a W K hS hd hf hK
        have e4 : a.tmps.getD 4 undef = .slice (some ⟨gm, 0, none⟩) 4 4 := hf 4 (by kernel_rfl)
        clear hd hf
        go_simp
        exact hK _ _ (Below.refl _ _) hS rfl
      · refine ⟨met_some 1 true rfl (fun w v h => h), ?_⟩
        intro a W K hS hd hf hK
        have e5 : a.tmps.getD 5 undef = .int .i64 2 := hf 5 (by kernel_rfl)
        clear hd hf
        go_simp
        exact hK _ _ (Below.refl _ _) hS rfl
      · refine ⟨met_some 1 true rfl (fun w v h => h), ?_⟩
        intro a W K hS hd hf hK
        have e27 : a.tmps.getD 27 undef = .slice (some ⟨gm, 0, none⟩) 4 4 := hd ⟨4, .data⟩ (by simp) rfl
        have e28 : a.tmps.getD 28 undef = .int .i64 2 := hd ⟨5, .data⟩ (by simp) rfl
        clear hd hf
        go_simp
        exact hK _ _ (Below.refl _ _) hS rfl
      · refine ⟨met_some 1 true rfl (fun w v h => h), ?_⟩
        intro a W K hS hd hf hK
        have e29 : a.tmps.getD 29 undef = .pointer (some ⟨gm, 2, none⟩) := hd ⟨6, .data⟩ (by simp) rfl
        have c0 := hS.2.2.2.cell_some 2 _ rfl
        clear hd hf
        go_simp
        exact hK _ _ (Below.refl _ _) hS rfl
      · refine ⟨met_some 1 true rfl (fun w v h => h), ?_⟩
        intro a W K hS hd hf hK
        have e26 : a.tmps.getD 26 undef = .int .i64 281 := hd ⟨3, .data⟩ (by simp) rfl
        have e30 : a.tmps.getD 30 undef = .int .i64 281 := hd ⟨7, .data⟩ (by simp) rfl
        clear hd hf
        go_simp
        exact hK _ _ (Below.refl _ _) hS rfl
      · refine ⟨met_none rfl, ?_⟩
        intro a W K hS hd hf hK
        have e24 : a.tmps.getD 24 undef = .bool true := hd ⟨1, .data⟩ (by simp) rfl
        have e31 : a.tmps.getD 31 undef = .bool true := hd ⟨8, .data⟩ (by simp) rfl
        clear hd hf
        go_simp
        exact hK _ _ (Below.refl _ _) hS rfl
      · refine ⟨met_none rfl, ?_⟩
        intro a W K hS hd hf hK
        have e32 : a.tmps.getD 32 undef = .bool true := hd ⟨9, .data⟩ (by simp) rfl
        clear hd hf
        go_simp
        exact hK _ _ (Below.refl _ _) hS rfl
      · refine ⟨met_some 10 true rfl (fun w v h => h), ?_⟩
        intro a W K hS hd hf hK
        have e6 : a.tmps.getD 6 undef = sv := hf 6 (by kernel_rfl)
        clear hd hf
        go_simp
        exact hK _ _ (Below.refl _ _) hS rfl
      · refine ⟨met_some 10 true rfl (fun w v h => h), ?_⟩
        intro a W K hS hd hf hK
        have e34 : a.tmps.getD 34 undef = sv := hd ⟨11, .data⟩ (by simp) rfl
        clear hd hf
        go_simp
        go_at_call 17
        refine (htext.out _ _ (hA.on hS.1) hS.2.1).mono ?_
        rintro e w1 ⟨rfl, hb⟩
        exact hK _ _ hb (⟨gr_call hS.1 hb, hS.2.1.call hb, hS.2.2.1.kept hb hS.2.2.1.size, hS.2.2.2.kept hb hS.2.2.2.size⟩) rfl
      · refine ⟨met_some 10 true rfl (fun w v h => h), ?_⟩
        intro a W K hS hd hf hK
        have e3 : a.tmps.getD 3 undef = .slice (some ⟨gl, 0, none⟩) 4 4 := hf 3 (by kernel_rfl)
        clear hd hf
        go_simp
        exact hK _ _ (Below.refl _ _) hS rfl
      · refine ⟨met_some 10 true rfl (fun w v h => h), ?_⟩
        intro a W K hS hd hf hK
        have e5 : a.tmps.getD 5 undef = .int .i64 2 := hf 5 (by kernel_rfl)
        clear hd hf
        go_simp
        exact hK _ _ (Below.refl _ _) hS rfl
      · refine ⟨met_some 10 true rfl (fun w v h => h), ?_⟩
        intro a W K hS hd hf hK
        have e36 : a.tmps.getD 36 undef = .slice (some ⟨gl, 0, none⟩) 4 4 := hd ⟨13, .data⟩ (by simp) rfl
        have e37 : a.tmps.getD 37 undef = .int .i64 2 := hd ⟨14, .data⟩ (by simp) rfl
        clear hd hf
        go_simp
        exact hK _ _ (Below.refl _ _) hS rfl
      · refine ⟨met_some 10 true rfl (fun w v h => h), ?_⟩
        intro a W K hS hd hf hK
        have e38 : a.tmps.getD 38 undef = .pointer (some ⟨gl, 2, none⟩) := hd ⟨15, .data⟩ (by simp) rfl
        have c0 := hS.2.2.1.cell_some 2 _ rfl
        clear hd hf
        go_simp
        exact hK _ _ (Below.refl _ _) hS rfl
      · refine ⟨met_some 10 true rfl (fun w v h => h), ?_⟩
        intro a W K hS hd hf hK
        have e35 : a.tmps.getD 35 undef = .string T2 := hd ⟨12, .data⟩ (by simp) rfl
        have e39 : a.tmps.getD 39 undef = .string T2 := hd ⟨16, .data⟩ (by simp) rfl
        clear hd hf
        go_simp
        exact hK _ _ (Below.refl _ _) hS rfl
      · refine ⟨met_none rfl, ?_⟩
        intro a W K hS hd hf hK
        have e33 : a.tmps.getD 33 undef = .bool true := hd ⟨10, .data⟩ (by simp) rfl
        have e40 : a.tmps.getD 40 undef = .bool true := hd ⟨17, .data⟩ (by simp) rfl
        clear hd hf
        go_simp
        exact hK _ _ (Below.refl _ _) hS rfl
      · refine ⟨met_none rfl, ?_⟩
        intro a W K hS hd hf hK
        have e41 : a.tmps.getD 41 undef = .bool true := hd ⟨18, .data⟩ (by simp) rfl
        clear hd hf
        go_simp
        exact hK _ _ (Below.refl _ _) hS rfl
      · refine ⟨met_some 19 true rfl (fun w v h => h), ?_⟩
        intro a W K hS hd hf hK
        have e6 : a.tmps.getD 6 undef = sv := hf 6 (by kernel_rfl)
        clear hd hf
        go_simp
        exact hK _ _ (Below.refl _ _) hS rfl
      · refine ⟨met_some 19 true rfl (fun w v h => h), ?_⟩
        intro a W K hS hd hf hK
        have e43 : a.tmps.getD 43 undef = sv := hd ⟨20, .data⟩ (by simp) rfl
        clear hd hf
        go_simp
        go_at_call 11
        refine (hmay.out _ _ hS.2.1).mono ?_
        rintro e w1 ⟨rfl, hb⟩
        exact hK _ _ hb (⟨gr_call hS.1 hb, hS.2.1.call hb, hS.2.2.1.kept hb hS.2.2.1.size, hS.2.2.2.kept hb hS.2.2.2.size⟩) rfl
      · refine ⟨met_none rfl, ?_⟩
        intro a W K hS hd hf hK
        have e42 : a.tmps.getD 42 undef = .bool true := hd ⟨19, .data⟩ (by simp) rfl
        have e44 : a.tmps.getD 44 undef = .bool true := hd ⟨21, .data⟩ (by simp) rfl
        clear hd hf
        go_simp
        exact hK _ _ (Below.refl _ _) hS rfl
      · refine ⟨met_none rfl, ?_⟩
        intro a W K hS hd hf hK
        have e45 : a.tmps.getD 45 undef = .bool true := hd ⟨22, .data⟩ (by simp) rfl
        clear hd hf
        go_simp
        exact hK _ _ (Below.refl _ _) hS rfl
      · refine ⟨met_some 23 true rfl (fun w v h => h), ?_⟩
        intro a W K hS hd hf hK
        clear hd hf
        go_simp
        go_at_call 8
        refine (haw.out _ (hA.on hS.1)).mono ?_
        rintro e w1 ⟨rfl, hb⟩
        exact hK _ _ hb (⟨gr_call hS.1 hb, hS.2.1.call hb, hS.2.2.1.kept hb hS.2.2.1.size, hS.2.2.2.kept hb hS.2.2.2.size⟩) rfl
      · refine ⟨met_none rfl, ?_⟩
        intro a W K hS hd hf hK
        have e46 : a.tmps.getD 46 undef = .bool true := hd ⟨23, .data⟩ (by simp) rfl
        have e47 : a.tmps.getD 47 undef = .bool true := hd ⟨24, .data⟩ (by simp) rfl
        clear hd hf
        go_simp
        exact hK _ _ (Below.refl _ _) hS rfl
    case he =>
      intro vals w6 K hS6 hV hK
      have e60 := hV 25 (by omega)
      clear hV
      simp only [List.getD_cons_succ, List.getD_cons_zero] at e60
      have hB6 := hS6.1
      clear hS6 hb1 hat hl hm
      refine Later.mk ?_
      simp only [List.append_eq, List.cons_append, List.nil_append, setN, Nat.reduceAdd, List.setIfInBounds_toArray, List.set_cons_succ, List.set_cons_zero]
      rw [e60]
      go_simp
      refine hK _ _ ?_
      clear hK
      go_wp2_with fail
      go_ret
      exact ⟨rfl, hB6⟩
  · obtain ⟨hg, hm, ht, ho⟩ := known3
    have hparse := Lib.hid (fun w' (hA' : Amb w') => Parse_any T3 (by rw [hs3]; decide) w' hA')
    have hmode := Lib.hid (fun v w' (hat : At aceE v knownL3 w') => mode_any v knownL3 w' hat (by decide) (may_parts hm).1)
    have hmay := Lib.hid (fun v w' (hat : At aceE v knownL3 w') => may_any v knownL3 w' hat (by decide))
    have htext := Lib.hid (fun v w' (hA' : Amb w') (hat : At aceE v knownL3 w') => textL_any v knownL3 w' hA' hat (by decide))
    rw [ho] at hmode
    rw [hm] at hmay
    rw [ht, ← hs3] at htext
    rw [show T3.data.toList = knownT3 by rw [hs3, strOf_list], hg] at hparse
    generalize knownL3 = A at *
    clear hg hm ht ho hs0 hs1 hs2 hs3
    have hx1 : Below w.heap.size w ((w.alloc (.cells #[.string T0, .string T1, .string T2, .string T3] 9)).alloc (.cells #[.int .i64 492, .int .i64 416, .int .i64 281, .int .i64 7] 3)) := by (repeat' (first | exact Below.refl _ _ | assumption | refine gr_drew ?_ | refine gr_drewN ?_ _ | refine gr_alloc ?_ _ | refine gr_set ?_ ?_ _ | refine gr_call ?_ (by assumption)) <;> (try (simp; done)) <;> (try (simp; omega)) <;> (try omega))
    go_enter Tryd.func6, Tryd.ntmps6
    simp only [hT0, hT1, hT2, hT3]
    clear hT0 hT1 hT2 hT3
    go_wp2_with fail
    refine (hparse.out _ (hA.on hx1)).mono ?_
    rintro e w1 ⟨⟨sv, rfl, hR⟩, hb1⟩
    have hat := hR.at
    have hl : BlkIs w1 w.heap.size 9 #[.string T0, .string T1, .string T2, .string T3] := (BlkIs.alloc (BlkIs.made w _ _) _).kept hb1 (by simp; omega)
    have hm : BlkIs w1 (w.heap.size + 1) 3 #[.int .i64 492, .int .i64 416, .int .i64 281, .int .i64 7] := (BlkIs.made_at (w.alloc (.cells #[.string T0, .string T1, .string T2, .string T3] 9)) _ _ _ (w.heap.size + 1) (by simp) rfl).kept hb1 (by simp)
    replace hb1 := gr_call hx1 hb1
    clear hR hx1 hparse
    obtain ⟨gl, hgl⟩ : ∃ g, w.heap.size = g := ⟨_, rfl⟩
    obtain ⟨gm, hgm⟩ : ∃ g, gl + 1 = g := ⟨_, rfl⟩
    go_wp2_with fail
    rw [hgl] at hl hm
    rw [hgm] at hm
    try rw [hgl]
    try rw [hgm]
    clear hgl hgm
    refine region_lastqgL (S := fun W => Below w.heap.size w W ∧ At aceE sv A W ∧ BlkIs W gl 9 #[.string T0, .string T1, .string T2, .string T3] ∧ BlkIs W gm 3 #[.int .i64 492, .int .i64 416, .int .i64 281, .int .i64 7]) 26
      [(fun W v => v = .bool true),
     (fun W v => v = .bool true),
     (fun W v => v = sv),
     (fun W v => v = .int .i64 7),
     (fun W v => v = .slice (some ⟨gm, 0, none⟩) 4 4),
     (fun W v => v = .int .i64 3),
     (fun W v => v = .pointer (some ⟨gm, 3, none⟩)),
     (fun W v => v = .int .i64 7),
     (fun W v => v = .bool true),
     (fun W v => v = .bool true),
     (fun W v => v = .bool true),
     (fun W v => v = sv),
     (fun W v => v = .string T3),
     (fun W v => v = .slice (some ⟨gl, 0, none⟩) 4 4),
     (fun W v => v = .int .i64 3),
     (fun W v => v = .pointer (some ⟨gl, 3, none⟩)),
     (fun W v => v = .string T3),
     (fun W v => v = .bool true),
     (fun W v => v = .bool true),
     (fun W v => v = .bool true),
     (fun W v => v = sv),
     (fun W v => v = .bool true),
     (fun W v => v = .bool true),
     (fun W v => v = .bool true),
     (fun W v => v = .bool true),
     (fun W v => v = .bool true)] (by rfl) (by kernel_rfl) (by kernel_rfl) (by kernel_rfl) (by kernel_rfl) (by rfl) (by kernel_rfl) ?hS ?hp ?hs ?he
    case hS => exact ⟨gr_drew hb1, hat.drew, hl, hm⟩
    case hp => repeat' (first | exact trivial | refine ⟨fun _ _ _ _ h => h, ?_⟩)
    case hs =>
      simp only [List.take_succ_cons, List.take_zero]
      clear hb1 hat hl hm
      refine ⟨?_, ?_, ?_, ?_, ?_, ?_, ?_, ?_, ?_, ?_, ?_, ?_, ?_, ?_, ?_, ?_, ?_, ?_, ?_, ?_, ?_, ?_, ?_, ?_, ?_, ?_, trivial⟩
      · refine ⟨met_none rfl, ?_⟩
        intro a W K hS hd hf hK
        have e7 : a.tmps.getD 7 undef = .bool true := hf 7 (by kernel_rfl)
        clear hd hf
        go_simp
        exact hK _ _ (Below.refl _ _) hS rfl
      · refine ⟨met_none rfl, ?_⟩
        intro a W K hS hd hf hK
        have e23 : a.tmps.getD 23 undef = .bool true := hd ⟨0, .data⟩ (by simp) rfl
        clear hd hf
        go_simp
        exact hK _ _ (Below.refl _ _) hS rfl
      · refine ⟨met_some 1 true rfl (fun w v h => h), ?_⟩
        intro a W K hS hd hf hK
        have e6 : a.tmps.getD 6 undef = sv := hf 6 (by kernel_rfl)
        clear hd hf
        go_simp
        exact hK _ _ (Below.refl _ _) hS rfl
      · refine ⟨met_some 1 true rfl (fun w v h => h), ?_⟩
        intro a W K hS hd hf hK
        have e25 : a.tmps.getD 25 undef = sv := hd ⟨2, .data⟩ (by simp) rfl
        clear hd hf
        go_simp
        go_at_call 19
        refine (hmode.out _ _ hS.2.1).mono ?_
        rintro e w1 ⟨rfl, hb⟩
        exact hK _ _ hb (⟨gr_call hS.1 hb, hS.2.1.call hb, hS.2.2.1.kept hb hS.2.2.1.size, hS.2.2.2.kept hb hS.2.2.2.size⟩) rfl
      · refine ⟨met_some 1 true rfl (fun w v h => h), ?_⟩
        intro a W K hS hd hf hK
        have e4 : a.tmps.getD 4 undef = .slice (some ⟨gm, 0, none⟩) 4 4 := hf 4 (by kernel_rfl)
        clear hd hf
        go_simp
        exact hK _ _ (Below.refl _ _) hS rfl
      · refine ⟨met_some 1 true rfl (fun w v h => h), ?_⟩
        intro a W K hS hd hf hK
        have e5 : a.tmps.getD 5 undef = .int .i64 3 := hf 5 (by kernel_rfl)
        clear hd hf
        go_simp
        exact hK _ _ (Below.refl _ _) hS rfl
      · refine ⟨met_some 1 true rfl (fun w v h => h), ?_⟩
        intro a W K hS hd hf hK
        have e27 : a.tmps.getD 27 undef = .slice (some ⟨gm, 0, none⟩) 4 4 := hd ⟨4, .data⟩ (by simp) rfl
        have e28 : a.tmps.getD 28 undef = .int .i64 3 := hd ⟨5, .data⟩ (by simp) rfl
        clear hd hf
        go_simp
        exact hK _ _ (Below.refl _ _) hS rfl
      · refine ⟨met_some 1 true rfl (fun w v h => h), ?_⟩
        intro a W K hS hd hf hK
        have e29 : a.tmps.getD 29 undef = .pointer (some ⟨gm, 3, none⟩) := hd ⟨6, .data⟩ (by simp) rfl
        have c0 := hS.2.2.2.cell_some 3 _ rfl
        clear hd hf
        go_simp
        exact hK _ _ (Below.refl _ _) hS rfl
      · refine ⟨met_some 1 true rfl (fun w v h => h), ?_⟩
        intro a W K hS hd hf hK
        have e26 : a.tmps.getD 26 undef = .int .i64 7 := hd ⟨3, .data⟩ (by simp) rfl
        have e30 : a.tmps.getD 30 undef = .int .i64 7 := hd ⟨7, .data⟩ (by simp) rfl
        clear hd hf
        go_simp
        exact hK _ _ (Below.refl _ _) hS rfl
      · refine ⟨met_none rfl, ?_⟩
        intro a W K hS hd hf hK
        have e24 : a.tmps.getD 24 undef = .bool true := hd ⟨1, .data⟩ (by simp) rfl
        have e31 : a.tmps.getD 31 undef = .bool true := hd ⟨8, .data⟩ (by simp) rfl
        clear hd hf
        go_simp
        exact hK _ _ (Below.refl _ _) hS rfl
      · refine ⟨met_none rfl, ?_⟩
        intro a W K hS hd hf hK
        have e32 : a.tmps.getD 32 undef = .bool true := hd ⟨9, .data⟩ (by simp) rfl
        clear hd hf
        go_simp
        exact hK _ _ (Below.refl _ _) hS rfl
      · refine ⟨met_some 10 true rfl (fun w v h => h), ?_⟩
        intro a W K hS hd hf hK
        have e6 : a.tmps.getD 6 undef = sv := hf 6 (by kernel_rfl)
        clear hd hf
        go_simp
        exact hK _ _ (Below.refl _ _) hS rfl
      · refine ⟨met_some 10 true rfl (fun w v h => h), ?_⟩
        intro a W K hS hd hf hK
        have e34 : a.tmps.getD 34 undef = sv := hd ⟨11, .data⟩ (by simp) rfl
        clear hd hf
        go_simp
        go_at_call 17
        refine (htext.out _ _ (hA.on hS.1) hS.2.1).mono ?_
        rintro e w1 ⟨rfl, hb⟩
        exact hK _ _ hb (⟨gr_call hS.1 hb, hS.2.1.call hb, hS.2.2.1.kept hb hS.2.2.1.size, hS.2.2.2.kept hb hS.2.2.2.size⟩) rfl
      · refine ⟨met_some 10 true rfl (fun w v h => h), ?_⟩
        intro a W K hS hd hf hK
        have e3 : a.tmps.getD 3 undef = .slice (some ⟨gl, 0, none⟩) 4 4 := hf 3 (by kernel_rfl)
        clear hd hf
        go_simp
        exact hK _ _ (Below.refl _ _) hS rfl
      · refine ⟨met_some 10 true rfl (fun w v h => h), ?_⟩
        intro a W K hS hd hf hK
        have e5 : a.tmps.getD 5 undef = .int .i64 3 := hf 5 (by kernel_rfl)
        clear hd hf
        go_simp
        exact hK _ _ (Below.refl _ _) hS rfl
      · refine ⟨met_some 10 true rfl (fun w v h => h), ?_⟩
        intro a W K hS hd hf hK
        have e36 : a.tmps.getD 36 undef = .slice (some ⟨gl, 0, none⟩) 4 4 := hd ⟨13, .data⟩ (by simp) rfl
        have e37 : a.tmps.getD 37 undef = .int .i64 3 := hd ⟨14, .data⟩ (by simp) rfl
        clear hd hf
        go_simp
        exact hK _ _ (Below.refl _ _) hS rfl
      · refine ⟨met_some 10 true rfl (fun w v h => h), ?_⟩
        intro a W K hS hd hf hK
        have e38 : a.tmps.getD 38 undef = .pointer (some ⟨gl, 3, none⟩) := hd ⟨15, .data⟩ (by simp) rfl
        have c0 := hS.2.2.1.cell_some 3 _ rfl
        clear hd hf
        go_simp
        exact hK _ _ (Below.refl _ _) hS rfl
      · refine ⟨met_some 10 true rfl (fun w v h => h), ?_⟩
        intro a W K hS hd hf hK
        have e35 : a.tmps.getD 35 undef = .string T3 := hd ⟨12, .data⟩ (by simp) rfl
        have e39 : a.tmps.getD 39 undef = .string T3 := hd ⟨16, .data⟩ (by simp) rfl
        clear hd hf
        go_simp
        exact hK _ _ (Below.refl _ _) hS rfl
      · refine ⟨met_none rfl, ?_⟩
        intro a W K hS hd hf hK
        have e33 : a.tmps.getD 33 undef = .bool true := hd ⟨10, .data⟩ (by simp) rfl
        have e40 : a.tmps.getD 40 undef = .bool true := hd ⟨17, .data⟩ (by simp) rfl
        clear hd hf
        go_simp
        exact hK _ _ (Below.refl _ _) hS rfl
      · refine ⟨met_none rfl, ?_⟩
        intro a W K hS hd hf hK
        have e41 : a.tmps.getD 41 undef = .bool true := hd ⟨18, .data⟩ (by simp) rfl
        clear hd hf
        go_simp
        exact hK _ _ (Below.refl _ _) hS rfl
      · refine ⟨met_some 19 true rfl (fun w v h => h), ?_⟩
        intro a W K hS hd hf hK
        have e6 : a.tmps.getD 6 undef = sv := hf 6 (by kernel_rfl)
        clear hd hf
        go_simp
        exact hK _ _ (Below.refl _ _) hS rfl
      · refine ⟨met_some 19 true rfl (fun w v h => h), ?_⟩
        intro a W K hS hd hf hK
        have e43 : a.tmps.getD 43 undef = sv := hd ⟨20, .data⟩ (by simp) rfl
        clear hd hf
        go_simp
        go_at_call 11
        refine (hmay.out _ _ hS.2.1).mono ?_
        rintro e w1 ⟨rfl, hb⟩
        exact hK _ _ hb (⟨gr_call hS.1 hb, hS.2.1.call hb, hS.2.2.1.kept hb hS.2.2.1.size, hS.2.2.2.kept hb hS.2.2.2.size⟩) rfl
      · refine ⟨met_none rfl, ?_⟩
        intro a W K hS hd hf hK
        have e42 : a.tmps.getD 42 undef = .bool true := hd ⟨19, .data⟩ (by simp) rfl
        have e44 : a.tmps.getD 44 undef = .bool true := hd ⟨21, .data⟩ (by simp) rfl
        clear hd hf
        go_simp
        exact hK _ _ (Below.refl _ _) hS rfl
      · refine ⟨met_none rfl, ?_⟩
        intro a W K hS hd hf hK
        have e45 : a.tmps.getD 45 undef = .bool true := hd ⟨22, .data⟩ (by simp) rfl
        clear hd hf
        go_simp
        exact hK _ _ (Below.refl _ _) hS rfl
      · refine ⟨met_some 23 true rfl (fun w v h => h), ?_⟩
        intro a W K hS hd hf hK
        clear hd hf
        go_simp
        go_at_call 8
        refine (haw.out _ (hA.on hS.1)).mono ?_
        rintro e w1 ⟨rfl, hb⟩
        exact hK _ _ hb (⟨gr_call hS.1 hb, hS.2.1.call hb, hS.2.2.1.kept hb hS.2.2.1.size, hS.2.2.2.kept hb hS.2.2.2.size⟩) rfl
      · refine ⟨met_none rfl, ?_⟩
        intro a W K hS hd hf hK
        have e46 : a.tmps.getD 46 undef = .bool true := hd ⟨23, .data⟩ (by simp) rfl
        have e47 : a.tmps.getD 47 undef = .bool true := hd ⟨24, .data⟩ (by simp) rfl
        clear hd hf
        go_simp
        exact hK _ _ (Below.refl _ _) hS rfl
    case he =>
      intro vals w6 K hS6 hV hK
      have e60 := hV 25 (by omega)
      clear hV
      simp only [List.getD_cons_succ, List.getD_cons_zero] at e60
      have hB6 := hS6.1
      clear hS6 hb1 hat hl hm
      refine Later.mk ?_
      simp only [List.append_eq, List.cons_append, List.nil_append, setN, Nat.reduceAdd, List.setIfInBounds_toArray, List.set_cons_succ, List.set_cons_zero]
      rw [e60]
      go_simp
      refine hK _ _ ?_
      clear hK
      go_wp2_with fail
      go_ret
      exact ⟨rfl, hB6⟩
end Go.Proofs.YtdjffnhkfpjafaaDoor
