/- The law PadAll, walked. -/
import Derived.Test.YtkklgdefliinoaaDoorPadFacts
import Derived.Test.YtkklgdefliinoaaDoorPadAmb
import Derived.Test.YtkklgdefliinoaaDoorLater
namespace Go.Proofs.YtkklgdefliinoaaDoor
open Go.RowKit
open PadM
set_option linter.unusedVariables false

set_option maxHeartbeats 3200000 in
set_option maxRecDepth 100000 in
theorem padAll_walk (a0 : ByteArray) (a1 : Int) (a2 : Int) (w : World) (hA : Amb w) (w0 : a0.size ≤ maxLen) (w1 : (Lit.int .i64 a1).wf = true) (w2 : (Lit.int .i64 a2).wf = true) :
    Calls Tryd.prog 3 #[.string a0, .int .i64 a1, .int .i64 a2] w fun e w' => e = .returned (.bool true) ∧ Below w.heap.size w w' := by
  have haw := awake_true
  by_cases hA : 3000 < a0.size
  · have h1 : (3000 : Int) < (a0.size : Int) := by omega
    go_enter Tryd.func3, Tryd.ntmps3
    go_wp2_with fail
    refine (haw _).mono ?_
    rintro e w1 ⟨rfl, hb1⟩
    go_wp2_with fail
    go_ret
    exact ⟨rfl, hb1⟩
  have h1 : ¬ (3000 : Int) < (a0.size : Int) := by omega
  have hg := fun w => get_any a0 a1 a2 (by omega) w
  have hr := fun w => refGet_any a0 a1 a2 (by omega) w
  unfold getV at hg
  unfold getA at hr
  generalize getP (L a0) a1 a2 = p at hg hr
  obtain ⟨D, hD⟩ : ∃ D, strOf p.1 = D := ⟨_, rfl⟩
  obtain ⟨X, hX⟩ : ∃ X, p.2.1 = X := ⟨_, rfl⟩
  obtain ⟨E, hE⟩ : ∃ E, p.2.2 = E := ⟨_, rfl⟩
  rw [hD, hX, hE] at hg hr
  have hq1 : ∀ w, Calls Tryd.prog 10 #[.int .i64 a2] w fun e w' => e = .returned (.int .i64 (sz a2)) ∧ Below w.heap.size w w' := fun w => (size_any a2 w).mono fun e w' ⟨he, hw⟩ => ⟨he, hw ▸ Below.refl _ _⟩
  have hq2 : ∀ w, Calls Tryd.prog 11 #[.int .i64 a2] w fun e w' => e = .returned (.int .i64 (sz a2)) ∧ Below w.heap.size w w' := fun w => (refSize_any a2 w).mono fun e w' ⟨he, hw⟩ => ⟨he, hw ▸ Below.refl _ _⟩
  have hq3 := fun w => put_any a0 (by omega) w
  have hq4 := fun w => refPad_any a0 (by omega) w
  obtain ⟨T, hT⟩ : ∃ T, strOf (padL (L a0)) = T := ⟨_, rfl⟩
  rw [hT] at hq3 hq4
  obtain ⟨Z, hZ⟩ : ∃ Z, sz a2 = Z := ⟨_, rfl⟩
  rw [hZ] at hq1 hq2
  have hq5 : ∀ w, Calls Tryd.prog 14 #[.int .i64 E] w fun e w' => e = .returned (.int .i64 E) ∧ Below w.heap.size w w' := fun w => (err_any E w).mono fun e w' ⟨he, hw⟩ => ⟨he, hw ▸ Below.refl _ _⟩
  replace hg := Lib.hid hg
  replace hr := Lib.hid hr
  replace hq1 := Lib.hid hq1
  replace hq2 := Lib.hid hq2
  replace hq3 := Lib.hid hq3
  replace hq4 := Lib.hid hq4
  replace hq5 := Lib.hid hq5
  replace haw := Lib.hid haw
  clear hA hD hX hE hT hZ w0 w1 w2
  go_enter Tryd.func3, Tryd.ntmps3
  go_wp2_with fail
  refine (hg.out _).mono ?_
  rintro e w1 ⟨rfl, hb1⟩
  clear hg
  go_wp2_with fail
  refine (hr.out _).mono ?_
  rintro e w2 ⟨rfl, hb2⟩
  have hB2 := gr_call hb1 hb2
  clear hr hb1 hb2
  have hy := BlkIs.made w2 27 #[.string D, .int .i64 X, .int .i64 E]
  have hB3 := gr_alloc hB2 (.cells #[.string D, .int .i64 X, .int .i64 E] 27)
  go_wp2_with fail
  obtain ⟨gy, hgy⟩ : ∃ g, w2.heap.size = g := ⟨_, rfl⟩
  obtain ⟨w3, hw3⟩ : ∃ w3, w2.alloc (.cells #[.string D, .int .i64 X, .int .i64 E] 27) = w3 := ⟨_, rfl⟩
  rw [hgy] at hy ⊢
  rw [hw3] at hy hB3 ⊢
  clear hB2 hgy hw3
  refine region_lastqgL (S := fun W => Below w.heap.size w W ∧ BlkIs W gy 27 #[.string D, .int .i64 X, .int .i64 E]) 34
    [(fun W v => v = .int .i64 a2),
     (fun W v => v = .int .i64 Z),
     (fun W v => v = .int .i64 a2),
     (fun W v => v = .int .i64 Z),
     (fun W v => v = .bool true),
     (fun W v => v = .bool true),
     (fun W v => v = .string a0),
     (fun W v => v = .string T),
     (fun W v => v = .string a0),
     (fun W v => v = .string T),
     (fun W v => v = .bool true),
     (fun W v => v = .bool true),
     (fun W v => v = .bool true),
     (fun W v => v = .string D),
     (fun W v => v = .pointer (some ⟨gy, 0, none⟩)),
     (fun W v => v = .string D),
     (fun W v => v = .bool true),
     (fun W v => v = .bool true),
     (fun W v => v = .bool true),
     (fun W v => v = .int .i64 X),
     (fun W v => v = .pointer (some ⟨gy, 1, none⟩)),
     (fun W v => v = .int .i64 X),
     (fun W v => v = .bool true),
     (fun W v => v = .bool true),
     (fun W v => v = .bool true),
     (fun W v => v = .int .i64 E),
     (fun W v => v = .int .i64 E),
     (fun W v => v = .pointer (some ⟨gy, 2, none⟩)),
     (fun W v => v = .int .i64 E),
     (fun W v => v = .bool true),
     (fun W v => v = .bool true),
     (fun W v => v = .bool true),
     (fun W v => v = .bool true),
     (fun W v => v = .bool true)] (by rfl) (by kernel_rfl) (by kernel_rfl) (by kernel_rfl) (by kernel_rfl) (by rfl) (by kernel_rfl) ?hS ?hp ?hs ?he
  case hS => exact ⟨gr_drew hB3, hy⟩
  case hp => repeat' (first | exact trivial | refine ⟨fun _ _ _ _ h => h, ?_⟩)
  case hs =>
    simp only [List.take_succ_cons, List.take_zero]
    clear hB3 hy
    refine ⟨?_, ?_, ?_, ?_, ?_, ?_, ?_, ?_, ?_, ?_, ?_, ?_, ?_, ?_, ?_, ?_, ?_, ?_, ?_, ?_, ?_, ?_, ?_, ?_, ?_, ?_, ?_, ?_, ?_, ?_, ?_, ?_, ?_, ?_, trivial⟩
    · refine ⟨met_none rfl, ?_⟩
      intro a W K hS hd hf hK
      have e2 : a.tmps.getD 2 undef = .int .i64 a2 := hf 2 (by kernel_rfl)
      clear hd hf
      go_simp
      exact hK _ _ (Below.refl _ _) hS rfl
    · refine ⟨met_none rfl, ?_⟩
      intro a W K hS hd hf hK
      have e27 : a.tmps.getD 27 undef = .int .i64 a2 := hd ⟨0, .data⟩ (by simp) rfl
      clear hd hf
      go_simp
      go_at_call 10
      refine (hq1.out _).mono ?_
      rintro e w1 ⟨rfl, hb⟩
      exact hK _ _ hb (⟨gr_call hS.1 hb, hS.2.kept hb hS.2.size⟩) rfl
    · refine ⟨met_none rfl, ?_⟩
      intro a W K hS hd hf hK
      have e2 : a.tmps.getD 2 undef = .int .i64 a2 := hf 2 (by kernel_rfl)
      clear hd hf
      go_simp
      exact hK _ _ (Below.refl _ _) hS rfl
    · refine ⟨met_none rfl, ?_⟩
      intro a W K hS hd hf hK
      have e29 : a.tmps.getD 29 undef = .int .i64 a2 := hd ⟨2, .data⟩ (by simp) rfl
      clear hd hf
      go_simp
      go_at_call 11
      refine (hq2.out _).mono ?_
      rintro e w1 ⟨rfl, hb⟩
      exact hK _ _ hb (⟨gr_call hS.1 hb, hS.2.kept hb hS.2.size⟩) rfl
    · refine ⟨met_none rfl, ?_⟩
      intro a W K hS hd hf hK
      have e28 : a.tmps.getD 28 undef = .int .i64 Z := hd ⟨1, .data⟩ (by simp) rfl
      have e30 : a.tmps.getD 30 undef = .int .i64 Z := hd ⟨3, .data⟩ (by simp) rfl
      clear hd hf
      go_simp
      exact hK _ _ (Below.refl _ _) hS rfl
    · refine ⟨met_none rfl, ?_⟩
      intro a W K hS hd hf hK
      have e31 : a.tmps.getD 31 undef = .bool true := hd ⟨4, .data⟩ (by simp) rfl
      clear hd hf
      go_simp
      exact hK _ _ (Below.refl _ _) hS rfl
    · refine ⟨met_some 5 true rfl (fun w v h => h), ?_⟩
      intro a W K hS hd hf hK
      have e0 : a.tmps.getD 0 undef = .string a0 := hf 0 (by kernel_rfl)
      clear hd hf
      go_simp
      exact hK _ _ (Below.refl _ _) hS rfl
    · refine ⟨met_some 5 true rfl (fun w v h => h), ?_⟩
      intro a W K hS hd hf hK
      have e33 : a.tmps.getD 33 undef = .string a0 := hd ⟨6, .data⟩ (by simp) rfl
      clear hd hf
      go_simp
      go_at_call 12
      refine (hq3.out _).mono ?_
      rintro e w1 ⟨rfl, hb⟩
      exact hK _ _ hb (⟨gr_call hS.1 hb, hS.2.kept hb hS.2.size⟩) rfl
    · refine ⟨met_some 5 true rfl (fun w v h => h), ?_⟩
      intro a W K hS hd hf hK
      have e0 : a.tmps.getD 0 undef = .string a0 := hf 0 (by kernel_rfl)
      clear hd hf
      go_simp
      exact hK _ _ (Below.refl _ _) hS rfl
    · refine ⟨met_some 5 true rfl (fun w v h => h), ?_⟩
      intro a W K hS hd hf hK
      have e35 : a.tmps.getD 35 undef = .string a0 := hd ⟨8, .data⟩ (by simp) rfl
      clear hd hf
      go_simp
      go_at_call 13
      refine (hq4.out _).mono ?_
      rintro e w1 ⟨rfl, hb⟩
      exact hK _ _ hb (⟨gr_call hS.1 hb, hS.2.kept hb hS.2.size⟩) rfl
    · refine ⟨met_some 5 true rfl (fun w v h => h), ?_⟩
      intro a W K hS hd hf hK
      have e34 : a.tmps.getD 34 undef = .string T := hd ⟨7, .data⟩ (by simp) rfl
      have e36 : a.tmps.getD 36 undef = .string T := hd ⟨9, .data⟩ (by simp) rfl
      clear hd hf
      go_simp
      exact hK _ _ (Below.refl _ _) hS rfl
    · refine ⟨met_none rfl, ?_⟩
      intro a W K hS hd hf hK
      have e32 : a.tmps.getD 32 undef = .bool true := hd ⟨5, .data⟩ (by simp) rfl
      have e37 : a.tmps.getD 37 undef = .bool true := hd ⟨10, .data⟩ (by simp) rfl
      clear hd hf
      go_simp
      exact hK _ _ (Below.refl _ _) hS rfl
    · refine ⟨met_none rfl, ?_⟩
      intro a W K hS hd hf hK
      have e38 : a.tmps.getD 38 undef = .bool true := hd ⟨11, .data⟩ (by simp) rfl
      clear hd hf
      go_simp
      exact hK _ _ (Below.refl _ _) hS rfl
    · refine ⟨met_some 12 true rfl (fun w v h => h), ?_⟩
      intro a W K hS hd hf hK
      have e7 : a.tmps.getD 7 undef = .string D := hf 7 (by kernel_rfl)
      clear hd hf
      go_simp
      exact hK _ _ (Below.refl _ _) hS rfl
    · refine ⟨met_some 12 true rfl (fun w v h => h), ?_⟩
      intro a W K hS hd hf hK
      have e10 : a.tmps.getD 10 undef = .pointer (some ⟨gy, 0, none⟩) := hf 10 (by kernel_rfl)
      clear hd hf
      go_simp
      exact hK _ _ (Below.refl _ _) hS rfl
    · refine ⟨met_some 12 true rfl (fun w v h => h), ?_⟩
      intro a W K hS hd hf hK
      have e41 : a.tmps.getD 41 undef = .pointer (some ⟨gy, 0, none⟩) := hd ⟨14, .data⟩ (by simp) rfl
      have c0 := hS.2.cell_some 0 _ rfl
      clear hd hf
      go_simp
      exact hK _ _ (Below.refl _ _) hS rfl
    · refine ⟨met_some 12 true rfl (fun w v h => h), ?_⟩
      intro a W K hS hd hf hK
      have e40 : a.tmps.getD 40 undef = .string D := hd ⟨13, .data⟩ (by simp) rfl
      have e42 : a.tmps.getD 42 undef = .string D := hd ⟨15, .data⟩ (by simp) rfl
      clear hd hf
      go_simp
      exact hK _ _ (Below.refl _ _) hS rfl
    · refine ⟨met_none rfl, ?_⟩
      intro a W K hS hd hf hK
      have e39 : a.tmps.getD 39 undef = .bool true := hd ⟨12, .data⟩ (by simp) rfl
      have e43 : a.tmps.getD 43 undef = .bool true := hd ⟨16, .data⟩ (by simp) rfl
      clear hd hf
      go_simp
      exact hK _ _ (Below.refl _ _) hS rfl
    · refine ⟨met_none rfl, ?_⟩
      intro a W K hS hd hf hK
      have e44 : a.tmps.getD 44 undef = .bool true := hd ⟨17, .data⟩ (by simp) rfl
      clear hd hf
      go_simp
      exact hK _ _ (Below.refl _ _) hS rfl
    · refine ⟨met_some 18 true rfl (fun w v h => h), ?_⟩
      intro a W K hS hd hf hK
      have e8 : a.tmps.getD 8 undef = .int .i64 X := hf 8 (by kernel_rfl)
      clear hd hf
      go_simp
      exact hK _ _ (Below.refl _ _) hS rfl
    · refine ⟨met_some 18 true rfl (fun w v h => h), ?_⟩
      intro a W K hS hd hf hK
      have e10 : a.tmps.getD 10 undef = .pointer (some ⟨gy, 0, none⟩) := hf 10 (by kernel_rfl)
      clear hd hf
      go_simp
      exact hK _ _ (Below.refl _ _) hS rfl
    · refine ⟨met_some 18 true rfl (fun w v h => h), ?_⟩
      intro a W K hS hd hf hK
      have e47 : a.tmps.getD 47 undef = .pointer (some ⟨gy, 1, none⟩) := hd ⟨20, .data⟩ (by simp) rfl
      have c0 := hS.2.cell_some 1 _ rfl
      clear hd hf
      go_simp
      exact hK _ _ (Below.refl _ _) hS rfl
    · refine ⟨met_some 18 true rfl (fun w v h => h), ?_⟩
      intro a W K hS hd hf hK
      have e46 : a.tmps.getD 46 undef = .int .i64 X := hd ⟨19, .data⟩ (by simp) rfl
      have e48 : a.tmps.getD 48 undef = .int .i64 X := hd ⟨21, .data⟩ (by simp) rfl
      clear hd hf
      go_simp
      exact hK _ _ (Below.refl _ _) hS rfl
    · refine ⟨met_none rfl, ?_⟩
      intro a W K hS hd hf hK
      have e45 : a.tmps.getD 45 undef = .bool true := hd ⟨18, .data⟩ (by simp) rfl
      have e49 : a.tmps.getD 49 undef = .bool true := hd ⟨22, .data⟩ (by simp) rfl
      clear hd hf
      go_simp
      exact hK _ _ (Below.refl _ _) hS rfl
    · refine ⟨met_none rfl, ?_⟩
      intro a W K hS hd hf hK
      have e50 : a.tmps.getD 50 undef = .bool true := hd ⟨23, .data⟩ (by simp) rfl
      clear hd hf
      go_simp
      exact hK _ _ (Below.refl _ _) hS rfl
    · refine ⟨met_some 24 true rfl (fun w v h => h), ?_⟩
      intro a W K hS hd hf hK
      have e9 : a.tmps.getD 9 undef = .int .i64 E := hf 9 (by kernel_rfl)
      clear hd hf
      go_simp
      exact hK _ _ (Below.refl _ _) hS rfl
    · refine ⟨met_some 24 true rfl (fun w v h => h), ?_⟩
      intro a W K hS hd hf hK
      have e52 : a.tmps.getD 52 undef = .int .i64 E := hd ⟨25, .data⟩ (by simp) rfl
      clear hd hf
      go_simp
      go_at_call 14
      refine (hq5.out _).mono ?_
      rintro e w1 ⟨rfl, hb⟩
      exact hK _ _ hb (⟨gr_call hS.1 hb, hS.2.kept hb hS.2.size⟩) rfl
    · refine ⟨met_some 24 true rfl (fun w v h => h), ?_⟩
      intro a W K hS hd hf hK
      have e10 : a.tmps.getD 10 undef = .pointer (some ⟨gy, 0, none⟩) := hf 10 (by kernel_rfl)
      clear hd hf
      go_simp
      exact hK _ _ (Below.refl _ _) hS rfl
    · refine ⟨met_some 24 true rfl (fun w v h => h), ?_⟩
      intro a W K hS hd hf hK
      have e54 : a.tmps.getD 54 undef = .pointer (some ⟨gy, 2, none⟩) := hd ⟨27, .data⟩ (by simp) rfl
      have c0 := hS.2.cell_some 2 _ rfl
      clear hd hf
      go_simp
      exact hK _ _ (Below.refl _ _) hS rfl
    · refine ⟨met_some 24 true rfl (fun w v h => h), ?_⟩
      intro a W K hS hd hf hK
      have e53 : a.tmps.getD 53 undef = .int .i64 E := hd ⟨26, .data⟩ (by simp) rfl
      have e55 : a.tmps.getD 55 undef = .int .i64 E := hd ⟨28, .data⟩ (by simp) rfl
      clear hd hf
      go_simp
      exact hK _ _ (Below.refl _ _) hS rfl
    · refine ⟨met_none rfl, ?_⟩
      intro a W K hS hd hf hK
      have e51 : a.tmps.getD 51 undef = .bool true := hd ⟨24, .data⟩ (by simp) rfl
      have e56 : a.tmps.getD 56 undef = .bool true := hd ⟨29, .data⟩ (by simp) rfl
      clear hd hf
      go_simp
      exact hK _ _ (Below.refl _ _) hS rfl
    · refine ⟨met_none rfl, ?_⟩
      intro a W K hS hd hf hK
      have e57 : a.tmps.getD 57 undef = .bool true := hd ⟨30, .data⟩ (by simp) rfl
      clear hd hf
      go_simp
      exact hK _ _ (Below.refl _ _) hS rfl
    · refine ⟨met_some 31 true rfl (fun w v h => h), ?_⟩
      intro a W K hS hd hf hK
      clear hd hf
      go_simp
      go_at_call 7
      refine (haw.out _).mono ?_
      rintro e w1 ⟨rfl, hb⟩
      exact hK _ _ hb (⟨gr_call hS.1 hb, hS.2.kept hb hS.2.size⟩) rfl
    · refine ⟨met_none rfl, ?_⟩
      intro a W K hS hd hf hK
      have e58 : a.tmps.getD 58 undef = .bool true := hd ⟨31, .data⟩ (by simp) rfl
      have e59 : a.tmps.getD 59 undef = .bool true := hd ⟨32, .data⟩ (by simp) rfl
      clear hd hf
      go_simp
      exact hK _ _ (Below.refl _ _) hS rfl
  case he =>
    intro vals w6 K hS6 hV hK
    have e60 := hV 33 (by omega)
    clear hV
    simp only [List.getD_cons_succ, List.getD_cons_zero] at e60
    have hB6 := hS6.1
    clear hS6 hB3 hy
    refine Later.mk ?_
    simp only [List.append_eq, List.cons_append, List.nil_append, setN, Nat.reduceAdd, List.setIfInBounds_toArray, List.set_cons_succ, List.set_cons_zero]
    rw [e60]
    go_simp
    refine hK _ _ ?_
    clear hK
    go_wp2_with fail
    go_ret
    exact ⟨rfl, hB6⟩
end Go.Proofs.YtkklgdefliinoaaDoor
