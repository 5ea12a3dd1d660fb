/- The law CapsAll, walked. -/
import Derived.Test.YtijagjahocjaaaaCapsRefGet
import Derived.Test.YtijagjahocjaaaaCapsFrame
namespace Go.Proofs.Ytijagjahocjaaaa
open Go.RowKit
open CapsM
set_option linter.unusedVariables false

theorem rets (o : Option Cap) : ∃ (x : Cap) (ok : Bool), getRet o = .tuple #[capV x, .bool ok] ∧ refRet o = .agg #[.int .i64 x.v, .int .u64 (x.p : Int), .int .u64 (x.i : Int), .bool x.e, .int .i64 x.r, .bool ok] := by
  cases o with
  | none => exact ⟨none0, false, rfl, rfl⟩
  | some c => exact ⟨c, true, rfl, rfl⟩

theorem beq_self (b : Bool) : (b == b) = true := by cases b <;> rfl
set_option maxHeartbeats 3200000 in
set_option maxRecDepth 100000 in
theorem all_case (c : Cap) (hf : Fits c) (S0 : ByteArray) (w : World) :
    Calls Try.prog 3 #[capV c, .string S0] w fun e w' => e = .returned (.bool true) ∧ Below w.heap.size w w' := by
  have haw := Lib.hid awake_true
  obtain ⟨n, hn⟩ : ∃ n, S0.size = n := ⟨_, rfl⟩
  by_cases hA : 60 < n
  · have h1 : decide ((60 : Int) < (n : Int)) = true := decide_eq_true (by omega)
    have h2 : decide (60 < n) = true := decide_eq_true hA
    obtain ⟨v, p, i, e, r⟩ := c
    unfold capV
    simp only
    clear hf hA
    go_enter Try.func3, Try.ntmps3
    go_wp2_with fail
    refine (haw.out _).mono ?_
    rintro e' w1 ⟨rfl, hb1⟩
    have hbl : Below w.heap.size w w1 := gr_call (by (repeat' (first | exact Below.refl _ _ | assumption | refine gr_drew ?_ | refine gr_drewN ?_ _ | refine gr_alloc ?_ _ | refine gr_set ?_ ?_ _ | refine gr_call ?_ (by assumption)) <;> (try (simp; done)) <;> (try (simp; omega)) <;> (try omega))) hb1
    go_wp2_with fail
    go_ret
    exact ⟨rfl, hbl⟩
  have h1 : decide ((60 : Int) < (n : Int)) = false := decide_eq_false (by omega)
  have h2 : decide (60 < n) = false := decide_eq_false hA
  have hg := Get_any S0 (by omega)
  have hr := refGet_any S0 (by omega)
  obtain ⟨⟨xv, xp, xi, xe, xr⟩, ok, e1, e2⟩ := rets (getL S0.data.toList)
  rw [e1] at hg
  rw [e2] at hr
  unfold capV at hg
  simp only at hg hr
  have hq1 := May_any c
  have hq2 := refMay_any c
  have hq3 := Put_any c hf
  have hq4 := refPut_any c hf
  obtain ⟨T, hT⟩ : ∃ T, strOf (putL c) = T := ⟨_, rfl⟩
  rw [hT] at hq3 hq4
  obtain ⟨mb, hmb⟩ : ∃ b, may c = b := ⟨_, rfl⟩
  rw [hmb] at hq1 hq2
  obtain ⟨cv, p, i, e, r⟩ := c
  unfold capV at hq1 hq2 hq3 hq4 ⊢
  simp only at hq1 hq2 hq3 hq4 ⊢
  replace hq1 := Lib.hid hq1
  replace hq2 := Lib.hid hq2
  replace hq3 := Lib.hid hq3
  replace hq4 := Lib.hid hq4
  have Hg := Lib.hid hg
  have Hr := Lib.hid hr
  clear hg hr hT hmb e1 e2 hf hA
  go_enter Try.func3, Try.ntmps3
  go_wp2_with fail
  refine (Hg.out _).mono ?_
  rintro e' w1 ⟨rfl, hb1⟩
  have hc1 : BlkIs w1 w.heap.size 24 #[.int .i64 cv, .int .u64 (p : Int), .int .u64 (i : Int), .bool e, .int .i64 r] := (BlkIs.made w 24 _).kept hb1 (by simp)
  have hB1 : Below w.heap.size w w1 := gr_call (by (repeat' (first | exact Below.refl _ _ | assumption | refine gr_drew ?_ | refine gr_drewN ?_ _ | refine gr_alloc ?_ _ | refine gr_set ?_ ?_ _ | refine gr_call ?_ (by assumption)) <;> (try (simp; done)) <;> (try (simp; omega)) <;> (try omega))) hb1
  clear hb1 Hg
  go_wp2_with fail
  refine (Hr.out _).mono ?_
  rintro e' w2 ⟨rfl, hb2⟩
  have hx2 : BlkIs w2 w1.heap.size 24 #[.int .i64 xv, .int .u64 (xp : Int), .int .u64 (xi : Int), .bool xe, .int .i64 xr] := (BlkIs.made w1 24 _).kept hb2 (by simp)
  have hb12 : Below w1.heap.size w1 w2 := gr_call (gr_alloc (Below.refl _ _) _) hb2
  have hc2 := hc1.kept hb12 hc1.size
  have hB2 := gr_call hB1 hb12
  clear hb2 hb12 hc1 hB1 Hr
  go_upto_region 5 with fail
  have hy3 := BlkIs.made w2 29 #[.int .i64 xv, .int .u64 (xp : Int), .int .u64 (xi : Int), .bool xe, .int .i64 xr, .bool ok]
  have hx3 := hx2.alloc (.cells #[.int .i64 xv, .int .u64 (xp : Int), .int .u64 (xi : Int), .bool xe, .int .i64 xr, .bool ok] 29)
  have hc3 := hc2.alloc (.cells #[.int .i64 xv, .int .u64 (xp : Int), .int .u64 (xi : Int), .bool xe, .int .i64 xr, .bool ok] 29)
  have hB3 := gr_alloc hB2 (.cells #[.int .i64 xv, .int .u64 (xp : Int), .int .u64 (xi : Int), .bool xe, .int .i64 xr, .bool ok] 29)
  obtain ⟨w3, hw3⟩ : ∃ w3, w2.alloc (.cells #[.int .i64 xv, .int .u64 (xp : Int), .int .u64 (xi : Int), .bool xe, .int .i64 xr, .bool ok] 29) = w3 := ⟨_, rfl⟩
  obtain ⟨gc, hgc⟩ : ∃ g, w.heap.size = g := ⟨_, rfl⟩
  obtain ⟨gx, hgx⟩ : ∃ g, w1.heap.size = g := ⟨_, rfl⟩
  obtain ⟨gy, hgy⟩ : ∃ g, w2.heap.size = g := ⟨_, rfl⟩
  rw [hw3] at hy3 hx3 hc3 hB3 ⊢
  rw [hgc] at hc3 ⊢
  rw [hgx] at hx3 ⊢
  rw [hgy] at hy3 ⊢
  have hsame : (T.toList == T.toList) = true := by simp
  clear hc2 hx2 hB2 hw3
  refine region_lastqgL (S := fun W => Below w.heap.size w W ∧ BlkIs W gc 24 #[.int .i64 cv, .int .u64 (p : Int), .int .u64 (i : Int), .bool e, .int .i64 r] ∧ BlkIs W gx 24 #[.int .i64 xv, .int .u64 (xp : Int), .int .u64 (xi : Int), .bool xe, .int .i64 xr] ∧ BlkIs W gy 29 #[.int .i64 xv, .int .u64 (xp : Int), .int .u64 (xi : Int), .bool xe, .int .i64 xr, .bool ok]) 27
    [(fun W v => v = .agg #[.int .i64 cv, .int .u64 (p : Int), .int .u64 (i : Int), .bool e, .int .i64 r]),
     (fun W v => v = .bool mb),
     (fun W v => v = .agg #[.int .i64 cv, .int .u64 (p : Int), .int .u64 (i : Int), .bool e, .int .i64 r]),
     (fun W v => v = .bool mb),
     (fun W v => v = .bool true),
     (fun W v => v = .bool true),
     (fun W v => v = .agg #[.int .i64 cv, .int .u64 (p : Int), .int .u64 (i : Int), .bool e, .int .i64 r]),
     (fun W v => v = .string T),
     (fun W v => v = .agg #[.int .i64 cv, .int .u64 (p : Int), .int .u64 (i : Int), .bool e, .int .i64 r]),
     (fun W v => v = .string T),
     (fun W v => v = .bool true),
     (fun W v => v = .bool true),
     (fun W v => v = .bool true),
     (fun W v => v = .agg #[.int .i64 xv, .int .u64 (xp : Int), .int .u64 (xi : Int), .bool xe, .int .i64 xr]),
     (fun W v => v = .pointer (some ⟨gy, 0, none⟩)),
     (fun W v => v = .agg #[.int .i64 xv, .int .u64 (xp : Int), .int .u64 (xi : Int), .bool xe, .int .i64 xr]),
     (fun W v => v = .bool true),
     (fun W v => v = .bool true),
     (fun W v => v = .bool true),
     (fun W v => v = .bool ok),
     (fun W v => v = .pointer (some ⟨gy, 5, none⟩)),
     (fun W v => v = .bool ok),
     (fun W v => v = .bool true),
     (fun W v => v = .bool true),
     (fun W v => v = .bool true),
     (fun W v => v = .bool true),
     (fun W v => v = .bool true)] (by rfl) (by kernel_rfl) (by kernel_rfl) (by kernel_rfl) (by kernel_rfl) (by rfl) (by kernel_rfl) ?hS ?hp ?hs ?he
  case hS => exact ⟨gr_drew hB3, hc3, hx3, hy3⟩
  case hp => repeat' (first | exact trivial | refine ⟨fun _ _ _ _ h => h, ?_⟩)
  case hs =>
    simp only [List.take_succ_cons, List.take_zero]
    clear hB3 hc3 hx3 hy3
    refine ⟨?_, ?_, ?_, ?_, ?_, ?_, ?_, ?_, ?_, ?_, ?_, ?_, ?_, ?_, ?_, ?_, ?_, ?_, ?_, ?_, ?_, ?_, ?_, ?_, ?_, ?_, ?_, trivial⟩
    · refine ⟨met_none rfl, ?_⟩
      intro a W K hS hd hf hK
      have e2 : a.tmps.getD 2 undef = .pointer (some ⟨gc, 0, none⟩) := hf 2 (by kernel_rfl)
      have c0 := hS.2.1.cell_some 0 _ rfl
      have c1 := hS.2.1.cell_some 1 _ rfl
      have c2 := hS.2.1.cell_some 2 _ rfl
      have c3 := hS.2.1.cell_some 3 _ rfl
      have c4 := hS.2.1.cell_some 4 _ rfl
      clear hd hf
      go_simp
      exact hK _ _ (Below.refl _ _) hS rfl
    · refine ⟨met_none rfl, ?_⟩
      intro a W K hS hd hf hK
      have e19 : a.tmps.getD 19 undef = .agg #[.int .i64 cv, .int .u64 (p : Int), .int .u64 (i : Int), .bool e, .int .i64 r] := hd ⟨0, .data⟩ (by simp) rfl
      clear hd hf
      go_simp
      go_at_call 10
      refine (hq1.out _).mono ?_
      rintro e w1 ⟨rfl, hb⟩
      exact hK _ _ hb (⟨gr_call hS.1 hb, hS.2.1.kept hb hS.2.1.size, hS.2.2.1.kept hb hS.2.2.1.size, hS.2.2.2.kept hb hS.2.2.2.size⟩) rfl
    · refine ⟨met_none rfl, ?_⟩
      intro a W K hS hd hf hK
      have e2 : a.tmps.getD 2 undef = .pointer (some ⟨gc, 0, none⟩) := hf 2 (by kernel_rfl)
      have c0 := hS.2.1.cell_some 0 _ rfl
      have c1 := hS.2.1.cell_some 1 _ rfl
      have c2 := hS.2.1.cell_some 2 _ rfl
      have c3 := hS.2.1.cell_some 3 _ rfl
      have c4 := hS.2.1.cell_some 4 _ rfl
      clear hd hf
      go_simp
      exact hK _ _ (Below.refl _ _) hS rfl
    · refine ⟨met_none rfl, ?_⟩
      intro a W K hS hd hf hK
      have e21 : a.tmps.getD 21 undef = .agg #[.int .i64 cv, .int .u64 (p : Int), .int .u64 (i : Int), .bool e, .int .i64 r] := hd ⟨2, .data⟩ (by simp) rfl
      clear hd hf
      go_simp
      go_at_call 11
      refine (hq2.out _).mono ?_
      rintro e w1 ⟨rfl, hb⟩
      exact hK _ _ hb (⟨gr_call hS.1 hb, hS.2.1.kept hb hS.2.1.size, hS.2.2.1.kept hb hS.2.2.1.size, hS.2.2.2.kept hb hS.2.2.2.size⟩) rfl
    · refine ⟨met_none rfl, ?_⟩
      intro a W K hS hd hf hK
      have e20 : a.tmps.getD 20 undef = .bool mb := hd ⟨1, .data⟩ (by simp) rfl
      have e22 : a.tmps.getD 22 undef = .bool mb := hd ⟨3, .data⟩ (by simp) rfl
      have hself := beq_self
      clear hd hf
      go_simp
      exact hK _ _ (Below.refl _ _) hS rfl
    · refine ⟨met_none rfl, ?_⟩
      intro a W K hS hd hf hK
      have e23 : a.tmps.getD 23 undef = .bool true := hd ⟨4, .data⟩ (by simp) rfl
      clear hd hf
      go_simp
      exact hK _ _ (Below.refl _ _) hS rfl
    · refine ⟨met_some 5 true rfl (fun w v h => h), ?_⟩
      intro a W K hS hd hf hK
      have e2 : a.tmps.getD 2 undef = .pointer (some ⟨gc, 0, none⟩) := hf 2 (by kernel_rfl)
      have c0 := hS.2.1.cell_some 0 _ rfl
      have c1 := hS.2.1.cell_some 1 _ rfl
      have c2 := hS.2.1.cell_some 2 _ rfl
      have c3 := hS.2.1.cell_some 3 _ rfl
      have c4 := hS.2.1.cell_some 4 _ rfl
      clear hd hf
      go_simp
      exact hK _ _ (Below.refl _ _) hS rfl
    · refine ⟨met_some 5 true rfl (fun w v h => h), ?_⟩
      intro a W K hS hd hf hK
      have e25 : a.tmps.getD 25 undef = .agg #[.int .i64 cv, .int .u64 (p : Int), .int .u64 (i : Int), .bool e, .int .i64 r] := hd ⟨6, .data⟩ (by simp) rfl
      clear hd hf
      go_simp
      go_at_call 12
      refine (hq3.out _).mono ?_
      rintro e w1 ⟨rfl, hb⟩
      exact hK _ _ hb (⟨gr_call hS.1 hb, hS.2.1.kept hb hS.2.1.size, hS.2.2.1.kept hb hS.2.2.1.size, hS.2.2.2.kept hb hS.2.2.2.size⟩) rfl
    · refine ⟨met_some 5 true rfl (fun w v h => h), ?_⟩
      intro a W K hS hd hf hK
      have e2 : a.tmps.getD 2 undef = .pointer (some ⟨gc, 0, none⟩) := hf 2 (by kernel_rfl)
      have c0 := hS.2.1.cell_some 0 _ rfl
      have c1 := hS.2.1.cell_some 1 _ rfl
      have c2 := hS.2.1.cell_some 2 _ rfl
      have c3 := hS.2.1.cell_some 3 _ rfl
      have c4 := hS.2.1.cell_some 4 _ rfl
      clear hd hf
      go_simp
      exact hK _ _ (Below.refl _ _) hS rfl
    · refine ⟨met_some 5 true rfl (fun w v h => h), ?_⟩
      intro a W K hS hd hf hK
      have e27 : a.tmps.getD 27 undef = .agg #[.int .i64 cv, .int .u64 (p : Int), .int .u64 (i : Int), .bool e, .int .i64 r] := hd ⟨8, .data⟩ (by simp) rfl
      clear hd hf
      go_simp
      go_at_call 13
      refine (hq4.out _).mono ?_
      rintro e w1 ⟨rfl, hb⟩
      exact hK _ _ hb (⟨gr_call hS.1 hb, hS.2.1.kept hb hS.2.1.size, hS.2.2.1.kept hb hS.2.2.1.size, hS.2.2.2.kept hb hS.2.2.2.size⟩) rfl
    · refine ⟨met_some 5 true rfl (fun w v h => h), ?_⟩
      intro a W K hS hd hf hK
      have e26 : a.tmps.getD 26 undef = .string T := hd ⟨7, .data⟩ (by simp) rfl
      have e28 : a.tmps.getD 28 undef = .string T := hd ⟨9, .data⟩ (by simp) rfl
      clear hd hf
      go_simp
      exact hK _ _ (Below.refl _ _) hS rfl
    · refine ⟨met_none rfl, ?_⟩
      intro a W K hS hd hf hK
      have e24 : a.tmps.getD 24 undef = .bool true := hd ⟨5, .data⟩ (by simp) rfl
      have e29 : a.tmps.getD 29 undef = .bool true := hd ⟨10, .data⟩ (by simp) rfl
      clear hd hf
      go_simp
      exact hK _ _ (Below.refl _ _) hS rfl
    · refine ⟨met_none rfl, ?_⟩
      intro a W K hS hd hf hK
      have e30 : a.tmps.getD 30 undef = .bool true := hd ⟨11, .data⟩ (by simp) rfl
      clear hd hf
      go_simp
      exact hK _ _ (Below.refl _ _) hS rfl
    · refine ⟨met_some 12 true rfl (fun w v h => h), ?_⟩
      intro a W K hS hd hf hK
      have e5 : a.tmps.getD 5 undef = .pointer (some ⟨gx, 0, none⟩) := hf 5 (by kernel_rfl)
      have c0 := hS.2.2.1.cell_some 0 _ rfl
      have c1 := hS.2.2.1.cell_some 1 _ rfl
      have c2 := hS.2.2.1.cell_some 2 _ rfl
      have c3 := hS.2.2.1.cell_some 3 _ rfl
      have c4 := hS.2.2.1.cell_some 4 _ rfl
      clear hd hf
      go_simp
      exact hK _ _ (Below.refl _ _) hS rfl
    · refine ⟨met_some 12 true rfl (fun w v h => h), ?_⟩
      intro a W K hS hd hf hK
      have e7 : a.tmps.getD 7 undef = .pointer (some ⟨gy, 0, none⟩) := hf 7 (by kernel_rfl)
      clear hd hf
      go_simp
      exact hK _ _ (Below.refl _ _) hS rfl
    · refine ⟨met_some 12 true rfl (fun w v h => h), ?_⟩
      intro a W K hS hd hf hK
      have e33 : a.tmps.getD 33 undef = .pointer (some ⟨gy, 0, none⟩) := hd ⟨14, .data⟩ (by simp) rfl
      have c0 := hS.2.2.2.cell_some 0 _ rfl
      have c1 := hS.2.2.2.cell_some 1 _ rfl
      have c2 := hS.2.2.2.cell_some 2 _ rfl
      have c3 := hS.2.2.2.cell_some 3 _ rfl
      have c4 := hS.2.2.2.cell_some 4 _ rfl
      have c5 := hS.2.2.2.cell_some 5 _ rfl
      clear hd hf
      go_simp
      exact hK _ _ (Below.refl _ _) hS rfl
    · refine ⟨met_some 12 true rfl (fun w v h => h), ?_⟩
      intro a W K hS hd hf hK
      have e32 : a.tmps.getD 32 undef = .agg #[.int .i64 xv, .int .u64 (xp : Int), .int .u64 (xi : Int), .bool xe, .int .i64 xr] := hd ⟨13, .data⟩ (by simp) rfl
      have e34 : a.tmps.getD 34 undef = .agg #[.int .i64 xv, .int .u64 (xp : Int), .int .u64 (xi : Int), .bool xe, .int .i64 xr] := hd ⟨15, .data⟩ (by simp) rfl
      clear hd hf
      go_simp
      exact hK _ _ (Below.refl _ _) hS rfl
    · refine ⟨met_none rfl, ?_⟩
      intro a W K hS hd hf hK
      have e31 : a.tmps.getD 31 undef = .bool true := hd ⟨12, .data⟩ (by simp) rfl
      have e35 : a.tmps.getD 35 undef = .bool true := hd ⟨16, .data⟩ (by simp) rfl
      clear hd hf
      go_simp
      exact hK _ _ (Below.refl _ _) hS rfl
    · refine ⟨met_none rfl, ?_⟩
      intro a W K hS hd hf hK
      have e36 : a.tmps.getD 36 undef = .bool true := hd ⟨17, .data⟩ (by simp) rfl
      clear hd hf
      go_simp
      exact hK _ _ (Below.refl _ _) hS rfl
    · refine ⟨met_some 18 true rfl (fun w v h => h), ?_⟩
      intro a W K hS hd hf hK
      have e6 : a.tmps.getD 6 undef = .bool ok := hf 6 (by kernel_rfl)
      clear hd hf
      go_simp
      exact hK _ _ (Below.refl _ _) hS rfl
    · refine ⟨met_some 18 true rfl (fun w v h => h), ?_⟩
      intro a W K hS hd hf hK
      have e7 : a.tmps.getD 7 undef = .pointer (some ⟨gy, 0, none⟩) := hf 7 (by kernel_rfl)
      clear hd hf
      go_simp
      exact hK _ _ (Below.refl _ _) hS rfl
    · refine ⟨met_some 18 true rfl (fun w v h => h), ?_⟩
      intro a W K hS hd hf hK
      have e39 : a.tmps.getD 39 undef = .pointer (some ⟨gy, 5, none⟩) := hd ⟨20, .data⟩ (by simp) rfl
      have c5 := hS.2.2.2.cell_some 5 _ rfl
      clear hd hf
      go_simp
      exact hK _ _ (Below.refl _ _) hS rfl
    · refine ⟨met_some 18 true rfl (fun w v h => h), ?_⟩
      intro a W K hS hd hf hK
      have e38 : a.tmps.getD 38 undef = .bool ok := hd ⟨19, .data⟩ (by simp) rfl
      have e40 : a.tmps.getD 40 undef = .bool ok := hd ⟨21, .data⟩ (by simp) rfl
      have hself := beq_self
      clear hd hf
      go_simp
      exact hK _ _ (Below.refl _ _) hS rfl
    · refine ⟨met_none rfl, ?_⟩
      intro a W K hS hd hf hK
      have e37 : a.tmps.getD 37 undef = .bool true := hd ⟨18, .data⟩ (by simp) rfl
      have e41 : a.tmps.getD 41 undef = .bool true := hd ⟨22, .data⟩ (by simp) rfl
      clear hd hf
      go_simp
      exact hK _ _ (Below.refl _ _) hS rfl
    · refine ⟨met_none rfl, ?_⟩
      intro a W K hS hd hf hK
      have e42 : a.tmps.getD 42 undef = .bool true := hd ⟨23, .data⟩ (by simp) rfl
      clear hd hf
      go_simp
      exact hK _ _ (Below.refl _ _) hS rfl
    · refine ⟨met_some 24 true rfl (fun w v h => h), ?_⟩
      intro a W K hS hd hf hK
      clear hd hf
      go_simp
      go_at_call 7
      refine (haw.out _).mono ?_
      rintro e w1 ⟨rfl, hb⟩
      exact hK _ _ hb (⟨gr_call hS.1 hb, hS.2.1.kept hb hS.2.1.size, hS.2.2.1.kept hb hS.2.2.1.size, hS.2.2.2.kept hb hS.2.2.2.size⟩) rfl
    · refine ⟨met_none rfl, ?_⟩
      intro a W K hS hd hf hK
      have e43 : a.tmps.getD 43 undef = .bool true := hd ⟨24, .data⟩ (by simp) rfl
      have e44 : a.tmps.getD 44 undef = .bool true := hd ⟨25, .data⟩ (by simp) rfl
      clear hd hf
      go_simp
      exact hK _ _ (Below.refl _ _) hS rfl
  case he =>
    intro vals w6 K hS6 hV hK
    have e45 := hV 26 (by omega)
    clear hV
    simp only [List.getD_cons_succ, List.getD_cons_zero] at e45
    have hB6 := hS6.1
    clear hS6 hB3 hc3 hx3 hy3
    refine Later.mk ?_
    simp only [List.append_eq, List.cons_append, List.nil_append, setN, Nat.reduceAdd, List.setIfInBounds_toArray, List.set_cons_succ, List.set_cons_zero]
    rw [e45]
    go_simp
    refine hK _ _ ?_
    clear hK e45
    go_wp2_with fail
    go_ret
    exact ⟨rfl, hB6⟩

theorem capsAll_walk (a0_0 : Int) (a0_1 : Int) (a0_2 : Int) (a0_3 : Bool) (a0_4 : Int) (a1 : ByteArray) (w : World) (w0_0 : (Lit.int .i64 a0_0).wf = true) (w0_1 : (Lit.int .u64 a0_1).wf = true) (w0_2 : (Lit.int .u64 a0_2).wf = true) (w0_4 : (Lit.int .i64 a0_4).wf = true) (w1 : a1.size ≤ maxLen) :
    Calls Try.prog 3 #[.agg #[.int .i64 a0_0, .int .u64 a0_1, .int .u64 a0_2, .bool a0_3, .int .i64 a0_4], .string a1] w fun e w' => e = .returned (.bool true) ∧ Below w.heap.size w w' := by
  have h1 : 0 ≤ a0_1 ∧ a0_1 ≤ 18446744073709551615 := by simpa [Lit.wf, IntKind.min, IntKind.max, IntKind.signed, IntKind.bits] using w0_1
  have h2 : 0 ≤ a0_2 ∧ a0_2 ≤ 18446744073709551615 := by simpa [Lit.wf, IntKind.min, IntKind.max, IntKind.signed, IntKind.bits] using w0_2
  obtain ⟨p, rfl⟩ : ∃ k : Nat, a0_1 = (k : Int) := ⟨a0_1.toNat, by omega⟩
  obtain ⟨i, rfl⟩ : ∃ k : Nat, a0_2 = (k : Int) := ⟨a0_2.toNat, by omega⟩
  exact all_case ⟨a0_0, p, i, a0_3, a0_4⟩ ⟨by show p < _; omega, by show i < _; omega⟩ a1 w
end Go.Proofs.Ytijagjahocjaaaa
