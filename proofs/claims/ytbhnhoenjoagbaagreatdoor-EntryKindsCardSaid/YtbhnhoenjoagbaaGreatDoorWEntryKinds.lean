/- The law EntryKinds, walked. -/
import Derived.Test.YtbhnhoenjoagbaaGreatDoorPk29
import Derived.Test.YtbhnhoenjoagbaaGreatDoorPk30
import Derived.Deep.CutBlock
namespace Go.Proofs.YtbhnhoenjoagbaaGreatDoor
open Go.RowKit
open MetaM PathM EntM
set_option linter.unusedVariables false

theorem ks_row (w : World) : IsRow .u8 (w.alloc (.cells #[.int .u8 1, .int .u8 2, .int .u8 3] 5)) (some ⟨w.heap.size, 0, none⟩) 3 3 KS := by
  refine .inr ⟨⟨w.heap.size, 0, none⟩, rfl, Nat.le_refl _, by unfold maxLen; omega, rfl, fun i hi => ?_, fun q hq => ?_⟩
  · have hi : i < 3 := hi
    have h3 : i = 0 ∨ i = 1 ∨ i = 2 := by omega
    rcases h3 with rfl | rfl | rfl <;> simp [KS, World.cell?_alloc_new, Addr.add]
  · have h3 : q = 1 ∨ q = 2 ∨ q = 3 := by simpa [KS] using hq
    rcases h3 with rfl | rfl | rfl <;> decide
attribute [local irreducible] Row At

set_option maxHeartbeats 6400000 in
set_option maxRecDepth 100000 in
theorem entryKinds_walk (kd wh : Int) (w : World) (hA : Amb w) (w0 : (Lit.int .u8 kd).wf = true) (w1 : (Lit.int .u8 wh).wf = true) :
    Calls Tryz.prog 9 #[.int .u8 kd, .int .u8 wh] w fun e w' => e = .returned (.bool true) ∧ Below w.heap.size w w' := by
  have hh : 0 ≤ kd ∧ kd < 256 := by simp [Lit.wf] at w0; have h1 : IntKind.u8.min = 0 := rfl; have h2 : IntKind.u8.max = 255 := rfl; omega
  have hd : 0 ≤ wh ∧ wh < 256 := by simp [Lit.wf] at w1; have h1 : IntKind.u8.min = 0 := rfl; have h2 : IntKind.u8.max = 255 := rfl; omega
  have HA := Lib.hid (fun W (h : Below w.heap.size w W) => hA.on h)
  have w5 : IntKind.i64.wrap kd = kd := by rw [IntKind.wrap_i64]; omega
  have w6 : kd.tmod 7 = kd % 7 := Int.tmod_eq_emod_of_nonneg hh.1
  obtain ⟨k, hkk⟩ : ∃ k : Int, 1 + kd % 7 = k := ⟨_, rfl⟩
  have hk : 1 ≤ k ∧ k ≤ 7 := by omega
  have w7 : IntKind.i64.wrap (1 + kd % 7) = k := by rw [IntKind.wrap_i64]; omega
  have w9 : wh.tmod 5 = wh % 5 := Int.tmod_eq_emod_of_nonneg hd.1
  have h5 : 0 ≤ wh % 5 ∧ wh % 5 < 5 := by omega
  have hP : pathOk (⟨#[112, 47, 113]⟩ : ByteArray).data.toList = true := by decide
  have hPs : (⟨#[112, 47, 113]⟩ : ByteArray).size ≤ 1000 := by decide
  clear w0 w1 hh hd hkk hA
  go_enter Tryz.func9, Tryz.ntmps9
  go_upto_region 2 with fail
  go_wp2_with fail
  have hbl1 : Below w.heap.size w (w.alloc (.cells #[.int .u8 1, .int .u8 2, .int .u8 3] 5)) := gr_alloc (Below.refl _ _) _
  refine (make15_any k ⟨#[112, 47, 113]⟩ _ 3 3 KS _ (ks_row w) (by decide) hk).mono ?_
  rintro e w2 ⟨⟨E, va, vd, vx, rfl, hMA, ⟨hM, hX⟩, hG⟩, hb2⟩
  replace hbl1 := gr_call hbl1 hb2
  replace hX : MoreE E k 1 := hX
  clear hb2 w5 w6 w7
  obtain ⟨pa, ca, rfl, _⟩ := hMA.acl.shape
  obtain ⟨pd, cd, rfl, _⟩ := hMA.dfl.shape
  obtain ⟨px, cx, rfl, _⟩ := hMA.xat.shape
  obtain ⟨na, hna⟩ : ∃ n, E.m.acl.length = n := ⟨_, rfl⟩
  obtain ⟨nd, hnd⟩ : ∃ n, E.m.dfl.length = n := ⟨_, rfl⟩
  obtain ⟨nx, hnx⟩ : ∃ n, E.m.xat.length = n := ⟨_, rfl⟩
  rw [hna, hnd, hnx] at hMA ⊢
  clear hna hnd hnx
  have HMA := Lib.hid hMA
  have HTF := Lib.hid (fun (F : En) (b : Bool) (h : TurnK E F b) W (hb : Below w2.heap.size w2 W) (hm : F.m.acl = E.m.acl ∧ F.m.dfl = E.m.dfl ∧ F.m.xat = E.m.xat) =>
    MayE_any F (.slice pa na ca) (.slice pd nd cd) (.slice px nx cx) W (HA.out W (gr_call hbl1 hb)) (by
      have h1 := HMA.out.call hb
      exact ⟨by rw [hm.1]; exact h1.acl, by rw [hm.2.1]; exact h1.dfl, by rw [hm.2.2]; exact h1.xat, by rw [hm.1]; exact h1.la, by rw [hm.2.1]; exact h1.ld, by rw [hm.2.2]; exact h1.lx⟩) h.psz h.tsz h.fits h.short)
  have HME := Lib.hid (fun W (hb : Below w2.heap.size w2 W) => MayE_any E (.slice pa na ca) (.slice pd nd cd) (.slice px nx cx) W (HA.out W (gr_call hbl1 hb)) (HMA.out.call hb) (by rw [hM.path]; omega) (by have := hM.target.2; omega) (by rw [hM.met]; exact ks_cap k) (fun _ _ _ => base_short hM hG hPs))
  rw [base hM hG hP hPs hk] at HME
  unfold entC at HME ⊢
  unfold entC at HTF
  clear hMA
  have hS := Lib.hid (fun (F : En) (b : Bool) (h : TurnK E F b) W (hb : Below w2.heap.size w2 W) (hm : F.m.acl = E.m.acl ∧ F.m.dfl = E.m.dfl ∧ F.m.xat = E.m.xat) => by
    have hs := SameE_any E F (.slice pa na ca) (.slice pd nd cd) (.slice px nx cx) (.slice pa na ca) (.slice pd nd cd) (.slice px nx cx) W (HMA.out.call hb) (by
      have h1 := HMA.out.call hb
      exact ⟨by rw [hm.1]; exact h1.acl, by rw [hm.2.1]; exact h1.dfl, by rw [hm.2.2]; exact h1.xat, by rw [hm.1]; exact h1.la, by rw [hm.2.1]; exact h1.ld, by rw [hm.2.2]; exact h1.lx⟩)
    rw [h.same] at hs
    unfold entC at hs
    exact hs)
  go_upto_region 3 with (with_reducible (show wpList _ _ _ (Oper.mk _ (Op.store 39 _ _) _ _ _ _ :: _) _ _); refine wpList_storeN rfl 39 (.tmp 6) (.tmp 15) rfl #[.string ⟨#[]⟩, .int .i64 0, .int .i64 0, .int .i64 0, .int .i64 0, .int .i64 0, .int .i64 0, .slice none 0 0, .slice none 0 0, .slice none 0 0, .int .i64 0, .int .u64 0, .int .u64 0, .bool false, .int .i64 0, .int .i64 0, .string ⟨#[]⟩, .string ⟨#[]⟩, .int .i64 0, .int .i64 0] #[.string E.path, .int .i64 E.kind, .int .i64 E.m.mode, .int .i64 E.m.uid, .int .i64 E.m.gid, .int .i64 E.m.sec, .int .i64 E.m.nano, .slice pa na ca, .slice pd nd cd, .slice px nx cx, .int .i64 E.m.cap.v, .int .u64 (E.m.cap.p : Int), .int .u64 (E.m.cap.i : Int), .bool E.m.cap.e, .int .i64 E.m.cap.r, .int .i64 E.m.flags, .string E.data, .string E.target, .int .i64 E.major, .int .i64 E.minor] (by simp [Act.eval, go_sem]) (by simp [Act.eval, go_sem]) (by kernel_rfl) rfl (by kernel_rfl) ?_)
  obtain ⟨g6, hg6⟩ : ∃ g, w2.heap.size = g := ⟨_, rfl⟩
  obtain ⟨W3, hW3⟩ : ∃ W, w2.alloc (.cells #[.string E.path, .int .i64 E.kind, .int .i64 E.m.mode, .int .i64 E.m.uid, .int .i64 E.m.gid, .int .i64 E.m.sec, .int .i64 E.m.nano, .slice pa na ca, .slice pd nd cd, .slice px nx cx, .int .i64 E.m.cap.v, .int .u64 (E.m.cap.p : Int), .int .u64 (E.m.cap.i : Int), .bool E.m.cap.e, .int .i64 E.m.cap.r, .int .i64 E.m.flags, .string E.data, .string E.target, .int .i64 E.major, .int .i64 E.minor] 39) = W := ⟨_, rfl⟩
  have q6 : BlkIs W3 g6 39 #[.string E.path, .int .i64 E.kind, .int .i64 E.m.mode, .int .i64 E.m.uid, .int .i64 E.m.gid, .int .i64 E.m.sec, .int .i64 E.m.nano, .slice pa na ca, .slice pd nd cd, .slice px nx cx, .int .i64 E.m.cap.v, .int .u64 (E.m.cap.p : Int), .int .u64 (E.m.cap.i : Int), .bool E.m.cap.e, .int .i64 E.m.cap.r, .int .i64 E.m.flags, .string E.data, .string E.target, .int .i64 E.major, .int .i64 E.minor] := by rw [← hW3, ← hg6]; exact BlkIs.made _ _ _
  have hbq : Below w2.heap.size w2 W3 := by rw [← hW3]; exact gr_alloc (Below.refl _ _) _
  have h62 : w2.heap.size ≤ g6 := by omega
  rw [hW3, hg6]
  clear hW3 hg6
  go_wp2_with (with_reducible (show wpList _ _ _ (Oper.mk _ (Op.load 39 _) _ _ _ _ :: _) _ _); refine wpList_loadB (by simp [Region.wanted, yielded, go_sem]) 39 (.tmp 6) rfl g6 (by simp [Act.eval, go_sem]) 39 _ q6 (by kernel_rfl) (by kernel_rfl) ?_)
  refine (HME.out _ hbq).mono ?_
  rintro e w4 ⟨rfl, hb4⟩
  replace q6 := q6.kept hb4 q6.size
  replace hbq := gr_call hbq hb4
  clear hb4 HME
  go_upto_region 6 with (first | (with_reducible (show wpList _ _ _ (Oper.mk _ (Op.load 39 _) _ _ _ _ :: _) _ _); refine wpList_loadB (by simp [Region.wanted, yielded, go_sem]) 39 (.tmp 6) rfl g6 (by simp [Act.eval, go_sem]) 39 _ q6 (by kernel_rfl) (by kernel_rfl) ?_) | (with_reducible (show wpList _ _ _ (Oper.mk _ (Op.store 39 _ _) _ _ _ _ :: _) _ _); refine wpList_storeN rfl 39 (.tmp 7) (.tmp 19) rfl #[.string ⟨#[]⟩, .int .i64 0, .int .i64 0, .int .i64 0, .int .i64 0, .int .i64 0, .int .i64 0, .slice none 0 0, .slice none 0 0, .slice none 0 0, .int .i64 0, .int .u64 0, .int .u64 0, .bool false, .int .i64 0, .int .i64 0, .string ⟨#[]⟩, .string ⟨#[]⟩, .int .i64 0, .int .i64 0] #[.string E.path, .int .i64 E.kind, .int .i64 E.m.mode, .int .i64 E.m.uid, .int .i64 E.m.gid, .int .i64 E.m.sec, .int .i64 E.m.nano, .slice pa na ca, .slice pd nd cd, .slice px nx cx, .int .i64 E.m.cap.v, .int .u64 (E.m.cap.p : Int), .int .u64 (E.m.cap.i : Int), .bool E.m.cap.e, .int .i64 E.m.cap.r, .int .i64 E.m.flags, .string E.data, .string E.target, .int .i64 E.major, .int .i64 E.minor] (by simp [Act.eval, go_sem]) (by simp [Act.eval, go_sem]) (by kernel_rfl) rfl (by kernel_rfl) ?_))
  obtain ⟨g7, hg7⟩ : ∃ g, w4.heap.size = g := ⟨_, rfl⟩
  obtain ⟨W5, hW5⟩ : ∃ W, w4.alloc (.cells #[.string E.path, .int .i64 E.kind, .int .i64 E.m.mode, .int .i64 E.m.uid, .int .i64 E.m.gid, .int .i64 E.m.sec, .int .i64 E.m.nano, .slice pa na ca, .slice pd nd cd, .slice px nx cx, .int .i64 E.m.cap.v, .int .u64 (E.m.cap.p : Int), .int .u64 (E.m.cap.i : Int), .bool E.m.cap.e, .int .i64 E.m.cap.r, .int .i64 E.m.flags, .string E.data, .string E.target, .int .i64 E.major, .int .i64 E.minor] 39) = W := ⟨_, rfl⟩
  have q7 : BlkIs W5 g7 39 #[.string E.path, .int .i64 E.kind, .int .i64 E.m.mode, .int .i64 E.m.uid, .int .i64 E.m.gid, .int .i64 E.m.sec, .int .i64 E.m.nano, .slice pa na ca, .slice pd nd cd, .slice px nx cx, .int .i64 E.m.cap.v, .int .u64 (E.m.cap.p : Int), .int .u64 (E.m.cap.i : Int), .bool E.m.cap.e, .int .i64 E.m.cap.r, .int .i64 E.m.flags, .string E.data, .string E.target, .int .i64 E.major, .int .i64 E.minor] := by rw [← hW5, ← hg7]; exact BlkIs.made _ _ _
  have h67 : g6 < g7 := by rw [← hg7]; exact q6.size
  replace q6 : BlkIs W5 g6 39 #[.string E.path, .int .i64 E.kind, .int .i64 E.m.mode, .int .i64 E.m.uid, .int .i64 E.m.gid, .int .i64 E.m.sec, .int .i64 E.m.nano, .slice pa na ca, .slice pd nd cd, .slice px nx cx, .int .i64 E.m.cap.v, .int .u64 (E.m.cap.p : Int), .int .u64 (E.m.cap.i : Int), .bool E.m.cap.e, .int .i64 E.m.cap.r, .int .i64 E.m.flags, .string E.data, .string E.target, .int .i64 E.major, .int .i64 E.minor] := by rw [← hW5]; exact q6.alloc _
  replace hbq : Below w2.heap.size w2 W5 := by rw [← hW5]; exact gr_alloc hbq _
  rw [hW5, hg7]
  clear hW5 hg7
  go_upto_block 0 with fail
  go_cut [8] from 22 to 53 (fun ov wx => ∃ (F : En) (b : Bool), ov = .bool b ∧ BlkIs wx g7 39 #[.string F.path, .int .i64 F.kind, .int .i64 F.m.mode, .int .i64 F.m.uid, .int .i64 F.m.gid, .int .i64 F.m.sec, .int .i64 F.m.nano, .slice pa na ca, .slice pd nd cd, .slice px nx cx, .int .i64 F.m.cap.v, .int .u64 (F.m.cap.p : Int), .int .u64 (F.m.cap.i : Int), .bool F.m.cap.e, .int .i64 F.m.cap.r, .int .i64 F.m.flags, .string F.data, .string F.target, .int .i64 F.major, .int .i64 F.minor] ∧ BlkIs wx g6 39 #[.string E.path, .int .i64 E.kind, .int .i64 E.m.mode, .int .i64 E.m.uid, .int .i64 E.m.gid, .int .i64 E.m.sec, .int .i64 E.m.nano, .slice pa na ca, .slice pd nd cd, .slice px nx cx, .int .i64 E.m.cap.v, .int .u64 (E.m.cap.p : Int), .int .u64 (E.m.cap.i : Int), .bool E.m.cap.e, .int .i64 E.m.cap.r, .int .i64 E.m.flags, .string E.data, .string E.target, .int .i64 E.major, .int .i64 E.minor] ∧ Below w2.heap.size w2 wx ∧ TurnK E F b ∧ (F.m.acl = E.m.acl ∧ F.m.dfl = E.m.dfl ∧ F.m.xat = E.m.xat))
  case first =>
    have hcc : wh % 5 = 0 ∨ wh % 5 = 1 ∨ wh % 5 = 2 ∨ wh % 5 = 3 ∨ wh % 5 = 4 := by omega
    rcases hcc with hc | hc | hc | hc | hc
    · have y0 : (wh % 5 == 0) = true := by rw [hc]; rfl
      have HT := Lib.hid (turn0 hM hX hG hP hPs hk)
      have c0 := q7.cell_some 16 _ rfl
      have f0 := q7.free 16
      have HQ7 := Lib.hid (q7.put 16 (.string ⟨#[120]⟩))
      have HQ6 := Lib.hid (q6.other (p := ⟨g7, 16, none⟩) (by show g6 ≠ g7; omega) (.string ⟨#[120]⟩))
      have HBQ := Lib.hid (gr_set hbq (p := ⟨g7, 16, none⟩) (by show w2.heap.size ≤ g7; omega) (.string ⟨#[120]⟩))
      clear hc hM hX hG hP hPs
      go_wp2_with fail
      go_meet
      exact ⟨{ E with data := ⟨#[120]⟩ }, _, rfl, HQ7.out, HQ6.out, HBQ.out, HT.out, rfl, rfl, rfl⟩
    · have y0 : (wh % 5 == 0) = false := by rw [hc]; rfl
      have y1 : (wh % 5 == 1) = true := by rw [hc]; rfl
      have HT := Lib.hid (turn1 hM hX hG hP hPs hk)
      have c0 := q7.cell_some 17 _ rfl
      have f0 := q7.free 17
      have HQ7 := Lib.hid (q7.put 17 (.string ⟨#[116]⟩))
      have HQ6 := Lib.hid (q6.other (p := ⟨g7, 17, none⟩) (by show g6 ≠ g7; omega) (.string ⟨#[116]⟩))
      have HBQ := Lib.hid (gr_set hbq (p := ⟨g7, 17, none⟩) (by show w2.heap.size ≤ g7; omega) (.string ⟨#[116]⟩))
      clear hc hM hX hG hP hPs
      rcases yk : (k == 2) with _ | _
      · rw [yk] at HT
        go_wp2_with fail
        go_meet
        exact ⟨{ E with target := ⟨#[116]⟩ }, _, rfl, HQ7.out, HQ6.out, HBQ.out, HT.out, rfl, rfl, rfl⟩
      · rw [yk] at HT
        go_wp2_with fail
        go_meet
        exact ⟨{ E with target := ⟨#[116]⟩ }, _, rfl, HQ7.out, HQ6.out, HBQ.out, HT.out, rfl, rfl, rfl⟩
    · have y0 : (wh % 5 == 0) = false := by rw [hc]; rfl
      have y1 : (wh % 5 == 1) = false := by rw [hc]; rfl
      have y2 : (wh % 5 == 2) = true := by rw [hc]; rfl
      have HT := Lib.hid (turn2 hM hX hG hP hPs hk)
      have c0 := q7.cell_some 18 _ rfl
      have f0 := q7.free 18
      have HQ7 := Lib.hid (q7.put 18 (.int .i64 7))
      have HQ6 := Lib.hid (q6.other (p := ⟨g7, 18, none⟩) (by show g6 ≠ g7; omega) (.int .i64 7))
      have HBQ := Lib.hid (gr_set hbq (p := ⟨g7, 18, none⟩) (by show w2.heap.size ≤ g7; omega) (.int .i64 7))
      clear hc hM hX hG hP hPs
      rcases yk : (k == 4) with _ | _
      · rw [yk] at HT
        go_wp2_with fail
        go_meet
        exact ⟨{ E with major := 7 }, _, rfl, HQ7.out, HQ6.out, HBQ.out, HT.out, rfl, rfl, rfl⟩
      · rw [yk] at HT
        go_wp2_with fail
        go_meet
        exact ⟨{ E with major := 7 }, _, rfl, HQ7.out, HQ6.out, HBQ.out, HT.out, rfl, rfl, rfl⟩
    · have y0 : (wh % 5 == 0) = false := by rw [hc]; rfl
      have y1 : (wh % 5 == 1) = false := by rw [hc]; rfl
      have y2 : (wh % 5 == 2) = false := by rw [hc]; rfl
      have y3 : (wh % 5 == 3) = true := by rw [hc]; rfl
      have HT := Lib.hid (turn3 hM hX hG hP hPs hk)
      have c0 := q7.cell_some 5 _ rfl
      have f0 := q7.free 5
      have HQ7 := Lib.hid (q7.put 5 (.int .i64 99))
      have HQ6 := Lib.hid (q6.other (p := ⟨g7, 5, none⟩) (by show g6 ≠ g7; omega) (.int .i64 99))
      have HBQ := Lib.hid (gr_set hbq (p := ⟨g7, 5, none⟩) (by show w2.heap.size ≤ g7; omega) (.int .i64 99))
      clear hc hM hX hG hP hPs
      go_wp2_with fail
      go_meet
      exact ⟨{ E with m := { E.m with sec := 99 } }, _, rfl, HQ7.out, HQ6.out, HBQ.out, HT.out, rfl, rfl, rfl⟩
    · have y0 : (wh % 5 == 0) = false := by rw [hc]; rfl
      have y1 : (wh % 5 == 1) = false := by rw [hc]; rfl
      have y2 : (wh % 5 == 2) = false := by rw [hc]; rfl
      have y3 : (wh % 5 == 3) = false := by rw [hc]; rfl
      have HT := Lib.hid (turn4 hM hX hG hP hPs hk)
      have c0 := q7.cell_some 1 _ rfl
      have f0 := q7.free 1
      have HQ7 := Lib.hid (q7.put 1 (.int .i64 8))
      have HQ6 := Lib.hid (q6.other (p := ⟨g7, 1, none⟩) (by show g6 ≠ g7; omega) (.int .i64 8))
      have HBQ := Lib.hid (gr_set hbq (p := ⟨g7, 1, none⟩) (by show w2.heap.size ≤ g7; omega) (.int .i64 8))
      clear hc hM hX hG hP hPs
      go_wp2_with fail
      go_meet
      exact ⟨{ E with kind := 8 }, _, rfl, HQ7.out, HQ6.out, HBQ.out, HT.out, rfl, rfl, rfl⟩
  case rest =>
    clear q6 q7 hbq hM hX hG hP hPs
    obtain ⟨F, b, rfl, q7, q6, hbq, hT, hm⟩ := hcut
    rename World => W
    have H1 := Lib.hid (HTF.out F b hT)
    rw [hT.may] at H1
    have H2 := Lib.hid (hS.out F b hT)
    have HM3 := Lib.hid hm
    have e8 : ∀ b : Bool, (b == b) = true := fun b => by cases b <;> rfl
    clear hm hT HTF hS
    go_wp2_with (with_reducible (show wpList _ _ _ (Oper.mk _ (Op.load 39 _) _ _ _ _ :: _) _ _); refine wpList_loadB (by simp [Region.wanted, yielded, go_sem]) 39 (.tmp 7) rfl g7 (by simp [Act.eval, go_sem]) 39 _ q7 (by kernel_rfl) (by kernel_rfl) ?_)
    refine (H1.out _ hbq HM3.out).mono ?_
    rintro e w5 ⟨rfl, hb5⟩
    replace q6 := q6.kept hb5 q6.size
    replace q7 := q7.kept hb5 q7.size
    replace hbq := gr_call hbq hb5
    clear hb5 H1
    go_wp2_with (first | (with_reducible (show wpList _ _ _ (Oper.mk _ (Op.load 39 _) _ _ _ _ :: _) _ _); refine wpList_loadB (by simp [Region.wanted, yielded, go_sem]) 39 (.tmp 6) rfl g6 (by simp [Act.eval, go_sem]) 39 _ q6 (by kernel_rfl) (by kernel_rfl) ?_) | (with_reducible (show wpList _ _ _ (Oper.mk _ (Op.load 39 _) _ _ _ _ :: _) _ _); refine wpList_loadB (by simp [Region.wanted, yielded, go_sem]) 39 (.tmp 7) rfl g7 (by simp [Act.eval, go_sem]) 39 _ q7 (by kernel_rfl) (by kernel_rfl) ?_))
    refine (H2.out _ hbq HM3.out).mono ?_
    rintro e w6 ⟨rfl, hb6⟩
    replace hbq := gr_call hbq hb6
    clear hb6 H2 q6 q7
    go_wp2_with fail
    refine (awake15_any _ (HA.out _ (gr_call hbl1 hbq))).mono ?_
    rintro e w7 ⟨rfl, hb7⟩
    have hbl := gr_call (gr_call hbl1 hbq) hb7
    clear hb7
    go_wp2_with fail
    go_ret
    exact ⟨rfl, hbl⟩
end Go.Proofs.YtbhnhoenjoagbaaGreatDoor
