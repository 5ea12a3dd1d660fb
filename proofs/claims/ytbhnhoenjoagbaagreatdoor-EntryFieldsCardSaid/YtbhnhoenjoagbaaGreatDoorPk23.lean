/- Bundle of 2 texts. -/
import Derived.Test.YtbhnhoenjoagbaaGreatDoorPk22
import Derived.Test.YtbhnhoenjoagbaaGreatDoorPk19
import Derived.Defers
import Derived.Recover
import Derived.Test.YtbhnhoenjoagbaaGreatDoorPk13
/- Package meta: the check, May. -/
namespace Go.Proofs.YtbhnhoenjoagbaaGreatDoor
open Go.RowKit
open MetaM
set_option linter.unusedVariables false

def endM (b : Bool) (e : Ending) : Prop := match b with
  | true => e = .returned (.tuple #[])
  | false => e = .panicked noMeta
theorem mayCaps_any (c : CapsM.Cap) (k : Int) (w : World) : Calls Tryz.prog 233 #[capV c, .int .i64 k] w fun e w' => e = .returned (.bool (capOk c k)) ∧ Below w.heap.size w w' := by
  have H := Lib.hid (goCaps_any c)
  obtain ⟨v, p, i, e, r⟩ := c
  unfold capV at H ⊢
  simp only at H ⊢
  have HE := Lib.hid (show capOk ⟨v, p, i, e, r⟩ k = (CapsM.may ⟨v, p, i, e, r⟩ && (decide (v = 0) || decide (k = 1))) from rfl)
  have HZ := Lib.hid (fun (h : CapsM.may ⟨v, p, i, e, r⟩ = true) (h0 : v = 0) => (by subst h0; simpa [CapsM.may] using h : p = 0 ∧ i = 0 ∧ e = false ∧ r = 0))
  generalize CapsM.may ⟨v, p, i, e, r⟩ = b at *
  generalize capOk ⟨v, p, i, e, r⟩ k = q at *
  have hbl : Below w.heap.size w (w.alloc (.cells #[.int .i64 v, .int .u64 (p : Int), .int .u64 (i : Int), .bool e, .int .i64 r] 35)) := gr_alloc (Below.refl _ _) _
  have hblk : BlkIs (w.alloc (.cells #[.int .i64 v, .int .u64 (p : Int), .int .u64 (i : Int), .bool e, .int .i64 r] 35)) w.heap.size 35 #[.int .i64 v, .int .u64 (p : Int), .int .u64 (i : Int), .bool e, .int .i64 r] := BlkIs.made _ _ _
  rcases b with _ | _
  · have HF := Lib.hid (show q = false by rw [HE.out]; rfl)
    clear HE HZ
    go_enter Tryz.func233, Tryz.ntmps233
    go_wp2_with fail
    refine (H.out _).mono ?_
    rintro e w2 ⟨rfl, hb2⟩
    replace hbl := gr_call hbl hb2
    clear hb2 hblk
    go_wp2_with fail
    go_ret
    exact ⟨ret_bool HF.out.symm, hbl⟩
  by_cases hk : k = 1
  · have HF := Lib.hid (show q = true by rw [HE.out, decide_eq_true hk]; simp)
    have e1 : (k == 1) = true := by rw [hk]; rfl
    clear HE HZ hk
    go_enter Tryz.func233, Tryz.ntmps233
    go_wp2_with fail
    refine (H.out _).mono ?_
    rintro e w2 ⟨rfl, hb2⟩
    replace hbl := gr_call hbl hb2
    clear hb2 hblk
    go_wp2_with fail
    go_ret
    exact ⟨ret_bool HF.out.symm, hbl⟩
  have HF := Lib.hid (show q = decide (v = 0) by rw [HE.out, decide_eq_false hk]; simp)
  have HZ2 := Lib.hid (HZ.out rfl)
  have e1 : (k == 1) = false := beq_eq_false_iff_ne.2 hk
  clear HE HZ hk
  go_enter Tryz.func233, Tryz.ntmps233
  go_wp2_with fail
  refine (H.out _).mono ?_
  rintro e w2 ⟨rfl, hb2⟩
  replace hbl := gr_call hbl hb2
  replace hblk := hblk.kept hb2 hblk.size
  have k0 := hblk.cell_some 0 _ rfl
  have k1 := hblk.cell_some 1 _ rfl
  have k2 := hblk.cell_some 2 _ rfl
  have k3 := hblk.cell_some 3 _ rfl
  have k4 := hblk.cell_some 4 _ rfl
  clear hb2 hblk
  go_wp2_with fail
  all_goals (go_ret; refine ⟨ret_bool ?_, hbl⟩; rw [HF.out])
  all_goals clear hbl HF k0 k1 k2 k3 k4 H
  all_goals first
    | exact (decide_eq_true (by assumption)).symm
    | (refine (decide_eq_false (fun h0 => ?_)).symm
       obtain ⟨y1, y2, y3, y4⟩ := HZ2.out h0
       simp_all)
theorem mayLink_any (m : Mt) (va vd vx : Value) (w : World) (hm : MetaAt m va vd vx w) :
    Calls Tryz.prog 234 #[.agg (metaC m va vd vx)] w fun e w' => e = .returned (.bool (decide (m.mode = 511) && decide (m.acl.length = 0) && decide (m.flags = 0))) ∧ Below w.heap.size w w' := by
  obtain ⟨pa, ca, rfl, hca⟩ := hm.acl.shape
  unfold metaC
  obtain ⟨mode, uid, gid, sec, nano, acl, dfl, xat, ⟨cv, cp, ci, ce, cr⟩, flags⟩ := m
  simp only at hca ⊢
  obtain ⟨na, hna⟩ : ∃ n, acl.length = n := ⟨_, rfl⟩
  rw [hna] at hca ⊢
  have hbl : Below w.heap.size w (w.alloc (.cells #[.int .i64 mode, .int .i64 uid, .int .i64 gid, .int .i64 sec, .int .i64 nano, .slice pa na ca, vd, vx, .int .i64 cv, .int .u64 (cp : Int), .int .u64 (ci : Int), .bool ce, .int .i64 cr, .int .i64 flags] 37)) := gr_alloc (Below.refl _ _) _
  have e1 : decide (mode = 511) = (mode == 511) := by rw [Bool.eq_iff_iff]; simp
  have e2 : decide (na = 0) = ((na : Int) == 0) := by rw [Bool.eq_iff_iff, decide_eq_true_eq, beq_iff_eq]; omega
  have e3 : decide (flags = 0) = (flags == 0) := by rw [Bool.eq_iff_iff]; simp
  rw [e1, e2, e3]
  have HM := Lib.hid (show ∀ b, (mode == 511) = b → ((mode == 511) && ((na : Int) == 0) && (flags == 0)) = (b && ((na : Int) == 0) && (flags == 0)) from fun b h => by rw [h])
  have HN := Lib.hid (show ∀ b, ((na : Int) == 0) = b → (true && ((na : Int) == 0) && (flags == 0)) = (true && b && (flags == 0)) from fun b h => by rw [h])
  generalize ((mode == 511) && ((na : Int) == 0) && (flags == 0)) = r at *
  clear e1 e2 e3 hm hna
  rcases e1 : (mode == 511) with _ | _
  · have HF := Lib.hid (show r = false by rw [HM.out _ e1]; rfl)
    clear HM HN
    go_enter Tryz.func234, Tryz.ntmps234
    go_wp2_with fail
    go_ret
    exact ⟨ret_bool HF.out.symm, hbl⟩
  have HM2 := Lib.hid (HM.out _ e1)
  rcases e2 : ((na : Int) == 0) with _ | _
  · have HF := Lib.hid (show r = false by rw [HM2.out, HN.out _ e2]; rfl)
    clear HM HN HM2
    go_enter Tryz.func234, Tryz.ntmps234
    go_wp2_with fail
    go_ret
    exact ⟨ret_bool HF.out.symm, hbl⟩
  have HF := Lib.hid (show r = (flags == 0) by rw [HM2.out, HN.out _ e2]; simp)
  clear HM HN HM2
  go_enter Tryz.func234, Tryz.ntmps234
  go_wp2_with fail
  go_ret
  exact ⟨ret_bool HF.out.symm, hbl⟩

set_option maxHeartbeats 3200000 in
set_option maxRecDepth 100000 in
theorem metaCheck_any (m : Mt) (va vd vx : Value) (k : Int) (w : World) (hm : MetaAt m va vd vx w) :
    Calls Tryz.prog 184 #[.agg (metaC m va vd vx), .int .i64 k] w fun e w' => endM (mayM m k) e ∧ Below w.heap.size w w' := by
  have H1 := Lib.hid (fun W (hb : Below w.heap.size w W) => XatW.MayX_go EscW.Put_any vx m.xat W (hm.xat.call hb) hm.lx)
  have H2 := Lib.hid (fun W (hb : Below w.heap.size w W) => mayAcl_any va m.acl m.mode W (hm.acl.call hb) hm.la)
  have H3 := Lib.hid (fun W (hb : Below w.heap.size w W) => mayDefault_any vd m.dfl k W (hm.dfl.call hb) hm.ld)
  have H4 := Lib.hid (fun W => mayCaps_any m.cap k W)
  have H5 := Lib.hid (fun W (hb : Below w.heap.size w W) => mayLink_any m va vd vx W (hm.call hb))
  have H6 := Lib.hid (fun W => goStamp_any m.sec m.nano W)
  have H7 := Lib.hid (fun W => goFlags_any m.flags W)
  have H8 := Lib.hid (fun W => mayId_any m.uid W)
  have H9 := Lib.hid (fun W => mayId_any m.gid W)
  have H0 := Lib.hid (fun W => mayKind_any k W)
  have hmode : modeOk m.mode = ((decide (0 ≤ m.mode)) && decide (m.mode ≤ 4095)) := rfl
  obtain ⟨r, hr⟩ : ∃ r, mayM m k = r := ⟨_, rfl⟩
  have HR : Hid (r = (kindIn k && (decide (0 ≤ m.mode) && decide (m.mode ≤ 4095)) && idOk m.uid && idOk m.gid && stampOk m.sec m.nano && flagsOk m.flags && XatM.mayL m.xat && aclOk m.acl m.mode && dflOk m.dfl k && capOk m.cap k && (decide (k ≠ 3) || (decide (m.mode = 511) && decide (m.acl.length = 0) && decide (m.flags = 0))))) := Lib.hid hr.symm
  rw [hr]
  unfold metaC at H5 ⊢
  unfold capV at H4
  obtain ⟨mode, uid, gid, sec, nano, acl, dfl, xat, ⟨cv, cp, ci, ce, cr⟩, flags⟩ := m
  simp only at H1 H2 H3 H4 H5 H6 H7 H8 H9 HR ⊢
  clear hmode hr hm
  generalize kindIn k = b0 at *
  generalize idOk uid = b1 at *
  generalize idOk gid = b2 at *
  generalize stampOk sec nano = b3 at *
  generalize flagsOk flags = b4 at *
  generalize XatM.mayL xat = b5 at *
  generalize aclOk acl mode = b6 at *
  generalize dflOk dfl k = b7 at *
  generalize capOk ⟨cv, cp, ci, ce, cr⟩ k = b8 at *
  generalize (decide (mode = 511) && decide (acl.length = 0) && decide (flags = 0)) = b9 at *
  obtain ⟨W, hW⟩ : ∃ W, w.alloc (.cells #[.int .i64 mode, .int .i64 uid, .int .i64 gid, .int .i64 sec, .int .i64 nano, va, vd, vx, .int .i64 cv, .int .u64 (cp : Int), .int .u64 (ci : Int), .bool ce, .int .i64 cr, .int .i64 flags] 37) = W := ⟨_, rfl⟩
  have hblk : BlkIs W w.heap.size 37 #[.int .i64 mode, .int .i64 uid, .int .i64 gid, .int .i64 sec, .int .i64 nano, va, vd, vx, .int .i64 cv, .int .u64 (cp : Int), .int .u64 (ci : Int), .bool ce, .int .i64 cr, .int .i64 flags] := by rw [← hW]; exact BlkIs.made _ _ _
  have hbl : Below w.heap.size w W := by rw [← hW]; exact gr_alloc (Below.refl _ _) _
  have k0 := hblk.cell_some 0 _ rfl; have k1 := hblk.cell_some 1 _ rfl; have k2 := hblk.cell_some 2 _ rfl; have k3 := hblk.cell_some 3 _ rfl; have k4 := hblk.cell_some 4 _ rfl; have k5 := hblk.cell_some 5 _ rfl; have k6 := hblk.cell_some 6 _ rfl; have k7 := hblk.cell_some 7 _ rfl; have k8 := hblk.cell_some 8 _ rfl; have k9 := hblk.cell_some 9 _ rfl; have k10 := hblk.cell_some 10 _ rfl; have k11 := hblk.cell_some 11 _ rfl; have k12 := hblk.cell_some 12 _ rfl; have k13 := hblk.cell_some 13 _ rfl
  go_enter Tryz.func184, Tryz.ntmps184
  go_wp2_with fail
  refine (H0.out _).mono ?_
  rintro e w2 ⟨rfl, rfl⟩
  clear H0 hW
  go_wp2_with fail
  rcases b0 with _ | _
  · have HE := Lib.hid (show r = false from HR.out.trans (by first | rfl | simp)); clear HR; refine (must_no _).mono ?_; rintro e w3 ⟨rfl, rfl⟩; go_wp2_with fail; exact ⟨rfl, by rw [HE.out]; rfl, hbl⟩
  refine (must_yes _).mono ?_; rintro e w3 ⟨rfl, rfl⟩
  rcases e0 : decide (0 ≤ mode) with _ | _
  · rw [e0] at HR
    go_wp2_with fail
    have HE := Lib.hid (show r = false from HR.out.trans (by first | rfl | simp)); clear HR; refine (must_no _).mono ?_; rintro e w3 ⟨rfl, rfl⟩; go_wp2_with fail; exact ⟨rfl, by rw [HE.out]; rfl, hbl⟩
  rw [e0] at HR
  rcases e1 : decide (mode ≤ 4095) with _ | _
  · rw [e1] at HR
    go_wp2_with fail
    have HE := Lib.hid (show r = false from HR.out.trans (by first | rfl | simp)); clear HR; refine (must_no _).mono ?_; rintro e w3 ⟨rfl, rfl⟩; go_wp2_with fail; exact ⟨rfl, by rw [HE.out]; rfl, hbl⟩
  rw [e1] at HR
  go_wp2_with fail
  clear e0 e1
  refine (must_yes _).mono ?_; rintro e w3 ⟨rfl, rfl⟩; go_wp2_with fail
  refine (H8.out _).mono ?_
  rintro e w2 ⟨rfl, rfl⟩
  go_wp2_with fail
  rcases b1 with _ | _
  · have HE := Lib.hid (show r = false from HR.out.trans (by first | rfl | simp)); clear HR; refine (must_no _).mono ?_; rintro e w3 ⟨rfl, rfl⟩; go_wp2_with fail; exact ⟨rfl, by rw [HE.out]; rfl, hbl⟩
  refine (must_yes _).mono ?_; rintro e w3 ⟨rfl, rfl⟩; go_wp2_with fail
  refine (H9.out _).mono ?_
  rintro e w2 ⟨rfl, rfl⟩
  go_wp2_with fail
  rcases b2 with _ | _
  · have HE := Lib.hid (show r = false from HR.out.trans (by first | rfl | simp)); clear HR; refine (must_no _).mono ?_; rintro e w3 ⟨rfl, rfl⟩; go_wp2_with fail; exact ⟨rfl, by rw [HE.out]; rfl, hbl⟩
  refine (must_yes _).mono ?_; rintro e w3 ⟨rfl, rfl⟩; go_wp2_with fail
  refine (H6.out _).mono ?_
  rintro e w2 ⟨rfl, hb2⟩; replace hbl := gr_call hbl hb2; replace hblk := hblk.kept hb2 hblk.size; clear hb2; clear k0 k1 k2 k3 k4 k5 k6 k7 k8 k9 k10 k11 k12 k13; have k0 := hblk.cell_some 0 _ rfl; have k1 := hblk.cell_some 1 _ rfl; have k2 := hblk.cell_some 2 _ rfl; have k3 := hblk.cell_some 3 _ rfl; have k4 := hblk.cell_some 4 _ rfl; have k5 := hblk.cell_some 5 _ rfl; have k6 := hblk.cell_some 6 _ rfl; have k7 := hblk.cell_some 7 _ rfl; have k8 := hblk.cell_some 8 _ rfl; have k9 := hblk.cell_some 9 _ rfl; have k10 := hblk.cell_some 10 _ rfl; have k11 := hblk.cell_some 11 _ rfl; have k12 := hblk.cell_some 12 _ rfl; have k13 := hblk.cell_some 13 _ rfl
  go_wp2_with fail
  rcases b3 with _ | _
  · have HE := Lib.hid (show r = false from HR.out.trans (by first | rfl | simp)); clear HR; refine (must_no _).mono ?_; rintro e w3 ⟨rfl, rfl⟩; go_wp2_with fail; exact ⟨rfl, by rw [HE.out]; rfl, hbl⟩
  refine (must_yes _).mono ?_; rintro e w3 ⟨rfl, rfl⟩; go_wp2_with fail
  refine (H7.out _).mono ?_
  rintro e w2 ⟨rfl, rfl⟩
  go_wp2_with fail
  rcases b4 with _ | _
  · have HE := Lib.hid (show r = false from HR.out.trans (by first | rfl | simp)); clear HR; refine (must_no _).mono ?_; rintro e w3 ⟨rfl, rfl⟩; go_wp2_with fail; exact ⟨rfl, by rw [HE.out]; rfl, hbl⟩
  refine (must_yes _).mono ?_; rintro e w3 ⟨rfl, rfl⟩; go_wp2_with fail
  refine (H1.out _ hbl).mono ?_
  rintro e w2 ⟨rfl, hb2⟩; replace hbl := gr_call hbl hb2; replace hblk := hblk.kept hb2 hblk.size; clear hb2; clear k0 k1 k2 k3 k4 k5 k6 k7 k8 k9 k10 k11 k12 k13; have k0 := hblk.cell_some 0 _ rfl; have k1 := hblk.cell_some 1 _ rfl; have k2 := hblk.cell_some 2 _ rfl; have k3 := hblk.cell_some 3 _ rfl; have k4 := hblk.cell_some 4 _ rfl; have k5 := hblk.cell_some 5 _ rfl; have k6 := hblk.cell_some 6 _ rfl; have k7 := hblk.cell_some 7 _ rfl; have k8 := hblk.cell_some 8 _ rfl; have k9 := hblk.cell_some 9 _ rfl; have k10 := hblk.cell_some 10 _ rfl; have k11 := hblk.cell_some 11 _ rfl; have k12 := hblk.cell_some 12 _ rfl; have k13 := hblk.cell_some 13 _ rfl
  go_wp2_with fail
  rcases b5 with _ | _
  · have HE := Lib.hid (show r = false from HR.out.trans (by first | rfl | simp)); clear HR; refine (must_no _).mono ?_; rintro e w3 ⟨rfl, rfl⟩; go_wp2_with fail; exact ⟨rfl, by rw [HE.out]; rfl, hbl⟩
  refine (must_yes _).mono ?_; rintro e w3 ⟨rfl, rfl⟩; go_wp2_with fail
  refine (H2.out _ hbl).mono ?_
  rintro e w2 ⟨rfl, hb2⟩; replace hbl := gr_call hbl hb2; replace hblk := hblk.kept hb2 hblk.size; clear hb2; clear k0 k1 k2 k3 k4 k5 k6 k7 k8 k9 k10 k11 k12 k13; have k0 := hblk.cell_some 0 _ rfl; have k1 := hblk.cell_some 1 _ rfl; have k2 := hblk.cell_some 2 _ rfl; have k3 := hblk.cell_some 3 _ rfl; have k4 := hblk.cell_some 4 _ rfl; have k5 := hblk.cell_some 5 _ rfl; have k6 := hblk.cell_some 6 _ rfl; have k7 := hblk.cell_some 7 _ rfl; have k8 := hblk.cell_some 8 _ rfl; have k9 := hblk.cell_some 9 _ rfl; have k10 := hblk.cell_some 10 _ rfl; have k11 := hblk.cell_some 11 _ rfl; have k12 := hblk.cell_some 12 _ rfl; have k13 := hblk.cell_some 13 _ rfl
  go_wp2_with fail
  rcases b6 with _ | _
  · have HE := Lib.hid (show r = false from HR.out.trans (by first | rfl | simp)); clear HR; refine (must_no _).mono ?_; rintro e w3 ⟨rfl, rfl⟩; go_wp2_with fail; exact ⟨rfl, by rw [HE.out]; rfl, hbl⟩
  refine (must_yes _).mono ?_; rintro e w3 ⟨rfl, rfl⟩; go_wp2_with fail
  refine (H3.out _ hbl).mono ?_
  rintro e w2 ⟨rfl, hb2⟩; replace hbl := gr_call hbl hb2; replace hblk := hblk.kept hb2 hblk.size; clear hb2; clear k0 k1 k2 k3 k4 k5 k6 k7 k8 k9 k10 k11 k12 k13; have k0 := hblk.cell_some 0 _ rfl; have k1 := hblk.cell_some 1 _ rfl; have k2 := hblk.cell_some 2 _ rfl; have k3 := hblk.cell_some 3 _ rfl; have k4 := hblk.cell_some 4 _ rfl; have k5 := hblk.cell_some 5 _ rfl; have k6 := hblk.cell_some 6 _ rfl; have k7 := hblk.cell_some 7 _ rfl; have k8 := hblk.cell_some 8 _ rfl; have k9 := hblk.cell_some 9 _ rfl; have k10 := hblk.cell_some 10 _ rfl; have k11 := hblk.cell_some 11 _ rfl; have k12 := hblk.cell_some 12 _ rfl; have k13 := hblk.cell_some 13 _ rfl
  go_wp2_with fail
  rcases b7 with _ | _
  · have HE := Lib.hid (show r = false from HR.out.trans (by first | rfl | simp)); clear HR; refine (must_no _).mono ?_; rintro e w3 ⟨rfl, rfl⟩; go_wp2_with fail; exact ⟨rfl, by rw [HE.out]; rfl, hbl⟩
  refine (must_yes _).mono ?_; rintro e w3 ⟨rfl, rfl⟩; go_wp2_with fail
  refine (H4.out _).mono ?_
  rintro e w2 ⟨rfl, hb2⟩; replace hbl := gr_call hbl hb2; replace hblk := hblk.kept hb2 hblk.size; clear hb2; clear k0 k1 k2 k3 k4 k5 k6 k7 k8 k9 k10 k11 k12 k13; have k0 := hblk.cell_some 0 _ rfl; have k1 := hblk.cell_some 1 _ rfl; have k2 := hblk.cell_some 2 _ rfl; have k3 := hblk.cell_some 3 _ rfl; have k4 := hblk.cell_some 4 _ rfl; have k5 := hblk.cell_some 5 _ rfl; have k6 := hblk.cell_some 6 _ rfl; have k7 := hblk.cell_some 7 _ rfl; have k8 := hblk.cell_some 8 _ rfl; have k9 := hblk.cell_some 9 _ rfl; have k10 := hblk.cell_some 10 _ rfl; have k11 := hblk.cell_some 11 _ rfl; have k12 := hblk.cell_some 12 _ rfl; have k13 := hblk.cell_some 13 _ rfl
  go_wp2_with fail
  rcases b8 with _ | _
  · have HE := Lib.hid (show r = false from HR.out.trans (by first | rfl | simp)); clear HR; refine (must_no _).mono ?_; rintro e w3 ⟨rfl, rfl⟩; go_wp2_with fail; exact ⟨rfl, by rw [HE.out]; rfl, hbl⟩
  refine (must_yes _).mono ?_; rintro e w3 ⟨rfl, rfl⟩
  by_cases h3 : k = 3
  · have e3 : (k != 3) = false := by rw [h3]; rfl
    have HS := Lib.hid (show r = b9 by rw [HR.out, decide_eq_false (fun h => h h3)]; rfl)
    clear HR h3
    have HR := HS
    clear HS
    go_wp2_with fail
    refine (H5.out _ hbl).mono ?_
    rintro e w2 ⟨rfl, hb2⟩
    replace hbl := gr_call hbl hb2
    clear hb2
    go_wp2_with fail
    rcases b9 with _ | _
    · have HE := Lib.hid (show r = false from HR.out.trans (by first | rfl | simp)); clear HR; refine (must_no _).mono ?_; rintro e w3 ⟨rfl, rfl⟩; go_wp2_with fail; exact ⟨rfl, by rw [HE.out]; rfl, hbl⟩
    refine (must_yes _).mono ?_; rintro e w3 ⟨rfl, rfl⟩; go_wp2_with fail
    exact ⟨rfl, .tuple #[], by simp [results, Tryz.results184, go_sem], by rw [HR.out]; rfl, hbl⟩
  · have e3 : (k != 3) = true := by simpa using h3
    have HS := Lib.hid (show r = true by rw [HR.out, decide_eq_true h3]; rfl)
    clear HR h3
    go_wp2_with fail
    refine (must_yes _).mono ?_; rintro e w3 ⟨rfl, rfl⟩; go_wp2_with fail
    exact ⟨rfl, .tuple #[], by simp [results, Tryz.results184, go_sem], by rw [HS.out]; rfl, hbl⟩

theorem metaCatch_panic (p : Addr) (x : Bool) (u : TypeId) (pv : Value) (older : List PanicEntry) (w : World) (hc : w.cell? p = some (.bool x)) (hz : w.frozen? p = false) :
    CallsD Tryz.prog 183 #[.pointer (some p)] (.panicking ({ v := .iface u pv, recovered := false } :: older)) w fun e u' w' =>
      e = .returned (.tuple #[]) ∧ u' = .panicking ({ v := .iface u pv, recovered := true } :: older) ∧ w' = w.setCell p (.bool false) := by
  refine callsD_of_wpS Tryz.func183 rfl fun c₀ cs hu => ?_
  apply wpS_region
  simp [wpOpsS, go_sem, recoverD, hu, Tryz.ntmps183, hc, hz, bodyPostS, results, Tryz.results183]
theorem metaCatch_idle (p : Addr) (x : Bool) (w : World) (hc : w.cell? p = some (.bool x)) (hz : w.frozen? p = false) :
    CallsD Tryz.prog 183 #[.pointer (some p)] .returning w fun e u' w' => e = .returned (.tuple #[]) ∧ u' = .returning ∧ w' = w.setCell p (.bool true) := by
  refine callsD_of_wpS Tryz.func183 rfl fun c₀ cs hu => ?_
  apply wpS_region
  simp [wpOpsS, go_sem, recoverD, hu, Tryz.ntmps183, hc, hz, bodyPostS, results, Tryz.results183]
  cases c₀
  simp_all

set_option maxHeartbeats 1600000 in
theorem MayM_any (m : Mt) (va vd vx : Value) (k : Int) (w : World) (hm : MetaAt m va vd vx w) :
    Calls Tryz.prog 116 #[.agg (metaC m va vd vx), .int .i64 k] w fun e w' => e = .returned (.bool (mayM m k)) ∧ Below w.heap.size w w' := by
  have hmf : ∀ (fn : Fn) (first cap : Array Value) (w : World), (Instr.makeFunc fn first cap).run Tryz.prog w = .ok (.func fn first cap) w := fun _ _ _ _ => rfl
  have hp := Lib.hid (fun W (hb : Below w.heap.size w W) => metaCheck_any m va vd vx k W (hm.call hb))
  obtain ⟨mode, uid, gid, sec, nano, acl, dfl, xat, ⟨cv, cp, ci, ce, cr⟩, flags⟩ := m
  unfold metaC at hp ⊢
  simp only at hp ⊢
  generalize mayM ⟨mode, uid, gid, sec, nano, acl, dfl, xat, ⟨cv, cp, ci, ce, cr⟩, flags⟩ k = b at *
  clear hm
  have hx0 : Below w.heap.size w ((w.alloc (.cells #[.int .i64 mode, .int .i64 uid, .int .i64 gid, .int .i64 sec, .int .i64 nano, va, vd, vx, .int .i64 cv, .int .u64 (cp : Int), .int .u64 (ci : Int), .bool ce, .int .i64 cr, .int .i64 flags] 37)).alloc (.cells #[.bool false] 4)) := gr_alloc (gr_alloc (Below.refl _ _) _) _
  go_enter_defers Tryz.func116, Tryz.ntmps116
  go_wp2_with fail
  refine (hp.out _ hx0).mono ?_
  rintro e w2 ⟨he, hb2⟩
  have hblk := (blk_next w (.cells #[.int .i64 mode, .int .i64 uid, .int .i64 gid, .int .i64 sec, .int .i64 nano, va, vd, vx, .int .i64 cv, .int .u64 (cp : Int), .int .u64 (ci : Int), .bool ce, .int .i64 cr, .int .i64 flags] 37) 4 #[.bool false])
  replace hblk := hblk.kept hb2 hblk.size
  have hc2 := hblk.cell_some 0 _ rfl
  have hf2 := hblk.free 0
  have hb : Below w.heap.size w w2 := gr_call hx0 hb2
  have hg : w.heap.size ≤ w.heap.size + 1 := Nat.le_succ _
  clear hp hx0 hb2 hblk
  rcases b with _ | _
  · obtain rfl : e = .panicked noMeta := he
    go_wp2_with fail
    refine leaves_cons (f := 183) (args := #[.pointer (some ⟨w.heap.size + 1, 0, none⟩)]) (by simp) (by simp [go_sem]) ?_
    refine (metaCatch_panic ⟨w.heap.size + 1, 0, none⟩ false _ _ [] w2 hc2 hf2).mono ?_
    rintro e u' w'' ⟨rfl, rfl, rfl⟩
    simp [Leaves, settle, results, Tryz.results116, go_sem, noMeta, hc2, hf2]
    exact hb.setCell (p := ⟨w.heap.size + 1, 0, none⟩) hg _
  · obtain rfl : e = .returned (.tuple #[]) := he
    go_wp2_with fail
    refine leaves_cons (f := 183) (args := #[.pointer (some ⟨w.heap.size + 1, 0, none⟩)]) (by simp) (by simp [go_sem]) ?_
    refine (metaCatch_idle ⟨w.heap.size + 1, 0, none⟩ true _ ?_ ?_).mono ?_
    · simp [go_sem, hc2]
    · simp [go_sem, hf2]
    rintro e u' w'' ⟨rfl, rfl, rfl⟩
    simp [Leaves, settle, results, Tryz.results116, go_sem, hc2, hf2]
    exact (hb.setCell (p := ⟨w.heap.size + 1, 0, none⟩) hg _).setCell (p := ⟨w.heap.size + 1, 0, none⟩) hg _

set_option maxHeartbeats 3200000 in
set_option maxRecDepth 100000 in
theorem SameM_any (m n : Mt) (va vd vx ua ud ux : Value) (w : World) (hm : MetaAt m va vd vx w) (hn : MetaAt n ua ud ux w) :
    Calls Tryz.prog 91 #[.agg (metaC m va vd vx), .agg (metaC n ua ud ux)] w fun e w' => e = .returned (.bool (sameM m n)) ∧ Below w.heap.size w w' := by
  have H1 := Lib.hid (fun W (hb : Below w.heap.size w W) => AclW.same_any va ua m.acl n.acl W (hm.acl.call hb) (hn.acl.call hb) hm.la hn.la)
  have H2 := Lib.hid (fun W (hb : Below w.heap.size w W) => AclW.same_any vd ud m.dfl n.dfl W (hm.dfl.call hb) (hn.dfl.call hb) hm.ld hn.ld)
  have H3 := Lib.hid (fun W (hb : Below w.heap.size w W) => XatW.SameX_go vx ux m.xat n.xat W (hm.xat.call hb) (hn.xat.call hb) hm.lx hn.lx)
  unfold metaC
  obtain ⟨mode, uid, gid, sec, nano, acl, dfl, xat, ⟨cv, cp, ci, ce, cr⟩, flags⟩ := m
  obtain ⟨mode', uid', gid', sec', nano', acl', dfl', xat', ⟨cv', cp', ci', ce', cr'⟩, flags'⟩ := n
  simp only at H1 H2 H3 ⊢
  obtain ⟨r, hr⟩ : ∃ r, sameM ⟨mode, uid, gid, sec, nano, acl, dfl, xat, ⟨cv, cp, ci, ce, cr⟩, flags⟩ ⟨mode', uid', gid', sec', nano', acl', dfl', xat', ⟨cv', cp', ci', ce', cr'⟩, flags'⟩ = r := ⟨_, rfl⟩
  have HR := Lib.hid hr.symm
  rw [hr]
  unfold sameM at HR
  simp only at HR
  generalize AclW.sameL acl acl' = b1 at *
  generalize AclW.sameL dfl dfl' = b2 at *
  generalize decide (xat = xat') = b3 at *
  clear hr hm hn
  obtain ⟨W, hW⟩ : ∃ W, (w.alloc (.cells #[.int .i64 mode, .int .i64 uid, .int .i64 gid, .int .i64 sec, .int .i64 nano, va, vd, vx, .int .i64 cv, .int .u64 (cp : Int), .int .u64 (ci : Int), .bool ce, .int .i64 cr, .int .i64 flags] 37)).alloc (.cells #[.int .i64 mode', .int .i64 uid', .int .i64 gid', .int .i64 sec', .int .i64 nano', ua, ud, ux, .int .i64 cv', .int .u64 (cp' : Int), .int .u64 (ci' : Int), .bool ce', .int .i64 cr', .int .i64 flags'] 37) = W := ⟨_, rfl⟩
  have hblk : BlkIs W w.heap.size 37 #[.int .i64 mode, .int .i64 uid, .int .i64 gid, .int .i64 sec, .int .i64 nano, va, vd, vx, .int .i64 cv, .int .u64 (cp : Int), .int .u64 (ci : Int), .bool ce, .int .i64 cr, .int .i64 flags] := by rw [← hW]; exact (BlkIs.made _ _ _).alloc _
  have hblj : BlkIs W (w.heap.size + 1) 37 #[.int .i64 mode', .int .i64 uid', .int .i64 gid', .int .i64 sec', .int .i64 nano', ua, ud, ux, .int .i64 cv', .int .u64 (cp' : Int), .int .u64 (ci' : Int), .bool ce', .int .i64 cr', .int .i64 flags'] := by rw [← hW]; exact blk_next w _ _ _
  have hbl : Below w.heap.size w W := by rw [← hW]; exact gr_alloc (gr_alloc (Below.refl _ _) _) _
  have k0 := hblk.cell_some 0 _ rfl; have k1 := hblk.cell_some 1 _ rfl; have k2 := hblk.cell_some 2 _ rfl; have k3 := hblk.cell_some 3 _ rfl; have k4 := hblk.cell_some 4 _ rfl; have k5 := hblk.cell_some 5 _ rfl; have k6 := hblk.cell_some 6 _ rfl; have k7 := hblk.cell_some 7 _ rfl; have k8 := hblk.cell_some 8 _ rfl; have k9 := hblk.cell_some 9 _ rfl; have k10 := hblk.cell_some 10 _ rfl; have k11 := hblk.cell_some 11 _ rfl; have k12 := hblk.cell_some 12 _ rfl; have k13 := hblk.cell_some 13 _ rfl
  have j0 := hblj.cell_some 0 _ rfl; have j1 := hblj.cell_some 1 _ rfl; have j2 := hblj.cell_some 2 _ rfl; have j3 := hblj.cell_some 3 _ rfl; have j4 := hblj.cell_some 4 _ rfl; have j5 := hblj.cell_some 5 _ rfl; have j6 := hblj.cell_some 6 _ rfl; have j7 := hblj.cell_some 7 _ rfl; have j8 := hblj.cell_some 8 _ rfl; have j9 := hblj.cell_some 9 _ rfl; have j10 := hblj.cell_some 10 _ rfl; have j11 := hblj.cell_some 11 _ rfl; have j12 := hblj.cell_some 12 _ rfl; have j13 := hblj.cell_some 13 _ rfl
  go_enter Tryz.func91, Tryz.ntmps91
  go_wp2_with (first
    | (go_at_call 159; have y9 := y0; clear y9; refine (H2.out _ hbl).mono ?_; rintro e w3 ⟨rfl, hb2⟩; replace hbl := gr_call hbl hb2; replace hblk := hblk.kept hb2 hblk.size; replace hblj := hblj.kept hb2 hblj.size; clear hb2; clear k0 k1 k2 k3 k4 k5 k6 k7 k8 k9 k10 k11 k12 k13 j0 j1 j2 j3 j4 j5 j6 j7 j8 j9 j10 j11 j12 j13; have k0 := hblk.cell_some 0 _ rfl; have k1 := hblk.cell_some 1 _ rfl; have k2 := hblk.cell_some 2 _ rfl; have k3 := hblk.cell_some 3 _ rfl; have k4 := hblk.cell_some 4 _ rfl; have k5 := hblk.cell_some 5 _ rfl; have k6 := hblk.cell_some 6 _ rfl; have k7 := hblk.cell_some 7 _ rfl; have k8 := hblk.cell_some 8 _ rfl; have k9 := hblk.cell_some 9 _ rfl; have k10 := hblk.cell_some 10 _ rfl; have k11 := hblk.cell_some 11 _ rfl; have k12 := hblk.cell_some 12 _ rfl; have k13 := hblk.cell_some 13 _ rfl; have j0 := hblj.cell_some 0 _ rfl; have j1 := hblj.cell_some 1 _ rfl; have j2 := hblj.cell_some 2 _ rfl; have j3 := hblj.cell_some 3 _ rfl; have j4 := hblj.cell_some 4 _ rfl; have j5 := hblj.cell_some 5 _ rfl; have j6 := hblj.cell_some 6 _ rfl; have j7 := hblj.cell_some 7 _ rfl; have j8 := hblj.cell_some 8 _ rfl; have j9 := hblj.cell_some 9 _ rfl; have j10 := hblj.cell_some 10 _ rfl; have j11 := hblj.cell_some 11 _ rfl; have j12 := hblj.cell_some 12 _ rfl; have j13 := hblj.cell_some 13 _ rfl)
    | (go_at_call 159; refine (H1.out _ hbl).mono ?_; rintro e w3 ⟨rfl, hb2⟩; have y0 := True.intro; replace hbl := gr_call hbl hb2; replace hblk := hblk.kept hb2 hblk.size; replace hblj := hblj.kept hb2 hblj.size; clear hb2; clear k0 k1 k2 k3 k4 k5 k6 k7 k8 k9 k10 k11 k12 k13 j0 j1 j2 j3 j4 j5 j6 j7 j8 j9 j10 j11 j12 j13; have k0 := hblk.cell_some 0 _ rfl; have k1 := hblk.cell_some 1 _ rfl; have k2 := hblk.cell_some 2 _ rfl; have k3 := hblk.cell_some 3 _ rfl; have k4 := hblk.cell_some 4 _ rfl; have k5 := hblk.cell_some 5 _ rfl; have k6 := hblk.cell_some 6 _ rfl; have k7 := hblk.cell_some 7 _ rfl; have k8 := hblk.cell_some 8 _ rfl; have k9 := hblk.cell_some 9 _ rfl; have k10 := hblk.cell_some 10 _ rfl; have k11 := hblk.cell_some 11 _ rfl; have k12 := hblk.cell_some 12 _ rfl; have k13 := hblk.cell_some 13 _ rfl; have j0 := hblj.cell_some 0 _ rfl; have j1 := hblj.cell_some 1 _ rfl; have j2 := hblj.cell_some 2 _ rfl; have j3 := hblj.cell_some 3 _ rfl; have j4 := hblj.cell_some 4 _ rfl; have j5 := hblj.cell_some 5 _ rfl; have j6 := hblj.cell_some 6 _ rfl; have j7 := hblj.cell_some 7 _ rfl; have j8 := hblj.cell_some 8 _ rfl; have j9 := hblj.cell_some 9 _ rfl; have j10 := hblj.cell_some 10 _ rfl; have j11 := hblj.cell_some 11 _ rfl; have j12 := hblj.cell_some 12 _ rfl; have j13 := hblj.cell_some 13 _ rfl)
    | (go_at_call 160; refine (H3.out _ hbl).mono ?_; rintro e w3 ⟨rfl, hb2⟩; replace hbl := gr_call hbl hb2; replace hblk := hblk.kept hb2 hblk.size; replace hblj := hblj.kept hb2 hblj.size; clear hb2; clear k0 k1 k2 k3 k4 k5 k6 k7 k8 k9 k10 k11 k12 k13 j0 j1 j2 j3 j4 j5 j6 j7 j8 j9 j10 j11 j12 j13; have k0 := hblk.cell_some 0 _ rfl; have k1 := hblk.cell_some 1 _ rfl; have k2 := hblk.cell_some 2 _ rfl; have k3 := hblk.cell_some 3 _ rfl; have k4 := hblk.cell_some 4 _ rfl; have k5 := hblk.cell_some 5 _ rfl; have k6 := hblk.cell_some 6 _ rfl; have k7 := hblk.cell_some 7 _ rfl; have k8 := hblk.cell_some 8 _ rfl; have k9 := hblk.cell_some 9 _ rfl; have k10 := hblk.cell_some 10 _ rfl; have k11 := hblk.cell_some 11 _ rfl; have k12 := hblk.cell_some 12 _ rfl; have k13 := hblk.cell_some 13 _ rfl; have j0 := hblj.cell_some 0 _ rfl; have j1 := hblj.cell_some 1 _ rfl; have j2 := hblj.cell_some 2 _ rfl; have j3 := hblj.cell_some 3 _ rfl; have j4 := hblj.cell_some 4 _ rfl; have j5 := hblj.cell_some 5 _ rfl; have j6 := hblj.cell_some 6 _ rfl; have j7 := hblj.cell_some 7 _ rfl; have j8 := hblj.cell_some 8 _ rfl; have j9 := hblj.cell_some 9 _ rfl; have j10 := hblj.cell_some 10 _ rfl; have j11 := hblj.cell_some 11 _ rfl; have j12 := hblj.cell_some 12 _ rfl; have j13 := hblj.cell_some 13 _ rfl))
  all_goals (go_ret; refine ⟨ret_bool ?_, hbl⟩; rw [HR.out])
  all_goals clear hW hbl hblk hblj H1 H2 H3 HR k0 k1 k2 k3 k4 k5 k6 k7 k8 k9 k10 k11 k12 k13 j0 j1 j2 j3 j4 j5 j6 j7 j8 j9 j10 j11 j12 j13
  all_goals try (have q1 : cp = cp' := Int.ofNat_inj.1 (by assumption))
  all_goals try (have q1 : cp ≠ cp' := fun h => absurd (congrArg (Nat.cast : Nat → Int) h) (by assumption))
  all_goals try (have q2 : ci = ci' := Int.ofNat_inj.1 (by assumption))
  all_goals try (have q2 : ci ≠ ci' := fun h => absurd (congrArg (Nat.cast : Nat → Int) h) (by assumption))
  all_goals first | (simp [*]; done) | (by_cases hf : flags = flags' <;> simp [*]; done)

end Go.Proofs.YtbhnhoenjoagbaaGreatDoor

/- Paths, as plain mathematics: names with a stroke between. -/
namespace Go.Proofs.YtbhnhoenjoagbaaGreatDoor.PathM
open AclM

def nameOk (s : List UInt8) : Bool := decide (s.length ≠ 0) && decide (s.length ≤ 255) && decide (s ≠ [46]) && decide (s ≠ [46, 46])
def pathOk (s : List UInt8) : Bool := decide (s.length ≤ 4096) && decide ((0 : UInt8) ∉ s) && decide ((cutAt 47 s).length ≤ 64) && (cutAt 47 s).all nameOk
theorem cut_app (b : List UInt8) : ∀ a : List UInt8, cutAt 47 (a ++ 47 :: b) = cutAt 47 a ++ cutAt 47 b
  | [] => by simp [cutAt]
  | x :: r => by
    rw [List.cons_append, cutAt_cons, cutAt_cons (r := r), cut_app b r]
    by_cases hx : x = 47
    · rw [if_pos hx, if_pos hx]; rfl
    · rw [if_neg hx, if_neg hx]
      rcases hc : cutAt 47 r with _ | ⟨p, ps⟩
      · exact absurd hc (cutAt_ne _ _)
      · rfl
structure PG (s : List UInt8) (n : Nat) : Prop where
  len : s.length ≤ 1 + 80 * n
  zero : (0 : UInt8) ∉ s
  parts : (cutAt 47 s).length = n + 1
  ok : (cutAt 47 s).all nameOk = true
structure NG (x : List UInt8) : Prop where
  len : x.length ≤ 70
  zero : (0 : UInt8) ∉ x
  stroke : (47 : UInt8) ∉ x
  ok : nameOk x = true
theorem PG.start : PG [112] 0 := ⟨by decide, by decide, by decide, by decide⟩
theorem PG.more {s x : List UInt8} {n : Nat} (h : PG s n) (hx : NG x) : PG (s ++ 47 :: x) (n + 1) := by
  refine ⟨?_, ?_, ?_, ?_⟩
  · have := h.len; have := hx.len; simp; omega
  · intro hm
    simp only [List.mem_append, List.mem_cons] at hm
    rcases hm with hm | hm | hm
    · exact h.zero hm
    · exact absurd hm (by decide)
    · exact hx.zero hm
  · rw [cut_app, List.length_append, h.parts, cutAt_none hx.stroke]; rfl
  · rw [cut_app, List.all_append, h.ok, cutAt_none hx.stroke]
    simp [hx.ok]
theorem pathOk_of {s : List UInt8} (h1 : s.length ≤ 4096) (h2 : (0 : UInt8) ∉ s) (h3 : (cutAt 47 s).length ≤ 64) : pathOk s = (cutAt 47 s).all nameOk := by
  unfold pathOk
  rw [decide_eq_true h1, decide_eq_true h2, decide_eq_true h3]
  simp
theorem PG.path {s : List UInt8} {n : Nat} (h : PG s n) (hn : n ≤ 8) : pathOk s = true := by
  rw [pathOk_of (by have := h.len; omega) h.zero (by have := h.parts; omega), h.ok]
def manyL : Nat → List UInt8
  | 0 => [97]
  | k + 1 => manyL k ++ [47, 97]
end Go.Proofs.YtbhnhoenjoagbaaGreatDoor.PathM
