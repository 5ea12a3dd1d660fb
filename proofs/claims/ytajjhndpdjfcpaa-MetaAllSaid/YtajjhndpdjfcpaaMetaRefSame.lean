/- The document's answer: whether two are one; Plain. -/
import Derived.Test.YtajjhndpdjfcpaaMetaRef
namespace Go.Proofs.Ytajjhndpdjfcpaa
open Go.RowKit
open MetaM
set_option linter.unusedVariables false

def MetaM.sameM (a b : Mt) : Bool :=
  decide (a.mode = b.mode) && decide (a.uid = b.uid) && decide (a.gid = b.gid) && decide (a.sec = b.sec ∧ a.nano = b.nano) && AclW.sameL a.acl b.acl && AclW.sameL a.dfl b.dfl && decide (a.xat = b.xat) &&
    decide (a.cap.v = b.cap.v ∧ a.cap.p = b.cap.p ∧ a.cap.i = b.cap.i ∧ a.cap.e = b.cap.e ∧ a.cap.r = b.cap.r) && decide (a.flags = b.flags)
theorem blk_next (w : World) (o : Obj) (t : TypeId) (cs : Array Value) : BlkIs ((w.alloc o).alloc (.cells cs t)) (w.heap.size + 1) t cs := by
  have h := BlkIs.made (w.alloc o) t cs
  rw [show (w.alloc o).heap.size = w.heap.size + 1 by simp] at h
  exact h
attribute [local irreducible] Row At

set_option maxHeartbeats 3200000 in
set_option maxRecDepth 100000 in
theorem refSameMeta_any (m n : Mt) (va vd vx ua ud ux : Value) (w : World) (hm : MetaAt m va vd vx w) (hn : MetaAt n ua ud ux w) :
    Calls Try.prog 12 #[.agg (metaC m va vd vx), .agg (metaC n ua ud ux)] w fun e w' => e = .returned (.bool (sameM m n)) ∧ Below w.heap.size w w' := by
  have H1 := Lib.hid (fun W (hb : Below w.heap.size w W) => AclW.refSame_any va ua m.acl n.acl W (hm.acl.call hb) (hn.acl.call hb) hm.la hn.la)
  have H2 := Lib.hid (fun W (hb : Below w.heap.size w W) => AclW.refSame_any vd ud m.dfl n.dfl W (hm.dfl.call hb) (hn.dfl.call hb) hm.ld hn.ld)
  have H3 := Lib.hid (fun W (hb : Below w.heap.size w W) => XatW.refSameX_any vx ux m.xat n.xat W (hm.xat.call hb) (hn.xat.call hb) hm.lx hn.lx)
  unfold metaC
  obtain ⟨mode, uid, gid, sec, nano, acl, dfl, xat, ⟨cv, cp, ci, ce, cr⟩, flags⟩ := m
  obtain ⟨mode', uid', gid', sec', nano', acl', dfl', xat', ⟨cv', cp', ci', ce', cr'⟩, flags'⟩ := n
  simp only at H1 H2 H3 ⊢
  obtain ⟨r, hr⟩ : ∃ r, sameM ⟨mode, uid, gid, sec, nano, acl, dfl, xat, ⟨cv, cp, ci, ce, cr⟩, flags⟩ ⟨mode', uid', gid', sec', nano', acl', dfl', xat', ⟨cv', cp', ci', ce', cr'⟩, flags'⟩ = r := ⟨_, rfl⟩
  have HR := Lib.hid hr.symm
  rw [hr]
  unfold sameM at HR
  simp only at HR
  generalize AclW.sameL acl acl' = b1 at *
  generalize AclW.sameL dfl dfl' = b2 at *
  generalize decide (xat = xat') = b3 at *
  clear hr hm hn
  obtain ⟨W, hW⟩ : ∃ W, (w.alloc (.cells #[.int .i64 mode, .int .i64 uid, .int .i64 gid, .int .i64 sec, .int .i64 nano, va, vd, vx, .int .i64 cv, .int .u64 (cp : Int), .int .u64 (ci : Int), .bool ce, .int .i64 cr, .int .i64 flags] 30)).alloc (.cells #[.int .i64 mode', .int .i64 uid', .int .i64 gid', .int .i64 sec', .int .i64 nano', ua, ud, ux, .int .i64 cv', .int .u64 (cp' : Int), .int .u64 (ci' : Int), .bool ce', .int .i64 cr', .int .i64 flags'] 30) = W := ⟨_, rfl⟩
  have hblk : BlkIs W w.heap.size 30 #[.int .i64 mode, .int .i64 uid, .int .i64 gid, .int .i64 sec, .int .i64 nano, va, vd, vx, .int .i64 cv, .int .u64 (cp : Int), .int .u64 (ci : Int), .bool ce, .int .i64 cr, .int .i64 flags] := by rw [← hW]; exact (BlkIs.made _ _ _).alloc _
  have hblj : BlkIs W (w.heap.size + 1) 30 #[.int .i64 mode', .int .i64 uid', .int .i64 gid', .int .i64 sec', .int .i64 nano', ua, ud, ux, .int .i64 cv', .int .u64 (cp' : Int), .int .u64 (ci' : Int), .bool ce', .int .i64 cr', .int .i64 flags'] := by rw [← hW]; exact blk_next w _ _ _
  have hbl : Below w.heap.size w W := by rw [← hW]; exact gr_alloc (gr_alloc (Below.refl _ _) _) _
  have k0 := hblk.cell_some 0 _ rfl; have k1 := hblk.cell_some 1 _ rfl; have k2 := hblk.cell_some 2 _ rfl; have k3 := hblk.cell_some 3 _ rfl; have k4 := hblk.cell_some 4 _ rfl; have k5 := hblk.cell_some 5 _ rfl; have k6 := hblk.cell_some 6 _ rfl; have k7 := hblk.cell_some 7 _ rfl; have k8 := hblk.cell_some 8 _ rfl; have k9 := hblk.cell_some 9 _ rfl; have k10 := hblk.cell_some 10 _ rfl; have k11 := hblk.cell_some 11 _ rfl; have k12 := hblk.cell_some 12 _ rfl; have k13 := hblk.cell_some 13 _ rfl
  have j0 := hblj.cell_some 0 _ rfl; have j1 := hblj.cell_some 1 _ rfl; have j2 := hblj.cell_some 2 _ rfl; have j3 := hblj.cell_some 3 _ rfl; have j4 := hblj.cell_some 4 _ rfl; have j5 := hblj.cell_some 5 _ rfl; have j6 := hblj.cell_some 6 _ rfl; have j7 := hblj.cell_some 7 _ rfl; have j8 := hblj.cell_some 8 _ rfl; have j9 := hblj.cell_some 9 _ rfl; have j10 := hblj.cell_some 10 _ rfl; have j11 := hblj.cell_some 11 _ rfl; have j12 := hblj.cell_some 12 _ rfl; have j13 := hblj.cell_some 13 _ rfl
  go_enter Try.func12, Try.ntmps12
  go_wp2_with (first
    | (go_at_call 29; have y9 := y0; clear y9; refine (H2.out _ hbl).mono ?_; rintro e w3 ⟨rfl, hb2⟩; replace hbl := gr_call hbl hb2; replace hblk := hblk.kept hb2 hblk.size; replace hblj := hblj.kept hb2 hblj.size; clear hb2; clear k0 k1 k2 k3 k4 k5 k6 k7 k8 k9 k10 k11 k12 k13 j0 j1 j2 j3 j4 j5 j6 j7 j8 j9 j10 j11 j12 j13; have k0 := hblk.cell_some 0 _ rfl; have k1 := hblk.cell_some 1 _ rfl; have k2 := hblk.cell_some 2 _ rfl; have k3 := hblk.cell_some 3 _ rfl; have k4 := hblk.cell_some 4 _ rfl; have k5 := hblk.cell_some 5 _ rfl; have k6 := hblk.cell_some 6 _ rfl; have k7 := hblk.cell_some 7 _ rfl; have k8 := hblk.cell_some 8 _ rfl; have k9 := hblk.cell_some 9 _ rfl; have k10 := hblk.cell_some 10 _ rfl; have k11 := hblk.cell_some 11 _ rfl; have k12 := hblk.cell_some 12 _ rfl; have k13 := hblk.cell_some 13 _ rfl; have j0 := hblj.cell_some 0 _ rfl; have j1 := hblj.cell_some 1 _ rfl; have j2 := hblj.cell_some 2 _ rfl; have j3 := hblj.cell_some 3 _ rfl; have j4 := hblj.cell_some 4 _ rfl; have j5 := hblj.cell_some 5 _ rfl; have j6 := hblj.cell_some 6 _ rfl; have j7 := hblj.cell_some 7 _ rfl; have j8 := hblj.cell_some 8 _ rfl; have j9 := hblj.cell_some 9 _ rfl; have j10 := hblj.cell_some 10 _ rfl; have j11 := hblj.cell_some 11 _ rfl; have j12 := hblj.cell_some 12 _ rfl; have j13 := hblj.cell_some 13 _ rfl)
    | (go_at_call 29; refine (H1.out _ hbl).mono ?_; rintro e w3 ⟨rfl, hb2⟩; have y0 := True.intro; replace hbl := gr_call hbl hb2; replace hblk := hblk.kept hb2 hblk.size; replace hblj := hblj.kept hb2 hblj.size; clear hb2; clear k0 k1 k2 k3 k4 k5 k6 k7 k8 k9 k10 k11 k12 k13 j0 j1 j2 j3 j4 j5 j6 j7 j8 j9 j10 j11 j12 j13; have k0 := hblk.cell_some 0 _ rfl; have k1 := hblk.cell_some 1 _ rfl; have k2 := hblk.cell_some 2 _ rfl; have k3 := hblk.cell_some 3 _ rfl; have k4 := hblk.cell_some 4 _ rfl; have k5 := hblk.cell_some 5 _ rfl; have k6 := hblk.cell_some 6 _ rfl; have k7 := hblk.cell_some 7 _ rfl; have k8 := hblk.cell_some 8 _ rfl; have k9 := hblk.cell_some 9 _ rfl; have k10 := hblk.cell_some 10 _ rfl; have k11 := hblk.cell_some 11 _ rfl; have k12 := hblk.cell_some 12 _ rfl; have k13 := hblk.cell_some 13 _ rfl; have j0 := hblj.cell_some 0 _ rfl; have j1 := hblj.cell_some 1 _ rfl; have j2 := hblj.cell_some 2 _ rfl; have j3 := hblj.cell_some 3 _ rfl; have j4 := hblj.cell_some 4 _ rfl; have j5 := hblj.cell_some 5 _ rfl; have j6 := hblj.cell_some 6 _ rfl; have j7 := hblj.cell_some 7 _ rfl; have j8 := hblj.cell_some 8 _ rfl; have j9 := hblj.cell_some 9 _ rfl; have j10 := hblj.cell_some 10 _ rfl; have j11 := hblj.cell_some 11 _ rfl; have j12 := hblj.cell_some 12 _ rfl; have j13 := hblj.cell_some 13 _ rfl)
    | (go_at_call 30; refine (H3.out _ hbl).mono ?_; rintro e w3 ⟨rfl, hb2⟩; replace hbl := gr_call hbl hb2; replace hblk := hblk.kept hb2 hblk.size; replace hblj := hblj.kept hb2 hblj.size; clear hb2; clear k0 k1 k2 k3 k4 k5 k6 k7 k8 k9 k10 k11 k12 k13 j0 j1 j2 j3 j4 j5 j6 j7 j8 j9 j10 j11 j12 j13; have k0 := hblk.cell_some 0 _ rfl; have k1 := hblk.cell_some 1 _ rfl; have k2 := hblk.cell_some 2 _ rfl; have k3 := hblk.cell_some 3 _ rfl; have k4 := hblk.cell_some 4 _ rfl; have k5 := hblk.cell_some 5 _ rfl; have k6 := hblk.cell_some 6 _ rfl; have k7 := hblk.cell_some 7 _ rfl; have k8 := hblk.cell_some 8 _ rfl; have k9 := hblk.cell_some 9 _ rfl; have k10 := hblk.cell_some 10 _ rfl; have k11 := hblk.cell_some 11 _ rfl; have k12 := hblk.cell_some 12 _ rfl; have k13 := hblk.cell_some 13 _ rfl; have j0 := hblj.cell_some 0 _ rfl; have j1 := hblj.cell_some 1 _ rfl; have j2 := hblj.cell_some 2 _ rfl; have j3 := hblj.cell_some 3 _ rfl; have j4 := hblj.cell_some 4 _ rfl; have j5 := hblj.cell_some 5 _ rfl; have j6 := hblj.cell_some 6 _ rfl; have j7 := hblj.cell_some 7 _ rfl; have j8 := hblj.cell_some 8 _ rfl; have j9 := hblj.cell_some 9 _ rfl; have j10 := hblj.cell_some 10 _ rfl; have j11 := hblj.cell_some 11 _ rfl; have j12 := hblj.cell_some 12 _ rfl; have j13 := hblj.cell_some 13 _ rfl))
  all_goals (go_ret; refine ⟨ret_bool ?_, hbl⟩; rw [HR.out])
  all_goals clear hW hbl hblk hblj H1 H2 H3 HR k0 k1 k2 k3 k4 k5 k6 k7 k8 k9 k10 k11 k12 k13 j0 j1 j2 j3 j4 j5 j6 j7 j8 j9 j10 j11 j12 j13
  all_goals try (have q1 : cp = cp' := Int.ofNat_inj.1 (by assumption))
  all_goals try (have q1 : cp ≠ cp' := fun h => absurd (congrArg (Nat.cast : Nat → Int) h) (by assumption))
  all_goals try (have q2 : ci = ci' := Int.ofNat_inj.1 (by assumption))
  all_goals try (have q2 : ci ≠ ci' := fun h => absurd (congrArg (Nat.cast : Nat → Int) h) (by assumption))
  all_goals first | (simp [*]; done) | (by_cases hf : flags = flags' <;> simp [*]; done)

theorem plain_build (a b c : Int) (w : World) : (Instr.build 30 #[(0, .int .i64 a), (1, .int .i64 b), (2, .int .i64 c)]).run Try.prog w = .ok (.agg #[.int .i64 a, .int .i64 b, .int .i64 c, .int .i64 0, .int .i64 0, .slice none 0 0, .slice none 0 0, .slice none 0 0, .int .i64 0, .int .u64 0, .int .u64 0, .bool false, .int .i64 0, .int .i64 0]) w :=
  run_build w _ _ _ (by kernel_rfl)
/-- Nothing but three numbers. -/
def MetaM.plainM (a b c : Int) : Mt := ⟨a, b, c, 0, 0, [], [], [], ⟨0, 0, 0, false, 0⟩, 0⟩
def nilV : Value := .slice none 0 0
theorem refPlain_any (a b c : Int) (w : World) : Calls Try.prog 14 #[.int .i64 a, .int .i64 b, .int .i64 c] w fun e w' => e = .returned (.agg (metaC (plainM a b c) nilV nilV nilV)) ∧ Below w.heap.size w w' := by
  have hb := plain_build a b c
  go_enter Try.func14, Try.ntmps14
  go_wp2_with fail
  refine bodyPost_ret (v := .agg (metaC (plainM a b c) nilV nilV nilV)) (by simp [results, Try.results14, go_sem, metaC, plainM, nilV]) rfl ⟨rfl, by (repeat' (first | exact Below.refl _ _ | assumption | refine gr_drew ?_ | refine gr_drewN ?_ _ | refine gr_alloc ?_ _ | refine gr_set ?_ ?_ _ | refine gr_call ?_ (by assumption)) <;> (try (simp; done)) <;> (try (simp; omega)) <;> (try omega))⟩
end Go.Proofs.Ytajjhndpdjfcpaa
