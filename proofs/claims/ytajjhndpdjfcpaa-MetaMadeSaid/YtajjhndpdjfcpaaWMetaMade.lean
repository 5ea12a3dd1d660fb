/- The law MetaMade, walked. -/
import Derived.Test.YtajjhndpdjfcpaaMetaNums
namespace Go.Proofs.Ytajjhndpdjfcpaa
open Go.RowKit
open MetaM
set_option linter.unusedVariables false
/-- Three slices. -/
def MetaM.IsSlices (va vd vx : Value) : Prop := ∃ a b c d e f g h i, va = .slice a b c ∧ vd = .slice d e f ∧ vx = .slice g h i
theorem MetaAt.turn {m n : Mt} {va vd vx : Value} {w : World} (h : MetaAt m va vd vx w) (h1 : n.acl = m.acl) (h2 : n.dfl = m.dfl) (h3 : n.xat = m.xat) : MetaAt n va vd vx w :=
  ⟨h1 ▸ h.acl, h2 ▸ h.dfl, h3 ▸ h.xat, h1 ▸ h.la, h2 ▸ h.ld, h3 ▸ h.lx⟩
attribute [local irreducible] Row At

set_option maxHeartbeats 6400000 in
set_option maxRecDepth 100000 in
theorem metaMade_walk (a0 : Option Addr) (len0 cap0 : Nat) (z0 : List Int) (kd wh : Int) (w : World) (w0 : IsRow .u8 w a0 len0 cap0 z0) (w1 : (Lit.int .u8 kd).wf = true) (w2 : (Lit.int .u8 wh).wf = true) :
    Calls Try.prog 4 #[.slice a0 len0 cap0, .int .u8 kd, .int .u8 wh] w fun e w' => e = .returned (.bool true) ∧ Below w.heap.size w w' := by
  have hk : 0 ≤ kd ∧ kd < 256 := by simp [Lit.wf] at w1; have h1 : IntKind.u8.min = 0 := rfl; have h2 : IntKind.u8.max = 255 := rfl; omega
  have hh : 0 ≤ wh ∧ wh < 256 := by simp [Lit.wf] at w2; have h1 : IntKind.u8.min = 0 := rfl; have h2 : IntKind.u8.max = 255 := rfl; omega
  have hlen : len0 ≤ 9223372036854775807 := isRow_le w0
  clear w1 w2
  obtain ⟨k, hkk⟩ : ∃ k, k = (if kd % 6 = 0 then (1 : Int) else if kd % 6 = 1 then 3 else if kd % 6 = 2 then 4 else if kd % 6 = 3 then 5 else if kd % 6 = 4 then 6 else 7) := ⟨_, rfl⟩
  have hkin : k = 1 ∨ k = 3 ∨ k = 4 ∨ k = 5 ∨ k = 6 ∨ k = 7 := by
    subst hkk
    repeat' split
    all_goals simp
  have HMk := Lib.hid (fun W (h : Below w.heap.size w W) => metaMake_any a0 len0 cap0 z0 k W (isRow_call w0 h) hlen hkin)
  clear w0 hlen hkin
  obtain ⟨m, hm⟩ : ∃ m, madeM z0 len0 k = m := ⟨_, rfl⟩
  rw [hm] at HMk
  obtain ⟨W0, hW0⟩ : ∃ W, w.alloc (.cells #[.int .i64 1, .int .i64 3, .int .i64 4, .int .i64 5, .int .i64 6, .int .i64 7] 3) = W := ⟨_, rfl⟩
  have hbl : Below w.heap.size w W0 := by rw [← hW0]; exact gr_alloc (Below.refl _ _) _
  have hc : W0.cell? ⟨w.heap.size, (kd % 6).toNat, none⟩ = some (.int .i64 k) := by
    rw [← hW0, World.cell?_alloc_at (w := w) _ _ w.heap.size _ rfl, hkk]
    have hk6 : kd % 6 = 0 ∨ kd % 6 = 1 ∨ kd % 6 = 2 ∨ kd % 6 = 3 ∨ kd % 6 = 4 ∨ kd % 6 = 5 := by omega
    rcases hk6 with e | e | e | e | e | e <;> rw [e] <;> rfl
  clear hkk hm
  obtain ⟨q, hq⟩ : ∃ q, wh % 8 = q := ⟨_, rfl⟩
  have hq8 : q = 0 ∨ q = 1 ∨ q = 2 ∨ q = 3 ∨ q = 4 ∨ q = 5 ∨ q = 6 ∨ q = 7 := by omega
  have HQ := Lib.hid hq
  clear hq
  go_enter Try.func4, Try.ntmps4
  go_wp2_with fail
  refine (HMk.out _ hbl).mono ?_
  rintro e w1 ⟨⟨⟨va, vd, vx, rfl, hM⟩, hmay⟩, hb1⟩
  replace hbl := gr_call hbl hb1
  obtain ⟨pa, ca, rfl, hca⟩ := hM.acl.shape
  obtain ⟨pd, cd, rfl, hcd⟩ := hM.dfl.shape
  obtain ⟨px, cx, rfl, hcx⟩ := hM.xat.shape
  unfold metaC
  have HMay := Lib.hid hmay
  clear hc hW0 hb1 hmay
  go_wp2_with fail
  obtain ⟨W3, hW3⟩ : ∃ W, w1.alloc (.cells #[.int .i64 m.mode, .int .i64 m.uid, .int .i64 m.gid, .int .i64 m.sec, .int .i64 m.nano, .slice pa m.acl.length ca, .slice pd m.dfl.length cd, .slice px m.xat.length cx, .int .i64 m.cap.v, .int .u64 (m.cap.p : Int), .int .u64 (m.cap.i : Int), .bool m.cap.e, .int .i64 m.cap.r, .int .i64 m.flags] 30) = W := ⟨_, rfl⟩
  have q8 : BlkIs W3 w1.heap.size 30 #[.int .i64 m.mode, .int .i64 m.uid, .int .i64 m.gid, .int .i64 m.sec, .int .i64 m.nano, .slice pa m.acl.length ca, .slice pd m.dfl.length cd, .slice px m.xat.length cx, .int .i64 m.cap.v, .int .u64 (m.cap.p : Int), .int .u64 (m.cap.i : Int), .bool m.cap.e, .int .i64 m.cap.r, .int .i64 m.flags] := by rw [← hW3]; exact BlkIs.made _ _ _
  have hbl3 : Below w.heap.size w W3 := by rw [← hW3]; exact gr_alloc hbl _
  have hM3 : MetaAt m (.slice pa m.acl.length ca) (.slice pd m.dfl.length cd) (.slice px m.xat.length cx) W3 := by rw [← hW3]; exact hM.call (gr_alloc (Below.refl _ _) _)
  have hg8 : w.heap.size ≤ w1.heap.size := hbl.size
  rw [hW3]
  clear hW3 hbl hM hca hcd hcx
  generalize w1.heap.size = g8 at *
  refine (HMk.out _ hbl3).mono ?_
  rintro e w4 ⟨⟨⟨va, vd, vx, rfl, hN⟩, _⟩, hb4⟩
  obtain ⟨qa, da, rfl, _⟩ := hN.acl.shape
  obtain ⟨qd, dd, rfl, _⟩ := hN.dfl.shape
  obtain ⟨qx, dx, rfl, _⟩ := hN.xat.shape
  unfold metaC
  have hbl4 := gr_call hbl3 hb4
  replace q8 := q8.kept hb4 q8.size
  replace hM3 := hM3.call hb4
  clear hb4 hbl3 HMk
  go_upto_region 4 with fail
  obtain ⟨W5, hW5⟩ : ∃ W, w4.alloc (.cells #[.int .i64 m.mode, .int .i64 m.uid, .int .i64 m.gid, .int .i64 m.sec, .int .i64 m.nano, .slice qa m.acl.length da, .slice qd m.dfl.length dd, .slice qx m.xat.length dx, .int .i64 m.cap.v, .int .u64 (m.cap.p : Int), .int .u64 (m.cap.i : Int), .bool m.cap.e, .int .i64 m.cap.r, .int .i64 m.flags] 30) = W := ⟨_, rfl⟩
  have hblj : BlkIs W5 w4.heap.size 30 #[.int .i64 m.mode, .int .i64 m.uid, .int .i64 m.gid, .int .i64 m.sec, .int .i64 m.nano, .slice qa m.acl.length da, .slice qd m.dfl.length dd, .slice qx m.xat.length dx, .int .i64 m.cap.v, .int .u64 (m.cap.p : Int), .int .u64 (m.cap.i : Int), .bool m.cap.e, .int .i64 m.cap.r, .int .i64 m.flags] := by rw [← hW5]; exact BlkIs.made _ _ _
  have hblk : BlkIs W5 g8 30 #[.int .i64 m.mode, .int .i64 m.uid, .int .i64 m.gid, .int .i64 m.sec, .int .i64 m.nano, .slice pa m.acl.length ca, .slice pd m.dfl.length cd, .slice px m.xat.length cx, .int .i64 m.cap.v, .int .u64 (m.cap.p : Int), .int .u64 (m.cap.i : Int), .bool m.cap.e, .int .i64 m.cap.r, .int .i64 m.flags] := by rw [← hW5]; exact q8.alloc _
  have hbl : Below w.heap.size w W5 := by rw [← hW5]; exact gr_alloc hbl4 _
  have hbq : Below w4.heap.size w4 W5 := by rw [← hW5]; exact gr_alloc (Below.refl _ _) _
  have hM := hM3
  have hg9 : w.heap.size ≤ w4.heap.size := hbl4.size
  have h89 : g8 < w4.heap.size := q8.size
  rw [hW5]
  clear hW5 hbl4 hM3 q8
  obtain ⟨g9, hg9e⟩ : ∃ g, w4.heap.size = g := ⟨_, rfl⟩
  have h49 : w4.heap.size ≤ g9 := by omega
  rw [hg9e] at hblj hg9 h89 ⊢
  clear hg9e
  have n89 : g8 ≠ g9 := by omega
  have HA1 := Lib.hid (fun W (h : Below w4.heap.size w4 W) => MayM_any m _ _ _ k W (hM.call h))
  have HA2 := Lib.hid (fun W (h : Below w4.heap.size w4 W) => SameM_any m m _ _ _ _ _ _ W (hM.call h) (hN.call h))
  have HA3 := Lib.hid (fun W (h : Below w4.heap.size w4 W) => MayM_any m _ _ _ 2 W (hM.call h))
  have HA4 := Lib.hid (fun W (h : Below w4.heap.size w4 W) => MayM_any m _ _ _ 0 W (hM.call h))
  have HA5 := Lib.hid (fun W (h : Below w4.heap.size w4 W) => MayM_any m _ _ _ 8 W (hM.call h))
  rw [HMay.out] at HA1
  rw [same_self] at HA2
  rw [may_out m (show kindIn 2 = false by rfl)] at HA3
  rw [may_out m (show kindIn 0 = false by rfl)] at HA4
  rw [may_out m (show kindIn 8 = false by rfl)] at HA5
  unfold metaC at HA1 HA2 HA3 HA4 HA5
  have k0 := hblk.cell_some 0 _ rfl; have k1 := hblk.cell_some 1 _ rfl; have k2 := hblk.cell_some 2 _ rfl; have k3 := hblk.cell_some 3 _ rfl; have k4 := hblk.cell_some 4 _ rfl; have k5 := hblk.cell_some 5 _ rfl; have k6 := hblk.cell_some 6 _ rfl; have k7 := hblk.cell_some 7 _ rfl; have k8 := hblk.cell_some 8 _ rfl; have k9 := hblk.cell_some 9 _ rfl; have k10 := hblk.cell_some 10 _ rfl; have k11 := hblk.cell_some 11 _ rfl; have k12 := hblk.cell_some 12 _ rfl; have k13 := hblk.cell_some 13 _ rfl
  have j0 := hblj.cell_some 0 _ rfl; have j1 := hblj.cell_some 1 _ rfl; have j2 := hblj.cell_some 2 _ rfl; have j3 := hblj.cell_some 3 _ rfl; have j4 := hblj.cell_some 4 _ rfl; have j5 := hblj.cell_some 5 _ rfl; have j6 := hblj.cell_some 6 _ rfl; have j7 := hblj.cell_some 7 _ rfl; have j8 := hblj.cell_some 8 _ rfl; have j9 := hblj.cell_some 9 _ rfl; have j10 := hblj.cell_some 10 _ rfl; have j11 := hblj.cell_some 11 _ rfl; have j12 := hblj.cell_some 12 _ rfl; have j13 := hblj.cell_some 13 _ rfl
  go_wp2_with fail
  refine (HA1.out _ hbq).mono ?_
  rintro e w6 ⟨rfl, hb2⟩
  replace hbq := gr_call hbq hb2
  replace hbl := gr_call hbl hb2; replace hblk := hblk.kept hb2 hblk.size; replace hblj := hblj.kept hb2 hblj.size; clear hb2; clear k0 k1 k2 k3 k4 k5 k6 k7 k8 k9 k10 k11 k12 k13 j0 j1 j2 j3 j4 j5 j6 j7 j8 j9 j10 j11 j12 j13; have k0 := hblk.cell_some 0 _ rfl; have k1 := hblk.cell_some 1 _ rfl; have k2 := hblk.cell_some 2 _ rfl; have k3 := hblk.cell_some 3 _ rfl; have k4 := hblk.cell_some 4 _ rfl; have k5 := hblk.cell_some 5 _ rfl; have k6 := hblk.cell_some 6 _ rfl; have k7 := hblk.cell_some 7 _ rfl; have k8 := hblk.cell_some 8 _ rfl; have k9 := hblk.cell_some 9 _ rfl; have k10 := hblk.cell_some 10 _ rfl; have k11 := hblk.cell_some 11 _ rfl; have k12 := hblk.cell_some 12 _ rfl; have k13 := hblk.cell_some 13 _ rfl; have j0 := hblj.cell_some 0 _ rfl; have j1 := hblj.cell_some 1 _ rfl; have j2 := hblj.cell_some 2 _ rfl; have j3 := hblj.cell_some 3 _ rfl; have j4 := hblj.cell_some 4 _ rfl; have j5 := hblj.cell_some 5 _ rfl; have j6 := hblj.cell_some 6 _ rfl; have j7 := hblj.cell_some 7 _ rfl; have j8 := hblj.cell_some 8 _ rfl; have j9 := hblj.cell_some 9 _ rfl; have j10 := hblj.cell_some 10 _ rfl; have j11 := hblj.cell_some 11 _ rfl; have j12 := hblj.cell_some 12 _ rfl; have j13 := hblj.cell_some 13 _ rfl
  go_wp2_with fail
  refine (HA2.out _ hbq).mono ?_
  rintro e w6 ⟨rfl, hb2⟩
  replace hbq := gr_call hbq hb2
  replace hbl := gr_call hbl hb2; replace hblk := hblk.kept hb2 hblk.size; replace hblj := hblj.kept hb2 hblj.size; clear hb2; clear k0 k1 k2 k3 k4 k5 k6 k7 k8 k9 k10 k11 k12 k13 j0 j1 j2 j3 j4 j5 j6 j7 j8 j9 j10 j11 j12 j13; have k0 := hblk.cell_some 0 _ rfl; have k1 := hblk.cell_some 1 _ rfl; have k2 := hblk.cell_some 2 _ rfl; have k3 := hblk.cell_some 3 _ rfl; have k4 := hblk.cell_some 4 _ rfl; have k5 := hblk.cell_some 5 _ rfl; have k6 := hblk.cell_some 6 _ rfl; have k7 := hblk.cell_some 7 _ rfl; have k8 := hblk.cell_some 8 _ rfl; have k9 := hblk.cell_some 9 _ rfl; have k10 := hblk.cell_some 10 _ rfl; have k11 := hblk.cell_some 11 _ rfl; have k12 := hblk.cell_some 12 _ rfl; have k13 := hblk.cell_some 13 _ rfl; have j0 := hblj.cell_some 0 _ rfl; have j1 := hblj.cell_some 1 _ rfl; have j2 := hblj.cell_some 2 _ rfl; have j3 := hblj.cell_some 3 _ rfl; have j4 := hblj.cell_some 4 _ rfl; have j5 := hblj.cell_some 5 _ rfl; have j6 := hblj.cell_some 6 _ rfl; have j7 := hblj.cell_some 7 _ rfl; have j8 := hblj.cell_some 8 _ rfl; have j9 := hblj.cell_some 9 _ rfl; have j10 := hblj.cell_some 10 _ rfl; have j11 := hblj.cell_some 11 _ rfl; have j12 := hblj.cell_some 12 _ rfl; have j13 := hblj.cell_some 13 _ rfl
  go_wp2_with fail
  refine (HA3.out _ hbq).mono ?_
  rintro e w6 ⟨rfl, hb2⟩
  replace hbq := gr_call hbq hb2
  replace hbl := gr_call hbl hb2; replace hblk := hblk.kept hb2 hblk.size; replace hblj := hblj.kept hb2 hblj.size; clear hb2; clear k0 k1 k2 k3 k4 k5 k6 k7 k8 k9 k10 k11 k12 k13 j0 j1 j2 j3 j4 j5 j6 j7 j8 j9 j10 j11 j12 j13; have k0 := hblk.cell_some 0 _ rfl; have k1 := hblk.cell_some 1 _ rfl; have k2 := hblk.cell_some 2 _ rfl; have k3 := hblk.cell_some 3 _ rfl; have k4 := hblk.cell_some 4 _ rfl; have k5 := hblk.cell_some 5 _ rfl; have k6 := hblk.cell_some 6 _ rfl; have k7 := hblk.cell_some 7 _ rfl; have k8 := hblk.cell_some 8 _ rfl; have k9 := hblk.cell_some 9 _ rfl; have k10 := hblk.cell_some 10 _ rfl; have k11 := hblk.cell_some 11 _ rfl; have k12 := hblk.cell_some 12 _ rfl; have k13 := hblk.cell_some 13 _ rfl; have j0 := hblj.cell_some 0 _ rfl; have j1 := hblj.cell_some 1 _ rfl; have j2 := hblj.cell_some 2 _ rfl; have j3 := hblj.cell_some 3 _ rfl; have j4 := hblj.cell_some 4 _ rfl; have j5 := hblj.cell_some 5 _ rfl; have j6 := hblj.cell_some 6 _ rfl; have j7 := hblj.cell_some 7 _ rfl; have j8 := hblj.cell_some 8 _ rfl; have j9 := hblj.cell_some 9 _ rfl; have j10 := hblj.cell_some 10 _ rfl; have j11 := hblj.cell_some 11 _ rfl; have j12 := hblj.cell_some 12 _ rfl; have j13 := hblj.cell_some 13 _ rfl
  go_wp2_with fail
  refine (HA4.out _ hbq).mono ?_
  rintro e w6 ⟨rfl, hb2⟩
  replace hbq := gr_call hbq hb2
  replace hbl := gr_call hbl hb2; replace hblk := hblk.kept hb2 hblk.size; replace hblj := hblj.kept hb2 hblj.size; clear hb2; clear k0 k1 k2 k3 k4 k5 k6 k7 k8 k9 k10 k11 k12 k13 j0 j1 j2 j3 j4 j5 j6 j7 j8 j9 j10 j11 j12 j13; have k0 := hblk.cell_some 0 _ rfl; have k1 := hblk.cell_some 1 _ rfl; have k2 := hblk.cell_some 2 _ rfl; have k3 := hblk.cell_some 3 _ rfl; have k4 := hblk.cell_some 4 _ rfl; have k5 := hblk.cell_some 5 _ rfl; have k6 := hblk.cell_some 6 _ rfl; have k7 := hblk.cell_some 7 _ rfl; have k8 := hblk.cell_some 8 _ rfl; have k9 := hblk.cell_some 9 _ rfl; have k10 := hblk.cell_some 10 _ rfl; have k11 := hblk.cell_some 11 _ rfl; have k12 := hblk.cell_some 12 _ rfl; have k13 := hblk.cell_some 13 _ rfl; have j0 := hblj.cell_some 0 _ rfl; have j1 := hblj.cell_some 1 _ rfl; have j2 := hblj.cell_some 2 _ rfl; have j3 := hblj.cell_some 3 _ rfl; have j4 := hblj.cell_some 4 _ rfl; have j5 := hblj.cell_some 5 _ rfl; have j6 := hblj.cell_some 6 _ rfl; have j7 := hblj.cell_some 7 _ rfl; have j8 := hblj.cell_some 8 _ rfl; have j9 := hblj.cell_some 9 _ rfl; have j10 := hblj.cell_some 10 _ rfl; have j11 := hblj.cell_some 11 _ rfl; have j12 := hblj.cell_some 12 _ rfl; have j13 := hblj.cell_some 13 _ rfl
  go_wp2_with fail
  refine (HA5.out _ hbq).mono ?_
  rintro e w6 ⟨rfl, hb2⟩
  replace hbq := gr_call hbq hb2
  replace hbl := gr_call hbl hb2; replace hblk := hblk.kept hb2 hblk.size; replace hblj := hblj.kept hb2 hblj.size; clear hb2; clear k0 k1 k2 k3 k4 k5 k6 k7 k8 k9 k10 k11 k12 k13 j0 j1 j2 j3 j4 j5 j6 j7 j8 j9 j10 j11 j12 j13; have k0 := hblk.cell_some 0 _ rfl; have k1 := hblk.cell_some 1 _ rfl; have k2 := hblk.cell_some 2 _ rfl; have k3 := hblk.cell_some 3 _ rfl; have k4 := hblk.cell_some 4 _ rfl; have k5 := hblk.cell_some 5 _ rfl; have k6 := hblk.cell_some 6 _ rfl; have k7 := hblk.cell_some 7 _ rfl; have k8 := hblk.cell_some 8 _ rfl; have k9 := hblk.cell_some 9 _ rfl; have k10 := hblk.cell_some 10 _ rfl; have k11 := hblk.cell_some 11 _ rfl; have k12 := hblk.cell_some 12 _ rfl; have k13 := hblk.cell_some 13 _ rfl; have j0 := hblj.cell_some 0 _ rfl; have j1 := hblj.cell_some 1 _ rfl; have j2 := hblj.cell_some 2 _ rfl; have j3 := hblj.cell_some 3 _ rfl; have j4 := hblj.cell_some 4 _ rfl; have j5 := hblj.cell_some 5 _ rfl; have j6 := hblj.cell_some 6 _ rfl; have j7 := hblj.cell_some 7 _ rfl; have j8 := hblj.cell_some 8 _ rfl; have j9 := hblj.cell_some 9 _ rfl; have j10 := hblj.cell_some 10 _ rfl; have j11 := hblj.cell_some 11 _ rfl; have j12 := hblj.cell_some 12 _ rfl; have j13 := hblj.cell_some 13 _ rfl
  clear HA1 HA2 HA3 HA4 HA5
  go_upto_block 0 with fail
  go_cut [48] from 43 to 77 (fun _ wx => ∃ (n : Mt) (va vd vx : Value), BlkIs wx g8 30 #[.int .i64 m.mode, .int .i64 m.uid, .int .i64 m.gid, .int .i64 m.sec, .int .i64 m.nano, .slice pa m.acl.length ca, .slice pd m.dfl.length cd, .slice px m.xat.length cx, .int .i64 m.cap.v, .int .u64 (m.cap.p : Int), .int .u64 (m.cap.i : Int), .bool m.cap.e, .int .i64 m.cap.r, .int .i64 m.flags] ∧ BlkIs wx g9 30 #[.int .i64 n.mode, .int .i64 n.uid, .int .i64 n.gid, .int .i64 n.sec, .int .i64 n.nano, va, vd, vx, .int .i64 n.cap.v, .int .u64 (n.cap.p : Int), .int .u64 (n.cap.i : Int), .bool n.cap.e, .int .i64 n.cap.r, .int .i64 n.flags] ∧ MetaAt m (.slice pa m.acl.length ca) (.slice pd m.dfl.length cd) (.slice px m.xat.length cx) wx ∧ MetaAt n va vd vx wx ∧ Hid (mayM n k = false) ∧ Below w.heap.size w wx ∧ IsSlices va vd vx)
  case first =>
    clear k0 k1 k2 k3 k4 k5 k6 k7 k8 k9 k10 k11 k12 k13
    have hsl : IsSlices (.slice qa m.acl.length da) (.slice qd m.dfl.length dd) (.slice qx m.xat.length dx) := ⟨_, _, _, _, _, _, _, _, _, rfl, rfl, rfl⟩
    have hHQ := HQ.out
    rcases hq8 with hq8 | hq8 | hq8 | hq8 | hq8 | hq8 | hq8 | hq8
    · have f0 := hblj.free 0
      have t0 : (wh % 8 == 0) = true := by rw [hHQ, hq8]; rfl
      clear hHQ hq8
      go_wp2_with fail
      go_meet
      have hb8 : Below w4.heap.size w4 (w6.setCell ⟨g9, 0, none⟩ (.int .i64 4096)) := gr_set hbq (p := ⟨g9, 0, none⟩) h49 (.int .i64 4096)
      exact ⟨{ m with mode := 4096 }, _, _, _, hblk.other (p := ⟨g9, 0, none⟩) n89 (.int .i64 4096), hblj.put 0 (.int .i64 4096), hM.call hb8, (hN.call hb8).turn rfl rfl rfl, Lib.hid (bad_mode m k), gr_set hbl (p := ⟨g9, 0, none⟩) hg9 (.int .i64 4096), hsl⟩
    · have f1 := hblj.free 1
      have t0 : (wh % 8 == 0) = false := by rw [hHQ, hq8]; rfl
      have t1 : (wh % 8 == 1) = true := by rw [hHQ, hq8]; rfl
      clear hHQ hq8
      go_wp2_with fail
      go_meet
      have hb8 : Below w4.heap.size w4 (w6.setCell ⟨g9, 1, none⟩ (.int .i64 (-1))) := gr_set hbq (p := ⟨g9, 1, none⟩) h49 (.int .i64 (-1))
      exact ⟨{ m with uid := -1 }, _, _, _, hblk.other (p := ⟨g9, 1, none⟩) n89 (.int .i64 (-1)), hblj.put 1 (.int .i64 (-1)), hM.call hb8, (hN.call hb8).turn rfl rfl rfl, Lib.hid (bad_uid m k), gr_set hbl (p := ⟨g9, 1, none⟩) hg9 (.int .i64 (-1)), hsl⟩
    · have f2 := hblj.free 2
      have t0 : (wh % 8 == 0) = false := by rw [hHQ, hq8]; rfl
      have t1 : (wh % 8 == 1) = false := by rw [hHQ, hq8]; rfl
      have t2 : (wh % 8 == 2) = true := by rw [hHQ, hq8]; rfl
      clear hHQ hq8
      go_wp2_with fail
      go_meet
      have hb8 : Below w4.heap.size w4 (w6.setCell ⟨g9, 2, none⟩ (.int .i64 2147483648)) := gr_set hbq (p := ⟨g9, 2, none⟩) h49 (.int .i64 2147483648)
      exact ⟨{ m with gid := 2147483648 }, _, _, _, hblk.other (p := ⟨g9, 2, none⟩) n89 (.int .i64 2147483648), hblj.put 2 (.int .i64 2147483648), hM.call hb8, (hN.call hb8).turn rfl rfl rfl, Lib.hid (bad_gid m k), gr_set hbl (p := ⟨g9, 2, none⟩) hg9 (.int .i64 2147483648), hsl⟩
    · have f4 := hblj.free 4
      have t0 : (wh % 8 == 0) = false := by rw [hHQ, hq8]; rfl
      have t1 : (wh % 8 == 1) = false := by rw [hHQ, hq8]; rfl
      have t2 : (wh % 8 == 2) = false := by rw [hHQ, hq8]; rfl
      have t3 : (wh % 8 == 3) = true := by rw [hHQ, hq8]; rfl
      clear hHQ hq8
      go_wp2_with fail
      go_meet
      have hb8 : Below w4.heap.size w4 (w6.setCell ⟨g9, 4, none⟩ (.int .i64 1000000000)) := gr_set hbq (p := ⟨g9, 4, none⟩) h49 (.int .i64 1000000000)
      exact ⟨{ m with nano := 1000000000 }, _, _, _, hblk.other (p := ⟨g9, 4, none⟩) n89 (.int .i64 1000000000), hblj.put 4 (.int .i64 1000000000), hM.call hb8, (hN.call hb8).turn rfl rfl rfl, Lib.hid (bad_nano m k), gr_set hbl (p := ⟨g9, 4, none⟩) hg9 (.int .i64 1000000000), hsl⟩
    · have f13 := hblj.free 13
      have t0 : (wh % 8 == 0) = false := by rw [hHQ, hq8]; rfl
      have t1 : (wh % 8 == 1) = false := by rw [hHQ, hq8]; rfl
      have t2 : (wh % 8 == 2) = false := by rw [hHQ, hq8]; rfl
      have t3 : (wh % 8 == 3) = false := by rw [hHQ, hq8]; rfl
      have t4 : (wh % 8 == 4) = true := by rw [hHQ, hq8]; rfl
      clear hHQ hq8
      go_wp2_with fail
      go_meet
      have hb8 : Below w4.heap.size w4 (w6.setCell ⟨g9, 13, none⟩ (.int .i64 16)) := gr_set hbq (p := ⟨g9, 13, none⟩) h49 (.int .i64 16)
      exact ⟨{ m with flags := 16 }, _, _, _, hblk.other (p := ⟨g9, 13, none⟩) n89 (.int .i64 16), hblj.put 13 (.int .i64 16), hM.call hb8, (hN.call hb8).turn rfl rfl rfl, Lib.hid (bad_flags m k), gr_set hbl (p := ⟨g9, 13, none⟩) hg9 (.int .i64 16), hsl⟩
    · have f7 := hblj.free 7
      have f7b := (hblj.alloc (.cells #[.string ⟨#[98]⟩, .string ⟨#[]⟩, .string ⟨#[97]⟩, .string ⟨#[]⟩] 41)).free 7
      have k7b := (hblj.alloc (.cells #[.string ⟨#[98]⟩, .string ⟨#[]⟩, .string ⟨#[97]⟩, .string ⟨#[]⟩] 41)).cell_some 7 _ rfl
      have t0 : (wh % 8 == 0) = false := by rw [hHQ, hq8]; rfl
      have t1 : (wh % 8 == 1) = false := by rw [hHQ, hq8]; rfl
      have t2 : (wh % 8 == 2) = false := by rw [hHQ, hq8]; rfl
      have t3 : (wh % 8 == 3) = false := by rw [hHQ, hq8]; rfl
      have t4 : (wh % 8 == 4) = false := by rw [hHQ, hq8]; rfl
      have t5 : (wh % 8 == 5) = true := by rw [hHQ, hq8]; rfl
      clear hHQ hq8
      go_wp2_with fail
      go_meet
      have h96 : g9 < w6.heap.size := hblj.size
      have hx := (BlkIs.made w6 41 #[.string ⟨#[98]⟩, .string ⟨#[]⟩, .string ⟨#[97]⟩, .string ⟨#[]⟩]).other (p := ⟨g9, 7, none⟩) (show w6.heap.size ≠ g9 by omega) (.slice (some ⟨w6.heap.size, 0, none⟩) 2 2)
      have hb8 := gr_set (gr_alloc hbq (.cells #[.string ⟨#[98]⟩, .string ⟨#[]⟩, .string ⟨#[97]⟩, .string ⟨#[]⟩] 41)) (p := ⟨g9, 7, none⟩) h49 (.slice (some ⟨w6.heap.size, 0, none⟩) 2 2)
      have hat : At XatW.xatE (.slice (some ⟨w6.heap.size, 0, none⟩) 2 2) [([98], []), ([97], [])] _ := XatW.two_at XatW.xat_two (n := 2) (off := 0) (cap := 2) rfl (by decide) hx.size (fun j hj => by
        have : j = 0 ∨ j = 1 := by simp at hj; omega
        rcases this with rfl | rfl
        · exact ⟨hx.cell_some 0 _ rfl, hx.cell_some 1 _ rfl⟩
        · exact ⟨hx.cell_some 2 _ rfl, hx.cell_some 3 _ rfl⟩)
      exact ⟨{ m with xat := [([98], []), ([97], [])] }, _, _, _, (hblk.alloc _).other (p := ⟨g9, 7, none⟩) n89 _, (hblj.alloc _).put 7 _, hM.call hb8, ⟨(hN.call hb8).acl, (hN.call hb8).dfl, hat, hN.la, hN.ld, by simp⟩, Lib.hid (bad_xat m k two_bad), gr_set (gr_alloc hbl _) (p := ⟨g9, 7, none⟩) hg9 _, ⟨_, _, _, _, _, _, _, _, _, rfl, rfl, rfl⟩⟩
    · have f5 := hblj.free 5
      have t0 : (wh % 8 == 0) = false := by rw [hHQ, hq8]; rfl
      have t1 : (wh % 8 == 1) = false := by rw [hHQ, hq8]; rfl
      have t2 : (wh % 8 == 2) = false := by rw [hHQ, hq8]; rfl
      have t3 : (wh % 8 == 3) = false := by rw [hHQ, hq8]; rfl
      have t4 : (wh % 8 == 4) = false := by rw [hHQ, hq8]; rfl
      have t5 : (wh % 8 == 5) = false := by rw [hHQ, hq8]; rfl
      have t6 : (wh % 8 == 6) = true := by rw [hHQ, hq8]; rfl
      have HXO := Lib.hid (xor_one (N := m.mode % 512) (by omega) (by omega))
      obtain ⟨Q, hQ⟩ : ∃ Q, bits .xor .i64 (m.mode % 512) 1 = Q := ⟨_, rfl⟩
      rw [hQ] at HXO
      have h511 := and511 m.mode
      have HM9 := Lib.hid (fun W => AclW.make_fn none 0 0 [] Q W (.inl ⟨rfl, rfl, rfl, rfl⟩) HXO.out.1 HXO.out.2.1 (by omega))
      clear hHQ hq8
      go_wp2_with fail
      refine (HM9.out _).mono ?_
      rintro e w7 ⟨⟨v, rfl, hR, hmay, hmd⟩, hb2⟩
      have h96 : g9 < w6.heap.size := hblj.size
      have hown : v.ownBlock ≠ some g9 := fun e => by have := (hR.lt _ e).1; omega
      obtain ⟨pv, cv, hsh, _⟩ := hR.at.shape
      obtain ⟨L, hL⟩ : ∃ L, AclW.madeL [] 0 Q = L := ⟨_, rfl⟩
      rw [hL] at hsh hR hmay hmd
      subst hsh
      have HL := Lib.hid (And.intro hmay hmd)
      clear hL hmay hmd
      replace hbq := gr_call hbq hb2
      replace hbl := gr_call hbl hb2
      replace hblk := hblk.kept hb2 hblk.size
      replace hblj := hblj.kept hb2 hblj.size
      clear hb2 f5 j0 j1 j2 j3 j4 j5 j6 j7 j8 j9 j10 j11 j12 j13
      have j0 := hblj.cell_some 0 _ rfl; have j1 := hblj.cell_some 1 _ rfl; have j2 := hblj.cell_some 2 _ rfl; have j3 := hblj.cell_some 3 _ rfl; have j4 := hblj.cell_some 4 _ rfl; have j5 := hblj.cell_some 5 _ rfl; have j6 := hblj.cell_some 6 _ rfl; have j7 := hblj.cell_some 7 _ rfl; have j8 := hblj.cell_some 8 _ rfl; have j9 := hblj.cell_some 9 _ rfl; have j10 := hblj.cell_some 10 _ rfl; have j11 := hblj.cell_some 11 _ rfl; have j12 := hblj.cell_some 12 _ rfl; have j13 := hblj.cell_some 13 _ rfl
      have f5 := hblj.free 5
      go_wp2_with fail
      go_meet
      have hb8 := gr_set hbq (p := ⟨g9, 5, none⟩) h49 (.slice pv L.length cv)
      have hlen := AclW.may_len HL.out.1
      exact ⟨{ m with acl := L }, _, _, _, hblk.other (p := ⟨g9, 5, none⟩) n89 _, hblj.put 5 _, hM.call hb8, ⟨(hR.other (a := ⟨g9, 5, none⟩) hown _).at, (hN.call hb8).dfl, (hN.call hb8).xat, by simp only; omega, hN.ld, hN.lx⟩, Lib.hid (bad_acl m k HL.out.1 (by rw [HL.out.2]; exact HXO.out.2.2)), gr_set hbl (p := ⟨g9, 5, none⟩) hg9 _, ⟨_, _, _, _, _, _, _, _, _, rfl, rfl, rfl⟩⟩
    · have f8 := hblj.free 8
      have t0 : (wh % 8 == 0) = false := by rw [hHQ, hq8]; rfl
      have t1 : (wh % 8 == 1) = false := by rw [hHQ, hq8]; rfl
      have t2 : (wh % 8 == 2) = false := by rw [hHQ, hq8]; rfl
      have t3 : (wh % 8 == 3) = false := by rw [hHQ, hq8]; rfl
      have t4 : (wh % 8 == 4) = false := by rw [hHQ, hq8]; rfl
      have t5 : (wh % 8 == 5) = false := by rw [hHQ, hq8]; rfl
      have t6 : (wh % 8 == 6) = false := by rw [hHQ, hq8]; rfl
      clear hHQ hq8
      go_wp2_with fail
      go_meet
      have hb8 : Below w4.heap.size w4 (w6.setCell ⟨g9, 8, none⟩ (.int .i64 5)) := gr_set hbq (p := ⟨g9, 8, none⟩) h49 (.int .i64 5)
      exact ⟨{ m with cap := ⟨5, m.cap.p, m.cap.i, m.cap.e, m.cap.r⟩ }, _, _, _, hblk.other (p := ⟨g9, 8, none⟩) n89 (.int .i64 5), hblj.put 8 (.int .i64 5), hM.call hb8, (hN.call hb8).turn rfl rfl rfl, Lib.hid (bad_cap m k), gr_set hbl (p := ⟨g9, 8, none⟩) hg9 (.int .i64 5), hsl⟩
  case rest =>
    clear hblk hblj hbl hbq hM hN k0 k1 k2 k3 k4 k5 k6 k7 k8 k9 k10 k11 k12 k13 j0 j1 j2 j3 j4 j5 j6 j7 j8 j9 j10 j11 j12 j13
    obtain ⟨n, va, vd, vx, hblk, hblj, hM9, hN9, HN, hbl, hsl⟩ := hcut
    rename World => W9
    have HB1 := Lib.hid (fun W (h : Below W9.heap.size W9 W) => MayM_any n _ _ _ k W (hN9.call h))
    have HB2 := Lib.hid (fun W (h : Below W9.heap.size W9 W) => SameM_any m n _ _ _ _ _ _ W (hM9.call h) (hN9.call h))
    rw [HN.out] at HB1
    rw [other HMay.out HN.out] at HB2
    unfold metaC at HB1 HB2
    have hbq := Below.refl W9.heap.size W9
    clear hsl HQ HMay HN
    have k0 := hblk.cell_some 0 _ rfl; have k1 := hblk.cell_some 1 _ rfl; have k2 := hblk.cell_some 2 _ rfl; have k3 := hblk.cell_some 3 _ rfl; have k4 := hblk.cell_some 4 _ rfl; have k5 := hblk.cell_some 5 _ rfl; have k6 := hblk.cell_some 6 _ rfl; have k7 := hblk.cell_some 7 _ rfl; have k8 := hblk.cell_some 8 _ rfl; have k9 := hblk.cell_some 9 _ rfl; have k10 := hblk.cell_some 10 _ rfl; have k11 := hblk.cell_some 11 _ rfl; have k12 := hblk.cell_some 12 _ rfl; have k13 := hblk.cell_some 13 _ rfl
    have j0 := hblj.cell_some 0 _ rfl; have j1 := hblj.cell_some 1 _ rfl; have j2 := hblj.cell_some 2 _ rfl; have j3 := hblj.cell_some 3 _ rfl; have j4 := hblj.cell_some 4 _ rfl; have j5 := hblj.cell_some 5 _ rfl; have j6 := hblj.cell_some 6 _ rfl; have j7 := hblj.cell_some 7 _ rfl; have j8 := hblj.cell_some 8 _ rfl; have j9 := hblj.cell_some 9 _ rfl; have j10 := hblj.cell_some 10 _ rfl; have j11 := hblj.cell_some 11 _ rfl; have j12 := hblj.cell_some 12 _ rfl; have j13 := hblj.cell_some 13 _ rfl
    go_wp2_with fail
    refine (HB1.out _ hbq).mono ?_
    rintro e w6 ⟨rfl, hb2⟩
    replace hbq := gr_call hbq hb2
    replace hbl := gr_call hbl hb2; replace hblk := hblk.kept hb2 hblk.size; replace hblj := hblj.kept hb2 hblj.size; clear hb2; clear k0 k1 k2 k3 k4 k5 k6 k7 k8 k9 k10 k11 k12 k13 j0 j1 j2 j3 j4 j5 j6 j7 j8 j9 j10 j11 j12 j13; have k0 := hblk.cell_some 0 _ rfl; have k1 := hblk.cell_some 1 _ rfl; have k2 := hblk.cell_some 2 _ rfl; have k3 := hblk.cell_some 3 _ rfl; have k4 := hblk.cell_some 4 _ rfl; have k5 := hblk.cell_some 5 _ rfl; have k6 := hblk.cell_some 6 _ rfl; have k7 := hblk.cell_some 7 _ rfl; have k8 := hblk.cell_some 8 _ rfl; have k9 := hblk.cell_some 9 _ rfl; have k10 := hblk.cell_some 10 _ rfl; have k11 := hblk.cell_some 11 _ rfl; have k12 := hblk.cell_some 12 _ rfl; have k13 := hblk.cell_some 13 _ rfl; have j0 := hblj.cell_some 0 _ rfl; have j1 := hblj.cell_some 1 _ rfl; have j2 := hblj.cell_some 2 _ rfl; have j3 := hblj.cell_some 3 _ rfl; have j4 := hblj.cell_some 4 _ rfl; have j5 := hblj.cell_some 5 _ rfl; have j6 := hblj.cell_some 6 _ rfl; have j7 := hblj.cell_some 7 _ rfl; have j8 := hblj.cell_some 8 _ rfl; have j9 := hblj.cell_some 9 _ rfl; have j10 := hblj.cell_some 10 _ rfl; have j11 := hblj.cell_some 11 _ rfl; have j12 := hblj.cell_some 12 _ rfl; have j13 := hblj.cell_some 13 _ rfl
    go_wp2_with fail
    refine (HB2.out _ hbq).mono ?_
    rintro e w6 ⟨rfl, hb2⟩
    replace hbq := gr_call hbq hb2
    replace hbl := gr_call hbl hb2; replace hblk := hblk.kept hb2 hblk.size; replace hblj := hblj.kept hb2 hblj.size; clear hb2; clear k0 k1 k2 k3 k4 k5 k6 k7 k8 k9 k10 k11 k12 k13 j0 j1 j2 j3 j4 j5 j6 j7 j8 j9 j10 j11 j12 j13; have k0 := hblk.cell_some 0 _ rfl; have k1 := hblk.cell_some 1 _ rfl; have k2 := hblk.cell_some 2 _ rfl; have k3 := hblk.cell_some 3 _ rfl; have k4 := hblk.cell_some 4 _ rfl; have k5 := hblk.cell_some 5 _ rfl; have k6 := hblk.cell_some 6 _ rfl; have k7 := hblk.cell_some 7 _ rfl; have k8 := hblk.cell_some 8 _ rfl; have k9 := hblk.cell_some 9 _ rfl; have k10 := hblk.cell_some 10 _ rfl; have k11 := hblk.cell_some 11 _ rfl; have k12 := hblk.cell_some 12 _ rfl; have k13 := hblk.cell_some 13 _ rfl; have j0 := hblj.cell_some 0 _ rfl; have j1 := hblj.cell_some 1 _ rfl; have j2 := hblj.cell_some 2 _ rfl; have j3 := hblj.cell_some 3 _ rfl; have j4 := hblj.cell_some 4 _ rfl; have j5 := hblj.cell_some 5 _ rfl; have j6 := hblj.cell_some 6 _ rfl; have j7 := hblj.cell_some 7 _ rfl; have j8 := hblj.cell_some 8 _ rfl; have j9 := hblj.cell_some 9 _ rfl; have j10 := hblj.cell_some 10 _ rfl; have j11 := hblj.cell_some 11 _ rfl; have j12 := hblj.cell_some 12 _ rfl; have j13 := hblj.cell_some 13 _ rfl
    go_wp2_with fail
    refine (awake_any _).mono ?_
    rintro e w6 ⟨rfl, hb2⟩
    replace hbl := gr_call hbl hb2; replace hblk := hblk.kept hb2 hblk.size; replace hblj := hblj.kept hb2 hblj.size; clear hb2; clear k0 k1 k2 k3 k4 k5 k6 k7 k8 k9 k10 k11 k12 k13 j0 j1 j2 j3 j4 j5 j6 j7 j8 j9 j10 j11 j12 j13; have k0 := hblk.cell_some 0 _ rfl; have k1 := hblk.cell_some 1 _ rfl; have k2 := hblk.cell_some 2 _ rfl; have k3 := hblk.cell_some 3 _ rfl; have k4 := hblk.cell_some 4 _ rfl; have k5 := hblk.cell_some 5 _ rfl; have k6 := hblk.cell_some 6 _ rfl; have k7 := hblk.cell_some 7 _ rfl; have k8 := hblk.cell_some 8 _ rfl; have k9 := hblk.cell_some 9 _ rfl; have k10 := hblk.cell_some 10 _ rfl; have k11 := hblk.cell_some 11 _ rfl; have k12 := hblk.cell_some 12 _ rfl; have k13 := hblk.cell_some 13 _ rfl; have j0 := hblj.cell_some 0 _ rfl; have j1 := hblj.cell_some 1 _ rfl; have j2 := hblj.cell_some 2 _ rfl; have j3 := hblj.cell_some 3 _ rfl; have j4 := hblj.cell_some 4 _ rfl; have j5 := hblj.cell_some 5 _ rfl; have j6 := hblj.cell_some 6 _ rfl; have j7 := hblj.cell_some 7 _ rfl; have j8 := hblj.cell_some 8 _ rfl; have j9 := hblj.cell_some 9 _ rfl; have j10 := hblj.cell_some 10 _ rfl; have j11 := hblj.cell_some 11 _ rfl; have j12 := hblj.cell_some 12 _ rfl; have j13 := hblj.cell_some 13 _ rfl
    go_wp2_with fail
    go_ret
    exact ⟨rfl, hbl⟩
end Go.Proofs.Ytajjhndpdjfcpaa
