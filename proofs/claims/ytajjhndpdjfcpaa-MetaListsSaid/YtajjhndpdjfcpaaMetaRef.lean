/- The document's answer: what may be said of a node. -/
import Derived.Test.YtajjhndpdjfcpaaMetaSmall
import Derived.Test.YtajjhndpdjfcpaaAwRefMay
import Derived.Test.YtajjhndpdjfcpaaAwSame
import Derived.Test.YtajjhndpdjfcpaaXwRefMay
import Derived.Test.YtajjhndpdjfcpaaXwPackSame
import Derived.Test.YtajjhndpdjfcpaaRegionU
namespace Go.Proofs.Ytajjhndpdjfcpaa
open Go.RowKit
open MetaM
set_option linter.unusedVariables false

theorem mode_tests (n : Int) : modeOk n = (!decide (n < 0) && !decide (4095 < n)) := by
  unfold modeOk
  by_cases h1 : n < 0 <;> by_cases h2 : 4095 < n <;> simp [h1, h2] <;> omega
theorem kind_tests (k : Int) : kindIn k = (!(k != 1) || (!decide (k < 3) && !decide (7 < k))) := by
  unfold kindIn
  by_cases h0 : k = 1
  · simp [h0]
  · rw [Bool.eq_iff_iff]
    simp [h0]
theorem and511 (n : Int) : bits .and .i64 n 511 = n % 512 := by
  have key : (BitVec.ofInt 64 n &&& BitVec.ofInt 64 511).toNat = (n % ((2 ^ 64 : Nat) : Int)).toNat % 2 ^ 9 := by
    rw [BitVec.toNat_and, BitVec.toNat_ofInt, show (BitVec.ofInt 64 511).toNat = 2 ^ 9 - 1 by decide, Nat.and_two_pow_sub_one_eq_mod]
  show IntKind.i64.wrap ((BitVec.ofInt 64 n &&& BitVec.ofInt 64 511).toNat : Int) = _
  rw [key, IntKind.wrap_i64]
  omega
/-- The cells of metadata; what their lists hold. -/
def metaC (m : Mt) (va vd vx : Value) : Array Value := #[.int .i64 m.mode, .int .i64 m.uid, .int .i64 m.gid, .int .i64 m.sec, .int .i64 m.nano, va, vd, vx, .int .i64 m.cap.v, .int .u64 (m.cap.p : Int), .int .u64 (m.cap.i : Int), .bool m.cap.e, .int .i64 m.cap.r, .int .i64 m.flags]
structure MetaAt (m : Mt) (va vd vx : Value) (w : World) : Prop where
  acl : At AclW.aceE va m.acl w
  dfl : At AclW.aceE vd m.dfl w
  xat : At XatW.xatE vx m.xat w
  la : m.acl.length ≤ 1000000
  ld : m.dfl.length ≤ 1000000
  lx : m.xat.length ≤ 1000000
theorem MetaAt.call {m : Mt} {va vd vx : Value} {w w1 : World} (h : MetaAt m va vd vx w) (hb : Below w.heap.size w w1) : MetaAt m va vd vx w1 := ⟨h.acl.call hb, h.dfl.call hb, h.xat.call hb, h.la, h.ld, h.lx⟩
attribute [local irreducible] Row At

set_option maxHeartbeats 3200000 in
set_option maxRecDepth 100000 in
theorem refMayMeta_any (m : Mt) (va vd vx : Value) (k : Int) (w : World) (hm : MetaAt m va vd vx w) :
    Calls Try.prog 10 #[.agg (metaC m va vd vx), .int .i64 k] w fun e w' => e = .returned (.bool (mayM m k)) ∧ Below w.heap.size w w' := by
  have H1 := Lib.hid (fun W (hb : Below w.heap.size w W) => XatW.refMayX_any vx m.xat W (hm.xat.call hb) hm.lx)
  have H2 := Lib.hid (fun W (hb : Below w.heap.size w W) => AclW.refMay_any va m.acl W (hm.acl.call hb) hm.la)
  have H3 := Lib.hid (fun W (hb : Below w.heap.size w W) => AclW.refMay_any vd m.dfl W (hm.dfl.call hb) hm.ld)
  have H4 := Lib.hid (fun W (hb : Below w.heap.size w W) (h : AclM.may m.acl = true) => AclW.refMode_any va m.acl W (hm.acl.call hb) h)
  obtain ⟨pa, ca, rfl, hca⟩ := hm.acl.shape
  obtain ⟨pd, cd, rfl, hcd⟩ := hm.dfl.shape
  unfold metaC
  obtain ⟨mode, uid, gid, sec, nano, acl, dfl, xat, ⟨cv, cp, ci, ce, cr⟩, flags⟩ := m
  simp only at H1 H2 H3 H4 hca hcd ⊢
  obtain ⟨na, hna⟩ : ∃ n, acl.length = n := ⟨_, rfl⟩
  obtain ⟨nd, hnd⟩ : ∃ n, dfl.length = n := ⟨_, rfl⟩
  rw [hna] at H2 H4 hca ⊢
  rw [hnd] at H3 hcd ⊢
  have HNA := Lib.hid hna
  have HND := Lib.hid hnd
  clear hm hna hnd
  have hblk : BlkIs (w.alloc (.cells #[.int .i64 mode, .int .i64 uid, .int .i64 gid, .int .i64 sec, .int .i64 nano, .slice pa na ca, .slice pd nd cd, vx, .int .i64 cv, .int .u64 (cp : Int), .int .u64 (ci : Int), .bool ce, .int .i64 cr, .int .i64 flags] 30)) w.heap.size 30 #[.int .i64 mode, .int .i64 uid, .int .i64 gid, .int .i64 sec, .int .i64 nano, .slice pa na ca, .slice pd nd cd, vx, .int .i64 cv, .int .u64 (cp : Int), .int .u64 (ci : Int), .bool ce, .int .i64 cr, .int .i64 flags] := BlkIs.made _ _ _
  have hbl : Below w.heap.size w (w.alloc (.cells #[.int .i64 mode, .int .i64 uid, .int .i64 gid, .int .i64 sec, .int .i64 nano, .slice pa na ca, .slice pd nd cd, vx, .int .i64 cv, .int .u64 (cp : Int), .int .u64 (ci : Int), .bool ce, .int .i64 cr, .int .i64 flags] 30)) := gr_alloc (Below.refl _ _) _
  have k0 := hblk.cell_some 0 _ rfl
  have k1 := hblk.cell_some 1 _ rfl
  have k2 := hblk.cell_some 2 _ rfl
  have k3 := hblk.cell_some 3 _ rfl
  have k4 := hblk.cell_some 4 _ rfl
  have k5 := hblk.cell_some 5 _ rfl
  have k6 := hblk.cell_some 6 _ rfl
  have k7 := hblk.cell_some 7 _ rfl
  have k8 := hblk.cell_some 8 _ rfl
  have k9 := hblk.cell_some 9 _ rfl
  have k10 := hblk.cell_some 10 _ rfl
  have k11 := hblk.cell_some 11 _ rfl
  have k12 := hblk.cell_some 12 _ rfl
  have k13 := hblk.cell_some 13 _ rfl
  have hmode : (decide (mode < 0) = true) ∨ (decide (mode < 0) = false ∧ decide (4095 < mode) = true) ∨ (decide (mode < 0) = false ∧ decide (4095 < mode) = false) := by
    by_cases h1 : mode < 0
    · exact .inl (decide_eq_true h1)
    · by_cases h2 : 4095 < mode
      · exact .inr (.inl ⟨decide_eq_false h1, decide_eq_true h2⟩)
      · exact .inr (.inr ⟨decide_eq_false h1, decide_eq_false h2⟩)
  have HM := Lib.hid (mode_tests mode)
  have HK := Lib.hid (kind_tests k)
  have hkind : (k = 1) ∨ ((k != 1) = true ∧ decide (k < 3) = true) ∨ ((k != 1) = true ∧ decide (k < 3) = false ∧ decide (7 < k) = true) ∨ ((k != 1) = true ∧ decide (k < 3) = false ∧ decide (7 < k) = false) := by
    by_cases h0 : k = 1
    · exact .inl h0
    have h0' : (k != 1) = true := by simpa using h0
    by_cases h1 : k < 3
    · exact .inr (.inl ⟨h0', decide_eq_true h1⟩)
    · by_cases h2 : 7 < k
      · exact .inr (.inr (.inl ⟨h0', decide_eq_false h1, decide_eq_true h2⟩))
      · exact .inr (.inr (.inr ⟨h0', decide_eq_false h1, decide_eq_false h2⟩))
  obtain ⟨r, hr⟩ : ∃ r, mayM ⟨mode, uid, gid, sec, nano, acl, dfl, xat, ⟨cv, cp, ci, ce, cr⟩, flags⟩ k = r := ⟨_, rfl⟩
  have Hr : Hid (r = (kindIn k && modeOk mode && idOk uid && idOk gid && stampOk sec nano && flagsOk flags && XatM.mayL xat && aclOk acl mode && dflOk dfl k && capOk ⟨cv, cp, ci, ce, cr⟩ k && (decide (k ≠ 3) || (decide (mode = 511) && decide (acl.length = 0) && decide (flags = 0))))) := Lib.hid hr.symm
  rw [hr]
  clear hr
  have hbad : (k != 1) = true → (decide (k < 3) = true ∨ decide (7 < k) = true) → kindIn k = false := fun h1 h2 => by
    rw [HK.out, h1]
    rcases h2 with h2 | h2 <;> rw [h2] <;> simp
  rcases hkind with hk1 | ⟨hk1, hk2⟩ | ⟨hk1, hk2, hk3⟩ | ⟨hk1, hk2, hk3⟩
  case inr.inl =>
    have HE := Lib.hid (show r = false by rw [Hr.out, hbad hk1 (.inl hk2)]; rfl)
    clear hbad hmode
    go_enter Try.func10, Try.ntmps10
    go_wp2_with fail
    go_ret
    exact ⟨ret_bool HE.out.symm, hbl⟩
  case inr.inr.inl =>
    have HE := Lib.hid (show r = false by rw [Hr.out, hbad hk1 (.inr hk3)]; rfl)
    clear hbad hmode
    go_enter Try.func10, Try.ntmps10
    go_wp2_with fail
    go_ret
    exact ⟨ret_bool HE.out.symm, hbl⟩
  all_goals clear hbad
  case inr.inr.inr =>
    have HKO := Lib.hid (show kindIn k = true by rw [HK.out, hk1, hk2, hk3]; rfl)
    rcases hmode with hm1 | ⟨hm1, hm2⟩ | ⟨hm1, hm2⟩
    · have HE := Lib.hid (show r = false by rw [Hr.out, HM.out, hm1]; simp)
      go_enter Try.func10, Try.ntmps10
      go_wp2_with fail
      go_ret
      exact ⟨ret_bool HE.out.symm, hbl⟩
    · have HE := Lib.hid (show r = false by rw [Hr.out, HM.out, hm2]; simp)
      go_enter Try.func10, Try.ntmps10
      go_wp2_with fail
      go_ret
      exact ⟨ret_bool HE.out.symm, hbl⟩
    have HMO := Lib.hid (show modeOk mode = true by rw [HM.out, hm1, hm2]; rfl)
    go_enter Try.func10, Try.ntmps10
    go_wp2_with (first
      | (go_at_call 20; refine (refId_any _ _).mono ?_; rintro e w2 ⟨rfl, rfl⟩)
      | (go_at_call 22; refine (refFlags_any _ _).mono ?_; rintro e w2 ⟨rfl, rfl⟩)
      | (go_at_call 21; refine (refStamp_any _ _ _).mono ?_; rintro e w2 ⟨rfl, hb2⟩; replace hbl := gr_call hbl hb2; replace hblk := hblk.kept hb2 hblk.size; clear hb2; clear k0 k1 k2 k3 k4 k5 k6 k7 k8 k9 k10 k11 k12 k13; have k0 := hblk.cell_some 0 _ rfl; have k1 := hblk.cell_some 1 _ rfl; have k2 := hblk.cell_some 2 _ rfl; have k3 := hblk.cell_some 3 _ rfl; have k4 := hblk.cell_some 4 _ rfl; have k5 := hblk.cell_some 5 _ rfl; have k6 := hblk.cell_some 6 _ rfl; have k7 := hblk.cell_some 7 _ rfl; have k8 := hblk.cell_some 8 _ rfl; have k9 := hblk.cell_some 9 _ rfl; have k10 := hblk.cell_some 10 _ rfl; have k11 := hblk.cell_some 11 _ rfl; have k12 := hblk.cell_some 12 _ rfl; have k13 := hblk.cell_some 13 _ rfl)
      | (go_at_call 23; refine (H1.out _ hbl).mono ?_; rintro e w2 ⟨rfl, hb2⟩; replace hbl := gr_call hbl hb2; replace hblk := hblk.kept hb2 hblk.size; clear hb2; clear k0 k1 k2 k3 k4 k5 k6 k7 k8 k9 k10 k11 k12 k13; have k0 := hblk.cell_some 0 _ rfl; have k1 := hblk.cell_some 1 _ rfl; have k2 := hblk.cell_some 2 _ rfl; have k3 := hblk.cell_some 3 _ rfl; have k4 := hblk.cell_some 4 _ rfl; have k5 := hblk.cell_some 5 _ rfl; have k6 := hblk.cell_some 6 _ rfl; have k7 := hblk.cell_some 7 _ rfl; have k8 := hblk.cell_some 8 _ rfl; have k9 := hblk.cell_some 9 _ rfl; have k10 := hblk.cell_some 10 _ rfl; have k11 := hblk.cell_some 11 _ rfl; have k12 := hblk.cell_some 12 _ rfl; have k13 := hblk.cell_some 13 _ rfl))
    all_goals try (go_ret; refine ⟨ret_bool ?_, hbl⟩; rw [Hr.out]; first | (simp [*]; done) | (rename_i hq; simp only [Bool.not_eq_true'] at hq; simp [hq]; done))
    have HA := Lib.hid (and511 mode)
    clear k0 k1 k2 k3 k4 k5 k6 k7 k8 k9 k10 k11 k12 k13
    have HR1 : Hid (r = (aclOk acl mode && dflOk dfl k && capOk ⟨cv, cp, ci, ce, cr⟩ k && (decide (k ≠ 3) || (decide (mode = 511) && decide (acl.length = 0) && decide (flags = 0))))) := Lib.hid (by
      rw [Hr.out, HKO.out, HMO.out]
      have hq : XatM.mayL xat = true := by simpa using (show (!XatM.mayL xat) = false by assumption)
      simp [*])
    rcases na with _ | na
    · have HR2 : Hid (r = (dflOk dfl k && capOk ⟨cv, cp, ci, ce, cr⟩ k && (decide (k ≠ 3) || (decide (mode = 511) && decide (flags = 0))))) := Lib.hid (by
        rw [HR1.out]
        unfold aclOk
        rw [HNA.out]
        simp)
      have k0 := hblk.cell_some 0 _ rfl
      have k1 := hblk.cell_some 1 _ rfl
      have k2 := hblk.cell_some 2 _ rfl
      have k3 := hblk.cell_some 3 _ rfl
      have k4 := hblk.cell_some 4 _ rfl
      have k5 := hblk.cell_some 5 _ rfl
      have k6 := hblk.cell_some 6 _ rfl
      have k7 := hblk.cell_some 7 _ rfl
      have k8 := hblk.cell_some 8 _ rfl
      have k9 := hblk.cell_some 9 _ rfl
      have k10 := hblk.cell_some 10 _ rfl
      have k11 := hblk.cell_some 11 _ rfl
      have k12 := hblk.cell_some 12 _ rfl
      have k13 := hblk.cell_some 13 _ rfl
      go_quiet (fail)
      rename_i nq
      have hb2 : Below w2.heap.size w2 (w2.drewN nq) := gr_drewN (Below.refl _ _) nq
      generalize w2.drewN nq = w4 at *
      replace hbl := gr_call hbl hb2; replace hblk := hblk.kept hb2 hblk.size; clear hb2; clear k0 k1 k2 k3 k4 k5 k6 k7 k8 k9 k10 k11 k12 k13; have k0 := hblk.cell_some 0 _ rfl; have k1 := hblk.cell_some 1 _ rfl; have k2 := hblk.cell_some 2 _ rfl; have k3 := hblk.cell_some 3 _ rfl; have k4 := hblk.cell_some 4 _ rfl; have k5 := hblk.cell_some 5 _ rfl; have k6 := hblk.cell_some 6 _ rfl; have k7 := hblk.cell_some 7 _ rfl; have k8 := hblk.cell_some 8 _ rfl; have k9 := hblk.cell_some 9 _ rfl; have k10 := hblk.cell_some 10 _ rfl; have k11 := hblk.cell_some 11 _ rfl; have k12 := hblk.cell_some 12 _ rfl; have k13 := hblk.cell_some 13 _ rfl
      clear k0 k1 k2 k3 k4 k5 k6 k7 k8 k9 k10 k11 k12 k13
      have k0 := hblk.cell_some 0 _ rfl
      have k1 := hblk.cell_some 1 _ rfl
      have k2 := hblk.cell_some 2 _ rfl
      have k3 := hblk.cell_some 3 _ rfl
      have k4 := hblk.cell_some 4 _ rfl
      have k5 := hblk.cell_some 5 _ rfl
      have k6 := hblk.cell_some 6 _ rfl
      have k7 := hblk.cell_some 7 _ rfl
      have k8 := hblk.cell_some 8 _ rfl
      have k9 := hblk.cell_some 9 _ rfl
      have k10 := hblk.cell_some 10 _ rfl
      have k11 := hblk.cell_some 11 _ rfl
      have k12 := hblk.cell_some 12 _ rfl
      have k13 := hblk.cell_some 13 _ rfl
      go_wp2_with (first
        | (go_at_call 24; refine (H3.out _ hbl).mono ?_; rintro e w3 ⟨rfl, hb2⟩; replace hbl := gr_call hbl hb2; replace hblk := hblk.kept hb2 hblk.size; clear hb2; clear k0 k1 k2 k3 k4 k5 k6 k7 k8 k9 k10 k11 k12 k13; have k0 := hblk.cell_some 0 _ rfl; have k1 := hblk.cell_some 1 _ rfl; have k2 := hblk.cell_some 2 _ rfl; have k3 := hblk.cell_some 3 _ rfl; have k4 := hblk.cell_some 4 _ rfl; have k5 := hblk.cell_some 5 _ rfl; have k6 := hblk.cell_some 6 _ rfl; have k7 := hblk.cell_some 7 _ rfl; have k8 := hblk.cell_some 8 _ rfl; have k9 := hblk.cell_some 9 _ rfl; have k10 := hblk.cell_some 10 _ rfl; have k11 := hblk.cell_some 11 _ rfl; have k12 := hblk.cell_some 12 _ rfl; have k13 := hblk.cell_some 13 _ rfl)
        | (go_at_call 26; refine (refCaps_any ⟨cv, cp, ci, ce, cr⟩ _).mono ?_; rintro e w3 ⟨rfl, hb2⟩; replace hbl := gr_call hbl hb2; replace hblk := hblk.kept hb2 hblk.size; clear hb2; clear k0 k1 k2 k3 k4 k5 k6 k7 k8 k9 k10 k11 k12 k13; have k0 := hblk.cell_some 0 _ rfl; have k1 := hblk.cell_some 1 _ rfl; have k2 := hblk.cell_some 2 _ rfl; have k3 := hblk.cell_some 3 _ rfl; have k4 := hblk.cell_some 4 _ rfl; have k5 := hblk.cell_some 5 _ rfl; have k6 := hblk.cell_some 6 _ rfl; have k7 := hblk.cell_some 7 _ rfl; have k8 := hblk.cell_some 8 _ rfl; have k9 := hblk.cell_some 9 _ rfl; have k10 := hblk.cell_some 10 _ rfl; have k11 := hblk.cell_some 11 _ rfl; have k12 := hblk.cell_some 12 _ rfl; have k13 := hblk.cell_some 13 _ rfl))
      all_goals (go_ret; refine ⟨ret_bool ?_, hbl⟩; rw [HR2.out]; unfold dflOk capOk; rw [HND.out])
      all_goals clear hbl hblk HR2 HND H1 H2 H3 H4 k0 k1 k2 k3 k4 k5 k6 k7 k8 k9 k10 k11 k12 k13
      all_goals try (have hq1 : AclM.may dfl = false := by simpa using (show (!AclM.may dfl) = true by assumption))
      all_goals try (have hq1 : AclM.may dfl = true := by simpa using (show (!AclM.may dfl) = false by assumption))
      all_goals try (have hq2 : CapsM.may ⟨cv, cp, ci, ce, cr⟩ = false := by simpa using (show (!CapsM.may ⟨cv, cp, ci, ce, cr⟩) = true by assumption))
      all_goals try (have hq3 : nd ≠ 0 := Nat.ne_of_gt (by assumption))
      all_goals try (have hq3 : nd = 0 := by omega)
      all_goals try rw [show CapsM.may ⟨cv, cp, ci, ce, cr⟩ = true by assumption]
      all_goals try (have hq5 : k ≠ 1 := by simpa using hk1)
      all_goals first | (simp [*]; done) | (by_cases hf : flags = 0 <;> simp [*]; done) | omega
    rcases hmy : AclM.may acl with _ | _
    · rw [hmy] at H2
      have HE := Lib.hid (show r = false by rw [HR1.out]; unfold aclOk; rw [HNA.out, hmy]; simp)
      refine region_oneUL (S := fun W => Below w2.heap.size w2 W) 18
        [(fun W v => v = .pointer (some ⟨w.heap.size, 5, none⟩)),
        (fun W v => v = .slice pa (na + 1) ca),
        (fun W v => v = .int .i64 ((na + 1 : Nat) : Int)),
        (fun W v => v = .bool true),
        (fun W v => v = .bool true),
        (fun W v => v = .pointer (some ⟨w.heap.size, 5, none⟩)),
        (fun W v => v = .slice pa (na + 1) ca),
        (fun W v => v = .bool false),
        (fun W v => v = .bool true),
        (fun W v => v = .bool true),
        (fun W v => v = undef),
        (fun W v => v = undef),
        (fun W v => v = undef),
        (fun W v => v = undef),
        (fun W v => v = undef),
        (fun W v => v = undef),
        (fun W v => v = undef),
        (fun W v => v = .bool true)] (by rfl) (by kernel_rfl) (by kernel_rfl) (by kernel_rfl) (by kernel_rfl) (by rfl) (by kernel_rfl) ?hS ?hp ?hs ?he
      case hS => exact gr_drew (Below.refl _ _)
      case hp => repeat' (first | exact trivial | refine ⟨fun _ _ _ _ h => h, ?_⟩)
      case hs =>
        simp only [List.take_succ_cons, List.take_zero]
        refine ⟨?_, ?_, ?_, ?_, ?_, ?_, ?_, ?_, ?_, ?_, ?_, ?_, ?_, ?_, ?_, ?_, ?_, ?_, trivial⟩
        · refine .inl ⟨met_none rfl, ?_⟩
          intro a W K hS hd hD hf hK
          have e2 : a.tmps.getD 2 undef = .pointer (some ⟨w.heap.size, 0, none⟩) := hf 2 (by kernel_rfl)
          clear hd hf hD
          go_simp
          exact hK _ _ (Below.refl _ _) hS rfl (fun h => absurd h (by decide))
        · refine .inl ⟨met_none rfl, ?_⟩
          intro a W K hS hd hD hf hK
          have e53 : a.tmps.getD 53 undef = .pointer (some ⟨w.heap.size, 5, none⟩) := hd ⟨0, .data⟩ (by simp) rfl
          have k5 := (hblk.kept hS hblk.size).cell_some 5 _ rfl
          clear hd hf hD
          go_simp
          exact hK _ _ (Below.refl _ _) hS rfl (fun h => absurd h (by decide))
        · refine .inl ⟨met_none rfl, ?_⟩
          intro a W K hS hd hD hf hK
          have e54 : a.tmps.getD 54 undef = .slice pa (na + 1) ca := hd ⟨1, .data⟩ (by simp) rfl
          clear hd hf hD
          go_simp
          exact hK _ _ (Below.refl _ _) hS rfl (fun h => absurd h (by decide))
        · refine .inl ⟨met_none rfl, ?_⟩
          intro a W K hS hd hD hf hK
          have e55 : a.tmps.getD 55 undef = .int .i64 ((na + 1 : Nat) : Int) := hd ⟨2, .data⟩ (by simp) rfl
          have t0 : decide ((0 : Int) < ((na + 1 : Nat) : Int)) = true := decide_eq_true (by omega)
          have t1 : decide (0 < na + 1) = true := decide_eq_true (by omega)
          have t2 : (0 : Int) < ((na + 1 : Nat) : Int) := by omega
          clear hd hf hD
          go_simp
          exact hK _ _ (Below.refl _ _) hS rfl (fun h => absurd h (by decide))
        · refine .inl ⟨met_none rfl, ?_⟩
          intro a W K hS hd hD hf hK
          have e56 : a.tmps.getD 56 undef = .bool true := hd ⟨3, .data⟩ (by simp) rfl
          clear hd hf hD
          go_simp
          exact hK _ _ (Below.refl _ _) hS rfl (fun h => absurd h (by decide))
        · refine .inl ⟨met_some 4 true rfl (fun w v h => h), ?_⟩
          intro a W K hS hd hD hf hK
          have e2 : a.tmps.getD 2 undef = .pointer (some ⟨w.heap.size, 0, none⟩) := hf 2 (by kernel_rfl)
          clear hd hf hD
          go_simp
          exact hK _ _ (Below.refl _ _) hS rfl (fun h => absurd h (by decide))
        · refine .inl ⟨met_some 4 true rfl (fun w v h => h), ?_⟩
          intro a W K hS hd hD hf hK
          have e58 : a.tmps.getD 58 undef = .pointer (some ⟨w.heap.size, 5, none⟩) := hd ⟨5, .data⟩ (by simp) rfl
          have k5 := (hblk.kept hS hblk.size).cell_some 5 _ rfl
          clear hd hf hD
          go_simp
          exact hK _ _ (Below.refl _ _) hS rfl (fun h => absurd h (by decide))
        · refine .inl ⟨met_some 4 true rfl (fun w v h => h), ?_⟩
          intro a W K hS hd hD hf hK
          have e59 : a.tmps.getD 59 undef = .slice pa (na + 1) ca := hd ⟨6, .data⟩ (by simp) rfl
          have hbq := gr_call hbl hS
          clear hd hf hD
          go_simp
          go_at_call 24
          refine (H2.out _ hbq).mono ?_
          rintro e w3 ⟨rfl, hb⟩
          exact hK _ _ hb (gr_call hS hb) rfl (fun h => absurd h (by decide))
        · refine .inl ⟨met_some 4 true rfl (fun w v h => h), ?_⟩
          intro a W K hS hd hD hf hK
          have e60 : a.tmps.getD 60 undef = .bool false := hd ⟨7, .data⟩ (by simp) rfl
          clear hd hf hD
          go_simp
          exact hK _ _ (Below.refl _ _) hS rfl (fun h => absurd h (by decide))
        · refine .inl ⟨met_some 4 true rfl (fun w v h => h), ?_⟩
          intro a W K hS hd hD hf hK
          have e61 : a.tmps.getD 61 undef = .bool true := hd ⟨8, .data⟩ (by simp) rfl
          clear hd hf hD
          go_simp
          exact hK _ _ (Below.refl _ _) hS rfl (fun h => absurd h (by decide))
        · exact .inr ⟨⟨9, false, rfl, fun w v h => .inl h⟩, rfl, fun _ => rfl⟩
        · exact .inr ⟨⟨9, false, rfl, fun w v h => .inl h⟩, rfl, fun _ => rfl⟩
        · exact .inr ⟨⟨9, false, rfl, fun w v h => .inl h⟩, rfl, fun _ => rfl⟩
        · exact .inr ⟨⟨9, false, rfl, fun w v h => .inl h⟩, rfl, fun _ => rfl⟩
        · exact .inr ⟨⟨9, false, rfl, fun w v h => .inl h⟩, rfl, fun _ => rfl⟩
        · exact .inr ⟨⟨9, false, rfl, fun w v h => .inl h⟩, rfl, fun _ => rfl⟩
        · exact .inr ⟨⟨9, false, rfl, fun w v h => .inl h⟩, rfl, fun _ => rfl⟩
        · refine .inl ⟨met_some 4 true rfl (fun w v h => h), ?_⟩
          intro a W K hS hd hD hf hK
          have e62 : a.tmps.getD 62 undef = .bool true := hd ⟨9, .data⟩ (by simp) rfl
          have e69 : a.tmps.getD 69 undef = undef := hd ⟨16, .data⟩ (by simp) rfl
          clear hd hf hD
          go_simp
          exact hK _ _ (Below.refl _ _) hS rfl (fun h => absurd h (by decide))
      case he =>
        intro vals w7 K hS7 hV hK
        have e57 := hV 4 (by omega)
        have e70 := hV 17 (by omega)
        clear hV
        simp only [List.getD_cons_succ, List.getD_cons_zero] at e57 e70
        replace hblk := hblk.kept hS7 hblk.size
        replace hbl := gr_call hbl hS7
        clear hS7
        refine Later.mk ?_
        simp only [List.append_eq, List.cons_append, List.nil_append, setN, Nat.reduceAdd, List.setIfInBounds_toArray, List.set_cons_succ, List.set_cons_zero]
        rw [e57, e70]
        go_simp
        refine hK _ _ ?_
        clear hK
        go_wp2_with fail
        go_ret
        exact ⟨ret_bool HE.out.symm, hbl⟩
    · have H2' : Hid (∀ W, Below w.heap.size w W → Calls Try.prog 24 #[.slice pa (na + 1) ca] W fun e w' => e = .returned (.bool true) ∧ Below W.heap.size W w') := Lib.hid (fun W hb => by have h := H2.out W hb; rw [hmy] at h; exact h)
      clear H2
      have H2 := H2'
      clear H2'
      refine region_oneUL (S := fun W => Below w2.heap.size w2 W) 18
        [(fun W v => v = .pointer (some ⟨w.heap.size, 5, none⟩)),
        (fun W v => v = .slice pa (na + 1) ca),
        (fun W v => v = .int .i64 ((na + 1 : Nat) : Int)),
        (fun W v => v = .bool true),
        (fun W v => v = .bool true),
        (fun W v => v = .pointer (some ⟨w.heap.size, 5, none⟩)),
        (fun W v => v = .slice pa (na + 1) ca),
        (fun W v => v = .bool true),
        (fun W v => v = .bool false),
        (fun W v => v = .bool false),
        (fun W v => v = .pointer (some ⟨w.heap.size, 5, none⟩)),
        (fun W v => v = .slice pa (na + 1) ca),
        (fun W v => v = .int .i64 (AclW.modeL acl)),
        (fun W v => v = .pointer (some ⟨w.heap.size, 0, none⟩)),
        (fun W v => v = .int .i64 mode),
        (fun W v => v = .int .i64 (mode % 512)),
        (fun W v => v = .bool (AclW.modeL acl != mode % 512)),
        (fun W v => v = .bool (AclW.modeL acl != mode % 512))] (by rfl) (by kernel_rfl) (by kernel_rfl) (by kernel_rfl) (by kernel_rfl) (by rfl) (by kernel_rfl) ?hS ?hp ?hs ?he
      case hS => exact gr_drew (Below.refl _ _)
      case hp => repeat' (first | exact trivial | refine ⟨fun _ _ _ _ h => h, ?_⟩)
      case hs =>
        simp only [List.take_succ_cons, List.take_zero]
        refine ⟨?_, ?_, ?_, ?_, ?_, ?_, ?_, ?_, ?_, ?_, ?_, ?_, ?_, ?_, ?_, ?_, ?_, ?_, trivial⟩
        · refine .inl ⟨met_none rfl, ?_⟩
          intro a W K hS hd hD hf hK
          have e2 : a.tmps.getD 2 undef = .pointer (some ⟨w.heap.size, 0, none⟩) := hf 2 (by kernel_rfl)
          clear hd hf hD
          go_simp
          exact hK _ _ (Below.refl _ _) hS rfl (fun h => absurd h (by decide))
        · refine .inl ⟨met_none rfl, ?_⟩
          intro a W K hS hd hD hf hK
          have e53 : a.tmps.getD 53 undef = .pointer (some ⟨w.heap.size, 5, none⟩) := hd ⟨0, .data⟩ (by simp) rfl
          have k5 := (hblk.kept hS hblk.size).cell_some 5 _ rfl
          clear hd hf hD
          go_simp
          exact hK _ _ (Below.refl _ _) hS rfl (fun h => absurd h (by decide))
        · refine .inl ⟨met_none rfl, ?_⟩
          intro a W K hS hd hD hf hK
          have e54 : a.tmps.getD 54 undef = .slice pa (na + 1) ca := hd ⟨1, .data⟩ (by simp) rfl
          clear hd hf hD
          go_simp
          exact hK _ _ (Below.refl _ _) hS rfl (fun h => absurd h (by decide))
        · refine .inl ⟨met_none rfl, ?_⟩
          intro a W K hS hd hD hf hK
          have e55 : a.tmps.getD 55 undef = .int .i64 ((na + 1 : Nat) : Int) := hd ⟨2, .data⟩ (by simp) rfl
          have t0 : decide ((0 : Int) < ((na + 1 : Nat) : Int)) = true := decide_eq_true (by omega)
          have t1 : decide (0 < na + 1) = true := decide_eq_true (by omega)
          have t2 : (0 : Int) < ((na + 1 : Nat) : Int) := by omega
          clear hd hf hD
          go_simp
          exact hK _ _ (Below.refl _ _) hS rfl (fun h => absurd h (by decide))
        · refine .inl ⟨met_none rfl, ?_⟩
          intro a W K hS hd hD hf hK
          have e56 : a.tmps.getD 56 undef = .bool true := hd ⟨3, .data⟩ (by simp) rfl
          clear hd hf hD
          go_simp
          exact hK _ _ (Below.refl _ _) hS rfl (fun h => absurd h (by decide))
        · refine .inl ⟨met_some 4 true rfl (fun w v h => h), ?_⟩
          intro a W K hS hd hD hf hK
          have e2 : a.tmps.getD 2 undef = .pointer (some ⟨w.heap.size, 0, none⟩) := hf 2 (by kernel_rfl)
          clear hd hf hD
          go_simp
          exact hK _ _ (Below.refl _ _) hS rfl (fun h => absurd h (by decide))
        · refine .inl ⟨met_some 4 true rfl (fun w v h => h), ?_⟩
          intro a W K hS hd hD hf hK
          have e58 : a.tmps.getD 58 undef = .pointer (some ⟨w.heap.size, 5, none⟩) := hd ⟨5, .data⟩ (by simp) rfl
          have k5 := (hblk.kept hS hblk.size).cell_some 5 _ rfl
          clear hd hf hD
          go_simp
          exact hK _ _ (Below.refl _ _) hS rfl (fun h => absurd h (by decide))
        · refine .inl ⟨met_some 4 true rfl (fun w v h => h), ?_⟩
          intro a W K hS hd hD hf hK
          have e59 : a.tmps.getD 59 undef = .slice pa (na + 1) ca := hd ⟨6, .data⟩ (by simp) rfl
          have hbq := gr_call hbl hS
          clear hd hf hD
          go_simp
          go_at_call 24
          refine (H2.out _ hbq).mono ?_
          rintro e w3 ⟨rfl, hb⟩
          exact hK _ _ hb (gr_call hS hb) rfl (fun h => absurd h (by decide))
        · refine .inl ⟨met_some 4 true rfl (fun w v h => h), ?_⟩
          intro a W K hS hd hD hf hK
          have e60 : a.tmps.getD 60 undef = .bool true := hd ⟨7, .data⟩ (by simp) rfl
          clear hd hf hD
          go_simp
          exact hK _ _ (Below.refl _ _) hS rfl (fun h => absurd h (by decide))
        · refine .inl ⟨met_some 4 true rfl (fun w v h => h), ?_⟩
          intro a W K hS hd hD hf hK
          have e61 : a.tmps.getD 61 undef = .bool false := hd ⟨8, .data⟩ (by simp) rfl
          clear hd hf hD
          go_simp
          exact hK _ _ (Below.refl _ _) hS rfl (fun h => absurd h (by decide))
        · refine .inl ⟨met_some 9 false rfl (fun w v h => h), ?_⟩
          intro a W K hS hd hD hf hK
          have e2 : a.tmps.getD 2 undef = .pointer (some ⟨w.heap.size, 0, none⟩) := hf 2 (by kernel_rfl)
          clear hd hf hD
          go_simp
          exact hK _ _ (Below.refl _ _) hS rfl (fun h => absurd h (by decide))
        · refine .inl ⟨met_some 9 false rfl (fun w v h => h), ?_⟩
          intro a W K hS hd hD hf hK
          have e63 : a.tmps.getD 63 undef = .pointer (some ⟨w.heap.size, 5, none⟩) := hd ⟨10, .data⟩ (by simp) rfl
          have k5 := (hblk.kept hS hblk.size).cell_some 5 _ rfl
          clear hd hf hD
          go_simp
          exact hK _ _ (Below.refl _ _) hS rfl (fun h => absurd h (by decide))
        · refine .inl ⟨met_some 9 false rfl (fun w v h => h), ?_⟩
          intro a W K hS hd hD hf hK
          have e64 : a.tmps.getD 64 undef = .slice pa (na + 1) ca := hd ⟨11, .data⟩ (by simp) rfl
          have hbq := gr_call hbl hS
          clear hd hf hD
          go_simp
          go_at_call 25
          refine (H4.out _ hbq hmy).mono ?_
          rintro e w3 ⟨rfl, hb⟩
          exact hK _ _ hb (gr_call hS hb) rfl (fun h => absurd h (by decide))
        · refine .inl ⟨met_some 9 false rfl (fun w v h => h), ?_⟩
          intro a W K hS hd hD hf hK
          have e2 : a.tmps.getD 2 undef = .pointer (some ⟨w.heap.size, 0, none⟩) := hf 2 (by kernel_rfl)
          clear hd hf hD
          go_simp
          exact hK _ _ (Below.refl _ _) hS rfl (fun h => absurd h (by decide))
        · refine .inl ⟨met_some 9 false rfl (fun w v h => h), ?_⟩
          intro a W K hS hd hD hf hK
          have e66 : a.tmps.getD 66 undef = .pointer (some ⟨w.heap.size, 0, none⟩) := hd ⟨13, .data⟩ (by simp) rfl
          have k0 := (hblk.kept hS hblk.size).cell_some 0 _ rfl
          clear hd hf hD
          go_simp
          exact hK _ _ (Below.refl _ _) hS rfl (fun h => absurd h (by decide))
        · refine .inl ⟨met_some 9 false rfl (fun w v h => h), ?_⟩
          intro a W K hS hd hD hf hK
          have e67 : a.tmps.getD 67 undef = .int .i64 mode := hd ⟨14, .data⟩ (by simp) rfl
          have t0 := HA.out
          clear hd hf hD
          go_simp
          exact hK _ _ (Below.refl _ _) hS rfl (fun h => absurd h (by decide))
        · refine .inl ⟨met_some 9 false rfl (fun w v h => h), ?_⟩
          intro a W K hS hd hD hf hK
          have e65 : a.tmps.getD 65 undef = .int .i64 (AclW.modeL acl) := hd ⟨12, .data⟩ (by simp) rfl
          have e68 : a.tmps.getD 68 undef = .int .i64 (mode % 512) := hd ⟨15, .data⟩ (by simp) rfl
          clear hd hf hD
          go_simp
          exact hK _ _ (Below.refl _ _) hS rfl (fun h => absurd h (by decide))
        · refine .inl ⟨met_some 4 true rfl (fun w v h => h), ?_⟩
          intro a W K hS hd hD hf hK
          have e62 : a.tmps.getD 62 undef = .bool false := hd ⟨9, .data⟩ (by simp) rfl
          have e69 : a.tmps.getD 69 undef = .bool (AclW.modeL acl != mode % 512) := hd ⟨16, .data⟩ (by simp) rfl
          clear hd hf hD
          go_simp
          exact hK _ _ (Below.refl _ _) hS rfl (fun h => absurd h (by decide))
      case he =>
        intro vals w7 K hS7 hV hK
        have e57 := hV 4 (by omega)
        have e70 := hV 17 (by omega)
        clear hV
        simp only [List.getD_cons_succ, List.getD_cons_zero] at e57 e70
        replace hblk := hblk.kept hS7 hblk.size
        replace hbl := gr_call hbl hS7
        clear hS7
        refine Later.mk ?_
        simp only [List.append_eq, List.cons_append, List.nil_append, setN, Nat.reduceAdd, List.setIfInBounds_toArray, List.set_cons_succ, List.set_cons_zero]
        rw [e57, e70]
        go_simp
        refine hK _ _ ?_
        clear hK
        by_cases hmd : AclW.modeL acl = mode % 512
        · have hmq : (AclW.modeL acl != mode % 512) = false := by simp [hmd]
          have HR2 : Hid (r = (dflOk dfl k && capOk ⟨cv, cp, ci, ce, cr⟩ k && decide (k ≠ 3))) := Lib.hid (by
            rw [HR1.out]
            unfold aclOk
            rw [HNA.out, hmy, hmd]
            simp)
          clear hmd
          have k0 := hblk.cell_some 0 _ rfl
          have k1 := hblk.cell_some 1 _ rfl
          have k2 := hblk.cell_some 2 _ rfl
          have k3 := hblk.cell_some 3 _ rfl
          have k4 := hblk.cell_some 4 _ rfl
          have k5 := hblk.cell_some 5 _ rfl
          have k6 := hblk.cell_some 6 _ rfl
          have k7 := hblk.cell_some 7 _ rfl
          have k8 := hblk.cell_some 8 _ rfl
          have k9 := hblk.cell_some 9 _ rfl
          have k10 := hblk.cell_some 10 _ rfl
          have k11 := hblk.cell_some 11 _ rfl
          have k12 := hblk.cell_some 12 _ rfl
          have k13 := hblk.cell_some 13 _ rfl
          go_wp2_with (first
            | (go_at_call 24; refine (H3.out _ hbl).mono ?_; rintro e w3 ⟨rfl, hb2⟩; replace hbl := gr_call hbl hb2; replace hblk := hblk.kept hb2 hblk.size; clear hb2; clear k0 k1 k2 k3 k4 k5 k6 k7 k8 k9 k10 k11 k12 k13; have k0 := hblk.cell_some 0 _ rfl; have k1 := hblk.cell_some 1 _ rfl; have k2 := hblk.cell_some 2 _ rfl; have k3 := hblk.cell_some 3 _ rfl; have k4 := hblk.cell_some 4 _ rfl; have k5 := hblk.cell_some 5 _ rfl; have k6 := hblk.cell_some 6 _ rfl; have k7 := hblk.cell_some 7 _ rfl; have k8 := hblk.cell_some 8 _ rfl; have k9 := hblk.cell_some 9 _ rfl; have k10 := hblk.cell_some 10 _ rfl; have k11 := hblk.cell_some 11 _ rfl; have k12 := hblk.cell_some 12 _ rfl; have k13 := hblk.cell_some 13 _ rfl)
            | (go_at_call 26; refine (refCaps_any ⟨cv, cp, ci, ce, cr⟩ _).mono ?_; rintro e w3 ⟨rfl, hb2⟩; replace hbl := gr_call hbl hb2; replace hblk := hblk.kept hb2 hblk.size; clear hb2; clear k0 k1 k2 k3 k4 k5 k6 k7 k8 k9 k10 k11 k12 k13; have k0 := hblk.cell_some 0 _ rfl; have k1 := hblk.cell_some 1 _ rfl; have k2 := hblk.cell_some 2 _ rfl; have k3 := hblk.cell_some 3 _ rfl; have k4 := hblk.cell_some 4 _ rfl; have k5 := hblk.cell_some 5 _ rfl; have k6 := hblk.cell_some 6 _ rfl; have k7 := hblk.cell_some 7 _ rfl; have k8 := hblk.cell_some 8 _ rfl; have k9 := hblk.cell_some 9 _ rfl; have k10 := hblk.cell_some 10 _ rfl; have k11 := hblk.cell_some 11 _ rfl; have k12 := hblk.cell_some 12 _ rfl; have k13 := hblk.cell_some 13 _ rfl))
          all_goals (go_ret; refine ⟨ret_bool ?_, hbl⟩; rw [HR2.out]; unfold dflOk capOk; rw [HND.out])
          all_goals clear hbl hblk HR2 HND H1 H2 H3 H4 k0 k1 k2 k3 k4 k5 k6 k7 k8 k9 k10 k11 k12 k13
          all_goals try (have hq1 : AclM.may dfl = false := by simpa using (show (!AclM.may dfl) = true by assumption))
          all_goals try (have hq1 : AclM.may dfl = true := by simpa using (show (!AclM.may dfl) = false by assumption))
          all_goals try (have hq2 : CapsM.may ⟨cv, cp, ci, ce, cr⟩ = false := by simpa using (show (!CapsM.may ⟨cv, cp, ci, ce, cr⟩) = true by assumption))
          all_goals try (have hq3 : nd ≠ 0 := Nat.ne_of_gt (by assumption))
          all_goals try (have hq3 : nd = 0 := by omega)
          all_goals try rw [show CapsM.may ⟨cv, cp, ci, ce, cr⟩ = true by assumption]
          all_goals try (have hq5 : k ≠ 1 := by simpa using hk1)
          all_goals first | (simp [*]; done) | (by_cases hf : flags = 0 <;> simp [*]; done) | omega
        · have hmq : (AclW.modeL acl != mode % 512) = true := by simp [hmd]
          have HE := Lib.hid (show r = false by rw [HR1.out]; unfold aclOk; rw [HNA.out, hmy]; simp [hmd])
          clear hmd
          go_wp2_with fail
          go_ret
          exact ⟨ret_bool HE.out.symm, hbl⟩
  case inl =>
    have HKO := Lib.hid (show kindIn k = true by rw [hk1]; rfl)
    have hk2 : (k != 1) = false := by simp [hk1]
    rcases hmode with hm1 | ⟨hm1, hm2⟩ | ⟨hm1, hm2⟩
    · have HE := Lib.hid (show r = false by rw [Hr.out, HM.out, hm1]; simp)
      go_enter Try.func10, Try.ntmps10
      go_wp2_with fail
      go_ret
      exact ⟨ret_bool HE.out.symm, hbl⟩
    · have HE := Lib.hid (show r = false by rw [Hr.out, HM.out, hm2]; simp)
      go_enter Try.func10, Try.ntmps10
      go_wp2_with fail
      go_ret
      exact ⟨ret_bool HE.out.symm, hbl⟩
    have HMO := Lib.hid (show modeOk mode = true by rw [HM.out, hm1, hm2]; rfl)
    go_enter Try.func10, Try.ntmps10
    go_wp2_with (first
      | (go_at_call 20; refine (refId_any _ _).mono ?_; rintro e w2 ⟨rfl, rfl⟩)
      | (go_at_call 22; refine (refFlags_any _ _).mono ?_; rintro e w2 ⟨rfl, rfl⟩)
      | (go_at_call 21; refine (refStamp_any _ _ _).mono ?_; rintro e w2 ⟨rfl, hb2⟩; replace hbl := gr_call hbl hb2; replace hblk := hblk.kept hb2 hblk.size; clear hb2; clear k0 k1 k2 k3 k4 k5 k6 k7 k8 k9 k10 k11 k12 k13; have k0 := hblk.cell_some 0 _ rfl; have k1 := hblk.cell_some 1 _ rfl; have k2 := hblk.cell_some 2 _ rfl; have k3 := hblk.cell_some 3 _ rfl; have k4 := hblk.cell_some 4 _ rfl; have k5 := hblk.cell_some 5 _ rfl; have k6 := hblk.cell_some 6 _ rfl; have k7 := hblk.cell_some 7 _ rfl; have k8 := hblk.cell_some 8 _ rfl; have k9 := hblk.cell_some 9 _ rfl; have k10 := hblk.cell_some 10 _ rfl; have k11 := hblk.cell_some 11 _ rfl; have k12 := hblk.cell_some 12 _ rfl; have k13 := hblk.cell_some 13 _ rfl)
      | (go_at_call 23; refine (H1.out _ hbl).mono ?_; rintro e w2 ⟨rfl, hb2⟩; replace hbl := gr_call hbl hb2; replace hblk := hblk.kept hb2 hblk.size; clear hb2; clear k0 k1 k2 k3 k4 k5 k6 k7 k8 k9 k10 k11 k12 k13; have k0 := hblk.cell_some 0 _ rfl; have k1 := hblk.cell_some 1 _ rfl; have k2 := hblk.cell_some 2 _ rfl; have k3 := hblk.cell_some 3 _ rfl; have k4 := hblk.cell_some 4 _ rfl; have k5 := hblk.cell_some 5 _ rfl; have k6 := hblk.cell_some 6 _ rfl; have k7 := hblk.cell_some 7 _ rfl; have k8 := hblk.cell_some 8 _ rfl; have k9 := hblk.cell_some 9 _ rfl; have k10 := hblk.cell_some 10 _ rfl; have k11 := hblk.cell_some 11 _ rfl; have k12 := hblk.cell_some 12 _ rfl; have k13 := hblk.cell_some 13 _ rfl))
    all_goals try (go_ret; refine ⟨ret_bool ?_, hbl⟩; rw [Hr.out]; first | (simp [*]; done) | (rename_i hq; simp only [Bool.not_eq_true'] at hq; simp [hq]; done))
    have HA := Lib.hid (and511 mode)
    clear k0 k1 k2 k3 k4 k5 k6 k7 k8 k9 k10 k11 k12 k13
    have HR1 : Hid (r = (aclOk acl mode && dflOk dfl k && capOk ⟨cv, cp, ci, ce, cr⟩ k && (decide (k ≠ 3) || (decide (mode = 511) && decide (acl.length = 0) && decide (flags = 0))))) := Lib.hid (by
      rw [Hr.out, HKO.out, HMO.out]
      have hq : XatM.mayL xat = true := by simpa using (show (!XatM.mayL xat) = false by assumption)
      simp [*])
    rcases na with _ | na
    · have HR2 : Hid (r = (dflOk dfl k && capOk ⟨cv, cp, ci, ce, cr⟩ k && (decide (k ≠ 3) || (decide (mode = 511) && decide (flags = 0))))) := Lib.hid (by
        rw [HR1.out]
        unfold aclOk
        rw [HNA.out]
        simp)
      have k0 := hblk.cell_some 0 _ rfl
      have k1 := hblk.cell_some 1 _ rfl
      have k2 := hblk.cell_some 2 _ rfl
      have k3 := hblk.cell_some 3 _ rfl
      have k4 := hblk.cell_some 4 _ rfl
      have k5 := hblk.cell_some 5 _ rfl
      have k6 := hblk.cell_some 6 _ rfl
      have k7 := hblk.cell_some 7 _ rfl
      have k8 := hblk.cell_some 8 _ rfl
      have k9 := hblk.cell_some 9 _ rfl
      have k10 := hblk.cell_some 10 _ rfl
      have k11 := hblk.cell_some 11 _ rfl
      have k12 := hblk.cell_some 12 _ rfl
      have k13 := hblk.cell_some 13 _ rfl
      go_quiet (fail)
      rename_i nq
      have hb2 : Below w2.heap.size w2 (w2.drewN nq) := gr_drewN (Below.refl _ _) nq
      generalize w2.drewN nq = w4 at *
      replace hbl := gr_call hbl hb2; replace hblk := hblk.kept hb2 hblk.size; clear hb2; clear k0 k1 k2 k3 k4 k5 k6 k7 k8 k9 k10 k11 k12 k13; have k0 := hblk.cell_some 0 _ rfl; have k1 := hblk.cell_some 1 _ rfl; have k2 := hblk.cell_some 2 _ rfl; have k3 := hblk.cell_some 3 _ rfl; have k4 := hblk.cell_some 4 _ rfl; have k5 := hblk.cell_some 5 _ rfl; have k6 := hblk.cell_some 6 _ rfl; have k7 := hblk.cell_some 7 _ rfl; have k8 := hblk.cell_some 8 _ rfl; have k9 := hblk.cell_some 9 _ rfl; have k10 := hblk.cell_some 10 _ rfl; have k11 := hblk.cell_some 11 _ rfl; have k12 := hblk.cell_some 12 _ rfl; have k13 := hblk.cell_some 13 _ rfl
      clear k0 k1 k2 k3 k4 k5 k6 k7 k8 k9 k10 k11 k12 k13
      have k0 := hblk.cell_some 0 _ rfl
      have k1 := hblk.cell_some 1 _ rfl
      have k2 := hblk.cell_some 2 _ rfl
      have k3 := hblk.cell_some 3 _ rfl
      have k4 := hblk.cell_some 4 _ rfl
      have k5 := hblk.cell_some 5 _ rfl
      have k6 := hblk.cell_some 6 _ rfl
      have k7 := hblk.cell_some 7 _ rfl
      have k8 := hblk.cell_some 8 _ rfl
      have k9 := hblk.cell_some 9 _ rfl
      have k10 := hblk.cell_some 10 _ rfl
      have k11 := hblk.cell_some 11 _ rfl
      have k12 := hblk.cell_some 12 _ rfl
      have k13 := hblk.cell_some 13 _ rfl
      go_wp2_with (first
        | (go_at_call 24; refine (H3.out _ hbl).mono ?_; rintro e w3 ⟨rfl, hb2⟩; replace hbl := gr_call hbl hb2; replace hblk := hblk.kept hb2 hblk.size; clear hb2; clear k0 k1 k2 k3 k4 k5 k6 k7 k8 k9 k10 k11 k12 k13; have k0 := hblk.cell_some 0 _ rfl; have k1 := hblk.cell_some 1 _ rfl; have k2 := hblk.cell_some 2 _ rfl; have k3 := hblk.cell_some 3 _ rfl; have k4 := hblk.cell_some 4 _ rfl; have k5 := hblk.cell_some 5 _ rfl; have k6 := hblk.cell_some 6 _ rfl; have k7 := hblk.cell_some 7 _ rfl; have k8 := hblk.cell_some 8 _ rfl; have k9 := hblk.cell_some 9 _ rfl; have k10 := hblk.cell_some 10 _ rfl; have k11 := hblk.cell_some 11 _ rfl; have k12 := hblk.cell_some 12 _ rfl; have k13 := hblk.cell_some 13 _ rfl)
        | (go_at_call 26; refine (refCaps_any ⟨cv, cp, ci, ce, cr⟩ _).mono ?_; rintro e w3 ⟨rfl, hb2⟩; replace hbl := gr_call hbl hb2; replace hblk := hblk.kept hb2 hblk.size; clear hb2; clear k0 k1 k2 k3 k4 k5 k6 k7 k8 k9 k10 k11 k12 k13; have k0 := hblk.cell_some 0 _ rfl; have k1 := hblk.cell_some 1 _ rfl; have k2 := hblk.cell_some 2 _ rfl; have k3 := hblk.cell_some 3 _ rfl; have k4 := hblk.cell_some 4 _ rfl; have k5 := hblk.cell_some 5 _ rfl; have k6 := hblk.cell_some 6 _ rfl; have k7 := hblk.cell_some 7 _ rfl; have k8 := hblk.cell_some 8 _ rfl; have k9 := hblk.cell_some 9 _ rfl; have k10 := hblk.cell_some 10 _ rfl; have k11 := hblk.cell_some 11 _ rfl; have k12 := hblk.cell_some 12 _ rfl; have k13 := hblk.cell_some 13 _ rfl))
      all_goals (go_ret; refine ⟨ret_bool ?_, hbl⟩; rw [HR2.out]; unfold dflOk capOk; rw [HND.out])
      all_goals clear hbl hblk HR2 HND H1 H2 H3 H4 k0 k1 k2 k3 k4 k5 k6 k7 k8 k9 k10 k11 k12 k13
      all_goals try (have hq1 : AclM.may dfl = false := by simpa using (show (!AclM.may dfl) = true by assumption))
      all_goals try (have hq1 : AclM.may dfl = true := by simpa using (show (!AclM.may dfl) = false by assumption))
      all_goals try (have hq2 : CapsM.may ⟨cv, cp, ci, ce, cr⟩ = false := by simpa using (show (!CapsM.may ⟨cv, cp, ci, ce, cr⟩) = true by assumption))
      all_goals try (have hq3 : nd ≠ 0 := Nat.ne_of_gt (by assumption))
      all_goals try (have hq3 : nd = 0 := by omega)
      all_goals try rw [show CapsM.may ⟨cv, cp, ci, ce, cr⟩ = true by assumption]
      all_goals try (have hq5 : k ≠ 1 := by simpa using hk1)
      all_goals first | (simp [*]; done) | (by_cases hf : flags = 0 <;> simp [*]; done) | omega
    rcases hmy : AclM.may acl with _ | _
    · rw [hmy] at H2
      have HE := Lib.hid (show r = false by rw [HR1.out]; unfold aclOk; rw [HNA.out, hmy]; simp)
      refine region_oneUL (S := fun W => Below w2.heap.size w2 W) 18
        [(fun W v => v = .pointer (some ⟨w.heap.size, 5, none⟩)),
        (fun W v => v = .slice pa (na + 1) ca),
        (fun W v => v = .int .i64 ((na + 1 : Nat) : Int)),
        (fun W v => v = .bool true),
        (fun W v => v = .bool true),
        (fun W v => v = .pointer (some ⟨w.heap.size, 5, none⟩)),
        (fun W v => v = .slice pa (na + 1) ca),
        (fun W v => v = .bool false),
        (fun W v => v = .bool true),
        (fun W v => v = .bool true),
        (fun W v => v = undef),
        (fun W v => v = undef),
        (fun W v => v = undef),
        (fun W v => v = undef),
        (fun W v => v = undef),
        (fun W v => v = undef),
        (fun W v => v = undef),
        (fun W v => v = .bool true)] (by rfl) (by kernel_rfl) (by kernel_rfl) (by kernel_rfl) (by kernel_rfl) (by rfl) (by kernel_rfl) ?hS ?hp ?hs ?he
      case hS => exact gr_drew (Below.refl _ _)
      case hp => repeat' (first | exact trivial | refine ⟨fun _ _ _ _ h => h, ?_⟩)
      case hs =>
        simp only [List.take_succ_cons, List.take_zero]
        refine ⟨?_, ?_, ?_, ?_, ?_, ?_, ?_, ?_, ?_, ?_, ?_, ?_, ?_, ?_, ?_, ?_, ?_, ?_, trivial⟩
        · refine .inl ⟨met_none rfl, ?_⟩
          intro a W K hS hd hD hf hK
          have e2 : a.tmps.getD 2 undef = .pointer (some ⟨w.heap.size, 0, none⟩) := hf 2 (by kernel_rfl)
          clear hd hf hD
          go_simp
          exact hK _ _ (Below.refl _ _) hS rfl (fun h => absurd h (by decide))
        · refine .inl ⟨met_none rfl, ?_⟩
          intro a W K hS hd hD hf hK
          have e53 : a.tmps.getD 53 undef = .pointer (some ⟨w.heap.size, 5, none⟩) := hd ⟨0, .data⟩ (by simp) rfl
          have k5 := (hblk.kept hS hblk.size).cell_some 5 _ rfl
          clear hd hf hD
          go_simp
          exact hK _ _ (Below.refl _ _) hS rfl (fun h => absurd h (by decide))
        · refine .inl ⟨met_none rfl, ?_⟩
          intro a W K hS hd hD hf hK
          have e54 : a.tmps.getD 54 undef = .slice pa (na + 1) ca := hd ⟨1, .data⟩ (by simp) rfl
          clear hd hf hD
          go_simp
          exact hK _ _ (Below.refl _ _) hS rfl (fun h => absurd h (by decide))
        · refine .inl ⟨met_none rfl, ?_⟩
          intro a W K hS hd hD hf hK
          have e55 : a.tmps.getD 55 undef = .int .i64 ((na + 1 : Nat) : Int) := hd ⟨2, .data⟩ (by simp) rfl
          have t0 : decide ((0 : Int) < ((na + 1 : Nat) : Int)) = true := decide_eq_true (by omega)
          have t1 : decide (0 < na + 1) = true := decide_eq_true (by omega)
          have t2 : (0 : Int) < ((na + 1 : Nat) : Int) := by omega
          clear hd hf hD
          go_simp
          exact hK _ _ (Below.refl _ _) hS rfl (fun h => absurd h (by decide))
        · refine .inl ⟨met_none rfl, ?_⟩
          intro a W K hS hd hD hf hK
          have e56 : a.tmps.getD 56 undef = .bool true := hd ⟨3, .data⟩ (by simp) rfl
          clear hd hf hD
          go_simp
          exact hK _ _ (Below.refl _ _) hS rfl (fun h => absurd h (by decide))
        · refine .inl ⟨met_some 4 true rfl (fun w v h => h), ?_⟩
          intro a W K hS hd hD hf hK
          have e2 : a.tmps.getD 2 undef = .pointer (some ⟨w.heap.size, 0, none⟩) := hf 2 (by kernel_rfl)
          clear hd hf hD
          go_simp
          exact hK _ _ (Below.refl _ _) hS rfl (fun h => absurd h (by decide))
        · refine .inl ⟨met_some 4 true rfl (fun w v h => h), ?_⟩
          intro a W K hS hd hD hf hK
          have e58 : a.tmps.getD 58 undef = .pointer (some ⟨w.heap.size, 5, none⟩) := hd ⟨5, .data⟩ (by simp) rfl
          have k5 := (hblk.kept hS hblk.size).cell_some 5 _ rfl
          clear hd hf hD
          go_simp
          exact hK _ _ (Below.refl _ _) hS rfl (fun h => absurd h (by decide))
        · refine .inl ⟨met_some 4 true rfl (fun w v h => h), ?_⟩
          intro a W K hS hd hD hf hK
          have e59 : a.tmps.getD 59 undef = .slice pa (na + 1) ca := hd ⟨6, .data⟩ (by simp) rfl
          have hbq := gr_call hbl hS
          clear hd hf hD
          go_simp
          go_at_call 24
          refine (H2.out _ hbq).mono ?_
          rintro e w3 ⟨rfl, hb⟩
          exact hK _ _ hb (gr_call hS hb) rfl (fun h => absurd h (by decide))
        · refine .inl ⟨met_some 4 true rfl (fun w v h => h), ?_⟩
          intro a W K hS hd hD hf hK
          have e60 : a.tmps.getD 60 undef = .bool false := hd ⟨7, .data⟩ (by simp) rfl
          clear hd hf hD
          go_simp
          exact hK _ _ (Below.refl _ _) hS rfl (fun h => absurd h (by decide))
        · refine .inl ⟨met_some 4 true rfl (fun w v h => h), ?_⟩
          intro a W K hS hd hD hf hK
          have e61 : a.tmps.getD 61 undef = .bool true := hd ⟨8, .data⟩ (by simp) rfl
          clear hd hf hD
          go_simp
          exact hK _ _ (Below.refl _ _) hS rfl (fun h => absurd h (by decide))
        · exact .inr ⟨⟨9, false, rfl, fun w v h => .inl h⟩, rfl, fun _ => rfl⟩
        · exact .inr ⟨⟨9, false, rfl, fun w v h => .inl h⟩, rfl, fun _ => rfl⟩
        · exact .inr ⟨⟨9, false, rfl, fun w v h => .inl h⟩, rfl, fun _ => rfl⟩
        · exact .inr ⟨⟨9, false, rfl, fun w v h => .inl h⟩, rfl, fun _ => rfl⟩
        · exact .inr ⟨⟨9, false, rfl, fun w v h => .inl h⟩, rfl, fun _ => rfl⟩
        · exact .inr ⟨⟨9, false, rfl, fun w v h => .inl h⟩, rfl, fun _ => rfl⟩
        · exact .inr ⟨⟨9, false, rfl, fun w v h => .inl h⟩, rfl, fun _ => rfl⟩
        · refine .inl ⟨met_some 4 true rfl (fun w v h => h), ?_⟩
          intro a W K hS hd hD hf hK
          have e62 : a.tmps.getD 62 undef = .bool true := hd ⟨9, .data⟩ (by simp) rfl
          have e69 : a.tmps.getD 69 undef = undef := hd ⟨16, .data⟩ (by simp) rfl
          clear hd hf hD
          go_simp
          exact hK _ _ (Below.refl _ _) hS rfl (fun h => absurd h (by decide))
      case he =>
        intro vals w7 K hS7 hV hK
        have e57 := hV 4 (by omega)
        have e70 := hV 17 (by omega)
        clear hV
        simp only [List.getD_cons_succ, List.getD_cons_zero] at e57 e70
        replace hblk := hblk.kept hS7 hblk.size
        replace hbl := gr_call hbl hS7
        clear hS7
        refine Later.mk ?_
        simp only [List.append_eq, List.cons_append, List.nil_append, setN, Nat.reduceAdd, List.setIfInBounds_toArray, List.set_cons_succ, List.set_cons_zero]
        rw [e57, e70]
        go_simp
        refine hK _ _ ?_
        clear hK
        go_wp2_with fail
        go_ret
        exact ⟨ret_bool HE.out.symm, hbl⟩
    · have H2' : Hid (∀ W, Below w.heap.size w W → Calls Try.prog 24 #[.slice pa (na + 1) ca] W fun e w' => e = .returned (.bool true) ∧ Below W.heap.size W w') := Lib.hid (fun W hb => by have h := H2.out W hb; rw [hmy] at h; exact h)
      clear H2
      have H2 := H2'
      clear H2'
      refine region_oneUL (S := fun W => Below w2.heap.size w2 W) 18
        [(fun W v => v = .pointer (some ⟨w.heap.size, 5, none⟩)),
        (fun W v => v = .slice pa (na + 1) ca),
        (fun W v => v = .int .i64 ((na + 1 : Nat) : Int)),
        (fun W v => v = .bool true),
        (fun W v => v = .bool true),
        (fun W v => v = .pointer (some ⟨w.heap.size, 5, none⟩)),
        (fun W v => v = .slice pa (na + 1) ca),
        (fun W v => v = .bool true),
        (fun W v => v = .bool false),
        (fun W v => v = .bool false),
        (fun W v => v = .pointer (some ⟨w.heap.size, 5, none⟩)),
        (fun W v => v = .slice pa (na + 1) ca),
        (fun W v => v = .int .i64 (AclW.modeL acl)),
        (fun W v => v = .pointer (some ⟨w.heap.size, 0, none⟩)),
        (fun W v => v = .int .i64 mode),
        (fun W v => v = .int .i64 (mode % 512)),
        (fun W v => v = .bool (AclW.modeL acl != mode % 512)),
        (fun W v => v = .bool (AclW.modeL acl != mode % 512))] (by rfl) (by kernel_rfl) (by kernel_rfl) (by kernel_rfl) (by kernel_rfl) (by rfl) (by kernel_rfl) ?hS ?hp ?hs ?he
      case hS => exact gr_drew (Below.refl _ _)
      case hp => repeat' (first | exact trivial | refine ⟨fun _ _ _ _ h => h, ?_⟩)
      case hs =>
        simp only [List.take_succ_cons, List.take_zero]
        refine ⟨?_, ?_, ?_, ?_, ?_, ?_, ?_, ?_, ?_, ?_, ?_, ?_, ?_, ?_, ?_, ?_, ?_, ?_, trivial⟩
        · refine .inl ⟨met_none rfl, ?_⟩
          intro a W K hS hd hD hf hK
          have e2 : a.tmps.getD 2 undef = .pointer (some ⟨w.heap.size, 0, none⟩) := hf 2 (by kernel_rfl)
          clear hd hf hD
          go_simp
          exact hK _ _ (Below.refl _ _) hS rfl (fun h => absurd h (by decide))
        · refine .inl ⟨met_none rfl, ?_⟩
          intro a W K hS hd hD hf hK
          have e53 : a.tmps.getD 53 undef = .pointer (some ⟨w.heap.size, 5, none⟩) := hd ⟨0, .data⟩ (by simp) rfl
          have k5 := (hblk.kept hS hblk.size).cell_some 5 _ rfl
          clear hd hf hD
          go_simp
          exact hK _ _ (Below.refl _ _) hS rfl (fun h => absurd h (by decide))
        · refine .inl ⟨met_none rfl, ?_⟩
          intro a W K hS hd hD hf hK
          have e54 : a.tmps.getD 54 undef = .slice pa (na + 1) ca := hd ⟨1, .data⟩ (by simp) rfl
          clear hd hf hD
          go_simp
          exact hK _ _ (Below.refl _ _) hS rfl (fun h => absurd h (by decide))
        · refine .inl ⟨met_none rfl, ?_⟩
          intro a W K hS hd hD hf hK
          have e55 : a.tmps.getD 55 undef = .int .i64 ((na + 1 : Nat) : Int) := hd ⟨2, .data⟩ (by simp) rfl
          have t0 : decide ((0 : Int) < ((na + 1 : Nat) : Int)) = true := decide_eq_true (by omega)
          have t1 : decide (0 < na + 1) = true := decide_eq_true (by omega)
          have t2 : (0 : Int) < ((na + 1 : Nat) : Int) := by omega
          clear hd hf hD
          go_simp
          exact hK _ _ (Below.refl _ _) hS rfl (fun h => absurd h (by decide))
        · refine .inl ⟨met_none rfl, ?_⟩
          intro a W K hS hd hD hf hK
          have e56 : a.tmps.getD 56 undef = .bool true := hd ⟨3, .data⟩ (by simp) rfl
          clear hd hf hD
          go_simp
          exact hK _ _ (Below.refl _ _) hS rfl (fun h => absurd h (by decide))
        · refine .inl ⟨met_some 4 true rfl (fun w v h => h), ?_⟩
          intro a W K hS hd hD hf hK
          have e2 : a.tmps.getD 2 undef = .pointer (some ⟨w.heap.size, 0, none⟩) := hf 2 (by kernel_rfl)
          clear hd hf hD
          go_simp
          exact hK _ _ (Below.refl _ _) hS rfl (fun h => absurd h (by decide))
        · refine .inl ⟨met_some 4 true rfl (fun w v h => h), ?_⟩
          intro a W K hS hd hD hf hK
          have e58 : a.tmps.getD 58 undef = .pointer (some ⟨w.heap.size, 5, none⟩) := hd ⟨5, .data⟩ (by simp) rfl
          have k5 := (hblk.kept hS hblk.size).cell_some 5 _ rfl
          clear hd hf hD
          go_simp
          exact hK _ _ (Below.refl _ _) hS rfl (fun h => absurd h (by decide))
        · refine .inl ⟨met_some 4 true rfl (fun w v h => h), ?_⟩
          intro a W K hS hd hD hf hK
          have e59 : a.tmps.getD 59 undef = .slice pa (na + 1) ca := hd ⟨6, .data⟩ (by simp) rfl
          have hbq := gr_call hbl hS
          clear hd hf hD
          go_simp
          go_at_call 24
          refine (H2.out _ hbq).mono ?_
          rintro e w3 ⟨rfl, hb⟩
          exact hK _ _ hb (gr_call hS hb) rfl (fun h => absurd h (by decide))
        · refine .inl ⟨met_some 4 true rfl (fun w v h => h), ?_⟩
          intro a W K hS hd hD hf hK
          have e60 : a.tmps.getD 60 undef = .bool true := hd ⟨7, .data⟩ (by simp) rfl
          clear hd hf hD
          go_simp
          exact hK _ _ (Below.refl _ _) hS rfl (fun h => absurd h (by decide))
        · refine .inl ⟨met_some 4 true rfl (fun w v h => h), ?_⟩
          intro a W K hS hd hD hf hK
          have e61 : a.tmps.getD 61 undef = .bool false := hd ⟨8, .data⟩ (by simp) rfl
          clear hd hf hD
          go_simp
          exact hK _ _ (Below.refl _ _) hS rfl (fun h => absurd h (by decide))
        · refine .inl ⟨met_some 9 false rfl (fun w v h => h), ?_⟩
          intro a W K hS hd hD hf hK
          have e2 : a.tmps.getD 2 undef = .pointer (some ⟨w.heap.size, 0, none⟩) := hf 2 (by kernel_rfl)
          clear hd hf hD
          go_simp
          exact hK _ _ (Below.refl _ _) hS rfl (fun h => absurd h (by decide))
        · refine .inl ⟨met_some 9 false rfl (fun w v h => h), ?_⟩
          intro a W K hS hd hD hf hK
          have e63 : a.tmps.getD 63 undef = .pointer (some ⟨w.heap.size, 5, none⟩) := hd ⟨10, .data⟩ (by simp) rfl
          have k5 := (hblk.kept hS hblk.size).cell_some 5 _ rfl
          clear hd hf hD
          go_simp
          exact hK _ _ (Below.refl _ _) hS rfl (fun h => absurd h (by decide))
        · refine .inl ⟨met_some 9 false rfl (fun w v h => h), ?_⟩
          intro a W K hS hd hD hf hK
          have e64 : a.tmps.getD 64 undef = .slice pa (na + 1) ca := hd ⟨11, .data⟩ (by simp) rfl
          have hbq := gr_call hbl hS
          clear hd hf hD
          go_simp
          go_at_call 25
          refine (H4.out _ hbq hmy).mono ?_
          rintro e w3 ⟨rfl, hb⟩
          exact hK _ _ hb (gr_call hS hb) rfl (fun h => absurd h (by decide))
        · refine .inl ⟨met_some 9 false rfl (fun w v h => h), ?_⟩
          intro a W K hS hd hD hf hK
          have e2 : a.tmps.getD 2 undef = .pointer (some ⟨w.heap.size, 0, none⟩) := hf 2 (by kernel_rfl)
          clear hd hf hD
          go_simp
          exact hK _ _ (Below.refl _ _) hS rfl (fun h => absurd h (by decide))
        · refine .inl ⟨met_some 9 false rfl (fun w v h => h), ?_⟩
          intro a W K hS hd hD hf hK
          have e66 : a.tmps.getD 66 undef = .pointer (some ⟨w.heap.size, 0, none⟩) := hd ⟨13, .data⟩ (by simp) rfl
          have k0 := (hblk.kept hS hblk.size).cell_some 0 _ rfl
          clear hd hf hD
          go_simp
          exact hK _ _ (Below.refl _ _) hS rfl (fun h => absurd h (by decide))
        · refine .inl ⟨met_some 9 false rfl (fun w v h => h), ?_⟩
          intro a W K hS hd hD hf hK
          have e67 : a.tmps.getD 67 undef = .int .i64 mode := hd ⟨14, .data⟩ (by simp) rfl
          have t0 := HA.out
          clear hd hf hD
          go_simp
          exact hK _ _ (Below.refl _ _) hS rfl (fun h => absurd h (by decide))
        · refine .inl ⟨met_some 9 false rfl (fun w v h => h), ?_⟩
          intro a W K hS hd hD hf hK
          have e65 : a.tmps.getD 65 undef = .int .i64 (AclW.modeL acl) := hd ⟨12, .data⟩ (by simp) rfl
          have e68 : a.tmps.getD 68 undef = .int .i64 (mode % 512) := hd ⟨15, .data⟩ (by simp) rfl
          clear hd hf hD
          go_simp
          exact hK _ _ (Below.refl _ _) hS rfl (fun h => absurd h (by decide))
        · refine .inl ⟨met_some 4 true rfl (fun w v h => h), ?_⟩
          intro a W K hS hd hD hf hK
          have e62 : a.tmps.getD 62 undef = .bool false := hd ⟨9, .data⟩ (by simp) rfl
          have e69 : a.tmps.getD 69 undef = .bool (AclW.modeL acl != mode % 512) := hd ⟨16, .data⟩ (by simp) rfl
          clear hd hf hD
          go_simp
          exact hK _ _ (Below.refl _ _) hS rfl (fun h => absurd h (by decide))
      case he =>
        intro vals w7 K hS7 hV hK
        have e57 := hV 4 (by omega)
        have e70 := hV 17 (by omega)
        clear hV
        simp only [List.getD_cons_succ, List.getD_cons_zero] at e57 e70
        replace hblk := hblk.kept hS7 hblk.size
        replace hbl := gr_call hbl hS7
        clear hS7
        refine Later.mk ?_
        simp only [List.append_eq, List.cons_append, List.nil_append, setN, Nat.reduceAdd, List.setIfInBounds_toArray, List.set_cons_succ, List.set_cons_zero]
        rw [e57, e70]
        go_simp
        refine hK _ _ ?_
        clear hK
        by_cases hmd : AclW.modeL acl = mode % 512
        · have hmq : (AclW.modeL acl != mode % 512) = false := by simp [hmd]
          have HR2 : Hid (r = (dflOk dfl k && capOk ⟨cv, cp, ci, ce, cr⟩ k && decide (k ≠ 3))) := Lib.hid (by
            rw [HR1.out]
            unfold aclOk
            rw [HNA.out, hmy, hmd]
            simp)
          clear hmd
          have k0 := hblk.cell_some 0 _ rfl
          have k1 := hblk.cell_some 1 _ rfl
          have k2 := hblk.cell_some 2 _ rfl
          have k3 := hblk.cell_some 3 _ rfl
          have k4 := hblk.cell_some 4 _ rfl
          have k5 := hblk.cell_some 5 _ rfl
          have k6 := hblk.cell_some 6 _ rfl
          have k7 := hblk.cell_some 7 _ rfl
          have k8 := hblk.cell_some 8 _ rfl
          have k9 := hblk.cell_some 9 _ rfl
          have k10 := hblk.cell_some 10 _ rfl
          have k11 := hblk.cell_some 11 _ rfl
          have k12 := hblk.cell_some 12 _ rfl
          have k13 := hblk.cell_some 13 _ rfl
          go_wp2_with (first
            | (go_at_call 24; refine (H3.out _ hbl).mono ?_; rintro e w3 ⟨rfl, hb2⟩; replace hbl := gr_call hbl hb2; replace hblk := hblk.kept hb2 hblk.size; clear hb2; clear k0 k1 k2 k3 k4 k5 k6 k7 k8 k9 k10 k11 k12 k13; have k0 := hblk.cell_some 0 _ rfl; have k1 := hblk.cell_some 1 _ rfl; have k2 := hblk.cell_some 2 _ rfl; have k3 := hblk.cell_some 3 _ rfl; have k4 := hblk.cell_some 4 _ rfl; have k5 := hblk.cell_some 5 _ rfl; have k6 := hblk.cell_some 6 _ rfl; have k7 := hblk.cell_some 7 _ rfl; have k8 := hblk.cell_some 8 _ rfl; have k9 := hblk.cell_some 9 _ rfl; have k10 := hblk.cell_some 10 _ rfl; have k11 := hblk.cell_some 11 _ rfl; have k12 := hblk.cell_some 12 _ rfl; have k13 := hblk.cell_some 13 _ rfl)
            | (go_at_call 26; refine (refCaps_any ⟨cv, cp, ci, ce, cr⟩ _).mono ?_; rintro e w3 ⟨rfl, hb2⟩; replace hbl := gr_call hbl hb2; replace hblk := hblk.kept hb2 hblk.size; clear hb2; clear k0 k1 k2 k3 k4 k5 k6 k7 k8 k9 k10 k11 k12 k13; have k0 := hblk.cell_some 0 _ rfl; have k1 := hblk.cell_some 1 _ rfl; have k2 := hblk.cell_some 2 _ rfl; have k3 := hblk.cell_some 3 _ rfl; have k4 := hblk.cell_some 4 _ rfl; have k5 := hblk.cell_some 5 _ rfl; have k6 := hblk.cell_some 6 _ rfl; have k7 := hblk.cell_some 7 _ rfl; have k8 := hblk.cell_some 8 _ rfl; have k9 := hblk.cell_some 9 _ rfl; have k10 := hblk.cell_some 10 _ rfl; have k11 := hblk.cell_some 11 _ rfl; have k12 := hblk.cell_some 12 _ rfl; have k13 := hblk.cell_some 13 _ rfl))
          all_goals (go_ret; refine ⟨ret_bool ?_, hbl⟩; rw [HR2.out]; unfold dflOk capOk; rw [HND.out])
          all_goals clear hbl hblk HR2 HND H1 H2 H3 H4 k0 k1 k2 k3 k4 k5 k6 k7 k8 k9 k10 k11 k12 k13
          all_goals try (have hq1 : AclM.may dfl = false := by simpa using (show (!AclM.may dfl) = true by assumption))
          all_goals try (have hq1 : AclM.may dfl = true := by simpa using (show (!AclM.may dfl) = false by assumption))
          all_goals try (have hq2 : CapsM.may ⟨cv, cp, ci, ce, cr⟩ = false := by simpa using (show (!CapsM.may ⟨cv, cp, ci, ce, cr⟩) = true by assumption))
          all_goals try (have hq3 : nd ≠ 0 := Nat.ne_of_gt (by assumption))
          all_goals try (have hq3 : nd = 0 := by omega)
          all_goals try rw [show CapsM.may ⟨cv, cp, ci, ce, cr⟩ = true by assumption]
          all_goals try (have hq5 : k ≠ 1 := by simpa using hk1)
          all_goals first | (simp [*]; done) | (by_cases hf : flags = 0 <;> simp [*]; done) | omega
        · have hmq : (AclW.modeL acl != mode % 512) = true := by simp [hmd]
          have HE := Lib.hid (show r = false by rw [HR1.out]; unfold aclOk; rw [HNA.out, hmy]; simp [hmd])
          clear hmd
          go_wp2_with fail
          go_ret
          exact ⟨ret_bool HE.out.symm, hbl⟩
end Go.Proofs.Ytajjhndpdjfcpaa
