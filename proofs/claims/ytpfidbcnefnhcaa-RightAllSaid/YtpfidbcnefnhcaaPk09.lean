/- Bundle of 6 texts. -/
import Derived.Test.YtpfidbcnefnhcaaPk08
import Derived.Test.YtpfidbcnefnhcaaPk02
import Derived.Recover
import Derived.Test.YtpfidbcnefnhcaaChecked
import Derived.Deep.QuietTactic
import Derived.BigQuiet
import Derived.Outline
import Derived.Lib.Bytealg
import Derived.Lib.IndexLaws
import Derived.Laws.Externs
import Derived.Sort.Walk0
/- The law RightAll, walked. -/
namespace Go.Proofs.Ytpfidbcnefnhcaa
open Go.RowKit
open MetaM RightM AclM
set_option linter.unusedVariables false
attribute [local irreducible] Row At
theorem refMay_many (p : Option Addr) (z cap : Nat) (w : World) (h : 32 < z) :
    Calls Try.prog 23 #[.slice p z cap] w fun e w' => e = .returned (.bool false) ∧ Below w.heap.size w w' := by
  have e1 : decide ((z : Int) < 3) = false := decide_eq_false (by omega)
  have e2 : decide ((32 : Int) < (z : Int)) = true := decide_eq_true (by omega)
  have e3 : decide (32 < z) = true := decide_eq_true h
  go_enter Try.func23, Try.ntmps23
  go_wp2_with fail
  go_ret
  exact ⟨by rfl, Below.refl _ _⟩
theorem refMay_all (v : Value) (l : List Ace) (w : World) (hat : At AclW.aceE v l w) :
    Calls Try.prog 23 #[v] w fun e w' => e = .returned (.bool (may l)) ∧ Below w.heap.size w w' := by
  by_cases h : l.length ≤ 1000000
  · exact AclW.refMay_any v l w hat h
  · obtain ⟨p, cap, rfl, _⟩ := hat.shape
    have hm : may l = false := by
      rw [Bool.eq_false_iff]
      intro e
      have := (may_parts e).2.1
      omega
    rw [hm]
    exact refMay_many p _ cap w (by omega)
set_option maxHeartbeats 3200000 in
set_option maxRecDepth 100000 in
theorem lists_any (m : Mt) (va vd vx : Value) (w : World) (hat : At AclW.aceE va m.acl w) :
    Calls Try.prog 10 #[.agg (metaC m va vd vx)] w fun e w' => e = .returned (.bool (decide (m.acl = []) || may m.acl)) ∧ Below w.heap.size w w' := by
  obtain ⟨p, cap, hv, hcap⟩ := hat.shape
  have H := Lib.hid (fun W (hb : Below w.heap.size w W) => refMay_all va m.acl W (hat.call hb))
  by_cases hn : m.acl = []
  · rw [decide_eq_true hn, Bool.true_or]
    rw [hn] at hv
    simp only [List.length_nil] at hv
    subst hv
    unfold metaC
    clear hat hcap hn H
    go_enter Try.func10, Try.ntmps10
    go_wp2_with fail
    go_ret
    exact ⟨by rfl, by (repeat' (first | exact Below.refl _ _ | assumption | refine gr_drew ?_ | refine gr_drewN ?_ _ | refine gr_alloc ?_ _ | refine gr_set ?_ ?_ _ | refine gr_call ?_ (by assumption)) <;> (try (simp; done)) <;> (try (simp; omega)) <;> (try omega))⟩
  · rw [decide_eq_false hn, Bool.false_or]
    have hz : 0 < m.acl.length := List.length_pos_iff.2 hn
    generalize may m.acl = r at *
    generalize m.acl.length = z at *
    subst hv
    have d0 : decide ((z : Int) = 0) = false := decide_eq_false (by omega)
    have d1 : ((z : Int) == 0) = false := beq_eq_false_iff_ne.2 (by omega)
    have d2 : (z == 0) = false := beq_eq_false_iff_ne.2 (by omega)
    unfold metaC
    clear hat hcap hn
    have hbl : Below w.heap.size w (w.alloc (.cells #[.int .i64 m.mode, .int .i64 m.uid, .int .i64 m.gid, .int .i64 m.sec, .int .i64 m.nano, .slice p z cap, vd, vx, .int .i64 m.cap.v, .int .u64 (m.cap.p : Int), .int .u64 (m.cap.i : Int), .bool m.cap.e, .int .i64 m.cap.r, .int .i64 m.flags] 30)) := by (repeat' (first | exact Below.refl _ _ | assumption | refine gr_drew ?_ | refine gr_drewN ?_ _ | refine gr_alloc ?_ _ | refine gr_set ?_ ?_ _ | refine gr_call ?_ (by assumption)) <;> (try (simp; done)) <;> (try (simp; omega)) <;> (try omega))
    go_enter Try.func10, Try.ntmps10
    go_wp2_with (first | (go_at_call 23; refine (H.out _ hbl).mono ?_; rintro e w1 ⟨rfl, hb1⟩))
    go_ret
    exact ⟨by rfl, gr_call hbl hb1⟩
set_option maxHeartbeats 6400000 in
set_option maxRecDepth 100000 in
theorem rightAll_walk (m : Mt) (va vd vx : Value) (c : Cr) (gv : Value) (want gid : Int) (w : World) (hat : At AclW.aceE va m.acl w) (hmd : InRange m.mode) (hgr : At intE gv c.groups w) (_ : (Lit.int .i64 want).wf = true) (_ : (Lit.int .i64 gid).wf = true) :
    Calls Try.prog 3 #[.agg (metaC m va vd vx), .agg (credC c gv), .int .i64 want, .int .i64 gid] w fun e w' => e = .returned (.bool true) ∧ Below w.heap.size w w' := by
  obtain ⟨pa, ca, hva, _⟩ := hat.shape
  obtain ⟨pg, cg, hgv, _⟩ := hgr.shape
  obtain ⟨z, hz⟩ : ∃ z, m.acl.length = z := ⟨_, rfl⟩
  obtain ⟨y, hy⟩ : ∃ y, c.groups.length = y := ⟨_, rfl⟩
  rw [hz] at hva
  rw [hy] at hgv
  subst hva hgv
  have HLi := Lib.hid (fun W (hb : Below w.heap.size w W) => lists_any m (.slice pa z ca) vd vx W (hat.call hb))
  unfold metaC at HLi ⊢
  unfold credC
  obtain ⟨W, hW⟩ : ∃ W, (w.alloc (.cells #[.int .i64 m.mode, .int .i64 m.uid, .int .i64 m.gid, .int .i64 m.sec, .int .i64 m.nano, .slice pa z ca, vd, vx, .int .i64 m.cap.v, .int .u64 (m.cap.p : Int), .int .u64 (m.cap.i : Int), .bool m.cap.e, .int .i64 m.cap.r, .int .i64 m.flags] 30)).alloc (.cells #[.int .i64 c.uid, .int .i64 c.gid, .slice pg y cg, .int .i64 c.powers] 33) = W := ⟨_, rfl⟩
  obtain ⟨bm, hbm⟩ : ∃ b, w.heap.size = b := ⟨_, rfl⟩
  obtain ⟨bc, hbc⟩ : ∃ b, bm + 1 = b := ⟨_, rfl⟩
  have hblk : BlkIs W bm 30 #[.int .i64 m.mode, .int .i64 m.uid, .int .i64 m.gid, .int .i64 m.sec, .int .i64 m.nano, .slice pa z ca, vd, vx, .int .i64 m.cap.v, .int .u64 (m.cap.p : Int), .int .u64 (m.cap.i : Int), .bool m.cap.e, .int .i64 m.cap.r, .int .i64 m.flags] := by rw [← hW]; exact (blk_of hbm _ _).alloc _
  have hcb : BlkIs W bc 33 #[.int .i64 c.uid, .int .i64 c.gid, .slice pg y cg, .int .i64 c.powers] := by rw [← hW, ← hbc]; exact blk_of (by simp [hbm]) _ _
  have hbl : Below w.heap.size w W := by rw [← hW]; (repeat' (first | exact Below.refl _ _ | assumption | refine gr_drew ?_ | refine gr_drewN ?_ _ | refine gr_alloc ?_ _ | refine gr_set ?_ ?_ _ | refine gr_call ?_ (by assumption)) <;> (try (simp; done)) <;> (try (simp; omega)) <;> (try omega))
  go_enter Try.func3, Try.ntmps3
  go_upto_region 1 with fail
  try rw [hW]
  try simp only [hbm, hbc]
  have k0 := hblk.cell_some 0 _ rfl; have k1 := hblk.cell_some 1 _ rfl; have k2 := hblk.cell_some 2 _ rfl; have k3 := hblk.cell_some 3 _ rfl; have k4 := hblk.cell_some 4 _ rfl; have k5 := hblk.cell_some 5 _ rfl; have k6 := hblk.cell_some 6 _ rfl; have k7 := hblk.cell_some 7 _ rfl; have k8 := hblk.cell_some 8 _ rfl; have k9 := hblk.cell_some 9 _ rfl; have k10 := hblk.cell_some 10 _ rfl; have k11 := hblk.cell_some 11 _ rfl; have k12 := hblk.cell_some 12 _ rfl; have k13 := hblk.cell_some 13 _ rfl
  go_upto_region 1 with fail
  have HL1 := Lib.hid (HLi.out _ hbl)
  obtain ⟨q, hq⟩ : ∃ q, (decide (m.acl = []) || may m.acl) = q := ⟨_, rfl⟩
  rw [hq] at HL1
  clear HLi hW hbm hbc
  by_cases hbad : q = false ∨ 100 < y
  · rcases hbad with hq0 | hy1
    · subst hq0
      go_wp2_with (first
        | (go_at_call 10; refine (HL1.out).mono ?_; rintro e w1 ⟨rfl, hb1⟩; replace hbl := gr_call hbl hb1; clear hb1)
        | (go_at_call 11; refine (awake18 _).mono ?_; rintro e wh ⟨rfl, hb1⟩; replace hbl := gr_call hbl hb1; clear hb1))
      go_ret
      exact ⟨by rfl, hbl⟩
    · have l1 : decide ((y : Int) > 100) = true := decide_eq_true (by omega)
      have l2 : decide ((100 : Int) < (y : Int)) = true := decide_eq_true (by omega)
      have l3 : decide (100 < y) = true := decide_eq_true hy1
      clear hy1
      cases q
      all_goals
        go_wp2_with (first
          | (go_at_call 10; refine (HL1.out).mono ?_; rintro e w1 ⟨rfl, hb1⟩; replace hbl := gr_call hbl hb1; replace hcb := hcb.kept hb1 hcb.size; clear hb1; have y2 := hcb.cell_some 2 _ rfl)
          | (go_at_call 11; refine (awake18 _).mono ?_; rintro e wh ⟨rfl, hb1⟩; replace hbl := gr_call hbl hb1; clear hb1))
        go_ret
        exact ⟨by rfl, hbl⟩
  · have hq1 : q = true := by cases q <;> simp_all
    subst hq1
    have hok : okL m := by
      rw [Bool.or_eq_true, decide_eq_true_eq] at hq
      exact hq
    have hy1 : y ≤ 100 := by omega
    have hz32 : m.acl.length ≤ 1000000 := by
      rcases hok with h | h
      · rw [h]; simp
      · have := (may_parts h).2.1; omega
    have l1 : decide ((y : Int) > 100) = false := decide_eq_false (by omega)
    have l2 : decide ((100 : Int) < (y : Int)) = false := decide_eq_false (by omega)
    have l3 : decide (100 < y) = false := decide_eq_false (by omega)
    have hst : LawSt w bm bc m (.slice pa z ca) vd vx c (.slice pg y cg) W := ⟨hbl, hblk, hcb, ⟨hat.call hbl, hz32, hok, hmd⟩, ⟨hgr.call hbl, by omega⟩⟩
    clear hbad hq hat hgr hmd hbl hblk hcb hok hz32
    obtain ⟨i, hi⟩ : ∃ i, inM c gid = i := ⟨_, rfl⟩
    obtain ⟨r, hr⟩ : ∃ r, canM m c want = r := ⟨_, rfl⟩
    obtain ⟨o, ho⟩ : ∃ o, ownM m c = o := ⟨_, rfl⟩
    have HI := Lib.hid (fun W (h : LawSt w bm bc m (.slice pa z ca) vd vx c (.slice pg y cg) W) => in_at h gid)
    have HI2 := Lib.hid (fun W (h : LawSt w bm bc m (.slice pa z ca) vd vx c (.slice pg y cg) W) => refIn_any c (.slice pg y cg) gid W h.ca)
    have HC := Lib.hid (fun W (h : LawSt w bm bc m (.slice pa z ca) vd vx c (.slice pg y cg) W) => can_at h want)
    have HC2 := Lib.hid (fun W (h : LawSt w bm bc m (.slice pa z ca) vd vx c (.slice pg y cg) W) => refCan_any m (.slice pa z ca) vd vx c (.slice pg y cg) want W h.ra.acl h.ra.len h.ra.ok h.ra.md h.ca)
    have HL := Lib.hid (fun W (h : LawSt w bm bc m (.slice pa z ca) vd vx c (.slice pg y cg) W) => less_at h)
    have HL2 := Lib.hid (fun W (h : LawSt w bm bc m (.slice pa z ca) vd vx c (.slice pg y cg) W) => refLess_any m (.slice pa z ca) vd vx W h.ra.acl h.ra.ok)
    have HO := Lib.hid (fun W (h : LawSt w bm bc m (.slice pa z ca) vd vx c (.slice pg y cg) W) => owner_at h)
    have HO2 := Lib.hid (fun W (h : LawSt w bm bc m (.slice pa z ca) vd vx c (.slice pg y cg) W) => refOwner_any m (.slice pa z ca) vd vx c (.slice pg y cg) W)
    have HA := Lib.hid (fun W (h : LawSt w bm bc m (.slice pa z ca) vd vx c (.slice pg y cg) W) => awake18 W)
    unfold credC at HI2
    unfold metaC at HL2
    unfold metaC credC at HO2 HC2
    rw [ho] at HO HO2
    rw [hi] at HI HI2
    rw [hr] at HC HC2
    clear ho hi hr
    go_upto_region 3 with (first
        | (go_at_call 10; refine (HL1.out).mono ?_; rintro e w1 ⟨rfl, hb1⟩; replace hst := hst.call hb1; clear hb1 k0 k1 k2 k3 k4 k5 k6 k7 k8 k9 k10 k11 k12 k13; have y2 := hst.cb.cell_some 2 _ rfl))
    refine region_oneUL (S := fun W => LawSt w bm bc m (.slice pa z ca) vd vx c (.slice pg y cg) W) 37
      [(fun W v => v = .agg #[.int .i64 c.uid, .int .i64 c.gid, (.slice pg y cg), .int .i64 c.powers]),
      (fun W v => v = .int .i64 gid),
      (fun W v => v = .bool i),
      (fun W v => v = .agg #[.int .i64 c.uid, .int .i64 c.gid, (.slice pg y cg), .int .i64 c.powers]),
      (fun W v => v = .int .i64 gid),
      (fun W v => v = .bool i),
      (fun W v => v = .bool true),
      (fun W v => v = .bool true),
      (fun W v => v = .agg #[.int .i64 m.mode, .int .i64 m.uid, .int .i64 m.gid, .int .i64 m.sec, .int .i64 m.nano, (.slice pa z ca), vd, vx, .int .i64 m.cap.v, .int .u64 (m.cap.p : Int), .int .u64 (m.cap.i : Int), .bool m.cap.e, .int .i64 m.cap.r, .int .i64 m.flags]),
      (fun W v => v = .agg #[.int .i64 c.uid, .int .i64 c.gid, (.slice pg y cg), .int .i64 c.powers]),
      (fun W v => v = .int .i64 want),
      (fun W v => v = .bool r),
      (fun W v => v = .agg #[.int .i64 m.mode, .int .i64 m.uid, .int .i64 m.gid, .int .i64 m.sec, .int .i64 m.nano, (.slice pa z ca), vd, vx, .int .i64 m.cap.v, .int .u64 (m.cap.p : Int), .int .u64 (m.cap.i : Int), .bool m.cap.e, .int .i64 m.cap.r, .int .i64 m.flags]),
      (fun W v => v = .agg #[.int .i64 c.uid, .int .i64 c.gid, (.slice pg y cg), .int .i64 c.powers]),
      (fun W v => v = .int .i64 want),
      (fun W v => v = .bool r),
      (fun W v => v = .bool true),
      (fun W v => v = .bool true),
      (fun W v => v = .bool true),
      (fun W v => v = .agg #[.int .i64 m.mode, .int .i64 m.uid, .int .i64 m.gid, .int .i64 m.sec, .int .i64 m.nano, (.slice pa z ca), vd, vx, .int .i64 m.cap.v, .int .u64 (m.cap.p : Int), .int .u64 (m.cap.i : Int), .bool m.cap.e, .int .i64 m.cap.r, .int .i64 m.flags]),
      (fun W v => v = .agg #[.int .i64 c.uid, .int .i64 c.gid, (.slice pg y cg), .int .i64 c.powers]),
      (fun W v => v = .bool o),
      (fun W v => v = .agg #[.int .i64 m.mode, .int .i64 m.uid, .int .i64 m.gid, .int .i64 m.sec, .int .i64 m.nano, (.slice pa z ca), vd, vx, .int .i64 m.cap.v, .int .u64 (m.cap.p : Int), .int .u64 (m.cap.i : Int), .bool m.cap.e, .int .i64 m.cap.r, .int .i64 m.flags]),
      (fun W v => v = .agg #[.int .i64 c.uid, .int .i64 c.gid, (.slice pg y cg), .int .i64 c.powers]),
      (fun W v => v = .bool o),
      (fun W v => v = .bool true),
      (fun W v => v = .bool true),
      (fun W v => v = .bool true),
      (fun W v => v = .agg #[.int .i64 m.mode, .int .i64 m.uid, .int .i64 m.gid, .int .i64 m.sec, .int .i64 m.nano, (.slice pa z ca), vd, vx, .int .i64 m.cap.v, .int .u64 (m.cap.p : Int), .int .u64 (m.cap.i : Int), .bool m.cap.e, .int .i64 m.cap.r, .int .i64 m.flags]),
      (fun W v => v = .int .i64 (lessM m : Int)),
      (fun W v => v = .agg #[.int .i64 m.mode, .int .i64 m.uid, .int .i64 m.gid, .int .i64 m.sec, .int .i64 m.nano, (.slice pa z ca), vd, vx, .int .i64 m.cap.v, .int .u64 (m.cap.p : Int), .int .u64 (m.cap.i : Int), .bool m.cap.e, .int .i64 m.cap.r, .int .i64 m.flags]),
      (fun W v => v = .int .i64 (lessM m : Int)),
      (fun W v => v = .bool true),
      (fun W v => v = .bool true),
      (fun W v => v = .bool true),
      (fun W v => v = .bool true),
      (fun W v => v = .bool true)] (by rfl) (by kernel_rfl) (by kernel_rfl) (by kernel_rfl) (by kernel_rfl) (by rfl) (by kernel_rfl) ?hS ?hp ?hs ?he
    case hS => exact hst.call (gr_drew (Below.refl _ _))
    case hp => repeat' (first | exact trivial | refine ⟨fun _ _ _ _ h => h, ?_⟩)
    case hs =>
      simp only [List.take_succ_cons, List.take_zero]
      refine ⟨?_, ?_, ?_, ?_, ?_, ?_, ?_, ?_, ?_, ?_, ?_, ?_, ?_, ?_, ?_, ?_, ?_, ?_, ?_, ?_, ?_, ?_, ?_, ?_, ?_, ?_, ?_, ?_, ?_, ?_, ?_, ?_, ?_, ?_, ?_, ?_, ?_, trivial⟩
      · refine .inl ⟨met_none rfl, ?_⟩
        intro a W K hS hd hD hf hK
        have e5 : a.tmps.getD 5 undef = .pointer (some ⟨bc, 0, none⟩) := hf 5 (by kernel_rfl)
        have k0 := hS.cb.cell_some 0 _ rfl; have k1 := hS.cb.cell_some 1 _ rfl; have k2 := hS.cb.cell_some 2 _ rfl; have k3 := hS.cb.cell_some 3 _ rfl
        clear hd hf hD
        go_simp
        exact hK _ _ (Below.refl _ _) hS rfl (fun h => absurd h (by decide))
      · refine .inl ⟨met_none rfl, ?_⟩
        intro a W K hS hd hD hf hK
        have e3 : a.tmps.getD 3 undef = .int .i64 gid := hf 3 (by kernel_rfl)
        clear hd hf hD
        go_simp
        exact hK _ _ (Below.refl _ _) hS rfl (fun h => absurd h (by decide))
      · refine .inl ⟨met_none rfl, ?_⟩
        intro a W K hS hd hD hf hK
        have e19 : a.tmps.getD 19 undef = .agg #[.int .i64 c.uid, .int .i64 c.gid, (.slice pg y cg), .int .i64 c.powers] := hd ⟨0, .data⟩ (by simp) rfl
        have e20 : a.tmps.getD 20 undef = .int .i64 gid := hd ⟨1, .data⟩ (by simp) rfl
        clear hd hf hD
        go_simp
        go_at_call 12
        refine (HI.out _ hS).mono ?_
        rintro e w9 ⟨rfl, hb⟩
        exact hK _ _ hb (hS.call hb) rfl (fun h => absurd h (by decide))
      · refine .inl ⟨met_none rfl, ?_⟩
        intro a W K hS hd hD hf hK
        have e5 : a.tmps.getD 5 undef = .pointer (some ⟨bc, 0, none⟩) := hf 5 (by kernel_rfl)
        have k0 := hS.cb.cell_some 0 _ rfl; have k1 := hS.cb.cell_some 1 _ rfl; have k2 := hS.cb.cell_some 2 _ rfl; have k3 := hS.cb.cell_some 3 _ rfl
        clear hd hf hD
        go_simp
        exact hK _ _ (Below.refl _ _) hS rfl (fun h => absurd h (by decide))
      · refine .inl ⟨met_none rfl, ?_⟩
        intro a W K hS hd hD hf hK
        have e3 : a.tmps.getD 3 undef = .int .i64 gid := hf 3 (by kernel_rfl)
        clear hd hf hD
        go_simp
        exact hK _ _ (Below.refl _ _) hS rfl (fun h => absurd h (by decide))
      · refine .inl ⟨met_none rfl, ?_⟩
        intro a W K hS hd hD hf hK
        have e22 : a.tmps.getD 22 undef = .agg #[.int .i64 c.uid, .int .i64 c.gid, (.slice pg y cg), .int .i64 c.powers] := hd ⟨3, .data⟩ (by simp) rfl
        have e23 : a.tmps.getD 23 undef = .int .i64 gid := hd ⟨4, .data⟩ (by simp) rfl
        clear hd hf hD
        go_simp
        go_at_call 13
        refine (HI2.out _ hS).mono ?_
        rintro e w9 ⟨rfl, hb⟩
        exact hK _ _ hb (hS.call hb) rfl (fun h => absurd h (by decide))
      · refine .inl ⟨met_none rfl, ?_⟩
        intro a W K hS hd hD hf hK
        have e21 : a.tmps.getD 21 undef = .bool i := hd ⟨2, .data⟩ (by simp) rfl
        have e24 : a.tmps.getD 24 undef = .bool i := hd ⟨5, .data⟩ (by simp) rfl
        have hq : (i == i) = true := by cases i <;> rfl
        clear hd hf hD
        go_simp
        exact hK _ _ (Below.refl _ _) hS rfl (fun h => absurd h (by decide))
      · refine .inl ⟨met_none rfl, ?_⟩
        intro a W K hS hd hD hf hK
        have e25 : a.tmps.getD 25 undef = .bool true := hd ⟨6, .data⟩ (by simp) rfl
        clear hd hf hD
        go_simp
        exact hK _ _ (Below.refl _ _) hS rfl (fun h => absurd h (by decide))
      · refine .inl ⟨met_some 7 true rfl (fun w v h => h), ?_⟩
        intro a W K hS hd hD hf hK
        have e4 : a.tmps.getD 4 undef = .pointer (some ⟨bm, 0, none⟩) := hf 4 (by kernel_rfl)
        have k0 := hS.mb.cell_some 0 _ rfl; have k1 := hS.mb.cell_some 1 _ rfl; have k2 := hS.mb.cell_some 2 _ rfl; have k3 := hS.mb.cell_some 3 _ rfl; have k4 := hS.mb.cell_some 4 _ rfl; have k5 := hS.mb.cell_some 5 _ rfl; have k6 := hS.mb.cell_some 6 _ rfl; have k7 := hS.mb.cell_some 7 _ rfl; have k8 := hS.mb.cell_some 8 _ rfl; have k9 := hS.mb.cell_some 9 _ rfl; have k10 := hS.mb.cell_some 10 _ rfl; have k11 := hS.mb.cell_some 11 _ rfl; have k12 := hS.mb.cell_some 12 _ rfl; have k13 := hS.mb.cell_some 13 _ rfl
        clear hd hf hD
        go_simp
        exact hK _ _ (Below.refl _ _) hS rfl (fun h => absurd h (by decide))
      · refine .inl ⟨met_some 7 true rfl (fun w v h => h), ?_⟩
        intro a W K hS hd hD hf hK
        have e5 : a.tmps.getD 5 undef = .pointer (some ⟨bc, 0, none⟩) := hf 5 (by kernel_rfl)
        have k0 := hS.cb.cell_some 0 _ rfl; have k1 := hS.cb.cell_some 1 _ rfl; have k2 := hS.cb.cell_some 2 _ rfl; have k3 := hS.cb.cell_some 3 _ rfl
        clear hd hf hD
        go_simp
        exact hK _ _ (Below.refl _ _) hS rfl (fun h => absurd h (by decide))
      · refine .inl ⟨met_some 7 true rfl (fun w v h => h), ?_⟩
        intro a W K hS hd hD hf hK
        have e2 : a.tmps.getD 2 undef = .int .i64 want := hf 2 (by kernel_rfl)
        clear hd hf hD
        go_simp
        exact hK _ _ (Below.refl _ _) hS rfl (fun h => absurd h (by decide))
      · refine .inl ⟨met_some 7 true rfl (fun w v h => h), ?_⟩
        intro a W K hS hd hD hf hK
        have e27 : a.tmps.getD 27 undef = .agg #[.int .i64 m.mode, .int .i64 m.uid, .int .i64 m.gid, .int .i64 m.sec, .int .i64 m.nano, (.slice pa z ca), vd, vx, .int .i64 m.cap.v, .int .u64 (m.cap.p : Int), .int .u64 (m.cap.i : Int), .bool m.cap.e, .int .i64 m.cap.r, .int .i64 m.flags] := hd ⟨8, .data⟩ (by simp) rfl
        have e28 : a.tmps.getD 28 undef = .agg #[.int .i64 c.uid, .int .i64 c.gid, (.slice pg y cg), .int .i64 c.powers] := hd ⟨9, .data⟩ (by simp) rfl
        have e29 : a.tmps.getD 29 undef = .int .i64 want := hd ⟨10, .data⟩ (by simp) rfl
        clear hd hf hD
        go_simp
        go_at_call 14
        refine (HC.out _ hS).mono ?_
        rintro e w9 ⟨rfl, hb⟩
        exact hK _ _ hb (hS.call hb) rfl (fun h => absurd h (by decide))
      · refine .inl ⟨met_some 7 true rfl (fun w v h => h), ?_⟩
        intro a W K hS hd hD hf hK
        have e4 : a.tmps.getD 4 undef = .pointer (some ⟨bm, 0, none⟩) := hf 4 (by kernel_rfl)
        have k0 := hS.mb.cell_some 0 _ rfl; have k1 := hS.mb.cell_some 1 _ rfl; have k2 := hS.mb.cell_some 2 _ rfl; have k3 := hS.mb.cell_some 3 _ rfl; have k4 := hS.mb.cell_some 4 _ rfl; have k5 := hS.mb.cell_some 5 _ rfl; have k6 := hS.mb.cell_some 6 _ rfl; have k7 := hS.mb.cell_some 7 _ rfl; have k8 := hS.mb.cell_some 8 _ rfl; have k9 := hS.mb.cell_some 9 _ rfl; have k10 := hS.mb.cell_some 10 _ rfl; have k11 := hS.mb.cell_some 11 _ rfl; have k12 := hS.mb.cell_some 12 _ rfl; have k13 := hS.mb.cell_some 13 _ rfl
        clear hd hf hD
        go_simp
        exact hK _ _ (Below.refl _ _) hS rfl (fun h => absurd h (by decide))
      · refine .inl ⟨met_some 7 true rfl (fun w v h => h), ?_⟩
        intro a W K hS hd hD hf hK
        have e5 : a.tmps.getD 5 undef = .pointer (some ⟨bc, 0, none⟩) := hf 5 (by kernel_rfl)
        have k0 := hS.cb.cell_some 0 _ rfl; have k1 := hS.cb.cell_some 1 _ rfl; have k2 := hS.cb.cell_some 2 _ rfl; have k3 := hS.cb.cell_some 3 _ rfl
        clear hd hf hD
        go_simp
        exact hK _ _ (Below.refl _ _) hS rfl (fun h => absurd h (by decide))
      · refine .inl ⟨met_some 7 true rfl (fun w v h => h), ?_⟩
        intro a W K hS hd hD hf hK
        have e2 : a.tmps.getD 2 undef = .int .i64 want := hf 2 (by kernel_rfl)
        clear hd hf hD
        go_simp
        exact hK _ _ (Below.refl _ _) hS rfl (fun h => absurd h (by decide))
      · refine .inl ⟨met_some 7 true rfl (fun w v h => h), ?_⟩
        intro a W K hS hd hD hf hK
        have e31 : a.tmps.getD 31 undef = .agg #[.int .i64 m.mode, .int .i64 m.uid, .int .i64 m.gid, .int .i64 m.sec, .int .i64 m.nano, (.slice pa z ca), vd, vx, .int .i64 m.cap.v, .int .u64 (m.cap.p : Int), .int .u64 (m.cap.i : Int), .bool m.cap.e, .int .i64 m.cap.r, .int .i64 m.flags] := hd ⟨12, .data⟩ (by simp) rfl
        have e32 : a.tmps.getD 32 undef = .agg #[.int .i64 c.uid, .int .i64 c.gid, (.slice pg y cg), .int .i64 c.powers] := hd ⟨13, .data⟩ (by simp) rfl
        have e33 : a.tmps.getD 33 undef = .int .i64 want := hd ⟨14, .data⟩ (by simp) rfl
        clear hd hf hD
        go_simp
        go_at_call 15
        refine (HC2.out _ hS).mono ?_
        rintro e w9 ⟨rfl, hb⟩
        exact hK _ _ hb (hS.call hb) rfl (fun h => absurd h (by decide))
      · refine .inl ⟨met_some 7 true rfl (fun w v h => h), ?_⟩
        intro a W K hS hd hD hf hK
        have e30 : a.tmps.getD 30 undef = .bool r := hd ⟨11, .data⟩ (by simp) rfl
        have e34 : a.tmps.getD 34 undef = .bool r := hd ⟨15, .data⟩ (by simp) rfl
        have hq : (r == r) = true := by cases r <;> rfl
        clear hd hf hD
        go_simp
        exact hK _ _ (Below.refl _ _) hS rfl (fun h => absurd h (by decide))
      · refine .inl ⟨met_none rfl, ?_⟩
        intro a W K hS hd hD hf hK
        have e26 : a.tmps.getD 26 undef = .bool true := hd ⟨7, .data⟩ (by simp) rfl
        have e35 : a.tmps.getD 35 undef = .bool true := hd ⟨16, .data⟩ (by simp) rfl
        clear hd hf hD
        go_simp
        exact hK _ _ (Below.refl _ _) hS rfl (fun h => absurd h (by decide))
      · refine .inl ⟨met_none rfl, ?_⟩
        intro a W K hS hd hD hf hK
        have e36 : a.tmps.getD 36 undef = .bool true := hd ⟨17, .data⟩ (by simp) rfl
        clear hd hf hD
        go_simp
        exact hK _ _ (Below.refl _ _) hS rfl (fun h => absurd h (by decide))
      · refine .inl ⟨met_some 18 true rfl (fun w v h => h), ?_⟩
        intro a W K hS hd hD hf hK
        have e4 : a.tmps.getD 4 undef = .pointer (some ⟨bm, 0, none⟩) := hf 4 (by kernel_rfl)
        have k0 := hS.mb.cell_some 0 _ rfl; have k1 := hS.mb.cell_some 1 _ rfl; have k2 := hS.mb.cell_some 2 _ rfl; have k3 := hS.mb.cell_some 3 _ rfl; have k4 := hS.mb.cell_some 4 _ rfl; have k5 := hS.mb.cell_some 5 _ rfl; have k6 := hS.mb.cell_some 6 _ rfl; have k7 := hS.mb.cell_some 7 _ rfl; have k8 := hS.mb.cell_some 8 _ rfl; have k9 := hS.mb.cell_some 9 _ rfl; have k10 := hS.mb.cell_some 10 _ rfl; have k11 := hS.mb.cell_some 11 _ rfl; have k12 := hS.mb.cell_some 12 _ rfl; have k13 := hS.mb.cell_some 13 _ rfl
        clear hd hf hD
        go_simp
        exact hK _ _ (Below.refl _ _) hS rfl (fun h => absurd h (by decide))
      · refine .inl ⟨met_some 18 true rfl (fun w v h => h), ?_⟩
        intro a W K hS hd hD hf hK
        have e5 : a.tmps.getD 5 undef = .pointer (some ⟨bc, 0, none⟩) := hf 5 (by kernel_rfl)
        have k0 := hS.cb.cell_some 0 _ rfl; have k1 := hS.cb.cell_some 1 _ rfl; have k2 := hS.cb.cell_some 2 _ rfl; have k3 := hS.cb.cell_some 3 _ rfl
        clear hd hf hD
        go_simp
        exact hK _ _ (Below.refl _ _) hS rfl (fun h => absurd h (by decide))
      · refine .inl ⟨met_some 18 true rfl (fun w v h => h), ?_⟩
        intro a W K hS hd hD hf hK
        have e38 : a.tmps.getD 38 undef = .agg #[.int .i64 m.mode, .int .i64 m.uid, .int .i64 m.gid, .int .i64 m.sec, .int .i64 m.nano, (.slice pa z ca), vd, vx, .int .i64 m.cap.v, .int .u64 (m.cap.p : Int), .int .u64 (m.cap.i : Int), .bool m.cap.e, .int .i64 m.cap.r, .int .i64 m.flags] := hd ⟨19, .data⟩ (by simp) rfl
        have e39 : a.tmps.getD 39 undef = .agg #[.int .i64 c.uid, .int .i64 c.gid, (.slice pg y cg), .int .i64 c.powers] := hd ⟨20, .data⟩ (by simp) rfl
        clear hd hf hD
        go_simp
        go_at_call 16
        refine (HO.out _ hS).mono ?_
        rintro e w9 ⟨rfl, hb⟩
        exact hK _ _ hb (hS.call hb) rfl (fun h => absurd h (by decide))
      · refine .inl ⟨met_some 18 true rfl (fun w v h => h), ?_⟩
        intro a W K hS hd hD hf hK
        have e4 : a.tmps.getD 4 undef = .pointer (some ⟨bm, 0, none⟩) := hf 4 (by kernel_rfl)
        have k0 := hS.mb.cell_some 0 _ rfl; have k1 := hS.mb.cell_some 1 _ rfl; have k2 := hS.mb.cell_some 2 _ rfl; have k3 := hS.mb.cell_some 3 _ rfl; have k4 := hS.mb.cell_some 4 _ rfl; have k5 := hS.mb.cell_some 5 _ rfl; have k6 := hS.mb.cell_some 6 _ rfl; have k7 := hS.mb.cell_some 7 _ rfl; have k8 := hS.mb.cell_some 8 _ rfl; have k9 := hS.mb.cell_some 9 _ rfl; have k10 := hS.mb.cell_some 10 _ rfl; have k11 := hS.mb.cell_some 11 _ rfl; have k12 := hS.mb.cell_some 12 _ rfl; have k13 := hS.mb.cell_some 13 _ rfl
        clear hd hf hD
        go_simp
        exact hK _ _ (Below.refl _ _) hS rfl (fun h => absurd h (by decide))
      · refine .inl ⟨met_some 18 true rfl (fun w v h => h), ?_⟩
        intro a W K hS hd hD hf hK
        have e5 : a.tmps.getD 5 undef = .pointer (some ⟨bc, 0, none⟩) := hf 5 (by kernel_rfl)
        have k0 := hS.cb.cell_some 0 _ rfl; have k1 := hS.cb.cell_some 1 _ rfl; have k2 := hS.cb.cell_some 2 _ rfl; have k3 := hS.cb.cell_some 3 _ rfl
        clear hd hf hD
        go_simp
        exact hK _ _ (Below.refl _ _) hS rfl (fun h => absurd h (by decide))
      · refine .inl ⟨met_some 18 true rfl (fun w v h => h), ?_⟩
        intro a W K hS hd hD hf hK
        have e41 : a.tmps.getD 41 undef = .agg #[.int .i64 m.mode, .int .i64 m.uid, .int .i64 m.gid, .int .i64 m.sec, .int .i64 m.nano, (.slice pa z ca), vd, vx, .int .i64 m.cap.v, .int .u64 (m.cap.p : Int), .int .u64 (m.cap.i : Int), .bool m.cap.e, .int .i64 m.cap.r, .int .i64 m.flags] := hd ⟨22, .data⟩ (by simp) rfl
        have e42 : a.tmps.getD 42 undef = .agg #[.int .i64 c.uid, .int .i64 c.gid, (.slice pg y cg), .int .i64 c.powers] := hd ⟨23, .data⟩ (by simp) rfl
        clear hd hf hD
        go_simp
        go_at_call 17
        refine (HO2.out _ hS).mono ?_
        rintro e w9 ⟨rfl, hb⟩
        exact hK _ _ hb (hS.call hb) rfl (fun h => absurd h (by decide))
      · refine .inl ⟨met_some 18 true rfl (fun w v h => h), ?_⟩
        intro a W K hS hd hD hf hK
        have e40 : a.tmps.getD 40 undef = .bool o := hd ⟨21, .data⟩ (by simp) rfl
        have e43 : a.tmps.getD 43 undef = .bool o := hd ⟨24, .data⟩ (by simp) rfl
        have hq : (o == o) = true := by cases o <;> rfl
        clear hd hf hD
        go_simp
        exact hK _ _ (Below.refl _ _) hS rfl (fun h => absurd h (by decide))
      · refine .inl ⟨met_none rfl, ?_⟩
        intro a W K hS hd hD hf hK
        have e37 : a.tmps.getD 37 undef = .bool true := hd ⟨18, .data⟩ (by simp) rfl
        have e44 : a.tmps.getD 44 undef = .bool true := hd ⟨25, .data⟩ (by simp) rfl
        clear hd hf hD
        go_simp
        exact hK _ _ (Below.refl _ _) hS rfl (fun h => absurd h (by decide))
      · refine .inl ⟨met_none rfl, ?_⟩
        intro a W K hS hd hD hf hK
        have e45 : a.tmps.getD 45 undef = .bool true := hd ⟨26, .data⟩ (by simp) rfl
        clear hd hf hD
        go_simp
        exact hK _ _ (Below.refl _ _) hS rfl (fun h => absurd h (by decide))
      · refine .inl ⟨met_some 27 true rfl (fun w v h => h), ?_⟩
        intro a W K hS hd hD hf hK
        have e4 : a.tmps.getD 4 undef = .pointer (some ⟨bm, 0, none⟩) := hf 4 (by kernel_rfl)
        have k0 := hS.mb.cell_some 0 _ rfl; have k1 := hS.mb.cell_some 1 _ rfl; have k2 := hS.mb.cell_some 2 _ rfl; have k3 := hS.mb.cell_some 3 _ rfl; have k4 := hS.mb.cell_some 4 _ rfl; have k5 := hS.mb.cell_some 5 _ rfl; have k6 := hS.mb.cell_some 6 _ rfl; have k7 := hS.mb.cell_some 7 _ rfl; have k8 := hS.mb.cell_some 8 _ rfl; have k9 := hS.mb.cell_some 9 _ rfl; have k10 := hS.mb.cell_some 10 _ rfl; have k11 := hS.mb.cell_some 11 _ rfl; have k12 := hS.mb.cell_some 12 _ rfl; have k13 := hS.mb.cell_some 13 _ rfl
        clear hd hf hD
        go_simp
        exact hK _ _ (Below.refl _ _) hS rfl (fun h => absurd h (by decide))
      · refine .inl ⟨met_some 27 true rfl (fun w v h => h), ?_⟩
        intro a W K hS hd hD hf hK
        have e47 : a.tmps.getD 47 undef = .agg #[.int .i64 m.mode, .int .i64 m.uid, .int .i64 m.gid, .int .i64 m.sec, .int .i64 m.nano, (.slice pa z ca), vd, vx, .int .i64 m.cap.v, .int .u64 (m.cap.p : Int), .int .u64 (m.cap.i : Int), .bool m.cap.e, .int .i64 m.cap.r, .int .i64 m.flags] := hd ⟨28, .data⟩ (by simp) rfl
        clear hd hf hD
        go_simp
        go_at_call 18
        refine (HL.out _ hS).mono ?_
        rintro e w9 ⟨rfl, hb⟩
        exact hK _ _ hb (hS.call hb) rfl (fun h => absurd h (by decide))
      · refine .inl ⟨met_some 27 true rfl (fun w v h => h), ?_⟩
        intro a W K hS hd hD hf hK
        have e4 : a.tmps.getD 4 undef = .pointer (some ⟨bm, 0, none⟩) := hf 4 (by kernel_rfl)
        have k0 := hS.mb.cell_some 0 _ rfl; have k1 := hS.mb.cell_some 1 _ rfl; have k2 := hS.mb.cell_some 2 _ rfl; have k3 := hS.mb.cell_some 3 _ rfl; have k4 := hS.mb.cell_some 4 _ rfl; have k5 := hS.mb.cell_some 5 _ rfl; have k6 := hS.mb.cell_some 6 _ rfl; have k7 := hS.mb.cell_some 7 _ rfl; have k8 := hS.mb.cell_some 8 _ rfl; have k9 := hS.mb.cell_some 9 _ rfl; have k10 := hS.mb.cell_some 10 _ rfl; have k11 := hS.mb.cell_some 11 _ rfl; have k12 := hS.mb.cell_some 12 _ rfl; have k13 := hS.mb.cell_some 13 _ rfl
        clear hd hf hD
        go_simp
        exact hK _ _ (Below.refl _ _) hS rfl (fun h => absurd h (by decide))
      · refine .inl ⟨met_some 27 true rfl (fun w v h => h), ?_⟩
        intro a W K hS hd hD hf hK
        have e49 : a.tmps.getD 49 undef = .agg #[.int .i64 m.mode, .int .i64 m.uid, .int .i64 m.gid, .int .i64 m.sec, .int .i64 m.nano, (.slice pa z ca), vd, vx, .int .i64 m.cap.v, .int .u64 (m.cap.p : Int), .int .u64 (m.cap.i : Int), .bool m.cap.e, .int .i64 m.cap.r, .int .i64 m.flags] := hd ⟨30, .data⟩ (by simp) rfl
        clear hd hf hD
        go_simp
        go_at_call 19
        refine (HL2.out _ hS).mono ?_
        rintro e w9 ⟨rfl, hb⟩
        exact hK _ _ hb (hS.call hb) rfl (fun h => absurd h (by decide))
      · refine .inl ⟨met_some 27 true rfl (fun w v h => h), ?_⟩
        intro a W K hS hd hD hf hK
        have e48 : a.tmps.getD 48 undef = .int .i64 (lessM m : Int) := hd ⟨29, .data⟩ (by simp) rfl
        have e50 : a.tmps.getD 50 undef = .int .i64 (lessM m : Int) := hd ⟨31, .data⟩ (by simp) rfl
        have hq : ((lessM m : Int) == (lessM m : Int)) = true := beq_self_eq_true _
        clear hd hf hD
        go_simp
        exact hK _ _ (Below.refl _ _) hS rfl (fun h => absurd h (by decide))
      · refine .inl ⟨met_none rfl, ?_⟩
        intro a W K hS hd hD hf hK
        have e46 : a.tmps.getD 46 undef = .bool true := hd ⟨27, .data⟩ (by simp) rfl
        have e51 : a.tmps.getD 51 undef = .bool true := hd ⟨32, .data⟩ (by simp) rfl
        clear hd hf hD
        go_simp
        exact hK _ _ (Below.refl _ _) hS rfl (fun h => absurd h (by decide))
      · refine .inl ⟨met_none rfl, ?_⟩
        intro a W K hS hd hD hf hK
        have e52 : a.tmps.getD 52 undef = .bool true := hd ⟨33, .data⟩ (by simp) rfl
        clear hd hf hD
        go_simp
        exact hK _ _ (Below.refl _ _) hS rfl (fun h => absurd h (by decide))
      · refine .inl ⟨met_some 34 true rfl (fun w v h => h), ?_⟩
        intro a W K hS hd hD hf hK
        clear hd hf hD
        go_simp
        go_at_call 11
        refine (HA.out _ hS).mono ?_
        rintro e w9 ⟨rfl, hb⟩
        exact hK _ _ hb (hS.call hb) rfl (fun h => absurd h (by decide))
      · refine .inl ⟨met_none rfl, ?_⟩
        intro a W K hS hd hD hf hK
        have e53 : a.tmps.getD 53 undef = .bool true := hd ⟨34, .data⟩ (by simp) rfl
        have e54 : a.tmps.getD 54 undef = .bool true := hd ⟨35, .data⟩ (by simp) rfl
        clear hd hf hD
        go_simp
        exact hK _ _ (Below.refl _ _) hS rfl (fun h => absurd h (by decide))
    case he =>
      intro vals w6 K hS6 hV hK
      have e36 := hV 36 (by omega)
      clear hV
      simp only [List.getD_cons_succ, List.getD_cons_zero] at e36
      refine Later.mk ?_
      simp only [List.append_eq, List.cons_append, List.nil_append, setN, Nat.reduceAdd, List.setIfInBounds_toArray, List.set_cons_succ, List.set_cons_zero]
      rw [show vals 36 = _ from e36]
      clear e36
      go_simp
      refine hK _ _ ?_
      clear hK
      go_wp2_with fail
      go_ret
      exact ⟨by rfl, hS6.below⟩
end Go.Proofs.Ytpfidbcnefnhcaa

/- Package meta: its small functions, and those of stamp, flags, caps that it asks. -/
namespace Go.Proofs.Ytpfidbcnefnhcaa
open Go.RowKit
open MetaM
set_option linter.unusedVariables false

attribute [local irreducible] Row At

end Go.Proofs.Ytpfidbcnefnhcaa

/- The document's answer: whether two lists are one. -/
namespace Go.Proofs.Ytpfidbcnefnhcaa.XatW
open Go.RowKit
open XatM
set_option linter.unusedVariables false

attribute [local irreducible] Row At

end Go.Proofs.Ytpfidbcnefnhcaa.XatW

/- Package xattr: May. -/
namespace Go.Proofs.Ytpfidbcnefnhcaa.XatW
open Go.RowKit
open XatM
set_option linter.unusedVariables false

def nameOk (n : List UInt8) : Bool := decide (n ≠ []) && !n.contains 0 && decide ((EscM.put n).length ≤ 238)
end Go.Proofs.Ytpfidbcnefnhcaa.XatW

/- Package xattr: May (the loop). -/
namespace Go.Proofs.Ytpfidbcnefnhcaa.XatW
open Go.RowKit
open XatM
set_option linter.unusedVariables false
attribute [local irreducible] Row At

end Go.Proofs.Ytpfidbcnefnhcaa.XatW

/- slices.Equal of two lists of names with values; package xattr's Same. -/
namespace Go.Proofs.Ytpfidbcnefnhcaa.XatW
open Go.RowKit
open XatM
set_option linter.unusedVariables false
attribute [local irreducible] Row At

end Go.Proofs.Ytpfidbcnefnhcaa.XatW
