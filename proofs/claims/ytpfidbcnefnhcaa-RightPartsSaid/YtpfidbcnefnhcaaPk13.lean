/- Bundle of 2 texts. -/
import Derived.Test.YtpfidbcnefnhcaaPk12
import Derived.Test.YtpfidbcnefnhcaaMetaNums
/- Metadata by numbers, of which who may what can be asked. -/
namespace Go.Proofs.Ytpfidbcnefnhcaa
open Go.RowKit
open MetaM RightM AclM
set_option linter.unusedVariables false
theorem or8 (a b : Nat) (ha : a < 8) (hb : b < 8) : bits .or .i64 (a : Int) (b : Int) = ((a ||| b : Nat) : Int) := by
  have h : ∀ x y : Fin 8, bits .or .i64 (x.val : Int) (y.val : Int) = ((x.val ||| y.val : Nat) : Int) := by decide +kernel
  exact h ⟨a, ha⟩ ⟨b, hb⟩
theorem made_right {m : Mt} {k : Int} (h : mayM m k = true) : okL m ∧ InRange m.mode := by
  unfold mayM at h
  simp only [Bool.and_eq_true] at h
  obtain ⟨⟨⟨⟨⟨⟨⟨⟨⟨⟨_, h2⟩, _⟩, _⟩, _⟩, _⟩, _⟩, h8⟩, _⟩, _⟩, _⟩ := h
  unfold modeOk at h2
  unfold aclOk at h8
  simp only [Bool.and_eq_true, Bool.or_eq_true, decide_eq_true_eq] at h2 h8
  refine ⟨?_, by unfold InRange; omega⟩
  rcases h8 with h8 | h8
  · exact .inl (List.eq_nil_of_length_eq_zero h8)
  · exact .inr h8.1
theorem RightAt.made {m : Mt} {va vd vx : Value} {k : Int} {w : World} (h : MetaAt m va vd vx w) (hm : mayM m k = true) : RightAt m va vd vx w := ⟨h.acl, h.la, (made_right hm).1, (made_right hm).2⟩
attribute [local irreducible] Row At
structure PartSt (w : World) (bm bc bd : Nat) (m : Mt) (va vd vx : Value) (c : Cr) (gv : Value) (p : Int) (W : World) : Prop where
  st : LawSt w bm bc m va vd vx c gv W
  db : BlkIs W bd 33 #[.int .i64 c.uid, .int .i64 c.gid, gv, .int .i64 p]
theorem PartSt.call {w : World} {bm bc bd : Nat} {m : Mt} {va vd vx : Value} {c : Cr} {gv : Value} {p : Int} {W W' : World} (h : PartSt w bm bc bd m va vd vx c gv p W) (hb : Below W.heap.size W W') : PartSt w bm bc bd m va vd vx c gv p W' :=
  ⟨h.st.call hb, h.db.kept hb h.db.size⟩
theorem PartSt.can {w : World} {bm bc bd : Nat} {m : Mt} {va vd vx : Value} {c : Cr} {gv : Value} {p : Int} {W : World} (h : PartSt w bm bc bd m va vd vx c gv p W) (q x : Int) :
    Calls Try.prog 14 #[.agg #[.int .i64 m.mode, .int .i64 m.uid, .int .i64 m.gid, .int .i64 m.sec, .int .i64 m.nano, va, vd, vx, .int .i64 m.cap.v, .int .u64 (m.cap.p : Int), .int .u64 (m.cap.i : Int), .bool m.cap.e, .int .i64 m.cap.r, .int .i64 m.flags], .agg #[.int .i64 c.uid, .int .i64 c.gid, gv, .int .i64 q], .int .i64 x] W fun e w' => e = .returned (.bool (canM m ⟨c.uid, c.gid, c.groups, q⟩ x)) ∧ Below W.heap.size W w' :=
  can_any m va vd vx ⟨c.uid, c.gid, c.groups, q⟩ gv x W h.st.ra ⟨h.st.ca.groups, h.st.ca.len⟩
end Go.Proofs.Ytpfidbcnefnhcaa

/- The law RightParts, walked. -/
namespace Go.Proofs.Ytpfidbcnefnhcaa
open Go.RowKit
open MetaM RightM AclM
set_option linter.unusedVariables false
attribute [local irreducible] Row At
set_option maxHeartbeats 6400000 in
set_option maxRecDepth 100000 in
theorem rightParts_walk (a0 : Option Addr) (len0 cap0 : Nat) (z0 : List Int) (a1 : Option Addr) (len1 cap1 : Nat) (z1 : List Int) (a2 : Int) (a3 : Int) (w : World) (w0 : IsRow .u8 w a0 len0 cap0 z0) (w1 : IsRow .u8 w a1 len1 cap1 z1) (w2 : (Lit.int .u8 a2).wf = true) (w3 : (Lit.int .u8 a3).wf = true) :
    Calls Try.prog 6 #[.slice a0 len0 cap0, .slice a1 len1 cap1, .int .u8 a2, .int .u8 a3] w fun e w' => e = .returned (.bool true) ∧ Below w.heap.size w w' := by
  have b2 : 0 ≤ a2 ∧ a2 ≤ 255 := by have h := w2; simp only [Lit.wf, Bool.and_eq_true, decide_eq_true_eq] at h; exact h
  have b3 : 0 ≤ a3 ∧ a3 ≤ 255 := by have h := w3; simp only [Lit.wf, Bool.and_eq_true, decide_eq_true_eq] at h; exact h
  have x2 : IntKind.i64.wrap a2 = a2 := by rw [IntKind.wrap_i64]; omega
  have x3 : IntKind.i64.wrap a3 = a3 := by rw [IntKind.wrap_i64]; omega
  obtain ⟨x, hx⟩ : ∃ k : Nat, a2 % 8 = (k : Int) := ⟨(a2 % 8).toNat, by omega⟩
  obtain ⟨y, hy⟩ : ∃ k : Nat, a3 % 8 = (k : Int) := ⟨(a3 % 8).toNat, by omega⟩
  have x8 : x < 8 := by omega
  have y8 : y < 8 := by omega
  have t2 : a2.tmod 8 = (x : Int) := by rw [Int.tmod_eq_emod_of_nonneg b2.1]; exact hx
  have t3 : a3.tmod 8 = (y : Int) := by rw [Int.tmod_eq_emod_of_nonneg b3.1]; exact hy
  have HMk := Lib.hid (metaMake_any a0 len0 cap0 z0 6 w w0 (isRow_le w0) (by unfold kAny; omega))
  have HCr := Lib.hid (fun W (hb : Below w.heap.size w W) => cred_any a1 len1 cap1 z1 W (isRow_call w1 hb) (isRow_le w1))
  generalize madeM z0 len0 6 = m at *
  unfold metaC at HMk
  unfold credC at HCr
  clear b2 b3 hx hy w0 w1 w2 w3
  go_enter Try.func6, Try.ntmps6
  go_upto_region 6 with (first
    | (go_at_call 20; refine (HMk.out).mono ?_; rintro e wa ⟨⟨⟨va, vd, vx, rfl, hma⟩, hmm, hxo⟩, hba⟩; clear hxo; have HMM := Lib.hid hmm; clear hmm; obtain ⟨pa, ca, rfl, _⟩ := hma.acl.shape; obtain ⟨pd, cd, rfl, _⟩ := hma.dfl.shape; obtain ⟨px, cx, rfl, _⟩ := hma.xat.shape)
    | (go_at_call 21; refine (HCr.out _ (gr_alloc hba _)).mono ?_; rintro e wb ⟨⟨c, gv, rfl, hcr, hpw⟩, hbb⟩; have HPW := Lib.hid hpw; clear hpw; obtain ⟨pg, cg, rfl, _⟩ := hcr.groups.shape))
  obtain ⟨W, hW⟩ : ∃ W, (wb.alloc (.cells #[.int .i64 c.uid, .int .i64 c.gid, .slice pg c.groups.length cg, .int .i64 c.powers] 33)).alloc (.cells #[.int .i64 c.uid, .int .i64 c.gid, .slice pg c.groups.length cg, .int .i64 2] 33) = W := ⟨_, rfl⟩
  obtain ⟨bm, hbm⟩ : ∃ b, wa.heap.size = b := ⟨_, rfl⟩
  obtain ⟨bc, hbc⟩ : ∃ b, wb.heap.size = b := ⟨_, rfl⟩
  obtain ⟨bd, hbd⟩ : ∃ b, bc + 1 = b := ⟨_, rfl⟩
  have hst : PartSt w bm bc bd m (.slice pa m.acl.length ca) (.slice pd m.dfl.length cd) (.slice px m.xat.length cx) c (.slice pg c.groups.length cg) 2 W := by
    have h1 : Below w.heap.size w wb := gr_call (gr_alloc hba _) hbb
    have hW2 : Below wb.heap.size wb W := by rw [← hW]; exact gr_alloc (gr_alloc (Below.refl _ _) _) _
    have q0 := blk_of hbm 30 #[.int .i64 m.mode, .int .i64 m.uid, .int .i64 m.gid, .int .i64 m.sec, .int .i64 m.nano, .slice pa m.acl.length ca, .slice pd m.dfl.length cd, .slice px m.xat.length cx, .int .i64 m.cap.v, .int .u64 (m.cap.p : Int), .int .u64 (m.cap.i : Int), .bool m.cap.e, .int .i64 m.cap.r, .int .i64 m.flags]
    have q1 := q0.kept hbb q0.size
    refine ⟨⟨gr_call h1 hW2, q1.kept hW2 q1.size, ?_, ?_, hcr.call hW2⟩, ?_⟩
    · rw [← hW]; exact (blk_of hbc _ _).alloc _
    · exact ((RightAt.made hma HMM.out).call (gr_alloc (Below.refl _ _) _)).call hbb |>.call hW2
    · rw [← hW, ← hbd]; exact blk_of (by simp [hbc]) _ _
  rw [hW]
  simp only [hbm, hbc, hbd]
  clear hW hbm hbc hbd hba hbb hcr hma HMk HCr HMM HPW x2 x3 t2 t3
  have o1 := or8 x y x8 y8
  have H0 := Lib.hid (fun W (h : PartSt w bm bc bd m (.slice pa m.acl.length ca) (.slice pd m.dfl.length cd) (.slice px m.xat.length cx) c (.slice pg c.groups.length cg) 2 W) => h.can c.powers 0)
  rw [show canM m ⟨c.uid, c.gid, c.groups, c.powers⟩ 0 = true from can_zero _ _] at H0
  have H7 := Lib.hid (fun W (h : PartSt w bm bc bd m (.slice pa m.acl.length ca) (.slice pd m.dfl.length cd) (.slice px m.xat.length cx) c (.slice pg c.groups.length cg) 2 W) => h.can 2 7)
  rw [show canM m ⟨c.uid, c.gid, c.groups, 2⟩ 7 = true from can_all _ _ rfl] at H7
  have H8 := Lib.hid (fun W (h : PartSt w bm bc bd m (.slice pa m.acl.length ca) (.slice pd m.dfl.length cd) (.slice px m.xat.length cx) c (.slice pg c.groups.length cg) 2 W) => h.can 2 8)
  rw [show canM m ⟨c.uid, c.gid, c.groups, 2⟩ 8 = false from can_out _ _ (.inr (by omega))] at H8
  have HN := Lib.hid (fun W (h : PartSt w bm bc bd m (.slice pa m.acl.length ca) (.slice pd m.dfl.length cd) (.slice px m.xat.length cx) c (.slice pg c.groups.length cg) 2 W) => h.can 2 (-1))
  rw [show canM m ⟨c.uid, c.gid, c.groups, 2⟩ (-1) = false from can_out _ _ (.inl (by omega))] at HN
  have HXY := Lib.hid (fun W (h : PartSt w bm bc bd m (.slice pa m.acl.length ca) (.slice pd m.dfl.length cd) (.slice px m.xat.length cx) c (.slice pg c.groups.length cg) 2 W) => h.can c.powers ((x ||| y : Nat) : Int))
  have hor := can_or m c x y x8 y8
  have s0 := True.intro
  have hblk := hst.st.mb
  have k0 := hblk.cell_some 0 _ rfl; have k1 := hblk.cell_some 1 _ rfl; have k2 := hblk.cell_some 2 _ rfl; have k3 := hblk.cell_some 3 _ rfl; have k4 := hblk.cell_some 4 _ rfl; have k5 := hblk.cell_some 5 _ rfl; have k6 := hblk.cell_some 6 _ rfl; have k7 := hblk.cell_some 7 _ rfl; have k8 := hblk.cell_some 8 _ rfl; have k9 := hblk.cell_some 9 _ rfl; have k10 := hblk.cell_some 10 _ rfl; have k11 := hblk.cell_some 11 _ rfl; have k12 := hblk.cell_some 12 _ rfl; have k13 := hblk.cell_some 13 _ rfl
  have hcb := hst.st.cb
  have y0 := hcb.cell_some 0 _ rfl; have y1 := hcb.cell_some 1 _ rfl; have y2 := hcb.cell_some 2 _ rfl; have y3 := hcb.cell_some 3 _ rfl
  obtain ⟨r, hr⟩ : ∃ r, canM m c ((x ||| y : Nat) : Int) = r := ⟨_, rfl⟩
  rw [hr] at hor
  rw [show canM m ⟨c.uid, c.gid, c.groups, c.powers⟩ ((x ||| y : Nat) : Int) = r from hr] at HXY
  clear hr x8 y8
  cases r
  · clear hor
    go_wp2_with (first
    | (go_at_call 14; have s9 := s0; clear s9 s0; refine (HXY.out _ hst).mono ?_; rintro e wc0 ⟨rfl, hb1⟩; replace hst := hst.call hb1; clear hb1 hblk hcb y0 y1 y2 y3 k0 k1 k2 k3 k4 k5 k6 k7 k8 k9 k10 k11 k12 k13; have hblk := hst.st.mb; have k0 := hblk.cell_some 0 _ rfl; have k1 := hblk.cell_some 1 _ rfl; have k2 := hblk.cell_some 2 _ rfl; have k3 := hblk.cell_some 3 _ rfl; have k4 := hblk.cell_some 4 _ rfl; have k5 := hblk.cell_some 5 _ rfl; have k6 := hblk.cell_some 6 _ rfl; have k7 := hblk.cell_some 7 _ rfl; have k8 := hblk.cell_some 8 _ rfl; have k9 := hblk.cell_some 9 _ rfl; have k10 := hblk.cell_some 10 _ rfl; have k11 := hblk.cell_some 11 _ rfl; have k12 := hblk.cell_some 12 _ rfl; have k13 := hblk.cell_some 13 _ rfl; have hcb := hst.st.cb; have y0 := hcb.cell_some 0 _ rfl; have y1 := hcb.cell_some 1 _ rfl; have y2 := hcb.cell_some 2 _ rfl; have y3 := hcb.cell_some 3 _ rfl; have s1 := True.intro)
    | (go_at_call 14; have s9 := s1; clear s9 s1; refine (H0.out _ hst).mono ?_; rintro e wc1 ⟨rfl, hb1⟩; replace hst := hst.call hb1; clear hb1 hblk hcb y0 y1 y2 y3 k0 k1 k2 k3 k4 k5 k6 k7 k8 k9 k10 k11 k12 k13; have hblk := hst.st.mb; have k0 := hblk.cell_some 0 _ rfl; have k1 := hblk.cell_some 1 _ rfl; have k2 := hblk.cell_some 2 _ rfl; have k3 := hblk.cell_some 3 _ rfl; have k4 := hblk.cell_some 4 _ rfl; have k5 := hblk.cell_some 5 _ rfl; have k6 := hblk.cell_some 6 _ rfl; have k7 := hblk.cell_some 7 _ rfl; have k8 := hblk.cell_some 8 _ rfl; have k9 := hblk.cell_some 9 _ rfl; have k10 := hblk.cell_some 10 _ rfl; have k11 := hblk.cell_some 11 _ rfl; have k12 := hblk.cell_some 12 _ rfl; have k13 := hblk.cell_some 13 _ rfl; have hcb := hst.db; have y0 := hcb.cell_some 0 _ rfl; have y1 := hcb.cell_some 1 _ rfl; have y2 := hcb.cell_some 2 _ rfl; have y3 := hcb.cell_some 3 _ rfl; have s2 := True.intro)
    | (go_at_call 14; have s9 := s2; clear s9 s2; refine (H7.out _ hst).mono ?_; rintro e wc2 ⟨rfl, hb1⟩; replace hst := hst.call hb1; clear hb1 hblk hcb y0 y1 y2 y3 k0 k1 k2 k3 k4 k5 k6 k7 k8 k9 k10 k11 k12 k13; have hblk := hst.st.mb; have k0 := hblk.cell_some 0 _ rfl; have k1 := hblk.cell_some 1 _ rfl; have k2 := hblk.cell_some 2 _ rfl; have k3 := hblk.cell_some 3 _ rfl; have k4 := hblk.cell_some 4 _ rfl; have k5 := hblk.cell_some 5 _ rfl; have k6 := hblk.cell_some 6 _ rfl; have k7 := hblk.cell_some 7 _ rfl; have k8 := hblk.cell_some 8 _ rfl; have k9 := hblk.cell_some 9 _ rfl; have k10 := hblk.cell_some 10 _ rfl; have k11 := hblk.cell_some 11 _ rfl; have k12 := hblk.cell_some 12 _ rfl; have k13 := hblk.cell_some 13 _ rfl; have hcb := hst.db; have y0 := hcb.cell_some 0 _ rfl; have y1 := hcb.cell_some 1 _ rfl; have y2 := hcb.cell_some 2 _ rfl; have y3 := hcb.cell_some 3 _ rfl; have s3 := True.intro)
    | (go_at_call 14; have s9 := s3; clear s9 s3; refine (H8.out _ hst).mono ?_; rintro e wc3 ⟨rfl, hb1⟩; replace hst := hst.call hb1; clear hb1 hblk hcb y0 y1 y2 y3 k0 k1 k2 k3 k4 k5 k6 k7 k8 k9 k10 k11 k12 k13; have hblk := hst.st.mb; have k0 := hblk.cell_some 0 _ rfl; have k1 := hblk.cell_some 1 _ rfl; have k2 := hblk.cell_some 2 _ rfl; have k3 := hblk.cell_some 3 _ rfl; have k4 := hblk.cell_some 4 _ rfl; have k5 := hblk.cell_some 5 _ rfl; have k6 := hblk.cell_some 6 _ rfl; have k7 := hblk.cell_some 7 _ rfl; have k8 := hblk.cell_some 8 _ rfl; have k9 := hblk.cell_some 9 _ rfl; have k10 := hblk.cell_some 10 _ rfl; have k11 := hblk.cell_some 11 _ rfl; have k12 := hblk.cell_some 12 _ rfl; have k13 := hblk.cell_some 13 _ rfl; have hcb := hst.db; have y0 := hcb.cell_some 0 _ rfl; have y1 := hcb.cell_some 1 _ rfl; have y2 := hcb.cell_some 2 _ rfl; have y3 := hcb.cell_some 3 _ rfl; have s4 := True.intro)
    | (go_at_call 14; have s9 := s4; clear s9 s4; refine (HN.out _ hst).mono ?_; rintro e wc4 ⟨rfl, hb1⟩; replace hst := hst.call hb1; clear hb1)
    | (go_at_call 11; refine (awake18 _).mono ?_; rintro e wh ⟨rfl, hb1⟩; replace hst := hst.call hb1; clear hb1))
    go_ret
    exact ⟨by rfl, hst.st.below⟩
  · obtain ⟨hx, hy⟩ := hor rfl
    have HX := Lib.hid (fun W (h : PartSt w bm bc bd m (.slice pa m.acl.length ca) (.slice pd m.dfl.length cd) (.slice px m.xat.length cx) c (.slice pg c.groups.length cg) 2 W) => h.can c.powers (x : Int))
    have HY := Lib.hid (fun W (h : PartSt w bm bc bd m (.slice pa m.acl.length ca) (.slice pd m.dfl.length cd) (.slice px m.xat.length cx) c (.slice pg c.groups.length cg) 2 W) => h.can c.powers (y : Int))
    rw [show canM m ⟨c.uid, c.gid, c.groups, c.powers⟩ (x : Int) = true from hx] at HX
    rw [show canM m ⟨c.uid, c.gid, c.groups, c.powers⟩ (y : Int) = true from hy] at HY
    clear hx hy hor
    go_wp2_with (first
    | (go_at_call 14; have s9 := s0; clear s9 s0; refine (HXY.out _ hst).mono ?_; rintro e wc0 ⟨rfl, hb1⟩; replace hst := hst.call hb1; clear hb1 hblk hcb y0 y1 y2 y3 k0 k1 k2 k3 k4 k5 k6 k7 k8 k9 k10 k11 k12 k13; have hblk := hst.st.mb; have k0 := hblk.cell_some 0 _ rfl; have k1 := hblk.cell_some 1 _ rfl; have k2 := hblk.cell_some 2 _ rfl; have k3 := hblk.cell_some 3 _ rfl; have k4 := hblk.cell_some 4 _ rfl; have k5 := hblk.cell_some 5 _ rfl; have k6 := hblk.cell_some 6 _ rfl; have k7 := hblk.cell_some 7 _ rfl; have k8 := hblk.cell_some 8 _ rfl; have k9 := hblk.cell_some 9 _ rfl; have k10 := hblk.cell_some 10 _ rfl; have k11 := hblk.cell_some 11 _ rfl; have k12 := hblk.cell_some 12 _ rfl; have k13 := hblk.cell_some 13 _ rfl; have hcb := hst.st.cb; have y0 := hcb.cell_some 0 _ rfl; have y1 := hcb.cell_some 1 _ rfl; have y2 := hcb.cell_some 2 _ rfl; have y3 := hcb.cell_some 3 _ rfl; have s1 := True.intro)
    | (go_at_call 14; have s9 := s1; clear s9 s1; refine (HX.out _ hst).mono ?_; rintro e wc1 ⟨rfl, hb1⟩; replace hst := hst.call hb1; clear hb1 hblk hcb y0 y1 y2 y3 k0 k1 k2 k3 k4 k5 k6 k7 k8 k9 k10 k11 k12 k13; have hblk := hst.st.mb; have k0 := hblk.cell_some 0 _ rfl; have k1 := hblk.cell_some 1 _ rfl; have k2 := hblk.cell_some 2 _ rfl; have k3 := hblk.cell_some 3 _ rfl; have k4 := hblk.cell_some 4 _ rfl; have k5 := hblk.cell_some 5 _ rfl; have k6 := hblk.cell_some 6 _ rfl; have k7 := hblk.cell_some 7 _ rfl; have k8 := hblk.cell_some 8 _ rfl; have k9 := hblk.cell_some 9 _ rfl; have k10 := hblk.cell_some 10 _ rfl; have k11 := hblk.cell_some 11 _ rfl; have k12 := hblk.cell_some 12 _ rfl; have k13 := hblk.cell_some 13 _ rfl; have hcb := hst.st.cb; have y0 := hcb.cell_some 0 _ rfl; have y1 := hcb.cell_some 1 _ rfl; have y2 := hcb.cell_some 2 _ rfl; have y3 := hcb.cell_some 3 _ rfl; have s2 := True.intro)
    | (go_at_call 14; have s9 := s2; clear s9 s2; refine (HY.out _ hst).mono ?_; rintro e wc2 ⟨rfl, hb1⟩; replace hst := hst.call hb1; clear hb1 hblk hcb y0 y1 y2 y3 k0 k1 k2 k3 k4 k5 k6 k7 k8 k9 k10 k11 k12 k13; have hblk := hst.st.mb; have k0 := hblk.cell_some 0 _ rfl; have k1 := hblk.cell_some 1 _ rfl; have k2 := hblk.cell_some 2 _ rfl; have k3 := hblk.cell_some 3 _ rfl; have k4 := hblk.cell_some 4 _ rfl; have k5 := hblk.cell_some 5 _ rfl; have k6 := hblk.cell_some 6 _ rfl; have k7 := hblk.cell_some 7 _ rfl; have k8 := hblk.cell_some 8 _ rfl; have k9 := hblk.cell_some 9 _ rfl; have k10 := hblk.cell_some 10 _ rfl; have k11 := hblk.cell_some 11 _ rfl; have k12 := hblk.cell_some 12 _ rfl; have k13 := hblk.cell_some 13 _ rfl; have hcb := hst.st.cb; have y0 := hcb.cell_some 0 _ rfl; have y1 := hcb.cell_some 1 _ rfl; have y2 := hcb.cell_some 2 _ rfl; have y3 := hcb.cell_some 3 _ rfl; have s3 := True.intro)
    | (go_at_call 14; have s9 := s3; clear s9 s3; refine (H0.out _ hst).mono ?_; rintro e wc3 ⟨rfl, hb1⟩; replace hst := hst.call hb1; clear hb1 hblk hcb y0 y1 y2 y3 k0 k1 k2 k3 k4 k5 k6 k7 k8 k9 k10 k11 k12 k13; have hblk := hst.st.mb; have k0 := hblk.cell_some 0 _ rfl; have k1 := hblk.cell_some 1 _ rfl; have k2 := hblk.cell_some 2 _ rfl; have k3 := hblk.cell_some 3 _ rfl; have k4 := hblk.cell_some 4 _ rfl; have k5 := hblk.cell_some 5 _ rfl; have k6 := hblk.cell_some 6 _ rfl; have k7 := hblk.cell_some 7 _ rfl; have k8 := hblk.cell_some 8 _ rfl; have k9 := hblk.cell_some 9 _ rfl; have k10 := hblk.cell_some 10 _ rfl; have k11 := hblk.cell_some 11 _ rfl; have k12 := hblk.cell_some 12 _ rfl; have k13 := hblk.cell_some 13 _ rfl; have hcb := hst.db; have y0 := hcb.cell_some 0 _ rfl; have y1 := hcb.cell_some 1 _ rfl; have y2 := hcb.cell_some 2 _ rfl; have y3 := hcb.cell_some 3 _ rfl; have s4 := True.intro)
    | (go_at_call 14; have s9 := s4; clear s9 s4; refine (H7.out _ hst).mono ?_; rintro e wc4 ⟨rfl, hb1⟩; replace hst := hst.call hb1; clear hb1 hblk hcb y0 y1 y2 y3 k0 k1 k2 k3 k4 k5 k6 k7 k8 k9 k10 k11 k12 k13; have hblk := hst.st.mb; have k0 := hblk.cell_some 0 _ rfl; have k1 := hblk.cell_some 1 _ rfl; have k2 := hblk.cell_some 2 _ rfl; have k3 := hblk.cell_some 3 _ rfl; have k4 := hblk.cell_some 4 _ rfl; have k5 := hblk.cell_some 5 _ rfl; have k6 := hblk.cell_some 6 _ rfl; have k7 := hblk.cell_some 7 _ rfl; have k8 := hblk.cell_some 8 _ rfl; have k9 := hblk.cell_some 9 _ rfl; have k10 := hblk.cell_some 10 _ rfl; have k11 := hblk.cell_some 11 _ rfl; have k12 := hblk.cell_some 12 _ rfl; have k13 := hblk.cell_some 13 _ rfl; have hcb := hst.db; have y0 := hcb.cell_some 0 _ rfl; have y1 := hcb.cell_some 1 _ rfl; have y2 := hcb.cell_some 2 _ rfl; have y3 := hcb.cell_some 3 _ rfl; have s5 := True.intro)
    | (go_at_call 14; have s9 := s5; clear s9 s5; refine (H8.out _ hst).mono ?_; rintro e wc5 ⟨rfl, hb1⟩; replace hst := hst.call hb1; clear hb1 hblk hcb y0 y1 y2 y3 k0 k1 k2 k3 k4 k5 k6 k7 k8 k9 k10 k11 k12 k13; have hblk := hst.st.mb; have k0 := hblk.cell_some 0 _ rfl; have k1 := hblk.cell_some 1 _ rfl; have k2 := hblk.cell_some 2 _ rfl; have k3 := hblk.cell_some 3 _ rfl; have k4 := hblk.cell_some 4 _ rfl; have k5 := hblk.cell_some 5 _ rfl; have k6 := hblk.cell_some 6 _ rfl; have k7 := hblk.cell_some 7 _ rfl; have k8 := hblk.cell_some 8 _ rfl; have k9 := hblk.cell_some 9 _ rfl; have k10 := hblk.cell_some 10 _ rfl; have k11 := hblk.cell_some 11 _ rfl; have k12 := hblk.cell_some 12 _ rfl; have k13 := hblk.cell_some 13 _ rfl; have hcb := hst.db; have y0 := hcb.cell_some 0 _ rfl; have y1 := hcb.cell_some 1 _ rfl; have y2 := hcb.cell_some 2 _ rfl; have y3 := hcb.cell_some 3 _ rfl; have s6 := True.intro)
    | (go_at_call 14; have s9 := s6; clear s9 s6; refine (HN.out _ hst).mono ?_; rintro e wc6 ⟨rfl, hb1⟩; replace hst := hst.call hb1; clear hb1)
    | (go_at_call 11; refine (awake18 _).mono ?_; rintro e wh ⟨rfl, hb1⟩; replace hst := hst.call hb1; clear hb1))
    go_ret
    exact ⟨by rfl, hst.st.below⟩
end Go.Proofs.Ytpfidbcnefnhcaa
