/- Bundle of 2 texts. -/
import Derived.Test.YtpfidbcnefnhcaaPk12
import Derived.Test.YtpfidbcnefnhcaaMetaNums
/- Metadata by numbers, of which who may what can be asked. -/
namespace Go.Proofs.Ytpfidbcnefnhcaa
open Go.RowKit
open MetaM RightM AclM
set_option linter.unusedVariables false
theorem made_right {m : Mt} {k : Int} (h : mayM m k = true) : okL m ∧ InRange m.mode := by
  unfold mayM at h
  simp only [Bool.and_eq_true] at h
  obtain ⟨⟨⟨⟨⟨⟨⟨⟨⟨⟨_, h2⟩, _⟩, _⟩, _⟩, _⟩, _⟩, h8⟩, _⟩, _⟩, _⟩ := h
  unfold modeOk at h2
  unfold aclOk at h8
  simp only [Bool.and_eq_true, Bool.or_eq_true, decide_eq_true_eq] at h2 h8
  refine ⟨?_, by unfold InRange; omega⟩
  rcases h8 with h8 | h8
  · exact .inl (List.eq_nil_of_length_eq_zero h8)
  · exact .inr h8.1
theorem RightAt.made {m : Mt} {va vd vx : Value} {k : Int} {w : World} (h : MetaAt m va vd vx w) (hm : mayM m k = true) : RightAt m va vd vx w := ⟨h.acl, h.la, (made_right hm).1, (made_right hm).2⟩
attribute [local irreducible] Row At
structure PartSt (w : World) (bm bc bd : Nat) (m : Mt) (va vd vx : Value) (c : Cr) (gv : Value) (p : Int) (W : World) : Prop where
  st : LawSt w bm bc m va vd vx c gv W
  db : BlkIs W bd 33 #[.int .i64 c.uid, .int .i64 c.gid, gv, .int .i64 p]
theorem PartSt.call {w : World} {bm bc bd : Nat} {m : Mt} {va vd vx : Value} {c : Cr} {gv : Value} {p : Int} {W W' : World} (h : PartSt w bm bc bd m va vd vx c gv p W) (hb : Below W.heap.size W W') : PartSt w bm bc bd m va vd vx c gv p W' :=
  ⟨h.st.call hb, h.db.kept hb h.db.size⟩
theorem PartSt.can {w : World} {bm bc bd : Nat} {m : Mt} {va vd vx : Value} {c : Cr} {gv : Value} {p : Int} {W : World} (h : PartSt w bm bc bd m va vd vx c gv p W) (q x : Int) :
    Calls Try.prog 14 #[.agg #[.int .i64 m.mode, .int .i64 m.uid, .int .i64 m.gid, .int .i64 m.sec, .int .i64 m.nano, va, vd, vx, .int .i64 m.cap.v, .int .u64 (m.cap.p : Int), .int .u64 (m.cap.i : Int), .bool m.cap.e, .int .i64 m.cap.r, .int .i64 m.flags], .agg #[.int .i64 c.uid, .int .i64 c.gid, gv, .int .i64 q], .int .i64 x] W fun e w' => e = .returned (.bool (canM m ⟨c.uid, c.gid, c.groups, q⟩ x)) ∧ Below W.heap.size W w' :=
  can_any m va vd vx ⟨c.uid, c.gid, c.groups, q⟩ gv x W h.st.ra ⟨h.st.ca.groups, h.st.ca.len⟩
end Go.Proofs.Ytpfidbcnefnhcaa

/- The law RightLess, walked. -/
namespace Go.Proofs.Ytpfidbcnefnhcaa
open Go.RowKit
open MetaM RightM AclM
set_option linter.unusedVariables false
def bareM (m : Mt) (n : Nat) : Mt := { m with acl := [], mode := (n : Int) }
attribute [local irreducible] Row At
structure LessSt (w : World) (bm bc bn : Nat) (m : Mt) (n : Nat) (va vd vx : Value) (c : Cr) (gv : Value) (W : World) : Prop where
  st : LawSt w bm bc m va vd vx c gv W
  nb : BlkIs W bn 30 #[.int .i64 (n : Int), .int .i64 m.uid, .int .i64 m.gid, .int .i64 m.sec, .int .i64 m.nano, .slice none 0 0, vd, vx, .int .i64 m.cap.v, .int .u64 (m.cap.p : Int), .int .u64 (m.cap.i : Int), .bool m.cap.e, .int .i64 m.cap.r, .int .i64 m.flags]
theorem LessSt.call {w : World} {bm bc bn : Nat} {m : Mt} {n : Nat} {va vd vx : Value} {c : Cr} {gv : Value} {W W' : World} (h : LessSt w bm bc bn m n va vd vx c gv W) (hb : Below W.heap.size W W') : LessSt w bm bc bn m n va vd vx c gv W' :=
  ⟨h.st.call hb, h.nb.kept hb h.nb.size⟩
theorem LessSt.can {w : World} {bm bc bn : Nat} {m : Mt} {n : Nat} {va vd vx : Value} {c : Cr} {gv : Value} {W : World} (h : LessSt w bm bc bn m n va vd vx c gv W) (hn : n < 512) (x : Int) :
    Calls Try.prog 14 #[.agg #[.int .i64 (n : Int), .int .i64 m.uid, .int .i64 m.gid, .int .i64 m.sec, .int .i64 m.nano, .slice none 0 0, vd, vx, .int .i64 m.cap.v, .int .u64 (m.cap.p : Int), .int .u64 (m.cap.i : Int), .bool m.cap.e, .int .i64 m.cap.r, .int .i64 m.flags], .agg #[.int .i64 c.uid, .int .i64 c.gid, gv, .int .i64 c.powers], .int .i64 x] W fun e w' => e = .returned (.bool (canM (bareM m n) c x)) ∧ Below W.heap.size W w' :=
  can_any (bareM m n) nilV vd vx c gv x W ⟨At.nil _, by simp [bareM], .inl rfl, by unfold InRange bareM; simp only; omega⟩ h.st.ca
set_option maxHeartbeats 6400000 in
set_option maxRecDepth 100000 in
theorem rightLess_walk (a0 : Option Addr) (len0 cap0 : Nat) (z0 : List Int) (a1 : Option Addr) (len1 cap1 : Nat) (z1 : List Int) (a2 : Int) (w : World) (w0 : IsRow .u8 w a0 len0 cap0 z0) (w1 : IsRow .u8 w a1 len1 cap1 z1) (w2 : (Lit.int .u8 a2).wf = true) :
    Calls Try.prog 5 #[.slice a0 len0 cap0, .slice a1 len1 cap1, .int .u8 a2] w fun e w' => e = .returned (.bool true) ∧ Below w.heap.size w w' := by
  have b2 : 0 ≤ a2 ∧ a2 ≤ 255 := by have h := w2; simp only [Lit.wf, Bool.and_eq_true, decide_eq_true_eq] at h; exact h
  have x2 : IntKind.i64.wrap a2 = a2 := by rw [IntKind.wrap_i64]; omega
  obtain ⟨x, hx⟩ : ∃ k : Nat, a2 % 8 = (k : Int) := ⟨(a2 % 8).toNat, by omega⟩
  have x8 : x < 8 := by omega
  have t2 : a2.tmod 8 = (x : Int) := by rw [Int.tmod_eq_emod_of_nonneg b2.1]; exact hx
  have HMk := Lib.hid (metaMake_any a0 len0 cap0 z0 1 w w0 (isRow_le w0) (by unfold kAny; omega))
  have HCr := Lib.hid (fun W (hb : Below w.heap.size w W) => cred_any a1 len1 cap1 z1 W (isRow_call w1 hb) (isRow_le w1))
  generalize madeM z0 len0 1 = m at *
  unfold metaC at HMk
  unfold credC at HCr
  clear b2 hx w0 w1 w2
  go_enter Try.func5, Try.ntmps5
  go_upto_region 4 with (first
    | (go_at_call 20; refine (HMk.out).mono ?_; rintro e wa ⟨⟨⟨va, vd, vx, rfl, hma⟩, hmm, hxo⟩, hba⟩; clear hxo; have HMM := Lib.hid hmm; clear hmm; obtain ⟨pa, ca, rfl, _⟩ := hma.acl.shape; obtain ⟨pd, cd, rfl, _⟩ := hma.dfl.shape; obtain ⟨px, cx, rfl, _⟩ := hma.xat.shape)
    | (go_at_call 21; refine (HCr.out _ (gr_alloc hba _)).mono ?_; rintro e wb ⟨⟨c, gv, rfl, hcr, hpw⟩, hbb⟩; have HPW := Lib.hid hpw; clear hpw; obtain ⟨pg, cg, rfl, _⟩ := hcr.groups.shape))
  obtain ⟨W, hW⟩ : ∃ W, wb.alloc (.cells #[.int .i64 c.uid, .int .i64 c.gid, .slice pg c.groups.length cg, .int .i64 c.powers] 33) = W := ⟨_, rfl⟩
  obtain ⟨bm, hbm⟩ : ∃ b, wa.heap.size = b := ⟨_, rfl⟩
  obtain ⟨bc, hbc⟩ : ∃ b, wb.heap.size = b := ⟨_, rfl⟩
  have hst : LawSt w bm bc m (.slice pa m.acl.length ca) (.slice pd m.dfl.length cd) (.slice px m.xat.length cx) c (.slice pg c.groups.length cg) W := by
    have h1 : Below w.heap.size w wb := gr_call (gr_alloc hba _) hbb
    have hW2 : Below wb.heap.size wb W := by rw [← hW]; exact gr_alloc (Below.refl _ _) _
    have q0 := blk_of hbm 30 #[.int .i64 m.mode, .int .i64 m.uid, .int .i64 m.gid, .int .i64 m.sec, .int .i64 m.nano, .slice pa m.acl.length ca, .slice pd m.dfl.length cd, .slice px m.xat.length cx, .int .i64 m.cap.v, .int .u64 (m.cap.p : Int), .int .u64 (m.cap.i : Int), .bool m.cap.e, .int .i64 m.cap.r, .int .i64 m.flags]
    have q1 := q0.kept hbb q0.size
    refine ⟨gr_call h1 hW2, q1.kept hW2 q1.size, ?_, ?_, hcr.call hW2⟩
    · rw [← hW]; exact blk_of hbc _ _
    · exact ((RightAt.made hma HMM.out).call (gr_alloc (Below.refl _ _) _)).call hbb |>.call hW2
  rw [hW]
  simp only [hbm, hbc]
  clear hW hbm hbc hba hbb hcr hma HMk HCr HMM HPW x2 t2
  have hblk := hst.mb
  have k0 := hblk.cell_some 0 _ rfl; have k1 := hblk.cell_some 1 _ rfl; have k2 := hblk.cell_some 2 _ rfl; have k3 := hblk.cell_some 3 _ rfl; have k4 := hblk.cell_some 4 _ rfl; have k5 := hblk.cell_some 5 _ rfl; have k6 := hblk.cell_some 6 _ rfl; have k7 := hblk.cell_some 7 _ rfl; have k8 := hblk.cell_some 8 _ rfl; have k9 := hblk.cell_some 9 _ rfl; have k10 := hblk.cell_some 10 _ rfl; have k11 := hblk.cell_some 11 _ rfl; have k12 := hblk.cell_some 12 _ rfl; have k13 := hblk.cell_some 13 _ rfl
  go_upto_region 8 with (first
    | (go_at_call 18; refine (less_at hst).mono ?_; rintro e wd ⟨rfl, hb1⟩; replace hst := hst.call hb1; clear hb1 hblk k0 k1 k2 k3 k4 k5 k6 k7 k8 k9 k10 k11 k12 k13; have hblk := hst.mb; have k0 := hblk.cell_some 0 _ rfl; have k1 := hblk.cell_some 1 _ rfl; have k2 := hblk.cell_some 2 _ rfl; have k3 := hblk.cell_some 3 _ rfl; have k4 := hblk.cell_some 4 _ rfl; have k5 := hblk.cell_some 5 _ rfl; have k6 := hblk.cell_some 6 _ rfl; have k7 := hblk.cell_some 7 _ rfl; have k8 := hblk.cell_some 8 _ rfl; have k9 := hblk.cell_some 9 _ rfl; have k10 := hblk.cell_some 10 _ rfl; have k11 := hblk.cell_some 11 _ rfl; have k12 := hblk.cell_some 12 _ rfl; have k13 := hblk.cell_some 13 _ rfl))
  clear k0 k1 k2 k3 k4 k5 k6 k7 k8 k9 k10 k11 k12 k13 hblk
  obtain ⟨W2, hW2⟩ : ∃ W, wd.alloc (.cells #[.int .i64 (lessM m : Int), .int .i64 m.uid, .int .i64 m.gid, .int .i64 m.sec, .int .i64 m.nano, .slice none 0 0, .slice pd m.dfl.length cd, .slice px m.xat.length cx, .int .i64 m.cap.v, .int .u64 (m.cap.p : Int), .int .u64 (m.cap.i : Int), .bool m.cap.e, .int .i64 m.cap.r, .int .i64 m.flags] 30) = W := ⟨_, rfl⟩
  obtain ⟨bn, hbn⟩ : ∃ b, wd.heap.size = b := ⟨_, rfl⟩
  replace hst : LessSt w bm bc bn m (lessM m) (.slice pa m.acl.length ca) (.slice pd m.dfl.length cd) (.slice px m.xat.length cx) c (.slice pg c.groups.length cg) W2 := by
    rw [← hW2]
    exact ⟨hst.call (gr_alloc (Below.refl _ _) _), blk_of hbn _ _⟩
  rw [hW2]
  simp only [hbn]
  clear hW2 hbn
  have hok := hst.st.ra.ok
  have hL5 := less_lt hok
  have hcl := can_less (m := m) (n := bareM m (lessM m)) c hok rfl rfl rfl rfl x8
  have hZ : m.acl = [] → (lessM m : Int) = m.mode % 512 := fun h => by unfold lessM; rw [if_pos h]; omega
  have a5 := and511 m.mode
  have HN := Lib.hid (fun W (h : LessSt w bm bc bn m (lessM m) (.slice pa m.acl.length ca) (.slice pd m.dfl.length cd) (.slice px m.xat.length cx) c (.slice pg c.groups.length cg) W) => h.can hL5 (x : Int))
  have HM := Lib.hid (fun W (h : LessSt w bm bc bn m (lessM m) (.slice pa m.acl.length ca) (.slice pd m.dfl.length cd) (.slice px m.xat.length cx) c (.slice pg c.groups.length cg) W) => can_at h.st (x : Int))
  have g0 : decide ((lessM m : Int) ≥ 0) = true := decide_eq_true (by omega)
  have g1 : decide ((0 : Int) ≤ (lessM m : Int)) = true := decide_eq_true (by omega)
  have g2 : decide ((lessM m : Int) < 512) = true := decide_eq_true (by omega)
  have g3 : decide (lessM m < 512) = true := decide_eq_true hL5
  have s0 := True.intro
  have hblk := hst.nb
  have k0 := hblk.cell_some 0 _ rfl; have k1 := hblk.cell_some 1 _ rfl; have k2 := hblk.cell_some 2 _ rfl; have k3 := hblk.cell_some 3 _ rfl; have k4 := hblk.cell_some 4 _ rfl; have k5 := hblk.cell_some 5 _ rfl; have k6 := hblk.cell_some 6 _ rfl; have k7 := hblk.cell_some 7 _ rfl; have k8 := hblk.cell_some 8 _ rfl; have k9 := hblk.cell_some 9 _ rfl; have k10 := hblk.cell_some 10 _ rfl; have k11 := hblk.cell_some 11 _ rfl; have k12 := hblk.cell_some 12 _ rfl; have k13 := hblk.cell_some 13 _ rfl
  have hcb := hst.st.cb
  have y0 := hcb.cell_some 0 _ rfl; have y1 := hcb.cell_some 1 _ rfl; have y2 := hcb.cell_some 2 _ rfl; have y3 := hcb.cell_some 3 _ rfl
  obtain ⟨r, hr⟩ : ∃ r, canM (bareM m (lessM m)) c (x : Int) = r := ⟨_, rfl⟩
  rw [hr] at hcl HN
  clear hr x8 hok
  by_cases hnil : m.acl = []
  · have hz := hZ hnil
    have u0 : decide ((m.acl.length : Int) > 0) = false := decide_eq_false (by rw [hnil]; simp)
    have u1 : decide ((0 : Int) < (m.acl.length : Int)) = false := decide_eq_false (by rw [hnil]; simp)
    have u2 : decide (0 < m.acl.length) = false := decide_eq_false (by rw [hnil]; simp)
    have u3 : ((lessM m : Int) == m.mode % 512) = true := beq_iff_eq.2 hz
    clear hZ hnil
    cases r
    · clear hcl hz
      go_wp2_with (first
        | (go_at_call 14; have s9 := s0; clear s9 s0; refine (HN.out _ hst).mono ?_; rintro e wc0 ⟨rfl, hb1⟩; replace hst := hst.call hb1; clear hb1 hblk hcb y0 y1 y2 y3 k0 k1 k2 k3 k4 k5 k6 k7 k8 k9 k10 k11 k12 k13; have hblk := hst.st.mb; have k0 := hblk.cell_some 0 _ rfl; have k1 := hblk.cell_some 1 _ rfl; have k2 := hblk.cell_some 2 _ rfl; have k3 := hblk.cell_some 3 _ rfl; have k4 := hblk.cell_some 4 _ rfl; have k5 := hblk.cell_some 5 _ rfl; have k6 := hblk.cell_some 6 _ rfl; have k7 := hblk.cell_some 7 _ rfl; have k8 := hblk.cell_some 8 _ rfl; have k9 := hblk.cell_some 9 _ rfl; have k10 := hblk.cell_some 10 _ rfl; have k11 := hblk.cell_some 11 _ rfl; have k12 := hblk.cell_some 12 _ rfl; have k13 := hblk.cell_some 13 _ rfl; have hcb := hst.st.cb; have y0 := hcb.cell_some 0 _ rfl; have y1 := hcb.cell_some 1 _ rfl; have y2 := hcb.cell_some 2 _ rfl; have y3 := hcb.cell_some 3 _ rfl; have s1 := True.intro)
        | (go_at_call 11; refine (awake18 _).mono ?_; rintro e wh ⟨rfl, hb1⟩; replace hst := hst.call hb1; clear hb1))
      go_ret
      exact ⟨by rfl, hst.st.below⟩
    · have hm2 := hcl rfl
      rw [hm2] at HM
      clear hcl hm2 hz
      go_wp2_with (first
        | (go_at_call 14; have s9 := s0; clear s9 s0; refine (HN.out _ hst).mono ?_; rintro e wc0 ⟨rfl, hb1⟩; replace hst := hst.call hb1; clear hb1 hblk hcb y0 y1 y2 y3 k0 k1 k2 k3 k4 k5 k6 k7 k8 k9 k10 k11 k12 k13; have hblk := hst.st.mb; have k0 := hblk.cell_some 0 _ rfl; have k1 := hblk.cell_some 1 _ rfl; have k2 := hblk.cell_some 2 _ rfl; have k3 := hblk.cell_some 3 _ rfl; have k4 := hblk.cell_some 4 _ rfl; have k5 := hblk.cell_some 5 _ rfl; have k6 := hblk.cell_some 6 _ rfl; have k7 := hblk.cell_some 7 _ rfl; have k8 := hblk.cell_some 8 _ rfl; have k9 := hblk.cell_some 9 _ rfl; have k10 := hblk.cell_some 10 _ rfl; have k11 := hblk.cell_some 11 _ rfl; have k12 := hblk.cell_some 12 _ rfl; have k13 := hblk.cell_some 13 _ rfl; have hcb := hst.st.cb; have y0 := hcb.cell_some 0 _ rfl; have y1 := hcb.cell_some 1 _ rfl; have y2 := hcb.cell_some 2 _ rfl; have y3 := hcb.cell_some 3 _ rfl; have s1 := True.intro)
        | (go_at_call 14; have s9 := s1; clear s9 s1; refine (HM.out _ hst).mono ?_; rintro e wc1 ⟨rfl, hb1⟩; replace hst := hst.call hb1; clear hb1 hblk hcb y0 y1 y2 y3 k0 k1 k2 k3 k4 k5 k6 k7 k8 k9 k10 k11 k12 k13; have hblk := hst.st.mb; have k0 := hblk.cell_some 0 _ rfl; have k1 := hblk.cell_some 1 _ rfl; have k2 := hblk.cell_some 2 _ rfl; have k3 := hblk.cell_some 3 _ rfl; have k4 := hblk.cell_some 4 _ rfl; have k5 := hblk.cell_some 5 _ rfl; have k6 := hblk.cell_some 6 _ rfl; have k7 := hblk.cell_some 7 _ rfl; have k8 := hblk.cell_some 8 _ rfl; have k9 := hblk.cell_some 9 _ rfl; have k10 := hblk.cell_some 10 _ rfl; have k11 := hblk.cell_some 11 _ rfl; have k12 := hblk.cell_some 12 _ rfl; have k13 := hblk.cell_some 13 _ rfl; have hcb := hst.st.cb; have y0 := hcb.cell_some 0 _ rfl; have y1 := hcb.cell_some 1 _ rfl; have y2 := hcb.cell_some 2 _ rfl; have y3 := hcb.cell_some 3 _ rfl; have s2 := True.intro)
        | (go_at_call 11; refine (awake18 _).mono ?_; rintro e wh ⟨rfl, hb1⟩; replace hst := hst.call hb1; clear hb1))
      go_ret
      exact ⟨by rfl, hst.st.below⟩
  · have hz : 0 < m.acl.length := List.length_pos_iff.2 hnil
    have u0 : decide ((m.acl.length : Int) > 0) = true := decide_eq_true (by omega)
    have u1 : decide ((0 : Int) < (m.acl.length : Int)) = true := decide_eq_true (by omega)
    have u2 : decide (0 < m.acl.length) = true := decide_eq_true hz
    clear hZ hnil
    cases r
    · clear hcl hz
      go_wp2_with (first
        | (go_at_call 14; have s9 := s0; clear s9 s0; refine (HN.out _ hst).mono ?_; rintro e wc0 ⟨rfl, hb1⟩; replace hst := hst.call hb1; clear hb1 hblk hcb y0 y1 y2 y3 k0 k1 k2 k3 k4 k5 k6 k7 k8 k9 k10 k11 k12 k13; have hblk := hst.st.mb; have k0 := hblk.cell_some 0 _ rfl; have k1 := hblk.cell_some 1 _ rfl; have k2 := hblk.cell_some 2 _ rfl; have k3 := hblk.cell_some 3 _ rfl; have k4 := hblk.cell_some 4 _ rfl; have k5 := hblk.cell_some 5 _ rfl; have k6 := hblk.cell_some 6 _ rfl; have k7 := hblk.cell_some 7 _ rfl; have k8 := hblk.cell_some 8 _ rfl; have k9 := hblk.cell_some 9 _ rfl; have k10 := hblk.cell_some 10 _ rfl; have k11 := hblk.cell_some 11 _ rfl; have k12 := hblk.cell_some 12 _ rfl; have k13 := hblk.cell_some 13 _ rfl; have hcb := hst.st.cb; have y0 := hcb.cell_some 0 _ rfl; have y1 := hcb.cell_some 1 _ rfl; have y2 := hcb.cell_some 2 _ rfl; have y3 := hcb.cell_some 3 _ rfl; have s1 := True.intro)
        | (go_at_call 11; refine (awake18 _).mono ?_; rintro e wh ⟨rfl, hb1⟩; replace hst := hst.call hb1; clear hb1))
      go_ret
      exact ⟨by rfl, hst.st.below⟩
    · have hm2 := hcl rfl
      rw [hm2] at HM
      clear hcl hm2 hz
      go_wp2_with (first
        | (go_at_call 14; have s9 := s0; clear s9 s0; refine (HN.out _ hst).mono ?_; rintro e wc0 ⟨rfl, hb1⟩; replace hst := hst.call hb1; clear hb1 hblk hcb y0 y1 y2 y3 k0 k1 k2 k3 k4 k5 k6 k7 k8 k9 k10 k11 k12 k13; have hblk := hst.st.mb; have k0 := hblk.cell_some 0 _ rfl; have k1 := hblk.cell_some 1 _ rfl; have k2 := hblk.cell_some 2 _ rfl; have k3 := hblk.cell_some 3 _ rfl; have k4 := hblk.cell_some 4 _ rfl; have k5 := hblk.cell_some 5 _ rfl; have k6 := hblk.cell_some 6 _ rfl; have k7 := hblk.cell_some 7 _ rfl; have k8 := hblk.cell_some 8 _ rfl; have k9 := hblk.cell_some 9 _ rfl; have k10 := hblk.cell_some 10 _ rfl; have k11 := hblk.cell_some 11 _ rfl; have k12 := hblk.cell_some 12 _ rfl; have k13 := hblk.cell_some 13 _ rfl; have hcb := hst.st.cb; have y0 := hcb.cell_some 0 _ rfl; have y1 := hcb.cell_some 1 _ rfl; have y2 := hcb.cell_some 2 _ rfl; have y3 := hcb.cell_some 3 _ rfl; have s1 := True.intro)
        | (go_at_call 14; have s9 := s1; clear s9 s1; refine (HM.out _ hst).mono ?_; rintro e wc1 ⟨rfl, hb1⟩; replace hst := hst.call hb1; clear hb1 hblk hcb y0 y1 y2 y3 k0 k1 k2 k3 k4 k5 k6 k7 k8 k9 k10 k11 k12 k13; have hblk := hst.st.mb; have k0 := hblk.cell_some 0 _ rfl; have k1 := hblk.cell_some 1 _ rfl; have k2 := hblk.cell_some 2 _ rfl; have k3 := hblk.cell_some 3 _ rfl; have k4 := hblk.cell_some 4 _ rfl; have k5 := hblk.cell_some 5 _ rfl; have k6 := hblk.cell_some 6 _ rfl; have k7 := hblk.cell_some 7 _ rfl; have k8 := hblk.cell_some 8 _ rfl; have k9 := hblk.cell_some 9 _ rfl; have k10 := hblk.cell_some 10 _ rfl; have k11 := hblk.cell_some 11 _ rfl; have k12 := hblk.cell_some 12 _ rfl; have k13 := hblk.cell_some 13 _ rfl; have hcb := hst.st.cb; have y0 := hcb.cell_some 0 _ rfl; have y1 := hcb.cell_some 1 _ rfl; have y2 := hcb.cell_some 2 _ rfl; have y3 := hcb.cell_some 3 _ rfl; have s2 := True.intro)
        | (go_at_call 11; refine (awake18 _).mono ?_; rintro e wh ⟨rfl, hb1⟩; replace hst := hst.call hb1; clear hb1))
      go_ret
      exact ⟨by rfl, hst.st.below⟩
end Go.Proofs.Ytpfidbcnefnhcaa
