/- Bundle of 2 texts. -/
import Derived.Test.YtpfidbcnefnhcaaPk13
import Derived.Test.YtpfidbcnefnhcaaMetaNums
/- Metadata by numbers, of which who may what can be asked. -/
namespace Go.Proofs.Ytpfidbcnefnhcaa
open Go.RowKit
open MetaM RightM AclM
set_option linter.unusedVariables false
theorem made_right {m : Mt} {k : Int} (h : mayM m k = true) : okL m ∧ InRange m.mode := by
  unfold mayM at h
  simp only [Bool.and_eq_true] at h
  obtain ⟨⟨⟨⟨⟨⟨⟨⟨⟨⟨_, h2⟩, _⟩, _⟩, _⟩, _⟩, _⟩, h8⟩, _⟩, _⟩, _⟩ := h
  unfold modeOk at h2
  unfold aclOk at h8
  simp only [Bool.and_eq_true, Bool.or_eq_true, decide_eq_true_eq] at h2 h8
  refine ⟨?_, by unfold InRange; omega⟩
  rcases h8 with h8 | h8
  · exact .inl (List.eq_nil_of_length_eq_zero h8)
  · exact .inr h8.1
theorem RightAt.made {m : Mt} {va vd vx : Value} {k : Int} {w : World} (h : MetaAt m va vd vx w) (hm : mayM m k = true) : RightAt m va vd vx w := ⟨h.acl, h.la, (made_right hm).1, (made_right hm).2⟩
attribute [local irreducible] Row At
structure PartSt (w : World) (bm bc bd : Nat) (m : Mt) (va vd vx : Value) (c : Cr) (gv : Value) (p : Int) (W : World) : Prop where
  st : LawSt w bm bc m va vd vx c gv W
  db : BlkIs W bd 33 #[.int .i64 c.uid, .int .i64 c.gid, gv, .int .i64 p]
theorem PartSt.call {w : World} {bm bc bd : Nat} {m : Mt} {va vd vx : Value} {c : Cr} {gv : Value} {p : Int} {W W' : World} (h : PartSt w bm bc bd m va vd vx c gv p W) (hb : Below W.heap.size W W') : PartSt w bm bc bd m va vd vx c gv p W' :=
  ⟨h.st.call hb, h.db.kept hb h.db.size⟩
end Go.Proofs.Ytpfidbcnefnhcaa

/- The law RightMade, walked. -/
namespace Go.Proofs.Ytpfidbcnefnhcaa
open Go.RowKit
open MetaM RightM AclM
set_option linter.unusedVariables false
attribute [local irreducible] Row At
set_option maxHeartbeats 6400000 in
set_option maxRecDepth 100000 in
theorem rightMade_walk (a0 : Option Addr) (len0 cap0 : Nat) (z0 : List Int) (a1 : Option Addr) (len1 cap1 : Nat) (z1 : List Int) (a2 : Int) (w : World) (w0 : IsRow .u8 w a0 len0 cap0 z0) (w1 : IsRow .u8 w a1 len1 cap1 z1) (w2 : (Lit.int .u8 a2).wf = true) :
    Calls Try.prog 4 #[.slice a0 len0 cap0, .slice a1 len1 cap1, .int .u8 a2] w fun e w' => e = .returned (.bool true) ∧ Below w.heap.size w w' := by
  have b2 : 0 ≤ a2 ∧ a2 ≤ 255 := by have h := w2; simp only [Lit.wf, Bool.and_eq_true, decide_eq_true_eq] at h; exact h
  have x2 : IntKind.i64.wrap a2 = a2 := by rw [IntKind.wrap_i64]; omega
  obtain ⟨p, t2⟩ : ∃ p, a2.tmod 128 = p := ⟨_, rfl⟩
  have HMk := Lib.hid (metaMake_any a0 len0 cap0 z0 1 w w0 (isRow_le w0) (by unfold kAny; omega))
  have HCr := Lib.hid (fun W (hb : Below w.heap.size w W) => cred_any a1 len1 cap1 z1 W (isRow_call w1 hb) (isRow_le w1))
  generalize madeM z0 len0 1 = m at *
  unfold metaC at HMk
  unfold credC at HCr
  clear b2 w0 w1 w2
  go_enter Try.func4, Try.ntmps4
  go_upto_region 4 with (first
    | (go_at_call 20; refine (HMk.out).mono ?_; rintro e wa ⟨⟨⟨va, vd, vx, rfl, hma⟩, hmm, hxo⟩, hba⟩; clear hxo; have HMM := Lib.hid hmm; clear hmm; obtain ⟨pa, ca, rfl, _⟩ := hma.acl.shape; obtain ⟨pd, cd, rfl, _⟩ := hma.dfl.shape; obtain ⟨px, cx, rfl, _⟩ := hma.xat.shape)
    | (go_at_call 21; refine (HCr.out _ (gr_alloc hba _)).mono ?_; rintro e wb ⟨⟨c, gv, rfl, hcr, hpw⟩, hbb⟩; have HPW := Lib.hid hpw; clear hpw; obtain ⟨pg, cg, rfl, _⟩ := hcr.groups.shape))
  obtain ⟨W, hW⟩ : ∃ W, wb.alloc (.cells #[.int .i64 c.uid, .int .i64 c.gid, .slice pg c.groups.length cg, .int .i64 p] 33) = W := ⟨_, rfl⟩
  obtain ⟨bm, hbm⟩ : ∃ b, wa.heap.size = b := ⟨_, rfl⟩
  obtain ⟨bc, hbc⟩ : ∃ b, wb.heap.size = b := ⟨_, rfl⟩
  obtain ⟨d, hd⟩ : ∃ d : Cr, (⟨c.uid, c.gid, c.groups, p⟩ : Cr) = d := ⟨_, rfl⟩
  have hst : LawSt w bm bc m (.slice pa m.acl.length ca) (.slice pd m.dfl.length cd) (.slice px m.xat.length cx) d (.slice pg c.groups.length cg) W := by
    have h1 : Below w.heap.size w wb := gr_call (gr_alloc hba _) hbb
    have hW2 : Below wb.heap.size wb W := by rw [← hW]; exact gr_alloc (Below.refl _ _) _
    have q0 := blk_of hbm 30 #[.int .i64 m.mode, .int .i64 m.uid, .int .i64 m.gid, .int .i64 m.sec, .int .i64 m.nano, .slice pa m.acl.length ca, .slice pd m.dfl.length cd, .slice px m.xat.length cx, .int .i64 m.cap.v, .int .u64 (m.cap.p : Int), .int .u64 (m.cap.i : Int), .bool m.cap.e, .int .i64 m.cap.r, .int .i64 m.flags]
    have q1 := q0.kept hbb q0.size
    refine ⟨gr_call h1 hW2, q1.kept hW2 q1.size, ?_, ?_, ?_⟩
    · rw [← hW, ← hd]; exact blk_of hbc _ _
    · exact ((RightAt.made hma HMM.out).call (gr_alloc (Below.refl _ _) _)).call hbb |>.call hW2
    · rw [← hd]; exact ⟨(hcr.call hW2).groups, hcr.len⟩
  rw [hW]
  simp only [hbm, hbc]
  clear hW hbm hbc hba hbb hcr hma HMk HCr HMM HPW x2 t2 hd
  go_wp2_with fail
  go_loopw [9] (fun iv wr => ∃ x : Int, iv = .int .i64 x ∧ -1 ≤ x ∧ x ≤ 9 ∧ LawSt w bm bc m (.slice pa m.acl.length ca) (.slice pd m.dfl.length cd) (.slice px m.xat.length cx) d (.slice pg c.groups.length cg) wr) (fun iv _ => (9 - intOf iv).toNat)
  case atStart => exact ⟨-1, rfl, by omega, by omega, hst⟩
  case round =>
    clear hst
    obtain ⟨x, rfl, hx0, hx9, hst⟩ := hrel
    rename World => wr
    by_cases hlt : x < 9
    · have l1 : decide (x < 9) = true := decide_eq_true hlt
      have wx : IntKind.i64.wrap (x + 1) = x + 1 := by rw [IntKind.wrap_i64]; omega
      obtain ⟨r, hr⟩ : ∃ r, canM m d x = r := ⟨_, rfl⟩
      have H1 := Lib.hid (fun W (h : LawSt w bm bc m (.slice pa m.acl.length ca) (.slice pd m.dfl.length cd) (.slice px m.xat.length cx) d (.slice pg c.groups.length cg) W) => can_at h x)
      have H2 := Lib.hid (fun W (h : LawSt w bm bc m (.slice pa m.acl.length ca) (.slice pd m.dfl.length cd) (.slice px m.xat.length cx) d (.slice pg c.groups.length cg) W) => refCan_any m (.slice pa m.acl.length ca) (.slice pd m.dfl.length cd) (.slice px m.xat.length cx) d (.slice pg c.groups.length cg) x W h.ra.acl h.ra.len h.ra.ok h.ra.md h.ca)
      unfold metaC credC at H2
      rw [hr] at H1 H2
      have zr : (r != r) = false := by cases r <;> rfl
      clear hr
      go_upto_region 7 with fail
      refine region_oneUL (S := fun W => LawSt w bm bc m (.slice pa m.acl.length ca) (.slice pd m.dfl.length cd) (.slice px m.xat.length cx) d (.slice pg c.groups.length cg) W) 8
        [(fun W v => v = .agg #[.int .i64 m.mode, .int .i64 m.uid, .int .i64 m.gid, .int .i64 m.sec, .int .i64 m.nano, (.slice pa m.acl.length ca), (.slice pd m.dfl.length cd), (.slice px m.xat.length cx), .int .i64 m.cap.v, .int .u64 (m.cap.p : Int), .int .u64 (m.cap.i : Int), .bool m.cap.e, .int .i64 m.cap.r, .int .i64 m.flags]),
        (fun W v => v = .agg #[.int .i64 d.uid, .int .i64 d.gid, (.slice pg c.groups.length cg), .int .i64 d.powers]),
        (fun W v => v = .int .i64 x),
        (fun W v => v = .bool r),
        (fun W v => v = .agg #[.int .i64 m.mode, .int .i64 m.uid, .int .i64 m.gid, .int .i64 m.sec, .int .i64 m.nano, (.slice pa m.acl.length ca), (.slice pd m.dfl.length cd), (.slice px m.xat.length cx), .int .i64 m.cap.v, .int .u64 (m.cap.p : Int), .int .u64 (m.cap.i : Int), .bool m.cap.e, .int .i64 m.cap.r, .int .i64 m.flags]),
        (fun W v => v = .agg #[.int .i64 d.uid, .int .i64 d.gid, (.slice pg c.groups.length cg), .int .i64 d.powers]),
        (fun W v => v = .int .i64 x),
        (fun W v => v = .bool r)] (by rfl) (by kernel_rfl) (by kernel_rfl) (by kernel_rfl) (by kernel_rfl) (by rfl) (by kernel_rfl) ?hS ?hp ?hs ?he
      case hS => exact hst.call (gr_drew (Below.refl _ _))
      case hp => repeat' (first | exact trivial | refine ⟨fun _ _ _ _ h => h, ?_⟩)
      case hs =>
        simp only [List.take_succ_cons, List.take_zero]
        refine ⟨?_, ?_, ?_, ?_, ?_, ?_, ?_, ?_, trivial⟩
        · refine .inl ⟨met_none rfl, ?_⟩
          intro a W K hS hd hD hf hK
          have e7 : a.tmps.getD 7 undef = .pointer (some ⟨bm, 0, none⟩) := hf 7 (by kernel_rfl)
          have k0 := hS.mb.cell_some 0 _ rfl; have k1 := hS.mb.cell_some 1 _ rfl; have k2 := hS.mb.cell_some 2 _ rfl; have k3 := hS.mb.cell_some 3 _ rfl; have k4 := hS.mb.cell_some 4 _ rfl; have k5 := hS.mb.cell_some 5 _ rfl; have k6 := hS.mb.cell_some 6 _ rfl; have k7 := hS.mb.cell_some 7 _ rfl; have k8 := hS.mb.cell_some 8 _ rfl; have k9 := hS.mb.cell_some 9 _ rfl; have k10 := hS.mb.cell_some 10 _ rfl; have k11 := hS.mb.cell_some 11 _ rfl; have k12 := hS.mb.cell_some 12 _ rfl; have k13 := hS.mb.cell_some 13 _ rfl
          clear hd hf hD
          go_simp
          exact hK _ _ (Below.refl _ _) hS rfl (fun h => absurd h (by decide))
        · refine .inl ⟨met_none rfl, ?_⟩
          intro a W K hS hd hD hf hK
          have e8 : a.tmps.getD 8 undef = .pointer (some ⟨bc, 0, none⟩) := hf 8 (by kernel_rfl)
          have k0 := hS.cb.cell_some 0 _ rfl; have k1 := hS.cb.cell_some 1 _ rfl; have k2 := hS.cb.cell_some 2 _ rfl; have k3 := hS.cb.cell_some 3 _ rfl
          clear hd hf hD
          go_simp
          exact hK _ _ (Below.refl _ _) hS rfl (fun h => absurd h (by decide))
        · refine .inl ⟨met_none rfl, ?_⟩
          intro a W K hS hd hD hf hK
          have e9 : a.tmps.getD 9 undef = .int .i64 x := hf 9 (by kernel_rfl)
          clear hd hf hD
          go_simp
          exact hK _ _ (Below.refl _ _) hS rfl (fun h => absurd h (by decide))
        · refine .inl ⟨met_none rfl, ?_⟩
          intro a W K hS hd hD hf hK
          have e22 : a.tmps.getD 22 undef = .agg #[.int .i64 m.mode, .int .i64 m.uid, .int .i64 m.gid, .int .i64 m.sec, .int .i64 m.nano, (.slice pa m.acl.length ca), (.slice pd m.dfl.length cd), (.slice px m.xat.length cx), .int .i64 m.cap.v, .int .u64 (m.cap.p : Int), .int .u64 (m.cap.i : Int), .bool m.cap.e, .int .i64 m.cap.r, .int .i64 m.flags] := hd ⟨0, .data⟩ (by simp) rfl
          have e23 : a.tmps.getD 23 undef = .agg #[.int .i64 d.uid, .int .i64 d.gid, (.slice pg c.groups.length cg), .int .i64 d.powers] := hd ⟨1, .data⟩ (by simp) rfl
          have e24 : a.tmps.getD 24 undef = .int .i64 x := hd ⟨2, .data⟩ (by simp) rfl
          clear hd hf hD
          go_simp
          go_at_call 14
          refine (H1.out _ hS).mono ?_
          rintro e w9 ⟨rfl, hb⟩
          exact hK _ _ hb (hS.call hb) rfl (fun h => absurd h (by decide))
        · refine .inl ⟨met_none rfl, ?_⟩
          intro a W K hS hd hD hf hK
          have e7 : a.tmps.getD 7 undef = .pointer (some ⟨bm, 0, none⟩) := hf 7 (by kernel_rfl)
          have k0 := hS.mb.cell_some 0 _ rfl; have k1 := hS.mb.cell_some 1 _ rfl; have k2 := hS.mb.cell_some 2 _ rfl; have k3 := hS.mb.cell_some 3 _ rfl; have k4 := hS.mb.cell_some 4 _ rfl; have k5 := hS.mb.cell_some 5 _ rfl; have k6 := hS.mb.cell_some 6 _ rfl; have k7 := hS.mb.cell_some 7 _ rfl; have k8 := hS.mb.cell_some 8 _ rfl; have k9 := hS.mb.cell_some 9 _ rfl; have k10 := hS.mb.cell_some 10 _ rfl; have k11 := hS.mb.cell_some 11 _ rfl; have k12 := hS.mb.cell_some 12 _ rfl; have k13 := hS.mb.cell_some 13 _ rfl
          clear hd hf hD
          go_simp
          exact hK _ _ (Below.refl _ _) hS rfl (fun h => absurd h (by decide))
        · refine .inl ⟨met_none rfl, ?_⟩
          intro a W K hS hd hD hf hK
          have e8 : a.tmps.getD 8 undef = .pointer (some ⟨bc, 0, none⟩) := hf 8 (by kernel_rfl)
          have k0 := hS.cb.cell_some 0 _ rfl; have k1 := hS.cb.cell_some 1 _ rfl; have k2 := hS.cb.cell_some 2 _ rfl; have k3 := hS.cb.cell_some 3 _ rfl
          clear hd hf hD
          go_simp
          exact hK _ _ (Below.refl _ _) hS rfl (fun h => absurd h (by decide))
        · refine .inl ⟨met_none rfl, ?_⟩
          intro a W K hS hd hD hf hK
          have e9 : a.tmps.getD 9 undef = .int .i64 x := hf 9 (by kernel_rfl)
          clear hd hf hD
          go_simp
          exact hK _ _ (Below.refl _ _) hS rfl (fun h => absurd h (by decide))
        · refine .inl ⟨met_none rfl, ?_⟩
          intro a W K hS hd hD hf hK
          have e26 : a.tmps.getD 26 undef = .agg #[.int .i64 m.mode, .int .i64 m.uid, .int .i64 m.gid, .int .i64 m.sec, .int .i64 m.nano, (.slice pa m.acl.length ca), (.slice pd m.dfl.length cd), (.slice px m.xat.length cx), .int .i64 m.cap.v, .int .u64 (m.cap.p : Int), .int .u64 (m.cap.i : Int), .bool m.cap.e, .int .i64 m.cap.r, .int .i64 m.flags] := hd ⟨4, .data⟩ (by simp) rfl
          have e27 : a.tmps.getD 27 undef = .agg #[.int .i64 d.uid, .int .i64 d.gid, (.slice pg c.groups.length cg), .int .i64 d.powers] := hd ⟨5, .data⟩ (by simp) rfl
          have e28 : a.tmps.getD 28 undef = .int .i64 x := hd ⟨6, .data⟩ (by simp) rfl
          clear hd hf hD
          go_simp
          go_at_call 15
          refine (H2.out _ hS).mono ?_
          rintro e w9 ⟨rfl, hb⟩
          exact hK _ _ hb (hS.call hb) rfl (fun h => absurd h (by decide))
      case he =>
        intro vals w6 K hS6 hV hK
        have e3 := hV 3 (by omega)
        have e7 := hV 7 (by omega)
        clear hV
        simp only [List.getD_cons_succ, List.getD_cons_zero] at e3 e7
        refine Later.mk ?_
        simp only [List.append_eq, List.cons_append, List.nil_append, setN, Nat.reduceAdd, List.setIfInBounds_toArray, List.set_cons_succ, List.set_cons_zero]
        rw [show vals 3 = _ from e3, show vals 7 = _ from e7]
        clear e3 e7
        go_simp
        refine hK _ _ ?_
        clear hK
        go_wp2_with fail
        go_roundw
        case rel => exact ⟨x + 1, rfl, by omega, by omega, hS6⟩
        case measure => simp only [intOf]; omega
    · have l1 : decide (x < 9) = false := decide_eq_false hlt
      obtain ⟨o, ho⟩ : ∃ o, ownM m d = o := ⟨_, rfl⟩
      have HL := Lib.hid (fun W (h : LawSt w bm bc m (.slice pa m.acl.length ca) (.slice pd m.dfl.length cd) (.slice px m.xat.length cx) d (.slice pg c.groups.length cg) W) => less_at h)
      have HL2 := Lib.hid (fun W (h : LawSt w bm bc m (.slice pa m.acl.length ca) (.slice pd m.dfl.length cd) (.slice px m.xat.length cx) d (.slice pg c.groups.length cg) W) => refLess_any m (.slice pa m.acl.length ca) (.slice pd m.dfl.length cd) (.slice px m.xat.length cx) W h.ra.acl h.ra.ok)
      have HO := Lib.hid (fun W (h : LawSt w bm bc m (.slice pa m.acl.length ca) (.slice pd m.dfl.length cd) (.slice px m.xat.length cx) d (.slice pg c.groups.length cg) W) => owner_at h)
      have HO2 := Lib.hid (fun W (h : LawSt w bm bc m (.slice pa m.acl.length ca) (.slice pd m.dfl.length cd) (.slice px m.xat.length cx) d (.slice pg c.groups.length cg) W) => refOwner_any m (.slice pa m.acl.length ca) (.slice pd m.dfl.length cd) (.slice px m.xat.length cx) d (.slice pg c.groups.length cg) W)
      have HA := Lib.hid (fun W (h : LawSt w bm bc m (.slice pa m.acl.length ca) (.slice pd m.dfl.length cd) (.slice px m.xat.length cx) d (.slice pg c.groups.length cg) W) => awake18 W)
      unfold metaC at HL2
      unfold metaC credC at HO2
      rw [ho] at HO HO2
      clear ho
      go_upto_region 9 with fail
      refine region_oneUL (S := fun W => LawSt w bm bc m (.slice pa m.acl.length ca) (.slice pd m.dfl.length cd) (.slice px m.xat.length cx) d (.slice pg c.groups.length cg) W) 17
        [(fun W v => v = .agg #[.int .i64 m.mode, .int .i64 m.uid, .int .i64 m.gid, .int .i64 m.sec, .int .i64 m.nano, (.slice pa m.acl.length ca), (.slice pd m.dfl.length cd), (.slice px m.xat.length cx), .int .i64 m.cap.v, .int .u64 (m.cap.p : Int), .int .u64 (m.cap.i : Int), .bool m.cap.e, .int .i64 m.cap.r, .int .i64 m.flags]),
        (fun W v => v = .int .i64 (lessM m : Int)),
        (fun W v => v = .agg #[.int .i64 m.mode, .int .i64 m.uid, .int .i64 m.gid, .int .i64 m.sec, .int .i64 m.nano, (.slice pa m.acl.length ca), (.slice pd m.dfl.length cd), (.slice px m.xat.length cx), .int .i64 m.cap.v, .int .u64 (m.cap.p : Int), .int .u64 (m.cap.i : Int), .bool m.cap.e, .int .i64 m.cap.r, .int .i64 m.flags]),
        (fun W v => v = .int .i64 (lessM m : Int)),
        (fun W v => v = .bool true),
        (fun W v => v = .bool true),
        (fun W v => v = .agg #[.int .i64 m.mode, .int .i64 m.uid, .int .i64 m.gid, .int .i64 m.sec, .int .i64 m.nano, (.slice pa m.acl.length ca), (.slice pd m.dfl.length cd), (.slice px m.xat.length cx), .int .i64 m.cap.v, .int .u64 (m.cap.p : Int), .int .u64 (m.cap.i : Int), .bool m.cap.e, .int .i64 m.cap.r, .int .i64 m.flags]),
        (fun W v => v = .agg #[.int .i64 d.uid, .int .i64 d.gid, (.slice pg c.groups.length cg), .int .i64 d.powers]),
        (fun W v => v = .bool o),
        (fun W v => v = .agg #[.int .i64 m.mode, .int .i64 m.uid, .int .i64 m.gid, .int .i64 m.sec, .int .i64 m.nano, (.slice pa m.acl.length ca), (.slice pd m.dfl.length cd), (.slice px m.xat.length cx), .int .i64 m.cap.v, .int .u64 (m.cap.p : Int), .int .u64 (m.cap.i : Int), .bool m.cap.e, .int .i64 m.cap.r, .int .i64 m.flags]),
        (fun W v => v = .agg #[.int .i64 d.uid, .int .i64 d.gid, (.slice pg c.groups.length cg), .int .i64 d.powers]),
        (fun W v => v = .bool o),
        (fun W v => v = .bool true),
        (fun W v => v = .bool true),
        (fun W v => v = .bool true),
        (fun W v => v = .bool true),
        (fun W v => v = .bool true)] (by rfl) (by kernel_rfl) (by kernel_rfl) (by kernel_rfl) (by kernel_rfl) (by rfl) (by kernel_rfl) ?hS ?hp ?hs ?he
      case hS => exact hst.call (gr_drew (Below.refl _ _))
      case hp => repeat' (first | exact trivial | refine ⟨fun _ _ _ _ h => h, ?_⟩)
      case hs =>
        simp only [List.take_succ_cons, List.take_zero]
        refine ⟨?_, ?_, ?_, ?_, ?_, ?_, ?_, ?_, ?_, ?_, ?_, ?_, ?_, ?_, ?_, ?_, ?_, trivial⟩
        · refine .inl ⟨met_none rfl, ?_⟩
          intro a W K hS hd hD hf hK
          have e7 : a.tmps.getD 7 undef = .pointer (some ⟨bm, 0, none⟩) := hf 7 (by kernel_rfl)
          have k0 := hS.mb.cell_some 0 _ rfl; have k1 := hS.mb.cell_some 1 _ rfl; have k2 := hS.mb.cell_some 2 _ rfl; have k3 := hS.mb.cell_some 3 _ rfl; have k4 := hS.mb.cell_some 4 _ rfl; have k5 := hS.mb.cell_some 5 _ rfl; have k6 := hS.mb.cell_some 6 _ rfl; have k7 := hS.mb.cell_some 7 _ rfl; have k8 := hS.mb.cell_some 8 _ rfl; have k9 := hS.mb.cell_some 9 _ rfl; have k10 := hS.mb.cell_some 10 _ rfl; have k11 := hS.mb.cell_some 11 _ rfl; have k12 := hS.mb.cell_some 12 _ rfl; have k13 := hS.mb.cell_some 13 _ rfl
          clear hd hf hD
          go_simp
          exact hK _ _ (Below.refl _ _) hS rfl (fun h => absurd h (by decide))
        · refine .inl ⟨met_none rfl, ?_⟩
          intro a W K hS hd hD hf hK
          have e31 : a.tmps.getD 31 undef = .agg #[.int .i64 m.mode, .int .i64 m.uid, .int .i64 m.gid, .int .i64 m.sec, .int .i64 m.nano, (.slice pa m.acl.length ca), (.slice pd m.dfl.length cd), (.slice px m.xat.length cx), .int .i64 m.cap.v, .int .u64 (m.cap.p : Int), .int .u64 (m.cap.i : Int), .bool m.cap.e, .int .i64 m.cap.r, .int .i64 m.flags] := hd ⟨0, .data⟩ (by simp) rfl
          clear hd hf hD
          go_simp
          go_at_call 18
          refine (HL.out _ hS).mono ?_
          rintro e w9 ⟨rfl, hb⟩
          exact hK _ _ hb (hS.call hb) rfl (fun h => absurd h (by decide))
        · refine .inl ⟨met_none rfl, ?_⟩
          intro a W K hS hd hD hf hK
          have e7 : a.tmps.getD 7 undef = .pointer (some ⟨bm, 0, none⟩) := hf 7 (by kernel_rfl)
          have k0 := hS.mb.cell_some 0 _ rfl; have k1 := hS.mb.cell_some 1 _ rfl; have k2 := hS.mb.cell_some 2 _ rfl; have k3 := hS.mb.cell_some 3 _ rfl; have k4 := hS.mb.cell_some 4 _ rfl; have k5 := hS.mb.cell_some 5 _ rfl; have k6 := hS.mb.cell_some 6 _ rfl; have k7 := hS.mb.cell_some 7 _ rfl; have k8 := hS.mb.cell_some 8 _ rfl; have k9 := hS.mb.cell_some 9 _ rfl; have k10 := hS.mb.cell_some 10 _ rfl; have k11 := hS.mb.cell_some 11 _ rfl; have k12 := hS.mb.cell_some 12 _ rfl; have k13 := hS.mb.cell_some 13 _ rfl
          clear hd hf hD
          go_simp
          exact hK _ _ (Below.refl _ _) hS rfl (fun h => absurd h (by decide))
        · refine .inl ⟨met_none rfl, ?_⟩
          intro a W K hS hd hD hf hK
          have e33 : a.tmps.getD 33 undef = .agg #[.int .i64 m.mode, .int .i64 m.uid, .int .i64 m.gid, .int .i64 m.sec, .int .i64 m.nano, (.slice pa m.acl.length ca), (.slice pd m.dfl.length cd), (.slice px m.xat.length cx), .int .i64 m.cap.v, .int .u64 (m.cap.p : Int), .int .u64 (m.cap.i : Int), .bool m.cap.e, .int .i64 m.cap.r, .int .i64 m.flags] := hd ⟨2, .data⟩ (by simp) rfl
          clear hd hf hD
          go_simp
          go_at_call 19
          refine (HL2.out _ hS).mono ?_
          rintro e w9 ⟨rfl, hb⟩
          exact hK _ _ hb (hS.call hb) rfl (fun h => absurd h (by decide))
        · refine .inl ⟨met_none rfl, ?_⟩
          intro a W K hS hd hD hf hK
          have e32 : a.tmps.getD 32 undef = .int .i64 (lessM m : Int) := hd ⟨1, .data⟩ (by simp) rfl
          have e34 : a.tmps.getD 34 undef = .int .i64 (lessM m : Int) := hd ⟨3, .data⟩ (by simp) rfl
          have hq : ((lessM m : Int) == (lessM m : Int)) = true := beq_self_eq_true _
          clear hd hf hD
          go_simp
          exact hK _ _ (Below.refl _ _) hS rfl (fun h => absurd h (by decide))
        · refine .inl ⟨met_none rfl, ?_⟩
          intro a W K hS hd hD hf hK
          have e35 : a.tmps.getD 35 undef = .bool true := hd ⟨4, .data⟩ (by simp) rfl
          clear hd hf hD
          go_simp
          exact hK _ _ (Below.refl _ _) hS rfl (fun h => absurd h (by decide))
        · refine .inl ⟨met_some 5 true rfl (fun w v h => h), ?_⟩
          intro a W K hS hd hD hf hK
          have e7 : a.tmps.getD 7 undef = .pointer (some ⟨bm, 0, none⟩) := hf 7 (by kernel_rfl)
          have k0 := hS.mb.cell_some 0 _ rfl; have k1 := hS.mb.cell_some 1 _ rfl; have k2 := hS.mb.cell_some 2 _ rfl; have k3 := hS.mb.cell_some 3 _ rfl; have k4 := hS.mb.cell_some 4 _ rfl; have k5 := hS.mb.cell_some 5 _ rfl; have k6 := hS.mb.cell_some 6 _ rfl; have k7 := hS.mb.cell_some 7 _ rfl; have k8 := hS.mb.cell_some 8 _ rfl; have k9 := hS.mb.cell_some 9 _ rfl; have k10 := hS.mb.cell_some 10 _ rfl; have k11 := hS.mb.cell_some 11 _ rfl; have k12 := hS.mb.cell_some 12 _ rfl; have k13 := hS.mb.cell_some 13 _ rfl
          clear hd hf hD
          go_simp
          exact hK _ _ (Below.refl _ _) hS rfl (fun h => absurd h (by decide))
        · refine .inl ⟨met_some 5 true rfl (fun w v h => h), ?_⟩
          intro a W K hS hd hD hf hK
          have e8 : a.tmps.getD 8 undef = .pointer (some ⟨bc, 0, none⟩) := hf 8 (by kernel_rfl)
          have k0 := hS.cb.cell_some 0 _ rfl; have k1 := hS.cb.cell_some 1 _ rfl; have k2 := hS.cb.cell_some 2 _ rfl; have k3 := hS.cb.cell_some 3 _ rfl
          clear hd hf hD
          go_simp
          exact hK _ _ (Below.refl _ _) hS rfl (fun h => absurd h (by decide))
        · refine .inl ⟨met_some 5 true rfl (fun w v h => h), ?_⟩
          intro a W K hS hd hD hf hK
          have e37 : a.tmps.getD 37 undef = .agg #[.int .i64 m.mode, .int .i64 m.uid, .int .i64 m.gid, .int .i64 m.sec, .int .i64 m.nano, (.slice pa m.acl.length ca), (.slice pd m.dfl.length cd), (.slice px m.xat.length cx), .int .i64 m.cap.v, .int .u64 (m.cap.p : Int), .int .u64 (m.cap.i : Int), .bool m.cap.e, .int .i64 m.cap.r, .int .i64 m.flags] := hd ⟨6, .data⟩ (by simp) rfl
          have e38 : a.tmps.getD 38 undef = .agg #[.int .i64 d.uid, .int .i64 d.gid, (.slice pg c.groups.length cg), .int .i64 d.powers] := hd ⟨7, .data⟩ (by simp) rfl
          clear hd hf hD
          go_simp
          go_at_call 16
          refine (HO.out _ hS).mono ?_
          rintro e w9 ⟨rfl, hb⟩
          exact hK _ _ hb (hS.call hb) rfl (fun h => absurd h (by decide))
        · refine .inl ⟨met_some 5 true rfl (fun w v h => h), ?_⟩
          intro a W K hS hd hD hf hK
          have e7 : a.tmps.getD 7 undef = .pointer (some ⟨bm, 0, none⟩) := hf 7 (by kernel_rfl)
          have k0 := hS.mb.cell_some 0 _ rfl; have k1 := hS.mb.cell_some 1 _ rfl; have k2 := hS.mb.cell_some 2 _ rfl; have k3 := hS.mb.cell_some 3 _ rfl; have k4 := hS.mb.cell_some 4 _ rfl; have k5 := hS.mb.cell_some 5 _ rfl; have k6 := hS.mb.cell_some 6 _ rfl; have k7 := hS.mb.cell_some 7 _ rfl; have k8 := hS.mb.cell_some 8 _ rfl; have k9 := hS.mb.cell_some 9 _ rfl; have k10 := hS.mb.cell_some 10 _ rfl; have k11 := hS.mb.cell_some 11 _ rfl; have k12 := hS.mb.cell_some 12 _ rfl; have k13 := hS.mb.cell_some 13 _ rfl
          clear hd hf hD
          go_simp
          exact hK _ _ (Below.refl _ _) hS rfl (fun h => absurd h (by decide))
        · refine .inl ⟨met_some 5 true rfl (fun w v h => h), ?_⟩
          intro a W K hS hd hD hf hK
          have e8 : a.tmps.getD 8 undef = .pointer (some ⟨bc, 0, none⟩) := hf 8 (by kernel_rfl)
          have k0 := hS.cb.cell_some 0 _ rfl; have k1 := hS.cb.cell_some 1 _ rfl; have k2 := hS.cb.cell_some 2 _ rfl; have k3 := hS.cb.cell_some 3 _ rfl
          clear hd hf hD
          go_simp
          exact hK _ _ (Below.refl _ _) hS rfl (fun h => absurd h (by decide))
        · refine .inl ⟨met_some 5 true rfl (fun w v h => h), ?_⟩
          intro a W K hS hd hD hf hK
          have e40 : a.tmps.getD 40 undef = .agg #[.int .i64 m.mode, .int .i64 m.uid, .int .i64 m.gid, .int .i64 m.sec, .int .i64 m.nano, (.slice pa m.acl.length ca), (.slice pd m.dfl.length cd), (.slice px m.xat.length cx), .int .i64 m.cap.v, .int .u64 (m.cap.p : Int), .int .u64 (m.cap.i : Int), .bool m.cap.e, .int .i64 m.cap.r, .int .i64 m.flags] := hd ⟨9, .data⟩ (by simp) rfl
          have e41 : a.tmps.getD 41 undef = .agg #[.int .i64 d.uid, .int .i64 d.gid, (.slice pg c.groups.length cg), .int .i64 d.powers] := hd ⟨10, .data⟩ (by simp) rfl
          clear hd hf hD
          go_simp
          go_at_call 17
          refine (HO2.out _ hS).mono ?_
          rintro e w9 ⟨rfl, hb⟩
          exact hK _ _ hb (hS.call hb) rfl (fun h => absurd h (by decide))
        · refine .inl ⟨met_some 5 true rfl (fun w v h => h), ?_⟩
          intro a W K hS hd hD hf hK
          have e39 : a.tmps.getD 39 undef = .bool o := hd ⟨8, .data⟩ (by simp) rfl
          have e42 : a.tmps.getD 42 undef = .bool o := hd ⟨11, .data⟩ (by simp) rfl
          have hq : (o == o) = true := by cases o <;> rfl
          clear hd hf hD
          go_simp
          exact hK _ _ (Below.refl _ _) hS rfl (fun h => absurd h (by decide))
        · refine .inl ⟨met_none rfl, ?_⟩
          intro a W K hS hd hD hf hK
          have e36 : a.tmps.getD 36 undef = .bool true := hd ⟨5, .data⟩ (by simp) rfl
          have e43 : a.tmps.getD 43 undef = .bool true := hd ⟨12, .data⟩ (by simp) rfl
          clear hd hf hD
          go_simp
          exact hK _ _ (Below.refl _ _) hS rfl (fun h => absurd h (by decide))
        · refine .inl ⟨met_none rfl, ?_⟩
          intro a W K hS hd hD hf hK
          have e44 : a.tmps.getD 44 undef = .bool true := hd ⟨13, .data⟩ (by simp) rfl
          clear hd hf hD
          go_simp
          exact hK _ _ (Below.refl _ _) hS rfl (fun h => absurd h (by decide))
        · refine .inl ⟨met_some 14 true rfl (fun w v h => h), ?_⟩
          intro a W K hS hd hD hf hK
          clear hd hf hD
          go_simp
          go_at_call 11
          refine (HA.out _ hS).mono ?_
          rintro e w9 ⟨rfl, hb⟩
          exact hK _ _ hb (hS.call hb) rfl (fun h => absurd h (by decide))
        · refine .inl ⟨met_none rfl, ?_⟩
          intro a W K hS hd hD hf hK
          have e45 : a.tmps.getD 45 undef = .bool true := hd ⟨14, .data⟩ (by simp) rfl
          have e46 : a.tmps.getD 46 undef = .bool true := hd ⟨15, .data⟩ (by simp) rfl
          clear hd hf hD
          go_simp
          exact hK _ _ (Below.refl _ _) hS rfl (fun h => absurd h (by decide))
      case he =>
        intro vals w6 K hS6 hV hK
        have e16 := hV 16 (by omega)
        clear hV
        simp only [List.getD_cons_succ, List.getD_cons_zero] at e16
        refine Later.mk ?_
        simp only [List.append_eq, List.cons_append, List.nil_append, setN, Nat.reduceAdd, List.setIfInBounds_toArray, List.set_cons_succ, List.set_cons_zero]
        rw [show vals 16 = _ from e16]
        clear e16
        go_simp
        refine hK _ _ ?_
        clear hK
        go_wp2_with fail
        go_ret
        exact ⟨by rfl, hS6.below⟩
end Go.Proofs.Ytpfidbcnefnhcaa
