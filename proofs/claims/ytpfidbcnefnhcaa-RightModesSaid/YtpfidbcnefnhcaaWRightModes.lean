/- The law RightModes, walked. -/
import Derived.Test.YtpfidbcnefnhcaaPk07
namespace Go.Proofs.Ytpfidbcnefnhcaa
open Go.RowKit
open MetaM RightM AclM
set_option linter.unusedVariables false
theorem shr3 {N : Nat} (h : N < 512) : bits .and .i64 ((N : Int) / 8) 7 = ((N / 8 % 8 : Nat) : Int) := by rw [AclW.and7]; omega
theorem eq_sym (a b : Int) : decide (a = b) = (b == a) := by
  by_cases h : a = b
  · rw [decide_eq_true h, beq_iff_eq.2 h.symm]
  · rw [decide_eq_false h, beq_eq_false_iff_ne.2 (fun e => h e.symm)]
attribute [local irreducible] Row At
set_option maxHeartbeats 6400000 in
set_option maxRecDepth 100000 in
theorem rightModes_walk (a0 : Int) (a1 : Int) (a2 : Int) (a3 : Option Addr) (len3 cap3 : Nat) (z3 : List Int) (w : World) (w0 : (Lit.int .u16 a0).wf = true) (w1 : (Lit.int .u8 a1).wf = true) (w2 : (Lit.int .u8 a2).wf = true) (w3 : IsRow .u8 w a3 len3 cap3 z3) :
    Calls Try.prog 7 #[.int .u16 a0, .int .u8 a1, .int .u8 a2, .slice a3 len3 cap3] w fun e w' => e = .returned (.bool true) ∧ Below w.heap.size w w' := by
  have b0 : 0 ≤ a0 ∧ a0 ≤ 65535 := by have h := w0; simp only [Lit.wf, Bool.and_eq_true, decide_eq_true_eq] at h; exact h
  have b1 : 0 ≤ a1 ∧ a1 ≤ 255 := by have h := w1; simp only [Lit.wf, Bool.and_eq_true, decide_eq_true_eq] at h; exact h
  have b2 : 0 ≤ a2 ∧ a2 ≤ 255 := by have h := w2; simp only [Lit.wf, Bool.and_eq_true, decide_eq_true_eq] at h; exact h
  have x0 : IntKind.i64.wrap a0 = a0 := by rw [IntKind.wrap_i64]; omega
  have x1 : IntKind.i64.wrap a1 = a1 := by rw [IntKind.wrap_i64]; omega
  have x2 : IntKind.i64.wrap a2 = a2 := by rw [IntKind.wrap_i64]; omega
  obtain ⟨N, hN⟩ : ∃ N : Nat, a0 % 512 = (N : Int) := ⟨(a0 % 512).toNat, by omega⟩
  have hN5 : N < 512 := by omega
  have t0 : a0.tmod 512 = (N : Int) := by rw [Int.tmod_eq_emod_of_nonneg b0.1]; exact hN
  obtain ⟨u, t1⟩ : ∃ u, a1.tmod 8 = u := ⟨_, rfl⟩
  obtain ⟨g, t2⟩ : ∃ g, a2.tmod 8 = g := ⟨_, rfl⟩
  have hlen : len3 ≤ 9223372036854775807 := isRow_le w3
  have HPl := Lib.hid (fun W => plain_call (N : Int) u g W)
  have HCr := Lib.hid (fun W (hb : Below w.heap.size w W) => cred_any a3 len3 cap3 z3 W (isRow_call w3 hb) hlen)
  unfold metaC plainM nilV at HPl
  unfold credC at HCr
  simp only at HPl
  clear b0 b1 b2 hN w0 w1 w2 w3
  go_enter Try.func7, Try.ntmps7
  go_upto_region 4 with (first
    | (go_at_call 22; refine (HPl.out _).mono ?_; rintro e wa ⟨rfl, hba⟩)
    | (go_at_call 21; refine (HCr.out _ (gr_alloc hba _)).mono ?_; rintro e wb ⟨⟨c, gv, rfl, hcr, hpw⟩, hbb⟩; have HPW := Lib.hid hpw; clear hpw; obtain ⟨pg, cg, rfl, _⟩ := hcr.groups.shape))
  obtain ⟨W, hW⟩ : ∃ W, wb.alloc (.cells #[.int .i64 c.uid, .int .i64 c.gid, .slice pg c.groups.length cg, .int .i64 c.powers] 33) = W := ⟨_, rfl⟩
  obtain ⟨bm, hbm⟩ : ∃ b, wa.heap.size = b := ⟨_, rfl⟩
  obtain ⟨bc, hbc⟩ : ∃ b, wb.heap.size = b := ⟨_, rfl⟩
  obtain ⟨m, hm⟩ : ∃ m, plainM (N : Int) u g = m := ⟨_, rfl⟩
  have hst : LawSt w bm bc m nilV nilV nilV c (.slice pg c.groups.length cg) W := by
    have h1 : Below w.heap.size w wb := gr_call (gr_alloc hba _) hbb
    have hW2 : Below wb.heap.size wb W := by rw [← hW]; exact gr_alloc (Below.refl _ _) _
    refine ⟨gr_call h1 hW2, ?_, ?_, ?_, ?_⟩
    · rw [← hm]
      have q0 := blk_of hbm 30 #[.int .i64 (N : Int), .int .i64 u, .int .i64 g, .int .i64 0, .int .i64 0, .slice none 0 0, .slice none 0 0, .slice none 0 0, .int .i64 0, .int .u64 0, .int .u64 0, .bool false, .int .i64 0, .int .i64 0]
      have q1 := q0.kept hbb q0.size
      exact q1.kept hW2 q1.size
    · rw [← hW]; exact blk_of hbc _ _
    · rw [← hm]; exact plain_right _ _ _ ⟨by omega, by omega⟩ _
    · exact hcr.call hW2
  rw [hW]
  have HM := Lib.hid (show m.mode = (N : Int) ∧ m.acl = [] by rw [← hm]; exact ⟨rfl, rfl⟩)
  simp only [hbm, hbc]
  clear hW hm hba hbb hcr HPl HCr hbm hbc wa wb x0 x1 x2 t0 t1 t2
  obtain ⟨h1, hh1⟩ : ∃ h1 : Nat, (if inM c m.gid then N / 8 % 8 else N % 8) = h1 := ⟨_, rfl⟩
  obtain ⟨H, hH⟩ : ∃ H : Nat, (if m.uid = c.uid then N / 64 else h1) = H := ⟨_, rfl⟩
  have h18 : h1 < 8 := by rw [← hh1]; split <;> omega
  have hH8 : H < 8 := by rw [← hH]; split <;> omega
  have hpa : hasAll c = false := by unfold hasAll; rw [HPW.out]; rfl
  have hpo : hasOwn c = false := by unfold hasOwn; rw [HPW.out]; rfl
  have HC := Lib.hid (fun (k : Nat) (hk : k < 8) => show canM m c (k : Int) = gr H k by
    rw [can_plain m c HM.out.2 hk, hpa, if_neg (by decide), HM.out.1, ← hH, ← hh1]
    congr 1
    split
    · omega
    · split <;> omega)
  have HOw := Lib.hid (show ownM m c = (c.uid == m.uid) by unfold ownM; rw [hpo, Bool.or_false]; exact eq_sym _ _)
  have HIn := Lib.hid (show inM c c.gid = true by unfold inM; simp)
  clear hpa hpo HPW HM
  have e7 : bits .and .i64 (N : Int) 7 = ((N % 8 : Nat) : Int) := by rw [AclW.and7]; omega
  have e8 := shr3 hN5
  have hblk := hst.mb
  have k0 := hblk.cell_some 0 _ rfl; have k1 := hblk.cell_some 1 _ rfl; have k2 := hblk.cell_some 2 _ rfl; have k3 := hblk.cell_some 3 _ rfl; have k4 := hblk.cell_some 4 _ rfl; have k5 := hblk.cell_some 5 _ rfl; have k6 := hblk.cell_some 6 _ rfl; have k7 := hblk.cell_some 7 _ rfl; have k8 := hblk.cell_some 8 _ rfl; have k9 := hblk.cell_some 9 _ rfl; have k10 := hblk.cell_some 10 _ rfl; have k11 := hblk.cell_some 11 _ rfl; have k12 := hblk.cell_some 12 _ rfl; have k13 := hblk.cell_some 13 _ rfl
  have y0 := hst.cb.cell_some 0 _ rfl
  have y1 := hst.cb.cell_some 1 _ rfl
  have y2 := hst.cb.cell_some 2 _ rfl
  have y3 := hst.cb.cell_some 3 _ rfl
  go_upto_if 32 with (first
    | (go_at_call 12; refine (in_at hst m.gid).mono ?_; rintro e wc ⟨rfl, hb1⟩; replace hst := hst.call hb1; clear hb1 hblk k0 k1 k2 k3 k4 k5 k6 k7 k8 k9 k10 k11 k12 k13 y0 y1 y2 y3))
  go_cut [12] from 32 to 35 (fun s wx => s = .int .i64 (h1 : Int) ∧ wx = wc)
  case first =>
    cases hi : inM c m.gid
    · have hh2 : h1 = N % 8 := by rw [← hh1, hi]; rfl
      go_wp2_with fail
      go_meet
      exact ⟨by rw [hh2]; rfl, rfl⟩
    · have hh2 : h1 = N / 8 % 8 := by rw [← hh1, hi]; rfl
      go_wp2_with fail
      go_meet
      exact ⟨by rw [hh2]; rfl, rfl⟩
  case rest =>
    obtain ⟨rfl, hcw⟩ := hcut
    rename World => wd
    subst hcw
    have k1 := hst.mb.cell_some 1 _ rfl
    have y0 := hst.cb.cell_some 0 _ rfl
    go_upto_if 40 with fail
    go_cut [12] from 40 to 42 (fun s wx => s = .int .i64 (H : Int) ∧ wx = wd)
    case first =>
      by_cases hu : m.uid = c.uid
      · have hh2 : H = N / 64 := by rw [← hH, if_pos hu]
        have eu : (c.uid == m.uid) = true := beq_iff_eq.2 hu.symm
        clear hu
        go_wp2_with fail
        go_meet
        exact ⟨by rw [hh2]; rfl, rfl⟩
      · have hh2 : H = h1 := by rw [← hH, if_neg hu]
        have eu : (c.uid == m.uid) = false := beq_eq_false_iff_ne.2 (fun e => hu e.symm)
        clear hu
        go_wp2_with fail
        go_meet
        exact ⟨by rw [hh2], rfl⟩
    case rest =>
      obtain ⟨rfl, hcw⟩ := hcut
      rename World => we
      subst hcw
      clear hH hh1 e7 e8 k1 y0 h18 h1
      go_wp2_with fail
      go_loopw [13] (fun iv wr => ∃ k : Nat, iv = .int .i64 (k : Int) ∧ k ≤ 8 ∧ LawSt w bm bc m nilV nilV nilV c (.slice pg c.groups.length cg) wr) (fun iv _ => 8 - (intOf iv).toNat)
      case atStart => exact ⟨0, rfl, by omega, hst⟩
      case round =>
        clear hst
        obtain ⟨k, rfl, hk, hst⟩ := hrel
        rename World => wr
        have hblk := hst.mb
        have k0 := hblk.cell_some 0 _ rfl; have k1 := hblk.cell_some 1 _ rfl; have k2 := hblk.cell_some 2 _ rfl; have k3 := hblk.cell_some 3 _ rfl; have k4 := hblk.cell_some 4 _ rfl; have k5 := hblk.cell_some 5 _ rfl; have k6 := hblk.cell_some 6 _ rfl; have k7 := hblk.cell_some 7 _ rfl; have k8 := hblk.cell_some 8 _ rfl; have k9 := hblk.cell_some 9 _ rfl; have k10 := hblk.cell_some 10 _ rfl; have k11 := hblk.cell_some 11 _ rfl; have k12 := hblk.cell_some 12 _ rfl; have k13 := hblk.cell_some 13 _ rfl
        have y0 := hst.cb.cell_some 0 _ rfl
        have y1 := hst.cb.cell_some 1 _ rfl
        have y2 := hst.cb.cell_some 2 _ rfl
        have y3 := hst.cb.cell_some 3 _ rfl
        by_cases hlt : k < 8
        · have l1 : decide ((k : Int) < 8) = true := decide_eq_true (by omega)
          have l2 : decide (k < 8) = true := decide_eq_true hlt
          have HK := Lib.hid (can_at hst (k : Int))
          rw [HC.out k hlt, gr_cmp] at HK
          have a1 := and8 H k hH8 hlt
          obtain ⟨r, hrr⟩ : ∃ r, ((((H &&& k : Nat) : Int)) == (k : Int)) = r := ⟨_, rfl⟩
          rw [hrr] at HK
          cases r
          all_goals
            go_wp2_with (first
              | (go_at_call 14; refine (HK.out).mono ?_; rintro e wf ⟨rfl, hb1⟩; replace hst := hst.call hb1; clear hb1 hblk k0 k1 k2 k3 k4 k5 k6 k7 k8 k9 k10 k11 k12 k13 y0 y1 y2 y3))
            go_roundw
            case rel => exact ⟨k + 1, rfl, by omega, hst⟩
            case measure => simp only [intOf]; omega
        · have l1 : decide ((k : Int) < 8) = false := decide_eq_false (by omega)
          have l2 : decide (k < 8) = false := decide_eq_false hlt
          have HO := Lib.hid (fun W (h : LawSt w bm bc m nilV nilV nilV c (.slice pg c.groups.length cg) W) => owner_at h)
          have HI2 := Lib.hid (fun W (h : LawSt w bm bc m nilV nilV nilV c (.slice pg c.groups.length cg) W) => in_at h c.gid)
          have HA := Lib.hid (fun W (h : LawSt w bm bc m nilV nilV nilV c (.slice pg c.groups.length cg) W) => awake18 W)
          rw [HOw.out] at HO
          rw [HIn.out] at HI2
          obtain ⟨r, hrr⟩ : ∃ r, (c.uid == m.uid) = r := ⟨_, rfl⟩
          rw [hrr] at HO
          clear hblk k0 k1 k2 k3 k4 k5 k6 k7 k8 k9 k10 k11 k12 k13 y0 y1 y2 y3
          go_upto_region 14 with fail
          refine region_oneUL (S := fun W => LawSt w bm bc m nilV nilV nilV c (.slice pg c.groups.length cg) W) 18
            [(fun W v => v = .agg #[.int .i64 m.mode, .int .i64 m.uid, .int .i64 m.gid, .int .i64 m.sec, .int .i64 m.nano, nilV, nilV, nilV, .int .i64 m.cap.v, .int .u64 (m.cap.p : Int), .int .u64 (m.cap.i : Int), .bool m.cap.e, .int .i64 m.cap.r, .int .i64 m.flags]),
            (fun W v => v = .agg #[.int .i64 c.uid, .int .i64 c.gid, (.slice pg c.groups.length cg), .int .i64 c.powers]),
            (fun W v => v = .bool r),
            (fun W v => v = .pointer (some ⟨bc, 0, none⟩)),
            (fun W v => v = .int .i64 c.uid),
            (fun W v => v = .pointer (some ⟨bm, 1, none⟩)),
            (fun W v => v = .int .i64 m.uid),
            (fun W v => v = .bool r),
            (fun W v => v = .bool true),
            (fun W v => v = .bool true),
            (fun W v => v = .agg #[.int .i64 c.uid, .int .i64 c.gid, (.slice pg c.groups.length cg), .int .i64 c.powers]),
            (fun W v => v = .pointer (some ⟨bc, 1, none⟩)),
            (fun W v => v = .int .i64 c.gid),
            (fun W v => v = .bool true),
            (fun W v => v = .bool true),
            (fun W v => v = .bool true),
            (fun W v => v = .bool true),
            (fun W v => v = .bool true)] (by rfl) (by kernel_rfl) (by kernel_rfl) (by kernel_rfl) (by kernel_rfl) (by rfl) (by kernel_rfl) ?hS ?hp ?hs ?he
          case hS => exact hst.call (gr_drew (Below.refl _ _))
          case hp => repeat' (first | exact trivial | refine ⟨fun _ _ _ _ h => h, ?_⟩)
          case hs =>
            simp only [List.take_succ_cons, List.take_zero]
            refine ⟨?_, ?_, ?_, ?_, ?_, ?_, ?_, ?_, ?_, ?_, ?_, ?_, ?_, ?_, ?_, ?_, ?_, ?_, trivial⟩
            · refine .inl ⟨met_none rfl, ?_⟩
              intro a W K hS hd hD hf hK
              have e10 : a.tmps.getD 10 undef = .pointer (some ⟨bm, 0, none⟩) := hf 10 (by kernel_rfl)
              have k0 := hS.mb.cell_some 0 _ rfl; have k1 := hS.mb.cell_some 1 _ rfl; have k2 := hS.mb.cell_some 2 _ rfl; have k3 := hS.mb.cell_some 3 _ rfl; have k4 := hS.mb.cell_some 4 _ rfl; have k5 := hS.mb.cell_some 5 _ rfl; have k6 := hS.mb.cell_some 6 _ rfl; have k7 := hS.mb.cell_some 7 _ rfl; have k8 := hS.mb.cell_some 8 _ rfl; have k9 := hS.mb.cell_some 9 _ rfl; have k10 := hS.mb.cell_some 10 _ rfl; have k11 := hS.mb.cell_some 11 _ rfl; have k12 := hS.mb.cell_some 12 _ rfl; have k13 := hS.mb.cell_some 13 _ rfl
              clear hd hf hD
              go_simp
              exact hK _ _ (Below.refl _ _) hS rfl (fun h => absurd h (by decide))
            · refine .inl ⟨met_none rfl, ?_⟩
              intro a W K hS hd hD hf hK
              have e11 : a.tmps.getD 11 undef = .pointer (some ⟨bc, 0, none⟩) := hf 11 (by kernel_rfl)
              have k0 := hS.cb.cell_some 0 _ rfl; have k1 := hS.cb.cell_some 1 _ rfl; have k2 := hS.cb.cell_some 2 _ rfl; have k3 := hS.cb.cell_some 3 _ rfl
              clear hd hf hD
              go_simp
              exact hK _ _ (Below.refl _ _) hS rfl (fun h => absurd h (by decide))
            · refine .inl ⟨met_none rfl, ?_⟩
              intro a W K hS hd hD hf hK
              have e57 : a.tmps.getD 57 undef = .agg #[.int .i64 m.mode, .int .i64 m.uid, .int .i64 m.gid, .int .i64 m.sec, .int .i64 m.nano, nilV, nilV, nilV, .int .i64 m.cap.v, .int .u64 (m.cap.p : Int), .int .u64 (m.cap.i : Int), .bool m.cap.e, .int .i64 m.cap.r, .int .i64 m.flags] := hd ⟨0, .data⟩ (by simp) rfl
              have e58 : a.tmps.getD 58 undef = .agg #[.int .i64 c.uid, .int .i64 c.gid, (.slice pg c.groups.length cg), .int .i64 c.powers] := hd ⟨1, .data⟩ (by simp) rfl
              clear hd hf hD
              go_simp
              go_at_call 16
              refine (HO.out _ hS).mono ?_
              rintro e w9 ⟨rfl, hb⟩
              exact hK _ _ hb (hS.call hb) rfl (fun h => absurd h (by decide))
            · refine .inl ⟨met_none rfl, ?_⟩
              intro a W K hS hd hD hf hK
              have e11 : a.tmps.getD 11 undef = .pointer (some ⟨bc, 0, none⟩) := hf 11 (by kernel_rfl)
              clear hd hf hD
              go_simp
              exact hK _ _ (Below.refl _ _) hS rfl (fun h => absurd h (by decide))
            · refine .inl ⟨met_none rfl, ?_⟩
              intro a W K hS hd hD hf hK
              have e60 : a.tmps.getD 60 undef = .pointer (some ⟨bc, 0, none⟩) := hd ⟨3, .data⟩ (by simp) rfl
              have k0 := hS.cb.cell_some 0 _ rfl
              clear hd hf hD
              go_simp
              exact hK _ _ (Below.refl _ _) hS rfl (fun h => absurd h (by decide))
            · refine .inl ⟨met_none rfl, ?_⟩
              intro a W K hS hd hD hf hK
              have e10 : a.tmps.getD 10 undef = .pointer (some ⟨bm, 0, none⟩) := hf 10 (by kernel_rfl)
              clear hd hf hD
              go_simp
              exact hK _ _ (Below.refl _ _) hS rfl (fun h => absurd h (by decide))
            · refine .inl ⟨met_none rfl, ?_⟩
              intro a W K hS hd hD hf hK
              have e62 : a.tmps.getD 62 undef = .pointer (some ⟨bm, 1, none⟩) := hd ⟨5, .data⟩ (by simp) rfl
              have k1 := hS.mb.cell_some 1 _ rfl
              clear hd hf hD
              go_simp
              exact hK _ _ (Below.refl _ _) hS rfl (fun h => absurd h (by decide))
            · refine .inl ⟨met_none rfl, ?_⟩
              intro a W K hS hd hD hf hK
              have e61 : a.tmps.getD 61 undef = .int .i64 c.uid := hd ⟨4, .data⟩ (by simp) rfl
              have e63 : a.tmps.getD 63 undef = .int .i64 m.uid := hd ⟨6, .data⟩ (by simp) rfl
              have hq := hrr
              clear hd hf hD
              go_simp
              exact hK _ _ (Below.refl _ _) hS rfl (fun h => absurd h (by decide))
            · refine .inl ⟨met_none rfl, ?_⟩
              intro a W K hS hd hD hf hK
              have e59 : a.tmps.getD 59 undef = .bool r := hd ⟨2, .data⟩ (by simp) rfl
              have e64 : a.tmps.getD 64 undef = .bool r := hd ⟨7, .data⟩ (by simp) rfl
              have hrq : (r == r) = true := by cases r <;> rfl
              clear hd hf hD
              go_simp
              exact hK _ _ (Below.refl _ _) hS rfl (fun h => absurd h (by decide))
            · refine .inl ⟨met_none rfl, ?_⟩
              intro a W K hS hd hD hf hK
              have e65 : a.tmps.getD 65 undef = .bool true := hd ⟨8, .data⟩ (by simp) rfl
              clear hd hf hD
              go_simp
              exact hK _ _ (Below.refl _ _) hS rfl (fun h => absurd h (by decide))
            · refine .inl ⟨met_some 9 true rfl (fun w v h => h), ?_⟩
              intro a W K hS hd hD hf hK
              have e11 : a.tmps.getD 11 undef = .pointer (some ⟨bc, 0, none⟩) := hf 11 (by kernel_rfl)
              have k0 := hS.cb.cell_some 0 _ rfl; have k1 := hS.cb.cell_some 1 _ rfl; have k2 := hS.cb.cell_some 2 _ rfl; have k3 := hS.cb.cell_some 3 _ rfl
              clear hd hf hD
              go_simp
              exact hK _ _ (Below.refl _ _) hS rfl (fun h => absurd h (by decide))
            · refine .inl ⟨met_some 9 true rfl (fun w v h => h), ?_⟩
              intro a W K hS hd hD hf hK
              have e11 : a.tmps.getD 11 undef = .pointer (some ⟨bc, 0, none⟩) := hf 11 (by kernel_rfl)
              clear hd hf hD
              go_simp
              exact hK _ _ (Below.refl _ _) hS rfl (fun h => absurd h (by decide))
            · refine .inl ⟨met_some 9 true rfl (fun w v h => h), ?_⟩
              intro a W K hS hd hD hf hK
              have e68 : a.tmps.getD 68 undef = .pointer (some ⟨bc, 1, none⟩) := hd ⟨11, .data⟩ (by simp) rfl
              have k1 := hS.cb.cell_some 1 _ rfl
              clear hd hf hD
              go_simp
              exact hK _ _ (Below.refl _ _) hS rfl (fun h => absurd h (by decide))
            · refine .inl ⟨met_some 9 true rfl (fun w v h => h), ?_⟩
              intro a W K hS hd hD hf hK
              have e67 : a.tmps.getD 67 undef = .agg #[.int .i64 c.uid, .int .i64 c.gid, (.slice pg c.groups.length cg), .int .i64 c.powers] := hd ⟨10, .data⟩ (by simp) rfl
              have e69 : a.tmps.getD 69 undef = .int .i64 c.gid := hd ⟨12, .data⟩ (by simp) rfl
              clear hd hf hD
              go_simp
              go_at_call 12
              refine (HI2.out _ hS).mono ?_
              rintro e w9 ⟨rfl, hb⟩
              exact hK _ _ hb (hS.call hb) rfl (fun h => absurd h (by decide))
            · refine .inl ⟨met_none rfl, ?_⟩
              intro a W K hS hd hD hf hK
              have e66 : a.tmps.getD 66 undef = .bool true := hd ⟨9, .data⟩ (by simp) rfl
              have e70 : a.tmps.getD 70 undef = .bool true := hd ⟨13, .data⟩ (by simp) rfl
              clear hd hf hD
              go_simp
              exact hK _ _ (Below.refl _ _) hS rfl (fun h => absurd h (by decide))
            · refine .inl ⟨met_none rfl, ?_⟩
              intro a W K hS hd hD hf hK
              have e71 : a.tmps.getD 71 undef = .bool true := hd ⟨14, .data⟩ (by simp) rfl
              clear hd hf hD
              go_simp
              exact hK _ _ (Below.refl _ _) hS rfl (fun h => absurd h (by decide))
            · refine .inl ⟨met_some 15 true rfl (fun w v h => h), ?_⟩
              intro a W K hS hd hD hf hK
              clear hd hf hD
              go_simp
              go_at_call 11
              refine (HA.out _ hS).mono ?_
              rintro e w9 ⟨rfl, hb⟩
              exact hK _ _ hb (hS.call hb) rfl (fun h => absurd h (by decide))
            · refine .inl ⟨met_none rfl, ?_⟩
              intro a W K hS hd hD hf hK
              have e72 : a.tmps.getD 72 undef = .bool true := hd ⟨15, .data⟩ (by simp) rfl
              have e73 : a.tmps.getD 73 undef = .bool true := hd ⟨16, .data⟩ (by simp) rfl
              clear hd hf hD
              go_simp
              exact hK _ _ (Below.refl _ _) hS rfl (fun h => absurd h (by decide))
          case he =>
            intro vals w6 K hS6 hV hK
            have e17 := hV 17 (by omega)
            clear hV
            simp only [List.getD_cons_succ, List.getD_cons_zero] at e17
            refine Later.mk ?_
            simp only [List.append_eq, List.cons_append, List.nil_append, setN, Nat.reduceAdd, List.setIfInBounds_toArray, List.set_cons_succ, List.set_cons_zero]
            rw [show vals 17 = _ from e17]
            clear e17
            go_simp
            refine hK _ _ ?_
            clear hK
            go_wp2_with fail
            go_ret
            exact ⟨by rfl, hS6.below⟩
end Go.Proofs.Ytpfidbcnefnhcaa
