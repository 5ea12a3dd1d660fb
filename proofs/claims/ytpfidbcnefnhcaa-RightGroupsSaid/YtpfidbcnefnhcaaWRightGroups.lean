/- The law RightGroups, walked. -/
import Derived.Test.YtpfidbcnefnhcaaRightMade
namespace Go.Proofs.Ytpfidbcnefnhcaa
open Go.RowKit
open MetaM RightM AclM
set_option linter.unusedVariables false
theorem ace_cells {gb off z ca : Nat} {l : List Ace} {W : World} (h : At AclW.aceE (.slice (some ⟨gb, off, none⟩) z ca) l W) {k : Nat} (hk : k < l.length) :
    W.cell? ⟨gb, off + k * 3, none⟩ = some (.int .i64 l[k].1) ∧ W.cell? ⟨gb, off + k * 3 + 1, none⟩ = some (.int .i64 l[k].2.1) := by
  obtain ⟨p, cap, h1, _, h3⟩ := AclW.ace_look h
  obtain ⟨g, o, h4, _, c0, c1, _⟩ := h3 k hk
  rw [h4] at h1
  injection h1 with h1
  injection h1 with h1
  injection h1 with h1 h2
  subst h1 h2
  exact ⟨c0, c1⟩
theorem ace_ptr {pa : Option Addr} {z ca : Nat} {l : List Ace} {W : World} (h : At AclW.aceE (.slice pa z ca) l W) {k : Nat} (hk : k < l.length) : ∃ gb off, pa = some ⟨gb, off, none⟩ := by
  obtain ⟨p, cap, h1, _, h3⟩ := AclW.ace_look h
  obtain ⟨g, o, h4, _⟩ := h3 k hk
  injection h1 with h1
  exact ⟨g, o, h1.trans h4⟩
theorem any_named {m : Mt} {c : Cr} {a : Ace} (ha : a ∈ m.acl) (h4 : a.1 = 4) (hi : inM c a.2.1 = true) : (listM m).any (grpM m c) = true := by
  have hl : listM m = m.acl := if_neg (fun e => by rw [e] at ha; exact absurd ha (by simp))
  rw [hl, List.any_eq_true]
  exact ⟨a, ha, by unfold grpM; rw [decide_eq_true h4, hi]; simp⟩
theorem any_group {m : Mt} {c : Cr} (hok : okL m) (hi : inM c m.gid = true) : (listM m).any (grpM m c) = true := by
  unfold listM
  rcases hok with h | h
  · rw [if_pos h]
    unfold fromL grpM
    simp [hi]
  · rw [if_neg (may_ne h)]
    obtain ⟨a, h1, h2, _⟩ := permR_mem (may_has h).2.1
    rw [List.any_eq_true]
    exact ⟨a, h1, by unfold grpM; rw [decide_eq_true h2, hi]; simp⟩
attribute [local irreducible] Row At
structure MoreSt (w : World) (bm bc bd : Nat) (m : Mt) (va vd vx : Value) (c : Cr) (gv : Value) (y : Int) (gw : Value) (W : World) : Prop where
  st : LawSt w bm bc m va vd vx c gv W
  db : BlkIs W bd 33 #[.int .i64 c.uid, .int .i64 c.gid, gw, .int .i64 c.powers]
  at2 : At intE gw (c.groups ++ [y]) W
  len : (c.groups ++ [y]).length ≤ 1000000
theorem MoreSt.call {w : World} {bm bc bd : Nat} {m : Mt} {va vd vx : Value} {c : Cr} {gv : Value} {y : Int} {gw : Value} {W W' : World} (h : MoreSt w bm bc bd m va vd vx c gv y gw W) (hb : Below W.heap.size W W') : MoreSt w bm bc bd m va vd vx c gv y gw W' :=
  ⟨h.st.call hb, h.db.kept hb h.db.size, h.at2.call hb, h.len⟩
theorem MoreSt.can {w : World} {bm bc bd : Nat} {m : Mt} {va vd vx : Value} {c : Cr} {gv : Value} {y : Int} {gw : Value} {W : World} (h : MoreSt w bm bc bd m va vd vx c gv y gw W) (x : Int) :
    Calls Try.prog 14 #[.agg #[.int .i64 m.mode, .int .i64 m.uid, .int .i64 m.gid, .int .i64 m.sec, .int .i64 m.nano, va, vd, vx, .int .i64 m.cap.v, .int .u64 (m.cap.p : Int), .int .u64 (m.cap.i : Int), .bool m.cap.e, .int .i64 m.cap.r, .int .i64 m.flags], .agg #[.int .i64 c.uid, .int .i64 c.gid, gw, .int .i64 c.powers], .int .i64 x] W fun e w' => e = .returned (.bool (canM m { c with groups := c.groups ++ [y] } x)) ∧ Below W.heap.size W w' :=
  can_any m va vd vx { c with groups := c.groups ++ [y] } gw x W h.st.ra ⟨h.at2, h.len⟩
theorem MoreSt.inn {w : World} {bm bc bd : Nat} {m : Mt} {va vd vx : Value} {c : Cr} {gv : Value} {y : Int} {gw : Value} {W : World} (h : MoreSt w bm bc bd m va vd vx c gv y gw W) (x : Int) :
    Calls Try.prog 12 #[.agg #[.int .i64 c.uid, .int .i64 c.gid, gw, .int .i64 c.powers], .int .i64 x] W fun e w' => e = .returned (.bool (inM { c with groups := c.groups ++ [y] } x)) ∧ Below W.heap.size W w' :=
  in_any { c with groups := c.groups ++ [y] } gw x W ⟨h.at2, h.len⟩
theorem int_none (B g : Nat) (X : World) (hg : X.heap.size = g) (hB : B ≤ X.heap.size) : Row intE B (.slice (some ⟨g, 0, none⟩) 0 0) [] (X.alloc (.cells #[] 3)) := by
  subst hg
  exact lit_row (E := intE) X [] #[] B 0 rfl hB (by simp) rfl
set_option maxHeartbeats 6400000 in
set_option maxRecDepth 100000 in
theorem rightGroups_walk (a0 : Option Addr) (len0 cap0 : Nat) (z0 : List Int) (a1 : Option Addr) (len1 cap1 : Nat) (z1 : List Int) (a2 : Int) (a3 : Int) (w : World) (w0 : IsRow .u8 w a0 len0 cap0 z0) (w1 : IsRow .u8 w a1 len1 cap1 z1) (w2 : (Lit.int .u8 a2).wf = true) (w3 : (Lit.int .u8 a3).wf = true) :
    Calls Try.prog 9 #[.slice a0 len0 cap0, .slice a1 len1 cap1, .int .u8 a2, .int .u8 a3] w fun e w' => e = .returned (.bool true) ∧ Below w.heap.size w w' := by
  have b2 : 0 ≤ a2 ∧ a2 ≤ 255 := by have h := w2; simp only [Lit.wf, Bool.and_eq_true, decide_eq_true_eq] at h; exact h
  have b3 : 0 ≤ a3 ∧ a3 ≤ 255 := by have h := w3; simp only [Lit.wf, Bool.and_eq_true, decide_eq_true_eq] at h; exact h
  have x2 : IntKind.i64.wrap a2 = a2 := by rw [IntKind.wrap_i64]; omega
  have x3 : IntKind.i64.wrap a3 = a3 := by rw [IntKind.wrap_i64]; omega
  obtain ⟨x, hx⟩ : ∃ k : Nat, a3 % 8 = (k : Int) := ⟨(a3 % 8).toNat, by omega⟩
  have x8 : x < 8 := by omega
  have t3 : a3.tmod 8 = (x : Int) := by rw [Int.tmod_eq_emod_of_nonneg b3.1]; exact hx
  obtain ⟨y, t2⟩ : ∃ y, a2.tmod 16 = y := ⟨_, rfl⟩
  have HMk := Lib.hid (metaMake_any a0 len0 cap0 z0 1 w w0 (isRow_le w0) (by unfold kAny; omega))
  have HCr := Lib.hid (fun W (hb : Below w.heap.size w W) => cred_few a1 len1 cap1 z1 W (isRow_call w1 hb) (isRow_le w1))
  generalize madeM z0 len0 1 = m at *
  unfold metaC at HMk
  unfold credC at HCr
  clear b2 b3 hx w0 w1 w2 w3
  obtain ⟨z, hz⟩ : ∃ z, m.acl.length = z := ⟨_, rfl⟩
  go_enter Try.func9, Try.ntmps9
  go_upto_region 4 with (first
    | (go_at_call 20; refine (HMk.out).mono ?_; rintro e wa ⟨⟨⟨va, vd, vx, rfl, hma⟩, hmm, hxo⟩, hba⟩; clear hxo; have HMM := Lib.hid hmm; clear hmm; obtain ⟨pa, ca, hpa, _⟩ := hma.acl.shape; rw [hz] at hpa; subst hpa; obtain ⟨pd, cd, rfl, _⟩ := hma.dfl.shape; obtain ⟨px, cx, rfl, _⟩ := hma.xat.shape)
    | (go_at_call 21; refine (HCr.out _ (gr_alloc hba _)).mono ?_; rintro e wb ⟨⟨c, gv, rfl, hcr, hpw, hg6⟩, hbb⟩; clear hpw; obtain ⟨pg, cg, rfl, _⟩ := hcr.groups.shape))
  obtain ⟨W, hW⟩ : ∃ W, wb.alloc (.cells #[.int .i64 c.uid, .int .i64 c.gid, .slice pg c.groups.length cg, .int .i64 c.powers] 33) = W := ⟨_, rfl⟩
  obtain ⟨bm, hbm⟩ : ∃ b, wa.heap.size = b := ⟨_, rfl⟩
  obtain ⟨bc, hbc⟩ : ∃ b, wb.heap.size = b := ⟨_, rfl⟩
  have hst : LawSt w bm bc m (.slice pa z ca) (.slice pd m.dfl.length cd) (.slice px m.xat.length cx) c (.slice pg c.groups.length cg) W := by
    have h1 : Below w.heap.size w wb := gr_call (gr_alloc hba _) hbb
    have hW2 : Below wb.heap.size wb W := by rw [← hW]; exact gr_alloc (Below.refl _ _) _
    have q0 := blk_of hbm 30 #[.int .i64 m.mode, .int .i64 m.uid, .int .i64 m.gid, .int .i64 m.sec, .int .i64 m.nano, .slice pa z ca, .slice pd m.dfl.length cd, .slice px m.xat.length cx, .int .i64 m.cap.v, .int .u64 (m.cap.p : Int), .int .u64 (m.cap.i : Int), .bool m.cap.e, .int .i64 m.cap.r, .int .i64 m.flags]
    have q1 := q0.kept hbb q0.size
    refine ⟨gr_call h1 hW2, q1.kept hW2 q1.size, ?_, ?_, hcr.call hW2⟩
    · rw [← hW]; exact blk_of hbc _ _
    · exact ((RightAt.made hma HMM.out).call (gr_alloc (Below.refl _ _) _)).call hbb |>.call hW2
  rw [hW]
  simp only [hbm, hbc]
  clear hW hbm hbc hba hbb hcr hma HMk HCr HMM t3 x3 wa wb
  have Hz := Lib.hid hz
  clear hz
  go_wp2_with fail
  go_loopw [12, 13] (fun bv iv wr => ∃ (k : Nat) (b : Bool), bv = .bool b ∧ iv = .int .i64 (k : Int) ∧ k ≤ z ∧ LawSt w bm bc m (.slice pa z ca) (.slice pd m.dfl.length cd) (.slice px m.xat.length cx) c (.slice pg c.groups.length cg) wr ∧ Hid (b = true → (listM m).any (grpM m c) = true)) (fun _ iv _ => z - (intOf iv).toNat)
  case atStart => exact ⟨0, false, rfl, rfl, by omega, hst, Lib.hid (fun h => absurd h (by decide))⟩
  case round =>
    clear hst
    obtain ⟨k, b, rfl, rfl, hk, hst, Hb⟩ := hrel
    rename World => wr
    have k5 := hst.mb.cell_some 5 _ rfl
    have hz6 : z ≤ 1000000 := by have h := hst.ra.len; rw [Hz.out] at h; exact h
    by_cases hlt : k < z
    · have l1 : decide ((k : Int) < (z : Int)) = true := decide_eq_true (by omega)
      have l2 : decide (k < z) = true := decide_eq_true hlt
      have hk' : k < m.acl.length := by rw [Hz.out]; exact hlt
      obtain ⟨gb, off, rfl⟩ := ace_ptr hst.ra.acl hk'
      have Hat := Lib.hid (fun W (h : At AclW.aceE (.slice (some ⟨gb, off, none⟩) z ca) m.acl W) => ace_cells h hk')
      have HI := Lib.hid (fun h4 hi => any_named (m := m) (c := c) (List.getElem_mem hk') h4 hi)
      generalize m.acl[k] = a at *
      obtain ⟨t, d, q⟩ := a
      simp only at Hat HI
      go_upto_region 8 with fail
      cases b
      · by_cases h4 : t = 4
        · have e4 : (t == 4) = true := beq_iff_eq.2 h4
          obtain ⟨i, hi⟩ : ∃ i, inM c d = i := ⟨_, rfl⟩
          have HC := Lib.hid (fun W (h : LawSt w bm bc m (.slice (some ⟨gb, off, none⟩) z ca) (.slice pd m.dfl.length cd) (.slice px m.xat.length cx) c (.slice pg c.groups.length cg) W) => in_at h d)
          rw [hi] at HC
          have Hb2 := Lib.hid (fun (h : i = true) => HI.out h4 (hi.trans h))
          clear h4 hi HI Hb
          refine region_oneUL (S := fun W => LawSt w bm bc m (.slice (some ⟨gb, off, none⟩) z ca) (.slice pd m.dfl.length cd) (.slice px m.xat.length cx) c (.slice pg c.groups.length cg) W) 20
            [(fun W v => v = .bool false),
            (fun W v => v = .bool false),
            (fun W v => v = .pointer (some ⟨bm, 5, none⟩)),
            (fun W v => v = .slice (some ⟨gb, off, none⟩) z ca),
            (fun W v => v = .int .i64 (k : Int)),
            (fun W v => v = .pointer (some ⟨gb, off + k * 3, none⟩)),
            (fun W v => v = .pointer (some ⟨gb, off + k * 3, none⟩)),
            (fun W v => v = .int .i64 t),
            (fun W v => v = .bool true),
            (fun W v => v = .bool true),
            (fun W v => v = .agg #[.int .i64 c.uid, .int .i64 c.gid, (.slice pg c.groups.length cg), .int .i64 c.powers]),
            (fun W v => v = .pointer (some ⟨bm, 5, none⟩)),
            (fun W v => v = .slice (some ⟨gb, off, none⟩) z ca),
            (fun W v => v = .int .i64 (k : Int)),
            (fun W v => v = .pointer (some ⟨gb, off + k * 3, none⟩)),
            (fun W v => v = .pointer (some ⟨gb, off + k * 3 + 1, none⟩)),
            (fun W v => v = .int .i64 d),
            (fun W v => v = .bool i),
            (fun W v => v = .bool i),
            (fun W v => v = .bool i)] (by rfl) (by kernel_rfl) (by kernel_rfl) (by kernel_rfl) (by kernel_rfl) (by rfl) (by kernel_rfl) ?hS ?hp ?hs ?he
          case hS => exact hst.call (gr_drew (Below.refl _ _))
          case hp => repeat' (first | exact trivial | refine ⟨fun _ _ _ _ h => h, ?_⟩)
          case hs =>
            simp only [List.take_succ_cons, List.take_zero]
            refine ⟨?_, ?_, ?_, ?_, ?_, ?_, ?_, ?_, ?_, ?_, ?_, ?_, ?_, ?_, ?_, ?_, ?_, ?_, ?_, ?_, trivial⟩
            · refine .inl ⟨met_none rfl, ?_⟩
              intro a W K hS hd hD hf hK
              have e12 : a.tmps.getD 12 undef = .bool false := hf 12 (by kernel_rfl)
              clear hd hf hD
              go_simp
              exact hK _ _ (Below.refl _ _) hS rfl (fun h => absurd h (by decide))
            · refine .inl ⟨met_none rfl, ?_⟩
              intro a W K hS hd hD hf hK
              have e29 : a.tmps.getD 29 undef = .bool false := hd ⟨0, .data⟩ (by simp) rfl
              clear hd hf hD
              go_simp
              exact hK _ _ (Below.refl _ _) hS rfl (fun h => absurd h (by decide))
            · refine .inl ⟨met_some 1 false rfl (fun w v h => h), ?_⟩
              intro a W K hS hd hD hf hK
              have e9 : a.tmps.getD 9 undef = .pointer (some ⟨bm, 0, none⟩) := hf 9 (by kernel_rfl)
              clear hd hf hD
              go_simp
              exact hK _ _ (Below.refl _ _) hS rfl (fun h => absurd h (by decide))
            · refine .inl ⟨met_some 1 false rfl (fun w v h => h), ?_⟩
              intro a W K hS hd hD hf hK
              have e31 : a.tmps.getD 31 undef = .pointer (some ⟨bm, 5, none⟩) := hd ⟨2, .data⟩ (by simp) rfl
              have k5 := hS.mb.cell_some 5 _ rfl
              clear hd hf hD
              go_simp
              exact hK _ _ (Below.refl _ _) hS rfl (fun h => absurd h (by decide))
            · refine .inl ⟨met_some 1 false rfl (fun w v h => h), ?_⟩
              intro a W K hS hd hD hf hK
              have e13 : a.tmps.getD 13 undef = .int .i64 (k : Int) := hf 13 (by kernel_rfl)
              clear hd hf hD
              go_simp
              exact hK _ _ (Below.refl _ _) hS rfl (fun h => absurd h (by decide))
            · refine .inl ⟨met_some 1 false rfl (fun w v h => h), ?_⟩
              intro a W K hS hd hD hf hK
              have e32 : a.tmps.getD 32 undef = .slice (some ⟨gb, off, none⟩) z ca := hd ⟨3, .data⟩ (by simp) rfl
              have e33 : a.tmps.getD 33 undef = .int .i64 (k : Int) := hd ⟨4, .data⟩ (by simp) rfl
              clear hd hf hD
              go_simp
              exact hK _ _ (Below.refl _ _) hS rfl (fun h => absurd h (by decide))
            · refine .inl ⟨met_some 1 false rfl (fun w v h => h), ?_⟩
              intro a W K hS hd hD hf hK
              have e34 : a.tmps.getD 34 undef = .pointer (some ⟨gb, off + k * 3, none⟩) := hd ⟨5, .data⟩ (by simp) rfl
              clear hd hf hD
              go_simp
              exact hK _ _ (Below.refl _ _) hS rfl (fun h => absurd h (by decide))
            · refine .inl ⟨met_some 1 false rfl (fun w v h => h), ?_⟩
              intro a W K hS hd hD hf hK
              have e35 : a.tmps.getD 35 undef = .pointer (some ⟨gb, off + k * 3, none⟩) := hd ⟨6, .data⟩ (by simp) rfl
              have z0 := (Hat.out _ hS.ra.acl).1
              clear hd hf hD
              go_simp
              exact hK _ _ (Below.refl _ _) hS rfl (fun h => absurd h (by decide))
            · refine .inl ⟨met_some 1 false rfl (fun w v h => h), ?_⟩
              intro a W K hS hd hD hf hK
              have e36 : a.tmps.getD 36 undef = .int .i64 t := hd ⟨7, .data⟩ (by simp) rfl
              clear hd hf hD
              go_simp
              exact hK _ _ (Below.refl _ _) hS rfl (fun h => absurd h (by decide))
            · refine .inl ⟨met_some 1 false rfl (fun w v h => h), ?_⟩
              intro a W K hS hd hD hf hK
              have e37 : a.tmps.getD 37 undef = .bool true := hd ⟨8, .data⟩ (by simp) rfl
              clear hd hf hD
              go_simp
              exact hK _ _ (Below.refl _ _) hS rfl (fun h => absurd h (by decide))
            · refine .inl ⟨met_some 9 true rfl (fun w v h => h), ?_⟩
              intro a W K hS hd hD hf hK
              have e10 : a.tmps.getD 10 undef = .pointer (some ⟨bc, 0, none⟩) := hf 10 (by kernel_rfl)
              have k0 := hS.cb.cell_some 0 _ rfl; have k1 := hS.cb.cell_some 1 _ rfl; have k2 := hS.cb.cell_some 2 _ rfl; have k3 := hS.cb.cell_some 3 _ rfl
              clear hd hf hD
              go_simp
              exact hK _ _ (Below.refl _ _) hS rfl (fun h => absurd h (by decide))
            · refine .inl ⟨met_some 9 true rfl (fun w v h => h), ?_⟩
              intro a W K hS hd hD hf hK
              have e9 : a.tmps.getD 9 undef = .pointer (some ⟨bm, 0, none⟩) := hf 9 (by kernel_rfl)
              clear hd hf hD
              go_simp
              exact hK _ _ (Below.refl _ _) hS rfl (fun h => absurd h (by decide))
            · refine .inl ⟨met_some 9 true rfl (fun w v h => h), ?_⟩
              intro a W K hS hd hD hf hK
              have e40 : a.tmps.getD 40 undef = .pointer (some ⟨bm, 5, none⟩) := hd ⟨11, .data⟩ (by simp) rfl
              have k5 := hS.mb.cell_some 5 _ rfl
              clear hd hf hD
              go_simp
              exact hK _ _ (Below.refl _ _) hS rfl (fun h => absurd h (by decide))
            · refine .inl ⟨met_some 9 true rfl (fun w v h => h), ?_⟩
              intro a W K hS hd hD hf hK
              have e13 : a.tmps.getD 13 undef = .int .i64 (k : Int) := hf 13 (by kernel_rfl)
              clear hd hf hD
              go_simp
              exact hK _ _ (Below.refl _ _) hS rfl (fun h => absurd h (by decide))
            · refine .inl ⟨met_some 9 true rfl (fun w v h => h), ?_⟩
              intro a W K hS hd hD hf hK
              have e41 : a.tmps.getD 41 undef = .slice (some ⟨gb, off, none⟩) z ca := hd ⟨12, .data⟩ (by simp) rfl
              have e42 : a.tmps.getD 42 undef = .int .i64 (k : Int) := hd ⟨13, .data⟩ (by simp) rfl
              clear hd hf hD
              go_simp
              exact hK _ _ (Below.refl _ _) hS rfl (fun h => absurd h (by decide))
            · refine .inl ⟨met_some 9 true rfl (fun w v h => h), ?_⟩
              intro a W K hS hd hD hf hK
              have e43 : a.tmps.getD 43 undef = .pointer (some ⟨gb, off + k * 3, none⟩) := hd ⟨14, .data⟩ (by simp) rfl
              clear hd hf hD
              go_simp
              exact hK _ _ (Below.refl _ _) hS rfl (fun h => absurd h (by decide))
            · refine .inl ⟨met_some 9 true rfl (fun w v h => h), ?_⟩
              intro a W K hS hd hD hf hK
              have e44 : a.tmps.getD 44 undef = .pointer (some ⟨gb, off + k * 3 + 1, none⟩) := hd ⟨15, .data⟩ (by simp) rfl
              have z0 := (Hat.out _ hS.ra.acl).2
              clear hd hf hD
              go_simp
              exact hK _ _ (Below.refl _ _) hS rfl (fun h => absurd h (by decide))
            · refine .inl ⟨met_some 9 true rfl (fun w v h => h), ?_⟩
              intro a W K hS hd hD hf hK
              have e39 : a.tmps.getD 39 undef = .agg #[.int .i64 c.uid, .int .i64 c.gid, (.slice pg c.groups.length cg), .int .i64 c.powers] := hd ⟨10, .data⟩ (by simp) rfl
              have e45 : a.tmps.getD 45 undef = .int .i64 d := hd ⟨16, .data⟩ (by simp) rfl
              clear hd hf hD
              go_simp
              go_at_call 12
              refine (HC.out _ hS).mono ?_
              rintro e w9 ⟨rfl, hb⟩
              exact hK _ _ hb (hS.call hb) rfl (fun h => absurd h (by decide))
            · refine .inl ⟨met_some 1 false rfl (fun w v h => h), ?_⟩
              intro a W K hS hd hD hf hK
              have e38 : a.tmps.getD 38 undef = .bool true := hd ⟨9, .data⟩ (by simp) rfl
              have e46 : a.tmps.getD 46 undef = .bool i := hd ⟨17, .data⟩ (by simp) rfl
              clear hd hf hD
              go_simp
              exact hK _ _ (Below.refl _ _) hS rfl (fun h => absurd h (by decide))
            · refine .inl ⟨met_none rfl, ?_⟩
              intro a W K hS hd hD hf hK
              have e30 : a.tmps.getD 30 undef = .bool false := hd ⟨1, .data⟩ (by simp) rfl
              have e47 : a.tmps.getD 47 undef = .bool i := hd ⟨18, .data⟩ (by simp) rfl
              clear hd hf hD
              go_simp
              exact hK _ _ (Below.refl _ _) hS rfl (fun h => absurd h (by decide))
          case he =>
            intro vals w6 K hS6 hV hK
            have e19 := hV 19 (by omega)
            clear hV
            simp only [List.getD_cons_succ, List.getD_cons_zero] at e19
            refine Later.mk ?_
            simp only [List.append_eq, List.cons_append, List.nil_append, setN, Nat.reduceAdd, List.setIfInBounds_toArray, List.set_cons_succ, List.set_cons_zero]
            rw [show vals 19 = _ from e19]
            clear e19
            go_simp
            refine hK _ _ ?_
            clear hK
            go_wp2_with fail
            go_roundw
            case rel => exact ⟨k + 1, i, rfl, rfl, by omega, hS6, Hb2⟩
            case measure => simp only [intOf]; omega
        · have e4 : (t == 4) = false := beq_eq_false_iff_ne.2 h4
          clear HI h4
          refine region_oneUL (S := fun W => LawSt w bm bc m (.slice (some ⟨gb, off, none⟩) z ca) (.slice pd m.dfl.length cd) (.slice px m.xat.length cx) c (.slice pg c.groups.length cg) W) 20
            [(fun W v => v = .bool false),
            (fun W v => v = .bool false),
            (fun W v => v = .pointer (some ⟨bm, 5, none⟩)),
            (fun W v => v = .slice (some ⟨gb, off, none⟩) z ca),
            (fun W v => v = .int .i64 (k : Int)),
            (fun W v => v = .pointer (some ⟨gb, off + k * 3, none⟩)),
            (fun W v => v = .pointer (some ⟨gb, off + k * 3, none⟩)),
            (fun W v => v = .int .i64 t),
            (fun W v => v = .bool false),
            (fun W v => v = .bool false),
            (fun W v => v = undef),
            (fun W v => v = undef),
            (fun W v => v = undef),
            (fun W v => v = undef),
            (fun W v => v = undef),
            (fun W v => v = undef),
            (fun W v => v = undef),
            (fun W v => v = undef),
            (fun W v => v = .bool false),
            (fun W v => v = .bool false)] (by rfl) (by kernel_rfl) (by kernel_rfl) (by kernel_rfl) (by kernel_rfl) (by rfl) (by kernel_rfl) ?hS ?hp ?hs ?he
          case hS => exact hst.call (gr_drew (Below.refl _ _))
          case hp => repeat' (first | exact trivial | refine ⟨fun _ _ _ _ h => h, ?_⟩)
          case hs =>
            simp only [List.take_succ_cons, List.take_zero]
            refine ⟨?_, ?_, ?_, ?_, ?_, ?_, ?_, ?_, ?_, ?_, ?_, ?_, ?_, ?_, ?_, ?_, ?_, ?_, ?_, ?_, trivial⟩
            · refine .inl ⟨met_none rfl, ?_⟩
              intro a W K hS hd hD hf hK
              have e12 : a.tmps.getD 12 undef = .bool false := hf 12 (by kernel_rfl)
              clear hd hf hD
              go_simp
              exact hK _ _ (Below.refl _ _) hS rfl (fun h => absurd h (by decide))
            · refine .inl ⟨met_none rfl, ?_⟩
              intro a W K hS hd hD hf hK
              have e29 : a.tmps.getD 29 undef = .bool false := hd ⟨0, .data⟩ (by simp) rfl
              clear hd hf hD
              go_simp
              exact hK _ _ (Below.refl _ _) hS rfl (fun h => absurd h (by decide))
            · refine .inl ⟨met_some 1 false rfl (fun w v h => h), ?_⟩
              intro a W K hS hd hD hf hK
              have e9 : a.tmps.getD 9 undef = .pointer (some ⟨bm, 0, none⟩) := hf 9 (by kernel_rfl)
              clear hd hf hD
              go_simp
              exact hK _ _ (Below.refl _ _) hS rfl (fun h => absurd h (by decide))
            · refine .inl ⟨met_some 1 false rfl (fun w v h => h), ?_⟩
              intro a W K hS hd hD hf hK
              have e31 : a.tmps.getD 31 undef = .pointer (some ⟨bm, 5, none⟩) := hd ⟨2, .data⟩ (by simp) rfl
              have k5 := hS.mb.cell_some 5 _ rfl
              clear hd hf hD
              go_simp
              exact hK _ _ (Below.refl _ _) hS rfl (fun h => absurd h (by decide))
            · refine .inl ⟨met_some 1 false rfl (fun w v h => h), ?_⟩
              intro a W K hS hd hD hf hK
              have e13 : a.tmps.getD 13 undef = .int .i64 (k : Int) := hf 13 (by kernel_rfl)
              clear hd hf hD
              go_simp
              exact hK _ _ (Below.refl _ _) hS rfl (fun h => absurd h (by decide))
            · refine .inl ⟨met_some 1 false rfl (fun w v h => h), ?_⟩
              intro a W K hS hd hD hf hK
              have e32 : a.tmps.getD 32 undef = .slice (some ⟨gb, off, none⟩) z ca := hd ⟨3, .data⟩ (by simp) rfl
              have e33 : a.tmps.getD 33 undef = .int .i64 (k : Int) := hd ⟨4, .data⟩ (by simp) rfl
              clear hd hf hD
              go_simp
              exact hK _ _ (Below.refl _ _) hS rfl (fun h => absurd h (by decide))
            · refine .inl ⟨met_some 1 false rfl (fun w v h => h), ?_⟩
              intro a W K hS hd hD hf hK
              have e34 : a.tmps.getD 34 undef = .pointer (some ⟨gb, off + k * 3, none⟩) := hd ⟨5, .data⟩ (by simp) rfl
              clear hd hf hD
              go_simp
              exact hK _ _ (Below.refl _ _) hS rfl (fun h => absurd h (by decide))
            · refine .inl ⟨met_some 1 false rfl (fun w v h => h), ?_⟩
              intro a W K hS hd hD hf hK
              have e35 : a.tmps.getD 35 undef = .pointer (some ⟨gb, off + k * 3, none⟩) := hd ⟨6, .data⟩ (by simp) rfl
              have z0 := (Hat.out _ hS.ra.acl).1
              clear hd hf hD
              go_simp
              exact hK _ _ (Below.refl _ _) hS rfl (fun h => absurd h (by decide))
            · refine .inl ⟨met_some 1 false rfl (fun w v h => h), ?_⟩
              intro a W K hS hd hD hf hK
              have e36 : a.tmps.getD 36 undef = .int .i64 t := hd ⟨7, .data⟩ (by simp) rfl
              clear hd hf hD
              go_simp
              exact hK _ _ (Below.refl _ _) hS rfl (fun h => absurd h (by decide))
            · refine .inl ⟨met_some 1 false rfl (fun w v h => h), ?_⟩
              intro a W K hS hd hD hf hK
              have e37 : a.tmps.getD 37 undef = .bool false := hd ⟨8, .data⟩ (by simp) rfl
              clear hd hf hD
              go_simp
              exact hK _ _ (Below.refl _ _) hS rfl (fun h => absurd h (by decide))
            · exact .inr ⟨⟨9, true, rfl, fun w v h => .inl h⟩, rfl, fun _ => rfl⟩
            · exact .inr ⟨⟨9, true, rfl, fun w v h => .inl h⟩, rfl, fun _ => rfl⟩
            · exact .inr ⟨⟨9, true, rfl, fun w v h => .inl h⟩, rfl, fun _ => rfl⟩
            · exact .inr ⟨⟨9, true, rfl, fun w v h => .inl h⟩, rfl, fun _ => rfl⟩
            · exact .inr ⟨⟨9, true, rfl, fun w v h => .inl h⟩, rfl, fun _ => rfl⟩
            · exact .inr ⟨⟨9, true, rfl, fun w v h => .inl h⟩, rfl, fun _ => rfl⟩
            · exact .inr ⟨⟨9, true, rfl, fun w v h => .inl h⟩, rfl, fun _ => rfl⟩
            · exact .inr ⟨⟨9, true, rfl, fun w v h => .inl h⟩, rfl, fun _ => rfl⟩
            · refine .inl ⟨met_some 1 false rfl (fun w v h => h), ?_⟩
              intro a W K hS hd hD hf hK
              have e38 : a.tmps.getD 38 undef = .bool false := hd ⟨9, .data⟩ (by simp) rfl
              have e46 : a.tmps.getD 46 undef = undef := hd ⟨17, .data⟩ (by simp) rfl
              clear hd hf hD
              go_simp
              exact hK _ _ (Below.refl _ _) hS rfl (fun h => absurd h (by decide))
            · refine .inl ⟨met_none rfl, ?_⟩
              intro a W K hS hd hD hf hK
              have e30 : a.tmps.getD 30 undef = .bool false := hd ⟨1, .data⟩ (by simp) rfl
              have e47 : a.tmps.getD 47 undef = .bool false := hd ⟨18, .data⟩ (by simp) rfl
              clear hd hf hD
              go_simp
              exact hK _ _ (Below.refl _ _) hS rfl (fun h => absurd h (by decide))
          case he =>
            intro vals w6 K hS6 hV hK
            have e19 := hV 19 (by omega)
            clear hV
            simp only [List.getD_cons_succ, List.getD_cons_zero] at e19
            refine Later.mk ?_
            simp only [List.append_eq, List.cons_append, List.nil_append, setN, Nat.reduceAdd, List.setIfInBounds_toArray, List.set_cons_succ, List.set_cons_zero]
            rw [show vals 19 = _ from e19]
            clear e19
            go_simp
            refine hK _ _ ?_
            clear hK
            go_wp2_with fail
            go_roundw
            case rel => exact ⟨k + 1, false, rfl, rfl, by omega, hS6, Hb⟩
            case measure => simp only [intOf]; omega
      · clear HI
        refine region_oneUL (S := fun W => LawSt w bm bc m (.slice (some ⟨gb, off, none⟩) z ca) (.slice pd m.dfl.length cd) (.slice px m.xat.length cx) c (.slice pg c.groups.length cg) W) 20
          [(fun W v => v = .bool true),
          (fun W v => v = .bool true),
          (fun W v => v = undef),
          (fun W v => v = undef),
          (fun W v => v = undef),
          (fun W v => v = undef),
          (fun W v => v = undef),
          (fun W v => v = undef),
          (fun W v => v = undef),
          (fun W v => v = undef),
          (fun W v => v = undef),
          (fun W v => v = undef),
          (fun W v => v = undef),
          (fun W v => v = undef),
          (fun W v => v = undef),
          (fun W v => v = undef),
          (fun W v => v = undef),
          (fun W v => v = undef),
          (fun W v => v = undef),
          (fun W v => v = .bool true)] (by rfl) (by kernel_rfl) (by kernel_rfl) (by kernel_rfl) (by kernel_rfl) (by rfl) (by kernel_rfl) ?hS ?hp ?hs ?he
        case hS => exact hst.call (gr_drew (Below.refl _ _))
        case hp => repeat' (first | exact trivial | refine ⟨fun _ _ _ _ h => h, ?_⟩)
        case hs =>
          simp only [List.take_succ_cons, List.take_zero]
          refine ⟨?_, ?_, ?_, ?_, ?_, ?_, ?_, ?_, ?_, ?_, ?_, ?_, ?_, ?_, ?_, ?_, ?_, ?_, ?_, ?_, trivial⟩
          · refine .inl ⟨met_none rfl, ?_⟩
            intro a W K hS hd hD hf hK
            have e12 : a.tmps.getD 12 undef = .bool true := hf 12 (by kernel_rfl)
            clear hd hf hD
            go_simp
            exact hK _ _ (Below.refl _ _) hS rfl (fun h => absurd h (by decide))
          · refine .inl ⟨met_none rfl, ?_⟩
            intro a W K hS hd hD hf hK
            have e29 : a.tmps.getD 29 undef = .bool true := hd ⟨0, .data⟩ (by simp) rfl
            clear hd hf hD
            go_simp
            exact hK _ _ (Below.refl _ _) hS rfl (fun h => absurd h (by decide))
          · exact .inr ⟨⟨1, false, rfl, fun w v h => .inl h⟩, rfl, fun _ => rfl⟩
          · exact .inr ⟨⟨1, false, rfl, fun w v h => .inl h⟩, rfl, fun _ => rfl⟩
          · exact .inr ⟨⟨1, false, rfl, fun w v h => .inl h⟩, rfl, fun _ => rfl⟩
          · exact .inr ⟨⟨1, false, rfl, fun w v h => .inl h⟩, rfl, fun _ => rfl⟩
          · exact .inr ⟨⟨1, false, rfl, fun w v h => .inl h⟩, rfl, fun _ => rfl⟩
          · exact .inr ⟨⟨1, false, rfl, fun w v h => .inl h⟩, rfl, fun _ => rfl⟩
          · exact .inr ⟨⟨1, false, rfl, fun w v h => .inl h⟩, rfl, fun _ => rfl⟩
          · exact .inr ⟨⟨1, false, rfl, fun w v h => .inl h⟩, rfl, fun _ => rfl⟩
          · exact .inr ⟨⟨9, true, rfl, fun w v h => .inr h⟩, rfl, fun _ => rfl⟩
          · exact .inr ⟨⟨9, true, rfl, fun w v h => .inr h⟩, rfl, fun _ => rfl⟩
          · exact .inr ⟨⟨9, true, rfl, fun w v h => .inr h⟩, rfl, fun _ => rfl⟩
          · exact .inr ⟨⟨9, true, rfl, fun w v h => .inr h⟩, rfl, fun _ => rfl⟩
          · exact .inr ⟨⟨9, true, rfl, fun w v h => .inr h⟩, rfl, fun _ => rfl⟩
          · exact .inr ⟨⟨9, true, rfl, fun w v h => .inr h⟩, rfl, fun _ => rfl⟩
          · exact .inr ⟨⟨9, true, rfl, fun w v h => .inr h⟩, rfl, fun _ => rfl⟩
          · exact .inr ⟨⟨9, true, rfl, fun w v h => .inr h⟩, rfl, fun _ => rfl⟩
          · exact .inr ⟨⟨1, false, rfl, fun w v h => .inl h⟩, rfl, fun _ => rfl⟩
          · refine .inl ⟨met_none rfl, ?_⟩
            intro a W K hS hd hD hf hK
            have e30 : a.tmps.getD 30 undef = .bool true := hd ⟨1, .data⟩ (by simp) rfl
            have e47 : a.tmps.getD 47 undef = undef := hd ⟨18, .data⟩ (by simp) rfl
            clear hd hf hD
            go_simp
            exact hK _ _ (Below.refl _ _) hS rfl (fun h => absurd h (by decide))
        case he =>
          intro vals w6 K hS6 hV hK
          have e19 := hV 19 (by omega)
          clear hV
          simp only [List.getD_cons_succ, List.getD_cons_zero] at e19
          refine Later.mk ?_
          simp only [List.append_eq, List.cons_append, List.nil_append, setN, Nat.reduceAdd, List.setIfInBounds_toArray, List.set_cons_succ, List.set_cons_zero]
          rw [show vals 19 = _ from e19]
          clear e19
          go_simp
          refine hK _ _ ?_
          clear hK
          go_wp2_with fail
          go_roundw
          case rel => exact ⟨k + 1, true, rfl, rfl, by omega, hS6, Hb⟩
          case measure => simp only [intOf]; omega
    · have l1 : decide ((k : Int) < (z : Int)) = false := decide_eq_false (by omega)
      have l2 : decide (k < z) = false := decide_eq_false hlt
      obtain ⟨g, hg⟩ : ∃ g, (b || inM c m.gid) = g := ⟨_, rfl⟩
      have Hg := Lib.hid (show g = true → (listM m).any (grpM m c) = true by
        rw [← hg]
        intro h
        rw [Bool.or_eq_true] at h
        rcases h with h | h
        · exact Hb.out h
        · exact any_group hst.ra.ok h)
      clear Hb hlt
      have k2 := hst.mb.cell_some 2 _ rfl
      have y0 := hst.cb.cell_some 0 _ rfl; have y1 := hst.cb.cell_some 1 _ rfl; have y2 := hst.cb.cell_some 2 _ rfl; have y3 := hst.cb.cell_some 3 _ rfl
      go_upto_region 9 with fail
      go_cut [12] from 49 to 55 (fun s wx => s = .bool g ∧ LawSt w bm bc m (.slice pa z ca) (.slice pd m.dfl.length cd) (.slice px m.xat.length cx) c (.slice pg c.groups.length cg) wx)
      case first =>
        cases b
        · have HI := Lib.hid (in_at hst m.gid)
          rw [show inM c m.gid = g by rw [← hg]; rfl] at HI
          go_wp2_with (first | (go_at_call 12; refine (HI.out).mono ?_; rintro e we ⟨rfl, hb1⟩; replace hst := hst.call hb1; clear hb1))
          go_meet
          exact ⟨rfl, hst⟩
        · have hg1 : g = true := by rw [← hg]; rfl
          subst hg1
          go_wp2_with fail
          go_meet
          exact ⟨rfl, hst⟩
      case rest =>
        clear hst k2 k5 y0 y1 y2 y3 hg
        obtain ⟨rfl, hst⟩ := hcut
        rename World => wq
        clear wr
        have y0 := hst.cb.cell_some 0 _ rfl; have y1 := hst.cb.cell_some 1 _ rfl; have y2 := hst.cb.cell_some 2 _ rfl; have y3 := hst.cb.cell_some 3 _ rfl
        go_upto_region 11 with fail
        obtain ⟨W7, hW7⟩ : ∃ W, wq.alloc (.cells #[.int .i64 c.uid, .int .i64 c.gid, .slice pg c.groups.length cg, .int .i64 c.powers] 33) = W := ⟨_, rfl⟩
        obtain ⟨bd, hbd⟩ : ∃ b, wq.heap.size = b := ⟨_, rfl⟩
        have hdb : BlkIs W7 bd 33 #[.int .i64 c.uid, .int .i64 c.gid, .slice pg c.groups.length cg, .int .i64 c.powers] := by rw [← hW7]; exact blk_of hbd _ _
        have h7 : Below wq.heap.size wq W7 := by rw [← hW7]; exact gr_alloc (Below.refl _ _) _
        have hst7 := hst.call h7
        rw [hW7]
        simp only [hbd]
        clear hW7 y0 y1 y2 y3
        have y2 := hst7.cb.cell_some 2 _ rfl
        have hcat := hst7.ca.groups
        have hcl := hst7.ca.len
        have hcz := hst7.cb.size
        obtain ⟨Q, hQ⟩ : ∃ q, W7.heap.size = q := ⟨_, rfl⟩
        have hrow0 := int_none Q Q W7 hQ (by omega)
        have hat1 := hcat.alloc (.cells #[] 3)
        have hl1 : ([] : List Int).length + c.groups.length ≤ 1000000 := by simp; omega
        have y2b := cell_kept (gr_alloc (Below.refl W7.heap.size W7) (.cells #[] 3)) y2
        have hs1 : Q ≤ (W7.alloc (.cells #[] 3)).heap.size := by simp; omega
        go_wp2_with (at_builtin; refine wp_append_at intE rfl _ _ rfl Q (.slice (some ⟨Q, 0, none⟩) 0 0) (.slice pg c.groups.length cg) [] c.groups (W7.alloc (.cells #[] 3)) (by first | rfl | (rw [← hQ]; rfl)) (by exact hrow0) (by rfl) (by exact hat1) hl1 hs1 ?_)
        intro v1 w1' hR1 hb1 _ _
        have hx1 : Below W7.heap.size W7 w1' := by rw [hQ]; exact Below.trans (show Below Q W7 (W7.alloc _) by rw [← hQ]; exact gr_alloc (Below.refl _ _) _) hb1
        have hat2 := int_new y _ w1' rfl
        have hR1' := hR1.alloc (.cells #[.int .i64 y] 3)
        have hl2 : (([] : List Int) ++ c.groups).length + [y].length ≤ 1000000 := by simp; omega
        have hQ1 : Q ≤ w1'.heap.size := by rw [← hQ]; exact hx1.size
        have hs2 : Q ≤ (w1'.alloc (.cells #[.int .i64 y] 3)).heap.size := by simp; omega
        go_wp2_with (at_builtin; refine wp_append_at intE rfl _ _ rfl Q v1 (.slice (some ⟨w1'.heap.size, 0, none⟩) 1 1) ([] ++ c.groups) [y] (w1'.alloc (.cells #[.int .i64 y] 3)) (by rfl) (by exact hR1') (by rfl) (by exact hat2) hl2 hs2 ?_)
        intro v2 w2' hR2 hb2 _ _
        try rw [List.nil_append] at hR2
        obtain ⟨p2, e2, rfl, _⟩ := hR2.at.shape
        have hx2 : Below W7.heap.size W7 w2' := (hx1.trans ((gr_alloc (Below.refl w1'.heap.size w1') _).mono hx1.size)).trans (show Below W7.heap.size _ w2' by rw [hQ]; exact hb2)
        have hd2 := hdb.kept hx2 hdb.size
        have d2 := hd2.cell_some 2 _ rfl
        have f2 := hd2.free 2
        have ds := hd2.size
        clear y2 y2b hrow0 hat1 hR1 hR1' hat2 hx1 hb1 hb2
        go_upto_region 12 with fail
        obtain ⟨W9, hW9⟩ : ∃ W, w2'.setCell ⟨bd, 2, none⟩ (.slice p2 (c.groups ++ [y]).length e2) = W := ⟨_, rfl⟩
        have hfin : Below wq.heap.size wq W9 := by
          rw [← hW9]
          exact gr_set (gr_call h7 hx2) (show wq.heap.size ≤ bd by omega) _
        have hdQ : bd < Q := by rw [← hQ]; exact hdb.size
        have hR3 := Row.other hR2 (a := ⟨bd, 2, none⟩) (fun e => by have h := (hR2.lt _ e).1; simp only at h; omega) (.slice p2 (c.groups ++ [y]).length e2)
        have hd3 := hd2.put 2 (.slice p2 (c.groups ++ [y]).length e2)
        rw [hW9] at hR3 hd3
        replace hst : MoreSt w bm bc bd m (.slice pa z ca) (.slice pd m.dfl.length cd) (.slice px m.xat.length cx) c (.slice pg c.groups.length cg) y (.slice p2 (c.groups ++ [y]).length e2) W9 := ⟨hst.call hfin, hd3, hR3.at, by show (c.groups ++ [y]).length ≤ 1000000; simp; omega⟩
        simp only [List.length_append, List.length_cons, List.length_nil, Nat.zero_add] at hW9
        rw [hW9]
        clear hW9 hfin hR3 hd3 hR2 hd2 d2 f2 ds hx2 h7 hdb hst7 hcat
        have hmo := can_more m c [y] x8
        obtain ⟨r, hr⟩ : ∃ r, canM m c (x : Int) = r := ⟨_, rfl⟩
        have HC := Lib.hid (fun W (h : MoreSt w bm bc bd m (.slice pa z ca) (.slice pd m.dfl.length cd) (.slice px m.xat.length cx) c (.slice pg c.groups.length cg) y (.slice p2 (c.groups ++ [y]).length e2) W) => can_at h.st (x : Int))
        have HM := Lib.hid (fun W (h : MoreSt w bm bc bd m (.slice pa z ca) (.slice pd m.dfl.length cd) (.slice px m.xat.length cx) c (.slice pg c.groups.length cg) y (.slice p2 (c.groups ++ [y]).length e2) W) => h.can (x : Int))
        have HI := Lib.hid (fun W (h : MoreSt w bm bc bd m (.slice pa z ca) (.slice pd m.dfl.length cd) (.slice px m.xat.length cx) c (.slice pg c.groups.length cg) y (.slice p2 (c.groups ++ [y]).length e2) W) => h.inn y)
        rw [in_last] at HI
        rw [hr] at HC
        have s0 := True.intro
        simp only [List.length_append, List.length_cons, List.length_nil, Nat.zero_add] at hst HC HM HI
        have hblk := hst.st.mb
        have k0 := hblk.cell_some 0 _ rfl; have k1 := hblk.cell_some 1 _ rfl; have k2 := hblk.cell_some 2 _ rfl; have k3 := hblk.cell_some 3 _ rfl; have k4 := hblk.cell_some 4 _ rfl; have k5 := hblk.cell_some 5 _ rfl; have k6 := hblk.cell_some 6 _ rfl; have k7 := hblk.cell_some 7 _ rfl; have k8 := hblk.cell_some 8 _ rfl; have k9 := hblk.cell_some 9 _ rfl; have k10 := hblk.cell_some 10 _ rfl; have k11 := hblk.cell_some 11 _ rfl; have k12 := hblk.cell_some 12 _ rfl; have k13 := hblk.cell_some 13 _ rfl
        cases g
        · clear hmo hr
          have hcb := hst.db
          have y0 := hcb.cell_some 0 _ rfl; have y1 := hcb.cell_some 1 _ rfl; have y2 := hcb.cell_some 2 _ rfl; have y3 := hcb.cell_some 3 _ rfl
          go_wp2_with (first
            | (go_at_call 12; have s9 := s0; clear s9 s0; refine (HI.out _ hst).mono ?_; rintro e wc0 ⟨rfl, hb1⟩; replace hst := hst.call hb1; clear hb1 hblk hcb y0 y1 y2 y3 k0 k1 k2 k3 k4 k5 k6 k7 k8 k9 k10 k11 k12 k13; have hblk := hst.st.mb; have k0 := hblk.cell_some 0 _ rfl; have k1 := hblk.cell_some 1 _ rfl; have k2 := hblk.cell_some 2 _ rfl; have k3 := hblk.cell_some 3 _ rfl; have k4 := hblk.cell_some 4 _ rfl; have k5 := hblk.cell_some 5 _ rfl; have k6 := hblk.cell_some 6 _ rfl; have k7 := hblk.cell_some 7 _ rfl; have k8 := hblk.cell_some 8 _ rfl; have k9 := hblk.cell_some 9 _ rfl; have k10 := hblk.cell_some 10 _ rfl; have k11 := hblk.cell_some 11 _ rfl; have k12 := hblk.cell_some 12 _ rfl; have k13 := hblk.cell_some 13 _ rfl; have hcb := hst.db; have y0 := hcb.cell_some 0 _ rfl; have y1 := hcb.cell_some 1 _ rfl; have y2 := hcb.cell_some 2 _ rfl; have y3 := hcb.cell_some 3 _ rfl; have s1 := True.intro)
            | (go_at_call 11; refine (awake18 _).mono ?_; rintro e wh ⟨rfl, hb1⟩; replace hst := hst.call hb1; clear hb1))
          go_ret
          exact ⟨by rfl, hst.st.below⟩
        · have hmo2 := fun h => hmo (Hg.out rfl) h
          clear hmo
          cases r
          · clear hmo2 hr
            have hcb := hst.st.cb
            have y0 := hcb.cell_some 0 _ rfl; have y1 := hcb.cell_some 1 _ rfl; have y2 := hcb.cell_some 2 _ rfl; have y3 := hcb.cell_some 3 _ rfl
            go_wp2_with (first
              | (go_at_call 14; have s9 := s0; clear s9 s0; refine (HC.out _ hst).mono ?_; rintro e wc0 ⟨rfl, hb1⟩; replace hst := hst.call hb1; clear hb1 hblk hcb y0 y1 y2 y3 k0 k1 k2 k3 k4 k5 k6 k7 k8 k9 k10 k11 k12 k13; have hblk := hst.st.mb; have k0 := hblk.cell_some 0 _ rfl; have k1 := hblk.cell_some 1 _ rfl; have k2 := hblk.cell_some 2 _ rfl; have k3 := hblk.cell_some 3 _ rfl; have k4 := hblk.cell_some 4 _ rfl; have k5 := hblk.cell_some 5 _ rfl; have k6 := hblk.cell_some 6 _ rfl; have k7 := hblk.cell_some 7 _ rfl; have k8 := hblk.cell_some 8 _ rfl; have k9 := hblk.cell_some 9 _ rfl; have k10 := hblk.cell_some 10 _ rfl; have k11 := hblk.cell_some 11 _ rfl; have k12 := hblk.cell_some 12 _ rfl; have k13 := hblk.cell_some 13 _ rfl; have hcb := hst.db; have y0 := hcb.cell_some 0 _ rfl; have y1 := hcb.cell_some 1 _ rfl; have y2 := hcb.cell_some 2 _ rfl; have y3 := hcb.cell_some 3 _ rfl; have s1 := True.intro)
              | (go_at_call 12; have s9 := s1; clear s9 s1; refine (HI.out _ hst).mono ?_; rintro e wc1 ⟨rfl, hb1⟩; replace hst := hst.call hb1; clear hb1 hblk hcb y0 y1 y2 y3 k0 k1 k2 k3 k4 k5 k6 k7 k8 k9 k10 k11 k12 k13; have hblk := hst.st.mb; have k0 := hblk.cell_some 0 _ rfl; have k1 := hblk.cell_some 1 _ rfl; have k2 := hblk.cell_some 2 _ rfl; have k3 := hblk.cell_some 3 _ rfl; have k4 := hblk.cell_some 4 _ rfl; have k5 := hblk.cell_some 5 _ rfl; have k6 := hblk.cell_some 6 _ rfl; have k7 := hblk.cell_some 7 _ rfl; have k8 := hblk.cell_some 8 _ rfl; have k9 := hblk.cell_some 9 _ rfl; have k10 := hblk.cell_some 10 _ rfl; have k11 := hblk.cell_some 11 _ rfl; have k12 := hblk.cell_some 12 _ rfl; have k13 := hblk.cell_some 13 _ rfl; have hcb := hst.db; have y0 := hcb.cell_some 0 _ rfl; have y1 := hcb.cell_some 1 _ rfl; have y2 := hcb.cell_some 2 _ rfl; have y3 := hcb.cell_some 3 _ rfl; have s2 := True.intro)
              | (go_at_call 11; refine (awake18 _).mono ?_; rintro e wh ⟨rfl, hb1⟩; replace hst := hst.call hb1; clear hb1))
            go_ret
            exact ⟨by rfl, hst.st.below⟩
          · rw [hmo2 hr] at HM
            clear hmo2 hr
            have hcb := hst.st.cb
            have y0 := hcb.cell_some 0 _ rfl; have y1 := hcb.cell_some 1 _ rfl; have y2 := hcb.cell_some 2 _ rfl; have y3 := hcb.cell_some 3 _ rfl
            go_wp2_with (first
              | (go_at_call 14; have s9 := s0; clear s9 s0; refine (HC.out _ hst).mono ?_; rintro e wc0 ⟨rfl, hb1⟩; replace hst := hst.call hb1; clear hb1 hblk hcb y0 y1 y2 y3 k0 k1 k2 k3 k4 k5 k6 k7 k8 k9 k10 k11 k12 k13; have hblk := hst.st.mb; have k0 := hblk.cell_some 0 _ rfl; have k1 := hblk.cell_some 1 _ rfl; have k2 := hblk.cell_some 2 _ rfl; have k3 := hblk.cell_some 3 _ rfl; have k4 := hblk.cell_some 4 _ rfl; have k5 := hblk.cell_some 5 _ rfl; have k6 := hblk.cell_some 6 _ rfl; have k7 := hblk.cell_some 7 _ rfl; have k8 := hblk.cell_some 8 _ rfl; have k9 := hblk.cell_some 9 _ rfl; have k10 := hblk.cell_some 10 _ rfl; have k11 := hblk.cell_some 11 _ rfl; have k12 := hblk.cell_some 12 _ rfl; have k13 := hblk.cell_some 13 _ rfl; have hcb := hst.db; have y0 := hcb.cell_some 0 _ rfl; have y1 := hcb.cell_some 1 _ rfl; have y2 := hcb.cell_some 2 _ rfl; have y3 := hcb.cell_some 3 _ rfl; have s1 := True.intro)
              | (go_at_call 14; have s9 := s1; clear s9 s1; refine (HM.out _ hst).mono ?_; rintro e wc1 ⟨rfl, hb1⟩; replace hst := hst.call hb1; clear hb1 hblk hcb y0 y1 y2 y3 k0 k1 k2 k3 k4 k5 k6 k7 k8 k9 k10 k11 k12 k13; have hblk := hst.st.mb; have k0 := hblk.cell_some 0 _ rfl; have k1 := hblk.cell_some 1 _ rfl; have k2 := hblk.cell_some 2 _ rfl; have k3 := hblk.cell_some 3 _ rfl; have k4 := hblk.cell_some 4 _ rfl; have k5 := hblk.cell_some 5 _ rfl; have k6 := hblk.cell_some 6 _ rfl; have k7 := hblk.cell_some 7 _ rfl; have k8 := hblk.cell_some 8 _ rfl; have k9 := hblk.cell_some 9 _ rfl; have k10 := hblk.cell_some 10 _ rfl; have k11 := hblk.cell_some 11 _ rfl; have k12 := hblk.cell_some 12 _ rfl; have k13 := hblk.cell_some 13 _ rfl; have hcb := hst.db; have y0 := hcb.cell_some 0 _ rfl; have y1 := hcb.cell_some 1 _ rfl; have y2 := hcb.cell_some 2 _ rfl; have y3 := hcb.cell_some 3 _ rfl; have s2 := True.intro)
              | (go_at_call 12; have s9 := s2; clear s9 s2; refine (HI.out _ hst).mono ?_; rintro e wc2 ⟨rfl, hb1⟩; replace hst := hst.call hb1; clear hb1 hblk hcb y0 y1 y2 y3 k0 k1 k2 k3 k4 k5 k6 k7 k8 k9 k10 k11 k12 k13; have hblk := hst.st.mb; have k0 := hblk.cell_some 0 _ rfl; have k1 := hblk.cell_some 1 _ rfl; have k2 := hblk.cell_some 2 _ rfl; have k3 := hblk.cell_some 3 _ rfl; have k4 := hblk.cell_some 4 _ rfl; have k5 := hblk.cell_some 5 _ rfl; have k6 := hblk.cell_some 6 _ rfl; have k7 := hblk.cell_some 7 _ rfl; have k8 := hblk.cell_some 8 _ rfl; have k9 := hblk.cell_some 9 _ rfl; have k10 := hblk.cell_some 10 _ rfl; have k11 := hblk.cell_some 11 _ rfl; have k12 := hblk.cell_some 12 _ rfl; have k13 := hblk.cell_some 13 _ rfl; have hcb := hst.db; have y0 := hcb.cell_some 0 _ rfl; have y1 := hcb.cell_some 1 _ rfl; have y2 := hcb.cell_some 2 _ rfl; have y3 := hcb.cell_some 3 _ rfl; have s3 := True.intro)
              | (go_at_call 11; refine (awake18 _).mono ?_; rintro e wh ⟨rfl, hb1⟩; replace hst := hst.call hb1; clear hb1))
            go_ret
            exact ⟨by rfl, hst.st.below⟩
end Go.Proofs.Ytpfidbcnefnhcaa
