/- The law RightMask, walked. -/
import Derived.Test.YtpfidbcnefnhcaaPk06
namespace Go.Proofs.Ytpfidbcnefnhcaa
open Go.RowKit
open MetaM RightM AclM
set_option linter.unusedVariables false
def maskL (i : Int) (k n o : Nat) : List Ace := [(1, 0, 0), (2, i, (k : Int)), (3, 0, 7), (5, 0, (n : Int)), (6, 0, (o : Int))]
def maskMt (i : Int) (k n o : Nat) : Mt := ⟨0, 1000, 1000, 0, 0, maskL i k n o, [], [], ⟨0, 0, 0, false, 0⟩, 0⟩
theorem mask_may {i : Int} {k n o : Nat} (h0 : 0 ≤ i) (h1 : i ≤ 255) (hk : k < 8) (hn : n < 8) (ho : o < 8) : may (maskL i k n o) = true := by
  unfold may maskL
  have e : ([(1, 0, 0), (2, i, (k : Int)), (3, 0, 7), (5, 0, (n : Int)), (6, 0, (o : Int))] : List Ace).all okPart = true := by
    simp only [List.all_cons, List.all_nil, okPart, hasId]
    simp
    omega
  rw [e]
  simp [order, ltA, tags, has, findN]
theorem mask_perm (i : Int) (k n o : Nat) : maskM (maskL i k n o) = n ∧ permM (maskL i k n o) 1 = 0 ∧ permM (maskL i k n o) 6 = o := by
  unfold maskM permM AclW.permR AclW.permN maskL
  simp [has, findN]
  omega
theorem no_all (c : Cr) (h : c.powers = 0) : hasAll c = false := by unfold hasAll; rw [h]; rfl
theorem mask_who {i : Int} {k n o w : Nat} (h1 : i ≤ 255) (hw : w < 8) : canM (maskMt i k n o) ⟨i, 1000, [], 0⟩ (w : Int) = gr (k &&& n) w := by
  obtain ⟨e1, e2, e3⟩ := mask_perm i k n o
  rw [can_nat _ _ hw]
  have hl : listM (maskMt i k n o) = maskL i k n o := rfl
  rw [hl]
  rw [no_all _ rfl, if_neg (by decide), if_neg (by show ¬ (1000 : Int) = i; omega)]
  have hu : userM (maskL i k n o) i = some (2, i, (k : Int)) := by unfold userM maskL; simp
  unfold restM
  rw [hu, e1]
  simp only [Int.toNat_natCast]
  rw [gr_and]
theorem mask_one {i : Int} {k n o w : Nat} (h1 : i ≤ 255) (hw : w < 8) : canM (maskMt i k n o) ⟨2000, 1000, [], 0⟩ (w : Int) = gr n w := by
  obtain ⟨e1, e2, e3⟩ := mask_perm i k n o
  rw [can_nat _ _ hw]
  have hl : listM (maskMt i k n o) = maskL i k n o := rfl
  rw [hl]
  rw [no_all _ rfl, if_neg (by decide), if_neg (by show ¬ (1000 : Int) = 2000; omega)]
  have hu : userM (maskL i k n o) 2000 = none := by unfold userM maskL; simp; omega
  have hg : (maskL i k n o).any (grpM (maskMt i k n o) ⟨2000, 1000, [], 0⟩) = true := by unfold maskL grpM inM maskMt; simp
  have hg2 : ((maskL i k n o).any fun a => grpM (maskMt i k n o) ⟨2000, 1000, [], 0⟩ a && gr a.2.2.toNat w) = true := by
    rw [List.any_eq_true]
    exact ⟨(3, 0, 7), by unfold maskL; simp, by rw [Bool.and_eq_true]; exact ⟨by unfold grpM inM maskMt; simp, gr_7 hw⟩⟩
  unfold restM
  rw [hu]
  simp only
  rw [if_pos hg, hg2, e1, Bool.true_and]
theorem mask_none {i : Int} {k n o w : Nat} (h1 : i ≤ 255) (hw : w < 8) : canM (maskMt i k n o) ⟨2000, 2000, [], 0⟩ (w : Int) = gr o w := by
  obtain ⟨e1, e2, e3⟩ := mask_perm i k n o
  rw [can_nat _ _ hw]
  have hl : listM (maskMt i k n o) = maskL i k n o := rfl
  rw [hl]
  rw [no_all _ rfl, if_neg (by decide), if_neg (by show ¬ (1000 : Int) = 2000; omega)]
  have hu : userM (maskL i k n o) 2000 = none := by unfold userM maskL; simp; omega
  have hg : ¬ (maskL i k n o).any (grpM (maskMt i k n o) ⟨2000, 2000, [], 0⟩) = true := by unfold maskL grpM inM maskMt; simp
  unfold restM
  rw [hu]
  simp only
  rw [if_neg hg, e3]
theorem mask_own {i : Int} {k n o w : Nat} (hw : w < 8) : canM (maskMt i k n o) ⟨1000, 0, [], 0⟩ (w : Int) = ((w : Int) == 0) := by
  obtain ⟨e1, e2, e3⟩ := mask_perm i k n o
  rw [can_nat _ _ hw]
  have hl : listM (maskMt i k n o) = maskL i k n o := rfl
  rw [hl]
  rw [no_all _ rfl, if_neg (by decide), if_pos (by rfl), e2]
  unfold gr
  rw [Nat.zero_and, ← int_beq]
  by_cases h : 0 = w
  · rw [decide_eq_true h, decide_eq_true (by omega)]
  · rw [decide_eq_false h, decide_eq_false (by omega)]
attribute [local irreducible] Row At
structure MaskSt (w : World) (B : Nat) (m : Mt) (va : Value) (i : Int) (W : World) : Prop where
  below : Below w.heap.size w W
  mb : BlkIs W (B + 1) 30 #[.int .i64 m.mode, .int .i64 m.uid, .int .i64 m.gid, .int .i64 m.sec, .int .i64 m.nano, va, nilV, nilV, .int .i64 m.cap.v, .int .u64 (m.cap.p : Int), .int .u64 (m.cap.i : Int), .bool m.cap.e, .int .i64 m.cap.r, .int .i64 m.flags]
  c1 : BlkIs W (B + 2) 33 #[.int .i64 i, .int .i64 1000, nilV, .int .i64 0]
  c2 : BlkIs W (B + 3) 33 #[.int .i64 2000, .int .i64 1000, nilV, .int .i64 0]
  c3 : BlkIs W (B + 4) 33 #[.int .i64 2000, .int .i64 2000, nilV, .int .i64 0]
  ra : RightAt m va nilV nilV W
theorem MaskSt.call {w : World} {B : Nat} {m : Mt} {va : Value} {i : Int} {W W' : World} (h : MaskSt w B m va i W) (hb : Below W.heap.size W W') : MaskSt w B m va i W' :=
  ⟨gr_call h.below hb, h.mb.kept hb h.mb.size, h.c1.kept hb h.c1.size, h.c2.kept hb h.c2.size, h.c3.kept hb h.c3.size, h.ra.call hb⟩
theorem MaskSt.can {w : World} {B : Nat} {m : Mt} {va : Value} {i : Int} {W : World} (h : MaskSt w B m va i W) (u g x : Int) :
    Calls Try.prog 14 #[.agg #[.int .i64 m.mode, .int .i64 m.uid, .int .i64 m.gid, .int .i64 m.sec, .int .i64 m.nano, va, nilV, nilV, .int .i64 m.cap.v, .int .u64 (m.cap.p : Int), .int .u64 (m.cap.i : Int), .bool m.cap.e, .int .i64 m.cap.r, .int .i64 m.flags], .agg #[.int .i64 u, .int .i64 g, nilV, .int .i64 0], .int .i64 x] W fun e w' => e = .returned (.bool (canM m ⟨u, g, [], 0⟩ x)) ∧ Below W.heap.size W w' := can_any m va nilV nilV ⟨u, g, [], 0⟩ nilV x W h.ra (cred_none u g 0 W)
set_option maxHeartbeats 6400000 in
set_option maxRecDepth 100000 in
theorem rightMask_walk (a0 : Int) (a1 : Int) (a2 : Int) (a3 : Int) (a4 : Int) (w : World) (w0 : (Lit.int .u8 a0).wf = true) (w1 : (Lit.int .u8 a1).wf = true) (w2 : (Lit.int .u8 a2).wf = true) (w3 : (Lit.int .u8 a3).wf = true) (w4 : (Lit.int .u8 a4).wf = true) :
    Calls Try.prog 8 #[.int .u8 a0, .int .u8 a1, .int .u8 a2, .int .u8 a3, .int .u8 a4] w fun e w' => e = .returned (.bool true) ∧ Below w.heap.size w w' := by
  have b0 : 0 ≤ a0 ∧ a0 ≤ 255 := by have h := w0; simp only [Lit.wf, Bool.and_eq_true, decide_eq_true_eq] at h; exact h
  have b1 : 0 ≤ a1 ∧ a1 ≤ 255 := by have h := w1; simp only [Lit.wf, Bool.and_eq_true, decide_eq_true_eq] at h; exact h
  have b2 : 0 ≤ a2 ∧ a2 ≤ 255 := by have h := w2; simp only [Lit.wf, Bool.and_eq_true, decide_eq_true_eq] at h; exact h
  have b3 : 0 ≤ a3 ∧ a3 ≤ 255 := by have h := w3; simp only [Lit.wf, Bool.and_eq_true, decide_eq_true_eq] at h; exact h
  have b4 : 0 ≤ a4 ∧ a4 ≤ 255 := by have h := w4; simp only [Lit.wf, Bool.and_eq_true, decide_eq_true_eq] at h; exact h
  have x0 : IntKind.i64.wrap a0 = a0 := by rw [IntKind.wrap_i64]; omega
  have x1 : IntKind.i64.wrap a1 = a1 := by rw [IntKind.wrap_i64]; omega
  have x2 : IntKind.i64.wrap a2 = a2 := by rw [IntKind.wrap_i64]; omega
  have x3 : IntKind.i64.wrap a3 = a3 := by rw [IntKind.wrap_i64]; omega
  have x4 : IntKind.i64.wrap a4 = a4 := by rw [IntKind.wrap_i64]; omega
  obtain ⟨k, hk⟩ : ∃ k : Nat, a1 % 8 = (k : Int) := ⟨(a1 % 8).toNat, by omega⟩
  obtain ⟨n, hn⟩ : ∃ k : Nat, a2 % 8 = (k : Int) := ⟨(a2 % 8).toNat, by omega⟩
  obtain ⟨o, ho⟩ : ∃ k : Nat, a3 % 8 = (k : Int) := ⟨(a3 % 8).toNat, by omega⟩
  obtain ⟨x, hx⟩ : ∃ k : Nat, a4 % 8 = (k : Int) := ⟨(a4 % 8).toNat, by omega⟩
  have k8 : k < 8 := by omega
  have n8 : n < 8 := by omega
  have o8 : o < 8 := by omega
  have x8 : x < 8 := by omega
  have t1 : a1.tmod 8 = (k : Int) := by rw [Int.tmod_eq_emod_of_nonneg b1.1]; exact hk
  have t2 : a2.tmod 8 = (n : Int) := by rw [Int.tmod_eq_emod_of_nonneg b2.1]; exact hn
  have t3 : a3.tmod 8 = (o : Int) := by rw [Int.tmod_eq_emod_of_nonneg b3.1]; exact ho
  have t4 : a4.tmod 8 = (x : Int) := by rw [Int.tmod_eq_emod_of_nonneg b4.1]; exact hx
  have hmay := mask_may b0.1 b0.2 k8 n8 o8
  have C1 := Lib.hid (mask_who (i := a0) (k := k) (n := n) (o := o) b0.2 x8)
  have C2 := Lib.hid (mask_one (i := a0) (k := k) (n := n) (o := o) b0.2 x8)
  have C3 := Lib.hid (mask_none (i := a0) (k := k) (n := n) (o := o) b0.2 x8)
  have C4 := Lib.hid (mask_own (i := a0) (k := k) (n := n) (o := o) x8)
  clear hk hn ho hx w0 w1 w2 w3 w4 b0 b1 b2 b3 b4
  go_enter Try.func8, Try.ntmps8
  go_upto_region 6 with fail
  obtain ⟨m, hm⟩ : ∃ m, maskMt a0 k n o = m := ⟨_, rfl⟩
  obtain ⟨W, hW⟩ : ∃ W, ((((w.alloc (.cells #[.int .i64 1, .int .i64 0, .int .i64 0, .int .i64 2, .int .i64 a0, .int .i64 (k : Int), .int .i64 3, .int .i64 0, .int .i64 7, .int .i64 5, .int .i64 0, .int .i64 (n : Int), .int .i64 6, .int .i64 0, .int .i64 (o : Int)] 51)).alloc (.cells #[.int .i64 0, .int .i64 1000, .int .i64 1000, .int .i64 0, .int .i64 0, .slice (some ⟨w.heap.size, 0, none⟩) 5 5, .slice none 0 0, .slice none 0 0, .int .i64 0, .int .u64 0, .int .u64 0, .bool false, .int .i64 0, .int .i64 0] 30)).alloc (.cells #[.int .i64 a0, .int .i64 1000, .slice none 0 0, .int .i64 0] 33)).alloc (.cells #[.int .i64 2000, .int .i64 1000, .slice none 0 0, .int .i64 0] 33)).alloc (.cells #[.int .i64 2000, .int .i64 2000, .slice none 0 0, .int .i64 0] 33) = W := ⟨_, rfl⟩
  obtain ⟨B, hB⟩ : ∃ b, w.heap.size = b := ⟨_, rfl⟩
  have hst : MaskSt w B m (.slice (some ⟨B, 0, none⟩) 5 5) a0 W := by
    rw [← hW, ← hm]
    have hrow := lit_row (E := AclW.aceE) w (maskL a0 k n o) #[.int .i64 1, .int .i64 0, .int .i64 0, .int .i64 2, .int .i64 a0, .int .i64 (k : Int), .int .i64 3, .int .i64 0, .int .i64 7, .int .i64 5, .int .i64 0, .int .i64 (n : Int), .int .i64 6, .int .i64 0, .int .i64 (o : Int)] 0 5 rfl (Nat.zero_le _) (by simp [maskL]) rfl
    rw [hB] at hrow ⊢
    refine ⟨by (repeat' (first | exact Below.refl _ _ | assumption | refine gr_drew ?_ | refine gr_drewN ?_ _ | refine gr_alloc ?_ _ | refine gr_set ?_ ?_ _ | refine gr_call ?_ (by assumption)) <;> (try (simp; done)) <;> (try (simp; omega)) <;> (try omega)), ?_, ?_, ?_, ?_, ?_⟩
    · exact (((blk_of (by simp [hB]) _ _).alloc _).alloc _).alloc _
    · exact ((blk_of (by simp [hB]) _ _).alloc _).alloc _
    · exact (blk_of (by simp [hB]) _ _).alloc _
    · exact blk_of (by simp [hB]) _ _
    · exact ⟨(((hrow.at.alloc _).alloc _).alloc _).alloc _, by simp [maskMt, maskL], .inr hmay, by unfold InRange maskMt; simp only; omega⟩
  rw [hW]
  rw [hm] at C1 C2 C3 C4
  simp only [hB]
  clear hW hm hmay x0 x1 x2 x3 x4 t1 t2 t3 t4 hB
  have q1 := gr_cmp (k &&& n) x
  have q2 := gr_cmp n x
  have q3 := gr_cmp o x
  obtain ⟨r1, hr1⟩ : ∃ r, gr (k &&& n) x = r := ⟨_, rfl⟩
  obtain ⟨r2, hr2⟩ : ∃ r, gr n x = r := ⟨_, rfl⟩
  obtain ⟨r3, hr3⟩ : ∃ r, gr o x = r := ⟨_, rfl⟩
  obtain ⟨r4, hr4⟩ : ∃ r, ((x : Int) == 0) = r := ⟨_, rfl⟩
  rw [hr1] at q1 C1
  rw [hr2] at q2 C2
  rw [hr3] at q3 C3
  rw [hr4] at C4
  clear hr1 hr2 hr3
  have z1 : (r1 == r1) = true := by cases r1 <;> rfl
  have z2 : (r2 == r2) = true := by cases r2 <;> rfl
  have z3 : (r3 == r3) = true := by cases r3 <;> rfl
  have z4 : (r4 == r4) = true := by cases r4 <;> rfl
  replace q1 := q1.symm
  replace q2 := q2.symm
  replace q3 := q3.symm
  have a1 := and8 k n k8 n8
  have a2 := and8 (k &&& n) x (and_lt8 n k8) x8
  have a3 := and8 n x n8 x8
  have a4 := and8 o x o8 x8
  have H1 := Lib.hid (fun W (h : MaskSt w B m (.slice (some ⟨B, 0, none⟩) 5 5) a0 W) => h.can a0 1000 (x : Int))
  have H2 := Lib.hid (fun W (h : MaskSt w B m (.slice (some ⟨B, 0, none⟩) 5 5) a0 W) => h.can 2000 1000 (x : Int))
  have H3 := Lib.hid (fun W (h : MaskSt w B m (.slice (some ⟨B, 0, none⟩) 5 5) a0 W) => h.can 2000 2000 (x : Int))
  have H4 := Lib.hid (fun W (h : MaskSt w B m (.slice (some ⟨B, 0, none⟩) 5 5) a0 W) => h.can 1000 0 (x : Int))
  rw [C1.out] at H1
  rw [C2.out] at H2
  rw [C3.out] at H3
  rw [C4.out] at H4
  clear C1 C2 C3 C4 k8 n8 o8 x8
  have s0 := True.intro
  have hblk := hst.mb
  unfold nilV at hblk
  have k0 := hblk.cell_some 0 _ rfl; have k1 := hblk.cell_some 1 _ rfl; have k2 := hblk.cell_some 2 _ rfl; have k3 := hblk.cell_some 3 _ rfl; have k4 := hblk.cell_some 4 _ rfl; have k5 := hblk.cell_some 5 _ rfl; have k6 := hblk.cell_some 6 _ rfl; have k7 := hblk.cell_some 7 _ rfl; have k8 := hblk.cell_some 8 _ rfl; have k9 := hblk.cell_some 9 _ rfl; have k10 := hblk.cell_some 10 _ rfl; have k11 := hblk.cell_some 11 _ rfl; have k12 := hblk.cell_some 12 _ rfl; have k13 := hblk.cell_some 13 _ rfl
  have hcb := hst.c1
  unfold nilV at hcb
  have y0 := hcb.cell_some 0 _ rfl; have y1 := hcb.cell_some 1 _ rfl; have y2 := hcb.cell_some 2 _ rfl; have y3 := hcb.cell_some 3 _ rfl
  unfold nilV at H1 H2 H3 H4
  go_wp2_with (first
    | (go_at_call 14; have s9 := s0; clear s9 s0; refine (H1.out _ hst).mono ?_; rintro e wa ⟨rfl, hb1⟩; replace hst := hst.call hb1; clear hb1 hblk hcb y0 y1 y2 y3 k0 k1 k2 k3 k4 k5 k6 k7 k8 k9 k10 k11 k12 k13; have hblk := hst.mb; unfold nilV at hblk; have k0 := hblk.cell_some 0 _ rfl; have k1 := hblk.cell_some 1 _ rfl; have k2 := hblk.cell_some 2 _ rfl; have k3 := hblk.cell_some 3 _ rfl; have k4 := hblk.cell_some 4 _ rfl; have k5 := hblk.cell_some 5 _ rfl; have k6 := hblk.cell_some 6 _ rfl; have k7 := hblk.cell_some 7 _ rfl; have k8 := hblk.cell_some 8 _ rfl; have k9 := hblk.cell_some 9 _ rfl; have k10 := hblk.cell_some 10 _ rfl; have k11 := hblk.cell_some 11 _ rfl; have k12 := hblk.cell_some 12 _ rfl; have k13 := hblk.cell_some 13 _ rfl; have hcb := hst.c2; unfold nilV at hcb; have y0 := hcb.cell_some 0 _ rfl; have y1 := hcb.cell_some 1 _ rfl; have y2 := hcb.cell_some 2 _ rfl; have y3 := hcb.cell_some 3 _ rfl; have s1 := True.intro)
    | (go_at_call 14; have s9 := s1; clear s9 s1; refine (H2.out _ hst).mono ?_; rintro e wb ⟨rfl, hb1⟩; replace hst := hst.call hb1; clear hb1 hblk hcb y0 y1 y2 y3 k0 k1 k2 k3 k4 k5 k6 k7 k8 k9 k10 k11 k12 k13; have hblk := hst.mb; unfold nilV at hblk; have k0 := hblk.cell_some 0 _ rfl; have k1 := hblk.cell_some 1 _ rfl; have k2 := hblk.cell_some 2 _ rfl; have k3 := hblk.cell_some 3 _ rfl; have k4 := hblk.cell_some 4 _ rfl; have k5 := hblk.cell_some 5 _ rfl; have k6 := hblk.cell_some 6 _ rfl; have k7 := hblk.cell_some 7 _ rfl; have k8 := hblk.cell_some 8 _ rfl; have k9 := hblk.cell_some 9 _ rfl; have k10 := hblk.cell_some 10 _ rfl; have k11 := hblk.cell_some 11 _ rfl; have k12 := hblk.cell_some 12 _ rfl; have k13 := hblk.cell_some 13 _ rfl; have hcb := hst.c3; unfold nilV at hcb; have y0 := hcb.cell_some 0 _ rfl; have y1 := hcb.cell_some 1 _ rfl; have y2 := hcb.cell_some 2 _ rfl; have y3 := hcb.cell_some 3 _ rfl; have s2 := True.intro)
    | (go_at_call 14; have s9 := s2; clear s9 s2; refine (H3.out _ hst).mono ?_; rintro e wc ⟨rfl, hb1⟩; replace hst := hst.call hb1; clear hb1 hblk hcb y0 y1 y2 y3 k0 k1 k2 k3 k4 k5 k6 k7 k8 k9 k10 k11 k12 k13; have hblk := hst.mb; unfold nilV at hblk; have k0 := hblk.cell_some 0 _ rfl; have k1 := hblk.cell_some 1 _ rfl; have k2 := hblk.cell_some 2 _ rfl; have k3 := hblk.cell_some 3 _ rfl; have k4 := hblk.cell_some 4 _ rfl; have k5 := hblk.cell_some 5 _ rfl; have k6 := hblk.cell_some 6 _ rfl; have k7 := hblk.cell_some 7 _ rfl; have k8 := hblk.cell_some 8 _ rfl; have k9 := hblk.cell_some 9 _ rfl; have k10 := hblk.cell_some 10 _ rfl; have k11 := hblk.cell_some 11 _ rfl; have k12 := hblk.cell_some 12 _ rfl; have k13 := hblk.cell_some 13 _ rfl; have hcb := hst.c3; unfold nilV at hcb; have y0 := hcb.cell_some 0 _ rfl; have y1 := hcb.cell_some 1 _ rfl; have y2 := hcb.cell_some 2 _ rfl; have y3 := hcb.cell_some 3 _ rfl; have s3 := True.intro)
    | (go_at_call 14; have s9 := s3; clear s9 s3; refine (H4.out _ hst).mono ?_; rintro e wd ⟨rfl, hb1⟩; replace hst := hst.call hb1; clear hb1)
    | (go_at_call 11; refine (awake18 _).mono ?_; rintro e wh ⟨rfl, hb1⟩; replace hst := hst.call hb1; clear hb1))
  go_ret
  exact ⟨by rfl, hst.below⟩
end Go.Proofs.Ytpfidbcnefnhcaa
