/- Bundle of 4 texts. -/
import Derived.Test.YtpfidbcnefnhcaaPk03
import Derived.Test.YtpfidbcnefnhcaaPk11
import Derived.Deep.RegionHeld3
import Derived.Deep.AppendLies
import Derived.Laws.ResultCell
import Derived.Deep.CutBlock
import Derived.Test.YtpfidbcnefnhcaaPk08
/- Who asks, by numbers: made by the laws. -/
namespace Go.Proofs.Ytpfidbcnefnhcaa
open Go.RowKit
open MetaM RightM
set_option linter.unusedVariables false
theorem BlkIs.grown {w w' : World} {h : Nat} {t : TypeId} {cs : Array Value} {row : Option Nat} (hb : BlkIs w h t cs) (hg : w.grownBy w' row) (hn : row ≠ some h) : BlkIs w' h t cs := (hg.block h hb.size (Ne.symm hn)).trans hb
theorem one_int (w : World) (x : Int) (B : Nat) (hB : B ≤ w.heap.size) : Row intE B (.slice (some ⟨w.heap.size, 0, none⟩) 1 1) [x] (w.alloc (.cells #[.int .i64 x] 3)) :=
  lit_row (E := intE) w [x] _ B 1 rfl hB (by simp) rfl
structure CrSt (w : World) (R C : Nat) (u g : Int) (gv : Value) (W : World) : Prop where
  below : Below w.heap.size w W
  r : BlkIs W R 33 #[.int .i64 0, .int .i64 0, .slice none 0 0, .int .i64 0]
  c : BlkIs W C 33 #[.int .i64 u, .int .i64 g, gv, .int .i64 0]
  ne : R < C
  ge : w.heap.size ≤ R
theorem CrSt.put0 {w : World} {R C : Nat} {u g : Int} {gv : Value} {W : World} (h : CrSt w R C u g gv W) (x : Int) : CrSt w R C x g gv (W.setCell ⟨C, 0, none⟩ (.int .i64 x)) :=
  ⟨gr_set h.below (by have := h.ne; have := h.ge; show w.heap.size ≤ C; omega) _, h.r.other (show R ≠ C by have := h.ne; omega) _, h.c.put 0 _, h.ne, h.ge⟩
theorem CrSt.put1 {w : World} {R C : Nat} {u g : Int} {gv : Value} {W : World} (h : CrSt w R C u g gv W) (x : Int) : CrSt w R C u x gv (W.setCell ⟨C, 1, none⟩ (.int .i64 x)) :=
  ⟨gr_set h.below (by have := h.ne; have := h.ge; show w.heap.size ≤ C; omega) _, h.r.other (show R ≠ C by have := h.ne; omega) _, h.c.put 1 _, h.ne, h.ge⟩
theorem CrSt.put2 {w : World} {R C : Nat} {u g : Int} {gv : Value} {W : World} (h : CrSt w R C u g gv W) (v : Value) : CrSt w R C u g v (W.setCell ⟨C, 2, none⟩ v) :=
  ⟨gr_set h.below (by have := h.ne; have := h.ge; show w.heap.size ≤ C; omega) _, h.r.other (show R ≠ C by have := h.ne; omega) _, h.c.put 2 _, h.ne, h.ge⟩
theorem int_new (x : Int) (g : Nat) (X : World) (hg : X.heap.size = g) : At intE (.slice (some ⟨g, 0, none⟩) 1 1) [x] (X.alloc (.cells #[.int .i64 x] 3)) := by
  subst hg
  exact (one_int X x 0 (Nat.zero_le _)).at
attribute [local irreducible] Row At
set_option maxHeartbeats 3200000 in
set_option maxRecDepth 100000 in
theorem cred_few (a : Option Addr) (len cap : Nat) (zs : List Int) (w : World) (hr : IsRow .u8 w a len cap zs) (hlen : len ≤ 9223372036854775807) :
    Calls Try.prog 21 #[.slice a len cap] w fun e w' => (∃ c gv, e = .returned (.agg (credC c gv)) ∧ CredAt c gv w' ∧ c.powers = 0 ∧ c.groups.length ≤ 6) ∧ Below w.heap.size w w' := by
  obtain ⟨R, hR⟩ : ∃ g, w.heap.size = g := ⟨_, rfl⟩
  have Hopen := Lib.hid (fun hp => hr.open hp)
  clear hr
  go_enter Try.func21, Try.ntmps21
  go_upto_if 8 with fail
  obtain ⟨C, hC⟩ : ∃ g, R + 1 = g := ⟨_, rfl⟩
  obtain ⟨W0, hW0⟩ : ∃ W, (w.alloc (.cells #[.int .i64 0, .int .i64 0, .slice none 0 0, .int .i64 0] 33)).alloc (.cells #[.int .i64 0, .int .i64 0, .slice none 0 0, .int .i64 0] 33) = W := ⟨_, rfl⟩
  have hst : CrSt w R C 0 0 (.slice none 0 0) W0 := by
    rw [← hW0, ← hC, ← hR]
    exact ⟨by (repeat' (first | exact Below.refl _ _ | assumption | refine gr_drew ?_ | refine gr_drewN ?_ _ | refine gr_alloc ?_ _ | refine gr_set ?_ ?_ _ | refine gr_call ?_ (by assumption)) <;> (try (simp; done)) <;> (try (simp; omega)) <;> (try omega)), (BlkIs.made _ _ _).alloc _, blk_next w _ _ _, by omega, Nat.le_refl _⟩
  try simp only [hR, hC]
  rw [hW0]
  clear hW0
  go_cut [8] from 9 to 14 (fun _ wx => ∃ u, CrSt w R C u 0 (.slice none 0 0) wx)
  case first =>
    by_cases h0 : 0 < len
    · obtain ⟨b, off, rfl, hb, _, hz⟩ := Hopen.out h0
      obtain ⟨z0, hwf⟩ := hz 0 h0
      generalize zs.getD 0 0 = x at *
      have hx : 0 ≤ x ∧ x ≤ 255 := by have h := hwf; simp only [Lit.wf, Bool.and_eq_true, decide_eq_true_eq] at h; exact h
      replace z0 := cell_kept hst.below z0
      rw [Nat.add_zero] at z0
      have e1 : decide ((0 : Int) < (len : Int)) = true := decide_eq_true (by omega)
      have e2 : decide (0 < len) = true := decide_eq_true h0
      have k0 := hst.c.cell_some 0 _ rfl
      have f0 := hst.c.free 0
      have hcz := hst.c.size
      clear hz hwf
      go_wp2_with fail
      go_meet
      exact ⟨_, hst.put0 _⟩
    · have e1 : decide ((0 : Int) < (len : Int)) = false := decide_eq_false (by omega)
      have e2 : decide (0 < len) = false := decide_eq_false h0
      go_wp2_with fail
      go_meet
      exact ⟨_, hst⟩
  case rest =>
    clear hst
    obtain ⟨u, hst⟩ := hcut
    rename World => W1
    go_upto_if 17 with fail
    go_cut [17] from 18 to 23 (fun _ wx => ∃ g, CrSt w R C u g (.slice none 0 0) wx)
    case first =>
      by_cases h1 : 1 < len
      · obtain ⟨b, off, rfl, hb, _, hz⟩ := Hopen.out (by omega)
        obtain ⟨z0, hwf⟩ := hz 1 h1
        generalize zs.getD 1 0 = x at *
        have hx : 0 ≤ x ∧ x ≤ 255 := by have h := hwf; simp only [Lit.wf, Bool.and_eq_true, decide_eq_true_eq] at h; exact h
        replace z0 := cell_kept hst.below z0
        have e1 : decide ((1 : Int) < (len : Int)) = true := decide_eq_true (by omega)
        have e2 : decide (1 < len) = true := decide_eq_true h1
        have k1 := hst.c.cell_some 1 _ rfl
        have f1 := hst.c.free 1
        have hcz := hst.c.size
        clear hz hwf
        go_wp2_with fail
        go_meet
        exact ⟨_, hst.put1 _⟩
      · have e1 : decide ((1 : Int) < (len : Int)) = false := decide_eq_false (by omega)
        have e2 : decide (1 < len) = false := decide_eq_false h1
        go_wp2_with fail
        go_meet
        exact ⟨_, hst⟩
    case rest =>
      clear hst
      obtain ⟨g, hst⟩ := hcut
      rename World => W2
      clear W0 W1
      go_wp2_with fail
      go_loopw [4] (fun iv wr => ∃ (k : Nat) (gv : Value) (gs : List Int), iv = .int .i64 (k : Int) ∧ 2 ≤ k ∧ k ≤ 6 ∧ gs.length ≤ k ∧ CrSt w R C u g gv wr ∧ Row intE w.heap.size gv gs wr ∧ (∀ q, gv.ownBlock = some q → C < q)) (fun iv _ => 6 - (intOf iv).toNat)
      case atStart => exact ⟨2, _, [], rfl, by omega, by omega, by simp, hst, Row.nil _ _, by simp [Value.ownBlock]⟩
      case round =>
        clear hst
        obtain ⟨k, gv, gs, rfl, hk2, hk6, hgs, hst, hrow, hown⟩ := hrel
        rename World => wr
        by_cases hlt : k < len ∧ k < 6
        · obtain ⟨b, off, rfl, hb, hlc, hz⟩ := Hopen.out (by omega)
          obtain ⟨z0, hwf⟩ := hz k hlt.1
          generalize zs.getD k 0 = x at *
          have hx : 0 ≤ x ∧ x ≤ 255 := by have h := hwf; simp only [Lit.wf, Bool.and_eq_true, decide_eq_true_eq] at h; exact h
          have l1 : decide ((k : Int) < (len : Int)) = true := decide_eq_true (by omega)
          have l2 : decide (k < len) = true := decide_eq_true hlt.1
          have l3 : decide ((k : Int) < 6) = true := decide_eq_true (by omega)
          have l4 : decide (k < 6) = true := decide_eq_true hlt.2
          have zw := z0
          have hbl := hst.below
          replace z0 := cell_kept hst.below z0
          have k2 := hst.c.cell_some 2 _ rfl
          have f2 := hst.c.free 2
          have hcz := hst.c.size
          clear hz hwf
          go_upto_region 9 with fail
          have hwr : w.heap.size ≤ wr.heap.size := hst.below.size
          have hnC : gv.ownBlock ≠ some C := fun e => absurd (hown _ e) (Nat.lt_irrefl _)
          have Hst := Lib.hid hst
          clear hst
          have wx : IntKind.i64.wrap x = x := by rw [IntKind.wrap_i64]; omega
          go_region_law (first
              | (refine step_append_at intE rfl _ _ rfl w.heap.size gv (.slice (some ⟨wr.heap.size, 0, none⟩) 1 1) gs [x.tmod 16] ?_ ?_ ?_ ?_ (by simp; omega) ?_ ?_
                 · rfl
                 · repeat' (first | exact hrow | refine Row.drew ?_ | refine Row.alloc ?_ _)
                 · rfl
                 · repeat' (first | (refine int_new _ _ _ ?_; simp; done) | refine At.drew ?_)
                 · (try simp) <;> (try omega)
                 intro v9 w9 hR9 hb9 hg9 ho9
                 obtain ⟨p9, cap9, rfl, _⟩ := hR9.at.shape
                 have hC9 : BlkIs w9 C 33 #[.int .i64 u, .int .i64 g, gv, .int .i64 0] := ((Hst.out.c.kept (show Below wr.heap.size wr _ by (repeat' (first | exact Below.refl _ _ | assumption | refine gr_drew ?_ | refine gr_drewN ?_ _ | refine gr_alloc ?_ _ | refine gr_set ?_ ?_ _ | refine gr_call ?_ (by assumption)) <;> (try (simp; done)) <;> (try (simp; omega)) <;> (try omega))) Hst.out.c.size)).grown hg9 hnC
                 have c9 := hC9.cell_some 2 _ rfl
                 have f9 := hC9.free 2
                 have s9 := hC9.size
                 have hbw9 : Below w.heap.size w w9 := Below.trans (by (repeat' (first | exact Below.refl _ _ | assumption | refine gr_drew ?_ | refine gr_drewN ?_ _ | refine gr_alloc ?_ _ | refine gr_set ?_ ?_ _ | refine gr_call ?_ (by assumption)) <;> (try (simp; done)) <;> (try (simp; omega)) <;> (try omega))) hb9
                 have z9 := cell_kept hbw9 zw))
          all_goals
            have hgs9 := hg9.size
            simp at hgs9
            have hst9 : CrSt w R C u g gv w9 := ⟨hbw9, (Hst.out.r.kept (show Below wr.heap.size wr _ by (repeat' (first | exact Below.refl _ _ | assumption | refine gr_drew ?_ | refine gr_drewN ?_ _ | refine gr_alloc ?_ _ | refine gr_set ?_ ?_ _ | refine gr_call ?_ (by assumption)) <;> (try (simp; done)) <;> (try (simp; omega)) <;> (try omega))) Hst.out.r.size).grown hg9 (fun e => by have := hown _ e; have := Hst.out.ne; omega), hC9, Hst.out.ne, Hst.out.ge⟩
            have hown9 : ∀ q, (Value.slice p9 (gs ++ [x.tmod 16]).length cap9).ownBlock = some q → C < q := by
              intro q e
              rcases ho9 with h | h
              · rw [h] at e; exact hown q e
              · rw [h] at e; injection e with e; subst e; simp; omega
            have hR10 := Row.other hR9 (a := ⟨C, 2, none⟩) (fun e => absurd (hown9 _ e) (Nat.lt_irrefl _)) (.slice p9 (gs ++ [x.tmod 16]).length cap9)
            have hst10 := hst9.put2 (.slice p9 (gs ++ [x.tmod 16]).length cap9)
            clear hR9 hC9 c9 f9 s9 hb9 hg9 ho9 hst9 hbw9 z9 Hst
            simp only [List.length_append, List.length_cons, List.length_nil, Nat.zero_add] at hst10 hR10 hown9
            obtain ⟨W9, hW9⟩ : ∃ W, w9.setCell ⟨C, 2, none⟩ (.slice p9 (gs.length + 1) cap9) = W := ⟨_, rfl⟩
            rw [hW9] at hst10 hR10 ⊢
            clear hW9
            go_wp2_with fail
            go_roundw
            case rel => exact ⟨k + 1, _, gs ++ [x.tmod 16], rfl, by omega, by omega, by simp; omega, hst10, by simpa using hR10, hown9⟩
            case measure => simp only [intOf]; omega
        · have Hst := Lib.hid hst
          obtain ⟨p9, cap9, rfl, _⟩ := hrow.at.shape
          have c0 := hst.c.cell_some 0 _ rfl
          have c1 := hst.c.cell_some 1 _ rfl
          have c2 := hst.c.cell_some 2 _ rfl
          have c3 := hst.c.cell_some 3 _ rfl
          have r0 := hst.r.cell_some 0 _ rfl
          have r1 := hst.r.cell_some 1 _ rfl
          have r2 := hst.r.cell_some 2 _ rfl
          have r3 := hst.r.cell_some 3 _ rfl
          have f0 := hst.r.free 0
          have f1 := hst.r.free 1
          have f2 := hst.r.free 2
          have f3 := hst.r.free 3
          have sc := hst.c.size
          have sr := hst.r.size
          have hRn : (Value.slice p9 gs.length cap9).ownBlock ≠ some R := fun e => by have := hown _ e; have := hst.ne; omega
          have HQ := Lib.hid (((((hst.r.put 0 (.int .i64 u)).put 1 (.int .i64 g)).put 2 (.slice p9 gs.length cap9)).put 3 (.int .i64 0)))
          have HRow := Lib.hid (Row.other (Row.other (Row.other (Row.other hrow (a := ⟨R, 0, none⟩) hRn (.int .i64 u)) (a := ⟨R, 1, none⟩) hRn (.int .i64 g)) (a := ⟨R, 2, none⟩) hRn (.slice p9 gs.length cap9)) (a := ⟨R, 3, none⟩) hRn (.int .i64 0))
          have hge := hst.ge
          have HB := Lib.hid (gr_set (gr_set (gr_set (gr_set hst.below (show w.heap.size ≤ (⟨R, 0, none⟩ : Addr).block from hge) (.int .i64 u)) (show w.heap.size ≤ (⟨R, 1, none⟩ : Addr).block from hge) (.int .i64 g)) (show w.heap.size ≤ (⟨R, 2, none⟩ : Addr).block from hge) (.slice p9 gs.length cap9)) (show w.heap.size ≤ (⟨R, 3, none⟩ : Addr).block from hge) (.int .i64 0))
          have hgl : gs.length ≤ 6 := by omega
          clear hst hrow hown Hopen
          by_cases hk : k < len
          · have l1 : decide ((k : Int) < (len : Int)) = true := decide_eq_true (by omega)
            have l2 : decide (k < len) = true := decide_eq_true hk
            have l3 : decide ((k : Int) < 6) = false := decide_eq_false (by omega)
            have l4 : decide (k < 6) = false := decide_eq_false (by omega)
            clear hlt
            go_wp2_with fail
            obtain ⟨W8, hW8⟩ : ∃ W, ((((wr.setCell ⟨R, 0, none⟩ (.int .i64 u)).setCell ⟨R, 1, none⟩ (.int .i64 g)).setCell ⟨R, 2, none⟩ (.slice p9 gs.length cap9)).setCell ⟨R, 3, none⟩ (.int .i64 0)) = W := ⟨_, rfl⟩
            have hQ := HQ.out
            have hrw := HRow.out
            have hbw := HB.out
            rw [hW8] at hQ hrw hbw
            rw [hW8]
            clear hW8 HQ HRow HB c0 c1 c2 c3 r0 r1 r2 r3 f0 f1 f2 f3 sc sr
            have n0 : W8.cell? ⟨R, 0, none⟩ = some (.int .i64 u) := hQ.cell_some 0 _ rfl
            have n1 : W8.cell? ⟨R, 1, none⟩ = some (.int .i64 g) := hQ.cell_some 1 _ rfl
            have n2 : W8.cell? ⟨R, 2, none⟩ = some (.slice p9 gs.length cap9) := hQ.cell_some 2 _ rfl
            have n3 : W8.cell? ⟨R, 3, none⟩ = some (.int .i64 0) := hQ.cell_some 3 _ rfl
            refine bodyPost_ret (v := .agg #[.int .i64 u, .int .i64 g, .slice p9 gs.length cap9, .int .i64 0]) (by simp [results, Try.results21, go_sem, *]) rfl ?_
            exact ⟨⟨⟨u, g, gs, 0⟩, _, rfl, ⟨hrw.at, by show gs.length ≤ 1000000; omega⟩, rfl, hgl⟩, hbw⟩
          · have l1 : decide ((k : Int) < (len : Int)) = false := decide_eq_false (by omega)
            have l2 : decide (k < len) = false := decide_eq_false hk
            clear hlt
            go_wp2_with fail
            obtain ⟨W8, hW8⟩ : ∃ W, ((((wr.setCell ⟨R, 0, none⟩ (.int .i64 u)).setCell ⟨R, 1, none⟩ (.int .i64 g)).setCell ⟨R, 2, none⟩ (.slice p9 gs.length cap9)).setCell ⟨R, 3, none⟩ (.int .i64 0)) = W := ⟨_, rfl⟩
            have hQ := HQ.out
            have hrw := HRow.out
            have hbw := HB.out
            rw [hW8] at hQ hrw hbw
            rw [hW8]
            clear hW8 HQ HRow HB c0 c1 c2 c3 r0 r1 r2 r3 f0 f1 f2 f3 sc sr
            have n0 : W8.cell? ⟨R, 0, none⟩ = some (.int .i64 u) := hQ.cell_some 0 _ rfl
            have n1 : W8.cell? ⟨R, 1, none⟩ = some (.int .i64 g) := hQ.cell_some 1 _ rfl
            have n2 : W8.cell? ⟨R, 2, none⟩ = some (.slice p9 gs.length cap9) := hQ.cell_some 2 _ rfl
            have n3 : W8.cell? ⟨R, 3, none⟩ = some (.int .i64 0) := hQ.cell_some 3 _ rfl
            refine bodyPost_ret (v := .agg #[.int .i64 u, .int .i64 g, .slice p9 gs.length cap9, .int .i64 0]) (by simp [results, Try.results21, go_sem, *]) rfl ?_
            exact ⟨⟨⟨u, g, gs, 0⟩, _, rfl, ⟨hrw.at, by show gs.length ≤ 1000000; omega⟩, rfl, hgl⟩, hbw⟩
end Go.Proofs.Ytpfidbcnefnhcaa

/- Where a law stands that asks who may what: metadata in one block, who asks in another. -/
namespace Go.Proofs.Ytpfidbcnefnhcaa
open Go.RowKit
open MetaM RightM AclM
set_option linter.unusedVariables false
structure LawSt (w : World) (bm bc : Nat) (m : Mt) (va vd vx : Value) (c : Cr) (gv : Value) (W : World) : Prop where
  below : Below w.heap.size w W
  mb : BlkIs W bm 30 #[.int .i64 m.mode, .int .i64 m.uid, .int .i64 m.gid, .int .i64 m.sec, .int .i64 m.nano, va, vd, vx, .int .i64 m.cap.v, .int .u64 (m.cap.p : Int), .int .u64 (m.cap.i : Int), .bool m.cap.e, .int .i64 m.cap.r, .int .i64 m.flags]
  cb : BlkIs W bc 33 #[.int .i64 c.uid, .int .i64 c.gid, gv, .int .i64 c.powers]
  ra : RightAt m va vd vx W
  ca : CredAt c gv W
theorem LawSt.call {w : World} {bm bc : Nat} {m : Mt} {va vd vx : Value} {c : Cr} {gv : Value} {W W' : World} (h : LawSt w bm bc m va vd vx c gv W) (hb : Below W.heap.size W W') : LawSt w bm bc m va vd vx c gv W' :=
  ⟨gr_call h.below hb, h.mb.kept hb h.mb.size, h.cb.kept hb h.cb.size, h.ra.call hb, h.ca.call hb⟩
theorem blk_of {w : World} {b : Nat} (hb : w.heap.size = b) (t : TypeId) (cs : Array Value) : BlkIs (w.alloc (.cells cs t)) b t cs := by subst hb; exact BlkIs.made _ _ _
theorem can_at {w : World} {bm bc : Nat} {m : Mt} {va vd vx : Value} {c : Cr} {gv : Value} {W : World} (h : LawSt w bm bc m va vd vx c gv W) (x : Int) :
    Calls Try.prog 14 #[.agg #[.int .i64 m.mode, .int .i64 m.uid, .int .i64 m.gid, .int .i64 m.sec, .int .i64 m.nano, va, vd, vx, .int .i64 m.cap.v, .int .u64 (m.cap.p : Int), .int .u64 (m.cap.i : Int), .bool m.cap.e, .int .i64 m.cap.r, .int .i64 m.flags], .agg #[.int .i64 c.uid, .int .i64 c.gid, gv, .int .i64 c.powers], .int .i64 x] W fun e w' => e = .returned (.bool (canM m c x)) ∧ Below W.heap.size W w' := can_any m va vd vx c gv x W h.ra h.ca
theorem in_at {w : World} {bm bc : Nat} {m : Mt} {va vd vx : Value} {c : Cr} {gv : Value} {W : World} (h : LawSt w bm bc m va vd vx c gv W) (x : Int) :
    Calls Try.prog 12 #[.agg #[.int .i64 c.uid, .int .i64 c.gid, gv, .int .i64 c.powers], .int .i64 x] W fun e w' => e = .returned (.bool (inM c x)) ∧ Below W.heap.size W w' := in_any c gv x W h.ca
end Go.Proofs.Ytpfidbcnefnhcaa

/- What is made by numbers may be said of its kind; with one thing turned it may not. -/
namespace Go.Proofs.Ytpfidbcnefnhcaa
open Go.RowKit
open MetaM
set_option linter.unusedVariables false
namespace MetaM
def XOk (l : List XatM.Xa) : Prop := l.length ≤ 6 ∧ XatM.mayL l = true ∧ ∀ x ∈ l, x.2.length ≤ 19
def AOk (l : List AclM.Ace) (md : Int) : Prop := l.length ≤ 32 ∧ aclOk l md = true
def DOk (l : List AclM.Ace) (k : Int) : Prop := l.length ≤ 32 ∧ dflOk l k = true
theorem acl_ok {l : List AclM.Ace} {md N : Int} (h : AclM.may l = true) (h2 : AclW.modeL l = N) (h3 : N = md % 512) : AOk l md :=
  ⟨AclW.may_len h, by unfold aclOk; rw [h, h2, h3, decide_eq_true rfl]; simp⟩
theorem dfl_ok {l : List AclM.Ace} {k : Int} (h : AclM.may l = true) (h2 : k = 6) : DOk l k :=
  ⟨AclW.may_len h, by unfold dflOk; rw [h, decide_eq_true h2]; simp⟩
theorem cap_ok (zs : List Int) (len : Nat) (k : Int) (h : numK zs len 11 ≤ 255) : capOk (capK zs len k) k = true := by
  unfold capK
  split
  · rename_i hc
    unfold capOk
    rw [mk_may _ _ _ _ (by omega), decide_eq_true hc.1]
    simp
  · rfl
theorem id_ok {n : Int} (h0 : 0 ≤ n) (h1 : n ≤ 5) : idOk n = true := by unfold idOk; rw [decide_eq_true h0, decide_eq_true (by omega)]; rfl
theorem made_sym {u g s n : Int} {xs : List XatM.Xa} (hu : 0 ≤ u ∧ u ≤ 5) (hg : 0 ≤ g ∧ g ≤ 5) (hs : stampOk s n = true) (hx : XatM.mayL xs = true) :
    mayM ⟨511, u, g, s, n, [], [], xs, ⟨0, 0, 0, false, 0⟩, 0⟩ 3 = true := by
  unfold mayM
  simp only
  rw [id_ok hu.1 hu.2, id_ok hg.1 hg.2, hs, hx]
  rfl
theorem kind_in {k : Int} (hk : kAny k) : kindIn k = true := by
  rcases hk with rfl | rfl | rfl | rfl | rfl | rfl <;> rfl
theorem made_any {md u g s n f k : Int} {al dl : List AclM.Ace} {xs : List XatM.Xa} {c : CapsM.Cap} (hk : kAny k) (h3 : k ≠ 3) (hm : 0 ≤ md ∧ md ≤ 4095) (hu : 0 ≤ u ∧ u ≤ 5) (hg : 0 ≤ g ∧ g ≤ 5) (hs : stampOk s n = true)
    (ha : aclOk al md = true) (hd : dflOk dl k = true) (hx : XatM.mayL xs = true) (hc : capOk c k = true) (hf : 0 ≤ f ∧ f ≤ 15) : mayM ⟨md, u, g, s, n, al, dl, xs, c, f⟩ k = true := by
  unfold mayM
  simp only
  rw [kind_in hk, mode_ok hm.1 hm.2, id_ok hu.1 hu.2, id_ok hg.1 hg.2, hs, ha, hd, hx, hc, show flagsOk f = true by unfold flagsOk; rw [decide_eq_true hf.1, decide_eq_true hf.2]; rfl]
  unfold symOk
  rw [decide_eq_true h3]
  rfl
theorem stamp_ok {s n : Int} (hs : -100000 ≤ s ∧ s ≤ 1000000) (hn : 0 ≤ n ∧ n ≤ 500000000) : stampOk s n = true := by
  unfold stampOk
  rw [decide_eq_true (by omega), decide_eq_true (by omega), decide_eq_true hn.1, decide_eq_true (by omega)]
  rfl
theorem same_eq {m n : Mt} (h : sameM m n = true) : m = n := by
  obtain ⟨mode, uid, gid, sec, nano, acl, dfl, xat, ⟨cv, cp, ci, ce, cr⟩, flags⟩ := m
  obtain ⟨mode', uid', gid', sec', nano', acl', dfl', xat', ⟨cv', cp', ci', ce', cr'⟩, flags'⟩ := n
  unfold sameM AclW.sameL at h
  simp only [Bool.and_eq_true, decide_eq_true_eq] at h
  obtain ⟨⟨⟨⟨⟨⟨⟨⟨h1, h2⟩, h3⟩, h4, h5⟩, h6⟩, h7⟩, h8⟩, h9, h10, h11, h12, h13⟩, h14⟩ := h
  subst h1 h2 h3 h4 h5 h6 h7 h8 h9 h10 h11 h12 h13 h14
  rfl
theorem other {m n : Mt} {k : Int} (h1 : mayM m k = true) (h2 : mayM n k = false) : sameM m n = false := by
  rcases h : sameM m n with _ | _
  · rfl
  · rw [same_eq h, h2] at h1; cases h1
end MetaM
end Go.Proofs.Ytpfidbcnefnhcaa

/- Fourteen cells stored. -/
namespace Go.Proofs.Ytpfidbcnefnhcaa
open Go.RowKit
open MetaM
set_option linter.unusedVariables false

def put14 (w : World) (h : Nat) (c0 c1 c2 c3 c4 c5 c6 c7 c8 c9 c10 c11 c12 c13 : Value) : World := ((((((((((((((w.setCell ⟨h, 0, none⟩ (c0)).setCell ⟨h, 1, none⟩ (c1)).setCell ⟨h, 2, none⟩ (c2)).setCell ⟨h, 3, none⟩ (c3)).setCell ⟨h, 4, none⟩ (c4)).setCell ⟨h, 5, none⟩ (c5)).setCell ⟨h, 6, none⟩ (c6)).setCell ⟨h, 7, none⟩ (c7)).setCell ⟨h, 8, none⟩ (c8)).setCell ⟨h, 9, none⟩ (c9)).setCell ⟨h, 10, none⟩ (c10)).setCell ⟨h, 11, none⟩ (c11)).setCell ⟨h, 12, none⟩ (c12)).setCell ⟨h, 13, none⟩ (c13))
theorem list14a {cs : Array Value} (h : cs.size = 14) : ∃ c0 c1 c2 c3 c4 c5 c6 c7 c8 c9 c10 c11 c12 c13, cs = #[c0, c1, c2, c3, c4, c5, c6, c7, c8, c9, c10, c11, c12, c13] := by
  obtain ⟨l⟩ := cs
  match l, h with
  | [c0, c1, c2, c3, c4, c5, c6, c7, c8, c9, c10, c11, c12, c13], _ => exact ⟨c0, c1, c2, c3, c4, c5, c6, c7, c8, c9, c10, c11, c12, c13, rfl⟩
theorem put14_is {w : World} {h : Nat} {t : TypeId} {cs : Array Value} (hb : BlkIs w h t cs) (hs : cs.size = 14) (c0 c1 c2 c3 c4 c5 c6 c7 c8 c9 c10 c11 c12 c13 : Value) : BlkIs (put14 w h c0 c1 c2 c3 c4 c5 c6 c7 c8 c9 c10 c11 c12 c13) h t #[c0, c1, c2, c3, c4, c5, c6, c7, c8, c9, c10, c11, c12, c13] := by
  obtain ⟨d0, d1, d2, d3, d4, d5, d6, d7, d8, d9, d10, d11, d12, d13, rfl⟩ := list14a hs
  have k := (((((((((((((hb.put 0 c0).put 1 c1).put 2 c2).put 3 c3).put 4 c4).put 5 c5).put 6 c6).put 7 c7).put 8 c8).put 9 c9).put 10 c10).put 11 c11).put 12 c12).put 13 c13
  simp only [List.setIfInBounds_toArray, List.set_cons_zero, List.set_cons_succ] at k
  unfold put14
  exact k
theorem put14_other {w : World} {h g : Nat} {t : TypeId} {cs : Array Value} (hb : BlkIs w g t cs) (hn : g ≠ h) (c0 c1 c2 c3 c4 c5 c6 c7 c8 c9 c10 c11 c12 c13 : Value) : BlkIs (put14 w h c0 c1 c2 c3 c4 c5 c6 c7 c8 c9 c10 c11 c12 c13) g t cs :=
  (((((((((((((hb.other (p := ⟨h, 0, none⟩) hn c0).other (p := ⟨h, 1, none⟩) hn c1).other (p := ⟨h, 2, none⟩) hn c2).other (p := ⟨h, 3, none⟩) hn c3).other (p := ⟨h, 4, none⟩) hn c4).other (p := ⟨h, 5, none⟩) hn c5).other (p := ⟨h, 6, none⟩) hn c6).other (p := ⟨h, 7, none⟩) hn c7).other (p := ⟨h, 8, none⟩) hn c8).other (p := ⟨h, 9, none⟩) hn c9).other (p := ⟨h, 10, none⟩) hn c10).other (p := ⟨h, 11, none⟩) hn c11).other (p := ⟨h, 12, none⟩) hn c12).other (p := ⟨h, 13, none⟩) hn c13
theorem put14_below {a w : World} {h : Nat} (hb : Below a.heap.size a w) (hh : a.heap.size ≤ h) (c0 c1 c2 c3 c4 c5 c6 c7 c8 c9 c10 c11 c12 c13 : Value) : Below a.heap.size a (put14 w h c0 c1 c2 c3 c4 c5 c6 c7 c8 c9 c10 c11 c12 c13) :=
  gr_set (gr_set (gr_set (gr_set (gr_set (gr_set (gr_set (gr_set (gr_set (gr_set (gr_set (gr_set (gr_set (gr_set hb (p := ⟨h, 0, none⟩) hh c0) (p := ⟨h, 1, none⟩) hh c1) (p := ⟨h, 2, none⟩) hh c2) (p := ⟨h, 3, none⟩) hh c3) (p := ⟨h, 4, none⟩) hh c4) (p := ⟨h, 5, none⟩) hh c5) (p := ⟨h, 6, none⟩) hh c6) (p := ⟨h, 7, none⟩) hh c7) (p := ⟨h, 8, none⟩) hh c8) (p := ⟨h, 9, none⟩) hh c9) (p := ⟨h, 10, none⟩) hh c10) (p := ⟨h, 11, none⟩) hh c11) (p := ⟨h, 12, none⟩) hh c12) (p := ⟨h, 13, none⟩) hh c13
end Go.Proofs.Ytpfidbcnefnhcaa
