/- The law MetaAll, walked. -/
import Derived.Test.YtajjhndpdjfcpaaMetaAwake
import Derived.Test.YtajjhndpdjfcpaaRegionU
namespace Go.Proofs.Ytajjhndpdjfcpaa
open Go.RowKit
open MetaM
set_option linter.unusedVariables false
attribute [local irreducible] Row At

theorem sameM_self (m : Mt) : sameM m m = true := by
  unfold sameM
  simp [AclW.sameL]
theorem beq_self (b : Bool) : (b == b) = true := by cases b <;> rfl

set_option maxHeartbeats 6400000 in
set_option maxRecDepth 100000 in
theorem metaAll_walk (m : Mt) (va vd vx : Value) (n : Mt) (ua ud ux : Value) (k mo ui gi : Int) (w : World) (hm : MetaRd m va vd vx w) (hn : MetaRd n ua ud ux w) (_ : (Lit.int .i64 k).wf = true) (_ : (Lit.int .i64 mo).wf = true) (_ : (Lit.int .i64 ui).wf = true) (_ : (Lit.int .i64 gi).wf = true) :
    Calls Try.prog 3 #[.agg (metaC m va vd vx), .agg (metaC n ua ud ux), .int .i64 k, .int .i64 mo, .int .i64 ui, .int .i64 gi] w fun e w' => e = .returned (.bool true) ∧ Below w.heap.size w w' := by
  have H1 := Lib.hid (fun W (hb : Below w.heap.size w W) => heavy_any m va vd vx W (hm.call hb))
  have H2 := Lib.hid (fun W (hb : Below w.heap.size w W) => heavy_any n ua ud ux W (hn.call hb))
  obtain ⟨W, hW⟩ : ∃ W, (w.alloc (.cells (metaC m va vd vx) 30)).alloc (.cells (metaC n ua ud ux) 30) = W := ⟨_, rfl⟩
  have hblk : BlkIs W w.heap.size 30 (metaC m va vd vx) := by rw [← hW]; exact (BlkIs.made _ _ _).alloc _
  have hblj : BlkIs W (w.heap.size + 1) 30 (metaC n ua ud ux) := by rw [← hW]; exact blk_next w _ _ _
  have hbl : Below w.heap.size w W := by rw [← hW]; exact gr_alloc (gr_alloc (Below.refl _ _) _) _
  unfold metaC at H1 H2 hW hblk hblj
  unfold metaC
  have k0 := hblk.cell_some 0 _ rfl; have k1 := hblk.cell_some 1 _ rfl; have k2 := hblk.cell_some 2 _ rfl; have k3 := hblk.cell_some 3 _ rfl; have k4 := hblk.cell_some 4 _ rfl; have k5 := hblk.cell_some 5 _ rfl; have k6 := hblk.cell_some 6 _ rfl; have k7 := hblk.cell_some 7 _ rfl; have k8 := hblk.cell_some 8 _ rfl; have k9 := hblk.cell_some 9 _ rfl; have k10 := hblk.cell_some 10 _ rfl; have k11 := hblk.cell_some 11 _ rfl; have k12 := hblk.cell_some 12 _ rfl; have k13 := hblk.cell_some 13 _ rfl
  have j0 := hblj.cell_some 0 _ rfl; have j1 := hblj.cell_some 1 _ rfl; have j2 := hblj.cell_some 2 _ rfl; have j3 := hblj.cell_some 3 _ rfl; have j4 := hblj.cell_some 4 _ rfl; have j5 := hblj.cell_some 5 _ rfl; have j6 := hblj.cell_some 6 _ rfl; have j7 := hblj.cell_some 7 _ rfl; have j8 := hblj.cell_some 8 _ rfl; have j9 := hblj.cell_some 9 _ rfl; have j10 := hblj.cell_some 10 _ rfl; have j11 := hblj.cell_some 11 _ rfl; have j12 := hblj.cell_some 12 _ rfl; have j13 := hblj.cell_some 13 _ rfl
  rcases hh1 : heavy m with _ | _
  case true =>
    rw [hh1] at H1
    go_enter Try.func3, Try.ntmps3
    go_wp2_with fail
    refine (H1.out _ hbl).mono ?_
    rintro e w2 ⟨rfl, hb2⟩
    replace hbl := gr_call hbl hb2; replace hblk := hblk.kept hb2 hblk.size; replace hblj := hblj.kept hb2 hblj.size; clear hb2; clear k0 k1 k2 k3 k4 k5 k6 k7 k8 k9 k10 k11 k12 k13 j0 j1 j2 j3 j4 j5 j6 j7 j8 j9 j10 j11 j12 j13; have k0 := hblk.cell_some 0 _ rfl; have k1 := hblk.cell_some 1 _ rfl; have k2 := hblk.cell_some 2 _ rfl; have k3 := hblk.cell_some 3 _ rfl; have k4 := hblk.cell_some 4 _ rfl; have k5 := hblk.cell_some 5 _ rfl; have k6 := hblk.cell_some 6 _ rfl; have k7 := hblk.cell_some 7 _ rfl; have k8 := hblk.cell_some 8 _ rfl; have k9 := hblk.cell_some 9 _ rfl; have k10 := hblk.cell_some 10 _ rfl; have k11 := hblk.cell_some 11 _ rfl; have k12 := hblk.cell_some 12 _ rfl; have k13 := hblk.cell_some 13 _ rfl; have j0 := hblj.cell_some 0 _ rfl; have j1 := hblj.cell_some 1 _ rfl; have j2 := hblj.cell_some 2 _ rfl; have j3 := hblj.cell_some 3 _ rfl; have j4 := hblj.cell_some 4 _ rfl; have j5 := hblj.cell_some 5 _ rfl; have j6 := hblj.cell_some 6 _ rfl; have j7 := hblj.cell_some 7 _ rfl; have j8 := hblj.cell_some 8 _ rfl; have j9 := hblj.cell_some 9 _ rfl; have j10 := hblj.cell_some 10 _ rfl; have j11 := hblj.cell_some 11 _ rfl; have j12 := hblj.cell_some 12 _ rfl; have j13 := hblj.cell_some 13 _ rfl
    go_wp2_with fail
    refine (awake_any _).mono ?_
    rintro e w3 ⟨rfl, hb3⟩
    go_wp2_with fail
    go_ret
    exact ⟨rfl, gr_call hbl hb3⟩
  rw [hh1] at H1
  rcases hh2 : heavy n with _ | _
  case true =>
    rw [hh2] at H2
    go_enter Try.func3, Try.ntmps3
    go_wp2_with fail
    refine (H1.out _ hbl).mono ?_
    rintro e w2 ⟨rfl, hb2⟩
    replace hbl := gr_call hbl hb2; replace hblk := hblk.kept hb2 hblk.size; replace hblj := hblj.kept hb2 hblj.size; clear hb2; clear k0 k1 k2 k3 k4 k5 k6 k7 k8 k9 k10 k11 k12 k13 j0 j1 j2 j3 j4 j5 j6 j7 j8 j9 j10 j11 j12 j13; have k0 := hblk.cell_some 0 _ rfl; have k1 := hblk.cell_some 1 _ rfl; have k2 := hblk.cell_some 2 _ rfl; have k3 := hblk.cell_some 3 _ rfl; have k4 := hblk.cell_some 4 _ rfl; have k5 := hblk.cell_some 5 _ rfl; have k6 := hblk.cell_some 6 _ rfl; have k7 := hblk.cell_some 7 _ rfl; have k8 := hblk.cell_some 8 _ rfl; have k9 := hblk.cell_some 9 _ rfl; have k10 := hblk.cell_some 10 _ rfl; have k11 := hblk.cell_some 11 _ rfl; have k12 := hblk.cell_some 12 _ rfl; have k13 := hblk.cell_some 13 _ rfl; have j0 := hblj.cell_some 0 _ rfl; have j1 := hblj.cell_some 1 _ rfl; have j2 := hblj.cell_some 2 _ rfl; have j3 := hblj.cell_some 3 _ rfl; have j4 := hblj.cell_some 4 _ rfl; have j5 := hblj.cell_some 5 _ rfl; have j6 := hblj.cell_some 6 _ rfl; have j7 := hblj.cell_some 7 _ rfl; have j8 := hblj.cell_some 8 _ rfl; have j9 := hblj.cell_some 9 _ rfl; have j10 := hblj.cell_some 10 _ rfl; have j11 := hblj.cell_some 11 _ rfl; have j12 := hblj.cell_some 12 _ rfl; have j13 := hblj.cell_some 13 _ rfl
    go_wp2_with fail
    refine (H2.out _ hbl).mono ?_
    rintro e w2 ⟨rfl, hb2⟩
    replace hbl := gr_call hbl hb2; replace hblk := hblk.kept hb2 hblk.size; replace hblj := hblj.kept hb2 hblj.size; clear hb2; clear k0 k1 k2 k3 k4 k5 k6 k7 k8 k9 k10 k11 k12 k13 j0 j1 j2 j3 j4 j5 j6 j7 j8 j9 j10 j11 j12 j13; have k0 := hblk.cell_some 0 _ rfl; have k1 := hblk.cell_some 1 _ rfl; have k2 := hblk.cell_some 2 _ rfl; have k3 := hblk.cell_some 3 _ rfl; have k4 := hblk.cell_some 4 _ rfl; have k5 := hblk.cell_some 5 _ rfl; have k6 := hblk.cell_some 6 _ rfl; have k7 := hblk.cell_some 7 _ rfl; have k8 := hblk.cell_some 8 _ rfl; have k9 := hblk.cell_some 9 _ rfl; have k10 := hblk.cell_some 10 _ rfl; have k11 := hblk.cell_some 11 _ rfl; have k12 := hblk.cell_some 12 _ rfl; have k13 := hblk.cell_some 13 _ rfl; have j0 := hblj.cell_some 0 _ rfl; have j1 := hblj.cell_some 1 _ rfl; have j2 := hblj.cell_some 2 _ rfl; have j3 := hblj.cell_some 3 _ rfl; have j4 := hblj.cell_some 4 _ rfl; have j5 := hblj.cell_some 5 _ rfl; have j6 := hblj.cell_some 6 _ rfl; have j7 := hblj.cell_some 7 _ rfl; have j8 := hblj.cell_some 8 _ rfl; have j9 := hblj.cell_some 9 _ rfl; have j10 := hblj.cell_some 10 _ rfl; have j11 := hblj.cell_some 11 _ rfl; have j12 := hblj.cell_some 12 _ rfl; have j13 := hblj.cell_some 13 _ rfl
    go_wp2_with fail
    refine (awake_any _).mono ?_
    rintro e w3 ⟨rfl, hb3⟩
    go_wp2_with fail
    go_ret
    exact ⟨rfl, gr_call hbl hb3⟩
  rw [hh2] at H2
  have hma := hm.at hh1
  have hna := hn.at hh2
  have C1 := Lib.hid (fun W (hb : Below w.heap.size w W) => MayM_any m va vd vx k W (hma.call hb))
  have C2 := Lib.hid (fun W (hb : Below w.heap.size w W) => refMayMeta_any m va vd vx k W (hma.call hb))
  have C3 := Lib.hid (fun W (hb : Below w.heap.size w W) => SameM_any m n va vd vx ua ud ux W (hma.call hb) (hna.call hb))
  have C4 := Lib.hid (fun W (hb : Below w.heap.size w W) => refSameMeta_any m n va vd vx ua ud ux W (hma.call hb) (hna.call hb))
  have C5 := Lib.hid (fun W (hb : Below w.heap.size w W) => SameM_any m m va vd vx va vd vx W (hma.call hb) (hma.call hb))
  have C6 := Lib.hid (fun W => PlainM_any mo ui gi W)
  have C7 := Lib.hid (fun W => refPlain_any mo ui gi W)
  have C8 := Lib.hid (fun W => SameM_any (plainM mo ui gi) (plainM mo ui gi) nilV nilV nilV nilV nilV nilV W (plain_at _ _ _ W) (plain_at _ _ _ W))
  simp only [sameM_self] at C5 C8
  generalize mayM m k = b at C1 C2
  generalize sameM m n = s at C3 C4
  unfold metaC at C1 C2 C3 C4 C5 C6 C7 C8
  unfold plainM nilV at C6 C7 C8
  clear hm hn hma hna hh1 hh2
  go_enter Try.func3, Try.ntmps3
  go_wp2_with fail
  refine (H1.out _ hbl).mono ?_
  rintro e w2 ⟨rfl, hb2⟩
  replace hbl := gr_call hbl hb2; replace hblk := hblk.kept hb2 hblk.size; replace hblj := hblj.kept hb2 hblj.size; clear hb2; clear k0 k1 k2 k3 k4 k5 k6 k7 k8 k9 k10 k11 k12 k13 j0 j1 j2 j3 j4 j5 j6 j7 j8 j9 j10 j11 j12 j13; have k0 := hblk.cell_some 0 _ rfl; have k1 := hblk.cell_some 1 _ rfl; have k2 := hblk.cell_some 2 _ rfl; have k3 := hblk.cell_some 3 _ rfl; have k4 := hblk.cell_some 4 _ rfl; have k5 := hblk.cell_some 5 _ rfl; have k6 := hblk.cell_some 6 _ rfl; have k7 := hblk.cell_some 7 _ rfl; have k8 := hblk.cell_some 8 _ rfl; have k9 := hblk.cell_some 9 _ rfl; have k10 := hblk.cell_some 10 _ rfl; have k11 := hblk.cell_some 11 _ rfl; have k12 := hblk.cell_some 12 _ rfl; have k13 := hblk.cell_some 13 _ rfl; have j0 := hblj.cell_some 0 _ rfl; have j1 := hblj.cell_some 1 _ rfl; have j2 := hblj.cell_some 2 _ rfl; have j3 := hblj.cell_some 3 _ rfl; have j4 := hblj.cell_some 4 _ rfl; have j5 := hblj.cell_some 5 _ rfl; have j6 := hblj.cell_some 6 _ rfl; have j7 := hblj.cell_some 7 _ rfl; have j8 := hblj.cell_some 8 _ rfl; have j9 := hblj.cell_some 9 _ rfl; have j10 := hblj.cell_some 10 _ rfl; have j11 := hblj.cell_some 11 _ rfl; have j12 := hblj.cell_some 12 _ rfl; have j13 := hblj.cell_some 13 _ rfl
  go_wp2_with fail
  refine (H2.out _ hbl).mono ?_
  rintro e w2 ⟨rfl, hb2⟩
  replace hbl := gr_call hbl hb2; replace hblk := hblk.kept hb2 hblk.size; replace hblj := hblj.kept hb2 hblj.size; clear hb2; clear k0 k1 k2 k3 k4 k5 k6 k7 k8 k9 k10 k11 k12 k13 j0 j1 j2 j3 j4 j5 j6 j7 j8 j9 j10 j11 j12 j13; have k0 := hblk.cell_some 0 _ rfl; have k1 := hblk.cell_some 1 _ rfl; have k2 := hblk.cell_some 2 _ rfl; have k3 := hblk.cell_some 3 _ rfl; have k4 := hblk.cell_some 4 _ rfl; have k5 := hblk.cell_some 5 _ rfl; have k6 := hblk.cell_some 6 _ rfl; have k7 := hblk.cell_some 7 _ rfl; have k8 := hblk.cell_some 8 _ rfl; have k9 := hblk.cell_some 9 _ rfl; have k10 := hblk.cell_some 10 _ rfl; have k11 := hblk.cell_some 11 _ rfl; have k12 := hblk.cell_some 12 _ rfl; have k13 := hblk.cell_some 13 _ rfl; have j0 := hblj.cell_some 0 _ rfl; have j1 := hblj.cell_some 1 _ rfl; have j2 := hblj.cell_some 2 _ rfl; have j3 := hblj.cell_some 3 _ rfl; have j4 := hblj.cell_some 4 _ rfl; have j5 := hblj.cell_some 5 _ rfl; have j6 := hblj.cell_some 6 _ rfl; have j7 := hblj.cell_some 7 _ rfl; have j8 := hblj.cell_some 8 _ rfl; have j9 := hblj.cell_some 9 _ rfl; have j10 := hblj.cell_some 10 _ rfl; have j11 := hblj.cell_some 11 _ rfl; have j12 := hblj.cell_some 12 _ rfl; have j13 := hblj.cell_some 13 _ rfl
  clear H1 H2
  go_wp2_with fail
  clear k0 k1 k2 k3 k4 k5 k6 k7 k8 k9 k10 k11 k12 k13 j0 j1 j2 j3 j4 j5 j6 j7 j8 j9 j10 j11 j12 j13
  refine region_oneUL (S := fun W => Below w2.heap.size w2 W) 35
    [(fun W v => v = .agg #[.int .i64 m.mode, .int .i64 m.uid, .int .i64 m.gid, .int .i64 m.sec, .int .i64 m.nano, va, vd, vx, .int .i64 m.cap.v, .int .u64 (m.cap.p : Int), .int .u64 (m.cap.i : Int), .bool m.cap.e, .int .i64 m.cap.r, .int .i64 m.flags]),
    (fun W v => v = .int .i64 k),
    (fun W v => v = .bool b),
    (fun W v => v = .agg #[.int .i64 m.mode, .int .i64 m.uid, .int .i64 m.gid, .int .i64 m.sec, .int .i64 m.nano, va, vd, vx, .int .i64 m.cap.v, .int .u64 (m.cap.p : Int), .int .u64 (m.cap.i : Int), .bool m.cap.e, .int .i64 m.cap.r, .int .i64 m.flags]),
    (fun W v => v = .int .i64 k),
    (fun W v => v = .bool b),
    (fun W v => v = .bool true),
    (fun W v => v = .bool true),
    (fun W v => v = .agg #[.int .i64 m.mode, .int .i64 m.uid, .int .i64 m.gid, .int .i64 m.sec, .int .i64 m.nano, va, vd, vx, .int .i64 m.cap.v, .int .u64 (m.cap.p : Int), .int .u64 (m.cap.i : Int), .bool m.cap.e, .int .i64 m.cap.r, .int .i64 m.flags]),
    (fun W v => v = .agg #[.int .i64 n.mode, .int .i64 n.uid, .int .i64 n.gid, .int .i64 n.sec, .int .i64 n.nano, ua, ud, ux, .int .i64 n.cap.v, .int .u64 (n.cap.p : Int), .int .u64 (n.cap.i : Int), .bool n.cap.e, .int .i64 n.cap.r, .int .i64 n.flags]),
    (fun W v => v = .bool s),
    (fun W v => v = .agg #[.int .i64 m.mode, .int .i64 m.uid, .int .i64 m.gid, .int .i64 m.sec, .int .i64 m.nano, va, vd, vx, .int .i64 m.cap.v, .int .u64 (m.cap.p : Int), .int .u64 (m.cap.i : Int), .bool m.cap.e, .int .i64 m.cap.r, .int .i64 m.flags]),
    (fun W v => v = .agg #[.int .i64 n.mode, .int .i64 n.uid, .int .i64 n.gid, .int .i64 n.sec, .int .i64 n.nano, ua, ud, ux, .int .i64 n.cap.v, .int .u64 (n.cap.p : Int), .int .u64 (n.cap.i : Int), .bool n.cap.e, .int .i64 n.cap.r, .int .i64 n.flags]),
    (fun W v => v = .bool s),
    (fun W v => v = .bool true),
    (fun W v => v = .bool true),
    (fun W v => v = .bool true),
    (fun W v => v = .agg #[.int .i64 m.mode, .int .i64 m.uid, .int .i64 m.gid, .int .i64 m.sec, .int .i64 m.nano, va, vd, vx, .int .i64 m.cap.v, .int .u64 (m.cap.p : Int), .int .u64 (m.cap.i : Int), .bool m.cap.e, .int .i64 m.cap.r, .int .i64 m.flags]),
    (fun W v => v = .agg #[.int .i64 m.mode, .int .i64 m.uid, .int .i64 m.gid, .int .i64 m.sec, .int .i64 m.nano, va, vd, vx, .int .i64 m.cap.v, .int .u64 (m.cap.p : Int), .int .u64 (m.cap.i : Int), .bool m.cap.e, .int .i64 m.cap.r, .int .i64 m.flags]),
    (fun W v => v = .bool true),
    (fun W v => v = .bool true),
    (fun W v => v = .bool true),
    (fun W v => v = .int .i64 mo),
    (fun W v => v = .int .i64 ui),
    (fun W v => v = .int .i64 gi),
    (fun W v => v = .agg #[.int .i64 mo, .int .i64 ui, .int .i64 gi, .int .i64 0, .int .i64 0, .slice none 0 0, .slice none 0 0, .slice none 0 0, .int .i64 0, .int .u64 0, .int .u64 0, .bool false, .int .i64 0, .int .i64 0]),
    (fun W v => v = .int .i64 mo),
    (fun W v => v = .int .i64 ui),
    (fun W v => v = .int .i64 gi),
    (fun W v => v = .agg #[.int .i64 mo, .int .i64 ui, .int .i64 gi, .int .i64 0, .int .i64 0, .slice none 0 0, .slice none 0 0, .slice none 0 0, .int .i64 0, .int .u64 0, .int .u64 0, .bool false, .int .i64 0, .int .i64 0]),
    (fun W v => v = .bool true),
    (fun W v => v = .bool true),
    (fun W v => v = .bool true),
    (fun W v => v = .bool true),
    (fun W v => v = .bool true)] (by rfl) (by kernel_rfl) (by kernel_rfl) (by kernel_rfl) (by kernel_rfl) (by rfl) (by kernel_rfl) ?hS ?hp ?hs ?he
  case hS => exact gr_drew (Below.refl _ _)
  case hp => repeat' (first | exact trivial | refine ⟨fun _ _ _ _ h => h, ?_⟩)
  case hs =>
    simp only [List.take_succ_cons, List.take_zero]
    refine ⟨?_, ?_, ?_, ?_, ?_, ?_, ?_, ?_, ?_, ?_, ?_, ?_, ?_, ?_, ?_, ?_, ?_, ?_, ?_, ?_, ?_, ?_, ?_, ?_, ?_, ?_, ?_, ?_, ?_, ?_, ?_, ?_, ?_, ?_, ?_, trivial⟩
    · refine .inl ⟨met_none rfl, ?_⟩
      intro a W K hS hd hD hf hK
      have e6 : a.tmps.getD 6 undef = .pointer (some ⟨w.heap.size, 0, none⟩) := hf 6 (by kernel_rfl)
      replace hblk := hblk.kept hS hblk.size
      have k0 := hblk.cell_some 0 _ rfl; have k1 := hblk.cell_some 1 _ rfl; have k2 := hblk.cell_some 2 _ rfl; have k3 := hblk.cell_some 3 _ rfl; have k4 := hblk.cell_some 4 _ rfl; have k5 := hblk.cell_some 5 _ rfl; have k6 := hblk.cell_some 6 _ rfl; have k7 := hblk.cell_some 7 _ rfl; have k8 := hblk.cell_some 8 _ rfl; have k9 := hblk.cell_some 9 _ rfl; have k10 := hblk.cell_some 10 _ rfl; have k11 := hblk.cell_some 11 _ rfl; have k12 := hblk.cell_some 12 _ rfl; have k13 := hblk.cell_some 13 _ rfl
      clear hd hf hD
      go_simp
      exact hK _ _ (Below.refl _ _) hS rfl (fun h => absurd h (by decide))
    · refine .inl ⟨met_none rfl, ?_⟩
      intro a W K hS hd hD hf hK
      have e2 : a.tmps.getD 2 undef = .int .i64 k := hf 2 (by kernel_rfl)
      clear hd hf hD
      go_simp
      exact hK _ _ (Below.refl _ _) hS rfl (fun h => absurd h (by decide))
    · refine .inl ⟨met_none rfl, ?_⟩
      intro a W K hS hd hD hf hK
      have e20 : a.tmps.getD 20 undef = .agg #[.int .i64 m.mode, .int .i64 m.uid, .int .i64 m.gid, .int .i64 m.sec, .int .i64 m.nano, va, vd, vx, .int .i64 m.cap.v, .int .u64 (m.cap.p : Int), .int .u64 (m.cap.i : Int), .bool m.cap.e, .int .i64 m.cap.r, .int .i64 m.flags] := hd ⟨0, .data⟩ (by simp) rfl
      have e21 : a.tmps.getD 21 undef = .int .i64 k := hd ⟨1, .data⟩ (by simp) rfl
      have hbq := gr_call hbl hS
      clear hd hf hD
      go_simp
      go_at_call 9
      refine (C1.out _ hbq).mono ?_
      rintro e w3 ⟨rfl, hb⟩
      exact hK _ _ hb (gr_call hS hb) rfl (fun h => absurd h (by decide))
    · refine .inl ⟨met_none rfl, ?_⟩
      intro a W K hS hd hD hf hK
      have e6 : a.tmps.getD 6 undef = .pointer (some ⟨w.heap.size, 0, none⟩) := hf 6 (by kernel_rfl)
      replace hblk := hblk.kept hS hblk.size
      have k0 := hblk.cell_some 0 _ rfl; have k1 := hblk.cell_some 1 _ rfl; have k2 := hblk.cell_some 2 _ rfl; have k3 := hblk.cell_some 3 _ rfl; have k4 := hblk.cell_some 4 _ rfl; have k5 := hblk.cell_some 5 _ rfl; have k6 := hblk.cell_some 6 _ rfl; have k7 := hblk.cell_some 7 _ rfl; have k8 := hblk.cell_some 8 _ rfl; have k9 := hblk.cell_some 9 _ rfl; have k10 := hblk.cell_some 10 _ rfl; have k11 := hblk.cell_some 11 _ rfl; have k12 := hblk.cell_some 12 _ rfl; have k13 := hblk.cell_some 13 _ rfl
      clear hd hf hD
      go_simp
      exact hK _ _ (Below.refl _ _) hS rfl (fun h => absurd h (by decide))
    · refine .inl ⟨met_none rfl, ?_⟩
      intro a W K hS hd hD hf hK
      have e2 : a.tmps.getD 2 undef = .int .i64 k := hf 2 (by kernel_rfl)
      clear hd hf hD
      go_simp
      exact hK _ _ (Below.refl _ _) hS rfl (fun h => absurd h (by decide))
    · refine .inl ⟨met_none rfl, ?_⟩
      intro a W K hS hd hD hf hK
      have e23 : a.tmps.getD 23 undef = .agg #[.int .i64 m.mode, .int .i64 m.uid, .int .i64 m.gid, .int .i64 m.sec, .int .i64 m.nano, va, vd, vx, .int .i64 m.cap.v, .int .u64 (m.cap.p : Int), .int .u64 (m.cap.i : Int), .bool m.cap.e, .int .i64 m.cap.r, .int .i64 m.flags] := hd ⟨3, .data⟩ (by simp) rfl
      have e24 : a.tmps.getD 24 undef = .int .i64 k := hd ⟨4, .data⟩ (by simp) rfl
      have hbq := gr_call hbl hS
      clear hd hf hD
      go_simp
      go_at_call 10
      refine (C2.out _ hbq).mono ?_
      rintro e w3 ⟨rfl, hb⟩
      exact hK _ _ hb (gr_call hS hb) rfl (fun h => absurd h (by decide))
    · refine .inl ⟨met_none rfl, ?_⟩
      intro a W K hS hd hD hf hK
      have e22 : a.tmps.getD 22 undef = .bool b := hd ⟨2, .data⟩ (by simp) rfl
      have e25 : a.tmps.getD 25 undef = .bool b := hd ⟨5, .data⟩ (by simp) rfl
      have hself := beq_self
      clear hd hf hD
      go_simp
      exact hK _ _ (Below.refl _ _) hS rfl (fun h => absurd h (by decide))
    · refine .inl ⟨met_none rfl, ?_⟩
      intro a W K hS hd hD hf hK
      have e26 : a.tmps.getD 26 undef = .bool true := hd ⟨6, .data⟩ (by simp) rfl
      clear hd hf hD
      go_simp
      exact hK _ _ (Below.refl _ _) hS rfl (fun h => absurd h (by decide))
    · refine .inl ⟨met_some 7 true rfl (fun w v h => h), ?_⟩
      intro a W K hS hd hD hf hK
      have e6 : a.tmps.getD 6 undef = .pointer (some ⟨w.heap.size, 0, none⟩) := hf 6 (by kernel_rfl)
      replace hblk := hblk.kept hS hblk.size
      have k0 := hblk.cell_some 0 _ rfl; have k1 := hblk.cell_some 1 _ rfl; have k2 := hblk.cell_some 2 _ rfl; have k3 := hblk.cell_some 3 _ rfl; have k4 := hblk.cell_some 4 _ rfl; have k5 := hblk.cell_some 5 _ rfl; have k6 := hblk.cell_some 6 _ rfl; have k7 := hblk.cell_some 7 _ rfl; have k8 := hblk.cell_some 8 _ rfl; have k9 := hblk.cell_some 9 _ rfl; have k10 := hblk.cell_some 10 _ rfl; have k11 := hblk.cell_some 11 _ rfl; have k12 := hblk.cell_some 12 _ rfl; have k13 := hblk.cell_some 13 _ rfl
      clear hd hf hD
      go_simp
      exact hK _ _ (Below.refl _ _) hS rfl (fun h => absurd h (by decide))
    · refine .inl ⟨met_some 7 true rfl (fun w v h => h), ?_⟩
      intro a W K hS hd hD hf hK
      have e7 : a.tmps.getD 7 undef = .pointer (some ⟨w.heap.size + 1, 0, none⟩) := hf 7 (by kernel_rfl)
      replace hblk := hblj.kept hS hblj.size
      have k0 := hblk.cell_some 0 _ rfl; have k1 := hblk.cell_some 1 _ rfl; have k2 := hblk.cell_some 2 _ rfl; have k3 := hblk.cell_some 3 _ rfl; have k4 := hblk.cell_some 4 _ rfl; have k5 := hblk.cell_some 5 _ rfl; have k6 := hblk.cell_some 6 _ rfl; have k7 := hblk.cell_some 7 _ rfl; have k8 := hblk.cell_some 8 _ rfl; have k9 := hblk.cell_some 9 _ rfl; have k10 := hblk.cell_some 10 _ rfl; have k11 := hblk.cell_some 11 _ rfl; have k12 := hblk.cell_some 12 _ rfl; have k13 := hblk.cell_some 13 _ rfl
      clear hd hf hD
      go_simp
      exact hK _ _ (Below.refl _ _) hS rfl (fun h => absurd h (by decide))
    · refine .inl ⟨met_some 7 true rfl (fun w v h => h), ?_⟩
      intro a W K hS hd hD hf hK
      have e28 : a.tmps.getD 28 undef = .agg #[.int .i64 m.mode, .int .i64 m.uid, .int .i64 m.gid, .int .i64 m.sec, .int .i64 m.nano, va, vd, vx, .int .i64 m.cap.v, .int .u64 (m.cap.p : Int), .int .u64 (m.cap.i : Int), .bool m.cap.e, .int .i64 m.cap.r, .int .i64 m.flags] := hd ⟨8, .data⟩ (by simp) rfl
      have e29 : a.tmps.getD 29 undef = .agg #[.int .i64 n.mode, .int .i64 n.uid, .int .i64 n.gid, .int .i64 n.sec, .int .i64 n.nano, ua, ud, ux, .int .i64 n.cap.v, .int .u64 (n.cap.p : Int), .int .u64 (n.cap.i : Int), .bool n.cap.e, .int .i64 n.cap.r, .int .i64 n.flags] := hd ⟨9, .data⟩ (by simp) rfl
      have hbq := gr_call hbl hS
      clear hd hf hD
      go_simp
      go_at_call 11
      refine (C3.out _ hbq).mono ?_
      rintro e w3 ⟨rfl, hb⟩
      exact hK _ _ hb (gr_call hS hb) rfl (fun h => absurd h (by decide))
    · refine .inl ⟨met_some 7 true rfl (fun w v h => h), ?_⟩
      intro a W K hS hd hD hf hK
      have e6 : a.tmps.getD 6 undef = .pointer (some ⟨w.heap.size, 0, none⟩) := hf 6 (by kernel_rfl)
      replace hblk := hblk.kept hS hblk.size
      have k0 := hblk.cell_some 0 _ rfl; have k1 := hblk.cell_some 1 _ rfl; have k2 := hblk.cell_some 2 _ rfl; have k3 := hblk.cell_some 3 _ rfl; have k4 := hblk.cell_some 4 _ rfl; have k5 := hblk.cell_some 5 _ rfl; have k6 := hblk.cell_some 6 _ rfl; have k7 := hblk.cell_some 7 _ rfl; have k8 := hblk.cell_some 8 _ rfl; have k9 := hblk.cell_some 9 _ rfl; have k10 := hblk.cell_some 10 _ rfl; have k11 := hblk.cell_some 11 _ rfl; have k12 := hblk.cell_some 12 _ rfl; have k13 := hblk.cell_some 13 _ rfl
      clear hd hf hD
      go_simp
      exact hK _ _ (Below.refl _ _) hS rfl (fun h => absurd h (by decide))
    · refine .inl ⟨met_some 7 true rfl (fun w v h => h), ?_⟩
      intro a W K hS hd hD hf hK
      have e7 : a.tmps.getD 7 undef = .pointer (some ⟨w.heap.size + 1, 0, none⟩) := hf 7 (by kernel_rfl)
      replace hblk := hblj.kept hS hblj.size
      have k0 := hblk.cell_some 0 _ rfl; have k1 := hblk.cell_some 1 _ rfl; have k2 := hblk.cell_some 2 _ rfl; have k3 := hblk.cell_some 3 _ rfl; have k4 := hblk.cell_some 4 _ rfl; have k5 := hblk.cell_some 5 _ rfl; have k6 := hblk.cell_some 6 _ rfl; have k7 := hblk.cell_some 7 _ rfl; have k8 := hblk.cell_some 8 _ rfl; have k9 := hblk.cell_some 9 _ rfl; have k10 := hblk.cell_some 10 _ rfl; have k11 := hblk.cell_some 11 _ rfl; have k12 := hblk.cell_some 12 _ rfl; have k13 := hblk.cell_some 13 _ rfl
      clear hd hf hD
      go_simp
      exact hK _ _ (Below.refl _ _) hS rfl (fun h => absurd h (by decide))
    · refine .inl ⟨met_some 7 true rfl (fun w v h => h), ?_⟩
      intro a W K hS hd hD hf hK
      have e31 : a.tmps.getD 31 undef = .agg #[.int .i64 m.mode, .int .i64 m.uid, .int .i64 m.gid, .int .i64 m.sec, .int .i64 m.nano, va, vd, vx, .int .i64 m.cap.v, .int .u64 (m.cap.p : Int), .int .u64 (m.cap.i : Int), .bool m.cap.e, .int .i64 m.cap.r, .int .i64 m.flags] := hd ⟨11, .data⟩ (by simp) rfl
      have e32 : a.tmps.getD 32 undef = .agg #[.int .i64 n.mode, .int .i64 n.uid, .int .i64 n.gid, .int .i64 n.sec, .int .i64 n.nano, ua, ud, ux, .int .i64 n.cap.v, .int .u64 (n.cap.p : Int), .int .u64 (n.cap.i : Int), .bool n.cap.e, .int .i64 n.cap.r, .int .i64 n.flags] := hd ⟨12, .data⟩ (by simp) rfl
      have hbq := gr_call hbl hS
      clear hd hf hD
      go_simp
      go_at_call 12
      refine (C4.out _ hbq).mono ?_
      rintro e w3 ⟨rfl, hb⟩
      exact hK _ _ hb (gr_call hS hb) rfl (fun h => absurd h (by decide))
    · refine .inl ⟨met_some 7 true rfl (fun w v h => h), ?_⟩
      intro a W K hS hd hD hf hK
      have e30 : a.tmps.getD 30 undef = .bool s := hd ⟨10, .data⟩ (by simp) rfl
      have e33 : a.tmps.getD 33 undef = .bool s := hd ⟨13, .data⟩ (by simp) rfl
      have hself := beq_self
      clear hd hf hD
      go_simp
      exact hK _ _ (Below.refl _ _) hS rfl (fun h => absurd h (by decide))
    · refine .inl ⟨met_none rfl, ?_⟩
      intro a W K hS hd hD hf hK
      have e27 : a.tmps.getD 27 undef = .bool true := hd ⟨7, .data⟩ (by simp) rfl
      have e34 : a.tmps.getD 34 undef = .bool true := hd ⟨14, .data⟩ (by simp) rfl
      clear hd hf hD
      go_simp
      exact hK _ _ (Below.refl _ _) hS rfl (fun h => absurd h (by decide))
    · refine .inl ⟨met_none rfl, ?_⟩
      intro a W K hS hd hD hf hK
      have e35 : a.tmps.getD 35 undef = .bool true := hd ⟨15, .data⟩ (by simp) rfl
      clear hd hf hD
      go_simp
      exact hK _ _ (Below.refl _ _) hS rfl (fun h => absurd h (by decide))
    · refine .inl ⟨met_some 16 true rfl (fun w v h => h), ?_⟩
      intro a W K hS hd hD hf hK
      have e6 : a.tmps.getD 6 undef = .pointer (some ⟨w.heap.size, 0, none⟩) := hf 6 (by kernel_rfl)
      replace hblk := hblk.kept hS hblk.size
      have k0 := hblk.cell_some 0 _ rfl; have k1 := hblk.cell_some 1 _ rfl; have k2 := hblk.cell_some 2 _ rfl; have k3 := hblk.cell_some 3 _ rfl; have k4 := hblk.cell_some 4 _ rfl; have k5 := hblk.cell_some 5 _ rfl; have k6 := hblk.cell_some 6 _ rfl; have k7 := hblk.cell_some 7 _ rfl; have k8 := hblk.cell_some 8 _ rfl; have k9 := hblk.cell_some 9 _ rfl; have k10 := hblk.cell_some 10 _ rfl; have k11 := hblk.cell_some 11 _ rfl; have k12 := hblk.cell_some 12 _ rfl; have k13 := hblk.cell_some 13 _ rfl
      clear hd hf hD
      go_simp
      exact hK _ _ (Below.refl _ _) hS rfl (fun h => absurd h (by decide))
    · refine .inl ⟨met_some 16 true rfl (fun w v h => h), ?_⟩
      intro a W K hS hd hD hf hK
      have e6 : a.tmps.getD 6 undef = .pointer (some ⟨w.heap.size, 0, none⟩) := hf 6 (by kernel_rfl)
      replace hblk := hblk.kept hS hblk.size
      have k0 := hblk.cell_some 0 _ rfl; have k1 := hblk.cell_some 1 _ rfl; have k2 := hblk.cell_some 2 _ rfl; have k3 := hblk.cell_some 3 _ rfl; have k4 := hblk.cell_some 4 _ rfl; have k5 := hblk.cell_some 5 _ rfl; have k6 := hblk.cell_some 6 _ rfl; have k7 := hblk.cell_some 7 _ rfl; have k8 := hblk.cell_some 8 _ rfl; have k9 := hblk.cell_some 9 _ rfl; have k10 := hblk.cell_some 10 _ rfl; have k11 := hblk.cell_some 11 _ rfl; have k12 := hblk.cell_some 12 _ rfl; have k13 := hblk.cell_some 13 _ rfl
      clear hd hf hD
      go_simp
      exact hK _ _ (Below.refl _ _) hS rfl (fun h => absurd h (by decide))
    · refine .inl ⟨met_some 16 true rfl (fun w v h => h), ?_⟩
      intro a W K hS hd hD hf hK
      have e37 : a.tmps.getD 37 undef = .agg #[.int .i64 m.mode, .int .i64 m.uid, .int .i64 m.gid, .int .i64 m.sec, .int .i64 m.nano, va, vd, vx, .int .i64 m.cap.v, .int .u64 (m.cap.p : Int), .int .u64 (m.cap.i : Int), .bool m.cap.e, .int .i64 m.cap.r, .int .i64 m.flags] := hd ⟨17, .data⟩ (by simp) rfl
      have e38 : a.tmps.getD 38 undef = .agg #[.int .i64 m.mode, .int .i64 m.uid, .int .i64 m.gid, .int .i64 m.sec, .int .i64 m.nano, va, vd, vx, .int .i64 m.cap.v, .int .u64 (m.cap.p : Int), .int .u64 (m.cap.i : Int), .bool m.cap.e, .int .i64 m.cap.r, .int .i64 m.flags] := hd ⟨18, .data⟩ (by simp) rfl
      have hbq := gr_call hbl hS
      clear hd hf hD
      go_simp
      go_at_call 11
      refine (C5.out _ hbq).mono ?_
      rintro e w3 ⟨rfl, hb⟩
      exact hK _ _ hb (gr_call hS hb) rfl (fun h => absurd h (by decide))
    · refine .inl ⟨met_none rfl, ?_⟩
      intro a W K hS hd hD hf hK
      have e36 : a.tmps.getD 36 undef = .bool true := hd ⟨16, .data⟩ (by simp) rfl
      have e39 : a.tmps.getD 39 undef = .bool true := hd ⟨19, .data⟩ (by simp) rfl
      clear hd hf hD
      go_simp
      exact hK _ _ (Below.refl _ _) hS rfl (fun h => absurd h (by decide))
    · refine .inl ⟨met_none rfl, ?_⟩
      intro a W K hS hd hD hf hK
      have e40 : a.tmps.getD 40 undef = .bool true := hd ⟨20, .data⟩ (by simp) rfl
      clear hd hf hD
      go_simp
      exact hK _ _ (Below.refl _ _) hS rfl (fun h => absurd h (by decide))
    · refine .inl ⟨met_some 21 true rfl (fun w v h => h), ?_⟩
      intro a W K hS hd hD hf hK
      have e3 : a.tmps.getD 3 undef = .int .i64 mo := hf 3 (by kernel_rfl)
      clear hd hf hD
      go_simp
      exact hK _ _ (Below.refl _ _) hS rfl (fun h => absurd h (by decide))
    · refine .inl ⟨met_some 21 true rfl (fun w v h => h), ?_⟩
      intro a W K hS hd hD hf hK
      have e4 : a.tmps.getD 4 undef = .int .i64 ui := hf 4 (by kernel_rfl)
      clear hd hf hD
      go_simp
      exact hK _ _ (Below.refl _ _) hS rfl (fun h => absurd h (by decide))
    · refine .inl ⟨met_some 21 true rfl (fun w v h => h), ?_⟩
      intro a W K hS hd hD hf hK
      have e5 : a.tmps.getD 5 undef = .int .i64 gi := hf 5 (by kernel_rfl)
      clear hd hf hD
      go_simp
      exact hK _ _ (Below.refl _ _) hS rfl (fun h => absurd h (by decide))
    · refine .inl ⟨met_some 21 true rfl (fun w v h => h), ?_⟩
      intro a W K hS hd hD hf hK
      have e42 : a.tmps.getD 42 undef = .int .i64 mo := hd ⟨22, .data⟩ (by simp) rfl
      have e43 : a.tmps.getD 43 undef = .int .i64 ui := hd ⟨23, .data⟩ (by simp) rfl
      have e44 : a.tmps.getD 44 undef = .int .i64 gi := hd ⟨24, .data⟩ (by simp) rfl
      have hbq := gr_call hbl hS
      clear hd hf hD
      go_simp
      go_at_call 13
      refine (C6.out _).mono ?_
      rintro e w3 ⟨rfl, hb⟩
      exact hK _ _ hb (gr_call hS hb) rfl (fun h => absurd h (by decide))
    · refine .inl ⟨met_some 21 true rfl (fun w v h => h), ?_⟩
      intro a W K hS hd hD hf hK
      have e3 : a.tmps.getD 3 undef = .int .i64 mo := hf 3 (by kernel_rfl)
      clear hd hf hD
      go_simp
      exact hK _ _ (Below.refl _ _) hS rfl (fun h => absurd h (by decide))
    · refine .inl ⟨met_some 21 true rfl (fun w v h => h), ?_⟩
      intro a W K hS hd hD hf hK
      have e4 : a.tmps.getD 4 undef = .int .i64 ui := hf 4 (by kernel_rfl)
      clear hd hf hD
      go_simp
      exact hK _ _ (Below.refl _ _) hS rfl (fun h => absurd h (by decide))
    · refine .inl ⟨met_some 21 true rfl (fun w v h => h), ?_⟩
      intro a W K hS hd hD hf hK
      have e5 : a.tmps.getD 5 undef = .int .i64 gi := hf 5 (by kernel_rfl)
      clear hd hf hD
      go_simp
      exact hK _ _ (Below.refl _ _) hS rfl (fun h => absurd h (by decide))
    · refine .inl ⟨met_some 21 true rfl (fun w v h => h), ?_⟩
      intro a W K hS hd hD hf hK
      have e46 : a.tmps.getD 46 undef = .int .i64 mo := hd ⟨26, .data⟩ (by simp) rfl
      have e47 : a.tmps.getD 47 undef = .int .i64 ui := hd ⟨27, .data⟩ (by simp) rfl
      have e48 : a.tmps.getD 48 undef = .int .i64 gi := hd ⟨28, .data⟩ (by simp) rfl
      have hbq := gr_call hbl hS
      clear hd hf hD
      go_simp
      go_at_call 14
      refine (C7.out _).mono ?_
      rintro e w3 ⟨rfl, hb⟩
      exact hK _ _ hb (gr_call hS hb) rfl (fun h => absurd h (by decide))
    · refine .inl ⟨met_some 21 true rfl (fun w v h => h), ?_⟩
      intro a W K hS hd hD hf hK
      have e45 : a.tmps.getD 45 undef = .agg #[.int .i64 mo, .int .i64 ui, .int .i64 gi, .int .i64 0, .int .i64 0, .slice none 0 0, .slice none 0 0, .slice none 0 0, .int .i64 0, .int .u64 0, .int .u64 0, .bool false, .int .i64 0, .int .i64 0] := hd ⟨25, .data⟩ (by simp) rfl
      have e49 : a.tmps.getD 49 undef = .agg #[.int .i64 mo, .int .i64 ui, .int .i64 gi, .int .i64 0, .int .i64 0, .slice none 0 0, .slice none 0 0, .slice none 0 0, .int .i64 0, .int .u64 0, .int .u64 0, .bool false, .int .i64 0, .int .i64 0] := hd ⟨29, .data⟩ (by simp) rfl
      have hbq := gr_call hbl hS
      clear hd hf hD
      go_simp
      go_at_call 11
      refine (C8.out _).mono ?_
      rintro e w3 ⟨rfl, hb⟩
      exact hK _ _ hb (gr_call hS hb) rfl (fun h => absurd h (by decide))
    · refine .inl ⟨met_none rfl, ?_⟩
      intro a W K hS hd hD hf hK
      have e41 : a.tmps.getD 41 undef = .bool true := hd ⟨21, .data⟩ (by simp) rfl
      have e50 : a.tmps.getD 50 undef = .bool true := hd ⟨30, .data⟩ (by simp) rfl
      clear hd hf hD
      go_simp
      exact hK _ _ (Below.refl _ _) hS rfl (fun h => absurd h (by decide))
    · refine .inl ⟨met_none rfl, ?_⟩
      intro a W K hS hd hD hf hK
      have e51 : a.tmps.getD 51 undef = .bool true := hd ⟨31, .data⟩ (by simp) rfl
      clear hd hf hD
      go_simp
      exact hK _ _ (Below.refl _ _) hS rfl (fun h => absurd h (by decide))
    · refine .inl ⟨met_some 32 true rfl (fun w v h => h), ?_⟩
      intro a W K hS hd hD hf hK
      have hbq := gr_call hbl hS
      clear hd hf hD
      go_simp
      go_at_call 8
      refine (awake_any _).mono ?_
      rintro e w3 ⟨rfl, hb⟩
      exact hK _ _ hb (gr_call hS hb) rfl (fun h => absurd h (by decide))
    · refine .inl ⟨met_none rfl, ?_⟩
      intro a W K hS hd hD hf hK
      have e52 : a.tmps.getD 52 undef = .bool true := hd ⟨32, .data⟩ (by simp) rfl
      have e53 : a.tmps.getD 53 undef = .bool true := hd ⟨33, .data⟩ (by simp) rfl
      clear hd hf hD
      go_simp
      exact hK _ _ (Below.refl _ _) hS rfl (fun h => absurd h (by decide))
  case he =>
    intro vals w7 K hS7 hV hK
    have e54 := hV 34 (by omega)
    clear hV
    simp only [List.getD_cons_succ, List.getD_cons_zero] at e54
    replace hbl := gr_call hbl hS7
    clear hS7
    refine Later.mk ?_
    simp only [List.append_eq, List.cons_append, List.nil_append, setN, Nat.reduceAdd, List.setIfInBounds_toArray, List.set_cons_succ, List.set_cons_zero]
    rw [e54]
    go_simp
    refine hK _ _ ?_
    clear hK
    go_wp2_with fail
    go_ret
    exact ⟨rfl, hbl⟩
end Go.Proofs.Ytajjhndpdjfcpaa
