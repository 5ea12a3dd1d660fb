/- The law HeadAll, walked. -/
import Derived.Test.YtkkmhfgfkjeooaaRefSplit
import Derived.Test.YtkkmhfgfkjeooaaRefJoin
import Derived.Test.YtkkmhfgfkjeooaaHeadAwake2
import Derived.Test.YtkkmhfgfkjeooaaLater
namespace Go.Proofs.Ytkkmhfgfkjeooaa
open Go.RowKit
open HeadM NumM
set_option linter.unusedVariables false

theorem keep5 {w W w1 : World} {g0 g1 g2 g3 : Nat} {t0 t1 t2 t3 : TypeId} {c0 c1 c2 c3 : Array Value} (hS : Below w.heap.size w W ∧ BlkIs W g0 t0 c0 ∧ BlkIs W g1 t1 c1 ∧ BlkIs W g2 t2 c2 ∧ BlkIs W g3 t3 c3) (hb : Below W.heap.size W w1) : Below w.heap.size w w1 ∧ BlkIs w1 g0 t0 c0 ∧ BlkIs w1 g1 t1 c1 ∧ BlkIs w1 g2 t2 c2 ∧ BlkIs w1 g3 t3 c3 :=
  ⟨gr_call hS.1 hb, hS.2.1.kept hb hS.2.1.size, hS.2.2.1.kept hb hS.2.2.1.size, hS.2.2.2.1.kept hb hS.2.2.2.1.size, hS.2.2.2.2.kept hb hS.2.2.2.2.size⟩
theorem beq_self (b : Bool) : (b == b) = true := by cases b <;> rfl
theorem split_two (l : List UInt8) : ∃ p n ok, splitV l = .tuple #[.string p, .string n, .bool ok] ∧ splitA l = .agg #[.string p, .string n, .bool ok] := by
  unfold splitV splitA
  cases splitL l with
  | none => exact ⟨_, _, _, rfl, rfl⟩
  | some x => exact ⟨_, _, _, rfl, rfl⟩

set_option maxHeartbeats 8000000 in
set_option maxRecDepth 100000 in
theorem all_true (h : Hd) (I : Ints h) (z1 : h.name.size ≤ 140737488351232) (z2 : h.pre.size ≤ 140737488351232) (S Q : ByteArray) (w : World) :
    Calls Try.prog 3 #[.agg #[.string h.name, .int .i64 h.mode, .int .i64 h.uid, .int .i64 h.gid, .int .i64 h.size, .int .i64 h.mtime, .int .u8 (h.typ.toNat : Int), .string h.link, .string h.uname, .string h.gname, .int .i64 h.major, .int .i64 h.minor, .string h.pre], .string S, .string Q] w fun e w' => e = .returned (.bool true) ∧ Below w.heap.size w w' := by
  have haw := awake_true
  by_cases hA : 1100 < S.size
  · have h1 : (1100 : Int) < (S.size : Int) := by omega
    go_enter Try.func3, Try.ntmps3
    go_wp2_with fail
    refine (haw _).mono ?_
    rintro e w1 ⟨rfl, hb1⟩
    have hB1 := gr_call (gr_alloc (Below.refl _ w) (.cells #[.string h.name, .int .i64 h.mode, .int .i64 h.uid, .int .i64 h.gid, .int .i64 h.size, .int .i64 h.mtime, .int .u8 (h.typ.toNat : Int), .string h.link, .string h.uname, .string h.gname, .int .i64 h.major, .int .i64 h.minor, .string h.pre] 23)) hb1
    go_wp2_with fail
    go_ret
    exact ⟨rfl, hB1⟩
  by_cases hB : 600 < Q.size
  · have h1 : ¬ (1100 : Int) < (S.size : Int) := by omega
    have h2 : (600 : Int) < (Q.size : Int) := by omega
    go_enter Try.func3, Try.ntmps3
    go_wp2_with fail
    refine (haw _).mono ?_
    rintro e w1 ⟨rfl, hb1⟩
    have hB1 := gr_call (gr_alloc (Below.refl _ w) (.cells #[.string h.name, .int .i64 h.mode, .int .i64 h.uid, .int .i64 h.gid, .int .i64 h.size, .int .i64 h.mtime, .int .u8 (h.typ.toNat : Int), .string h.link, .string h.uname, .string h.gname, .int .i64 h.major, .int .i64 h.minor, .string h.pre] 23)) hb1
    go_wp2_with fail
    go_ret
    exact ⟨rfl, hB1⟩
  have h1 : ¬ (1100 : Int) < (S.size : Int) := by omega
  have h2 : ¬ (600 : Int) < (Q.size : Int) := by omega
  have hg := fun w => get_any S (by omega) w
  have hr := fun w => refGet_any S (by omega) w
  obtain ⟨X, hX⟩ : ∃ X, (getE (L S)).1 = X := ⟨_, rfl⟩
  obtain ⟨E, hE⟩ : ∃ E, (getE (L S)).2 = E := ⟨_, rfl⟩
  rw [hX, hE] at hg hr
  have hs := fun w => split_any Q (by omega) w
  have ht := fun w => refSplit_any Q (by omega) w
  obtain ⟨p, n, ok, hp1, hp2⟩ := split_two (L Q)
  rw [hp1] at hs
  rw [hp2] at ht
  have hc1 := may_any h
  have hc2 := refMay_any h I
  obtain ⟨b, hb⟩ : ∃ b, mayH h = b := ⟨_, rfl⟩
  rw [hb] at hc1 hc2
  have hc3 := put_any h
  have hc4 := refPut_any h I
  obtain ⟨T, hT⟩ : ∃ T, strOf (putH h) = T := ⟨_, rfl⟩
  rw [hT] at hc3 hc4
  have hc6 := join_big h z1 z2
  have hc7 := refJoin_big h z1 z2
  obtain ⟨J, hJ⟩ : ∃ J, joinS h = J := ⟨_, rfl⟩
  rw [hJ] at hc6 hc7
  have hc5 : ∀ w, Calls Try.prog 18 #[.int .i64 E] w fun e w' => e = .returned (.int .i64 E) ∧ Below w.heap.size w w' := fun w => (err_any E w).mono fun e w' ⟨he, hw⟩ => ⟨he, hw ▸ Below.refl _ _⟩
  replace hg := Lib.hid hg
  replace hr := Lib.hid hr
  replace hs := Lib.hid hs
  replace ht := Lib.hid ht
  replace hc1 := Lib.hid hc1
  replace hc2 := Lib.hid hc2
  replace hc3 := Lib.hid hc3
  replace hc4 := Lib.hid hc4
  replace hc5 := Lib.hid hc5
  replace hc6 := Lib.hid hc6
  replace hc7 := Lib.hid hc7
  replace haw := Lib.hid haw
  clear hA hB hX hE hp1 hp2 hb hT hJ I z1 z2
  go_enter Try.func3, Try.ntmps3
  go_wp2_with fail
  refine (hg.out _).mono ?_
  rintro e w1 ⟨rfl, hb1⟩
  have hh1 := (BlkIs.made w 23 #[.string h.name, .int .i64 h.mode, .int .i64 h.uid, .int .i64 h.gid, .int .i64 h.size, .int .i64 h.mtime, .int .u8 (h.typ.toNat : Int), .string h.link, .string h.uname, .string h.gname, .int .i64 h.major, .int .i64 h.minor, .string h.pre]).kept hb1 (by simp)
  have hB1 := gr_call (gr_alloc (Below.refl _ w) (.cells #[.string h.name, .int .i64 h.mode, .int .i64 h.uid, .int .i64 h.gid, .int .i64 h.size, .int .i64 h.mtime, .int .u8 (h.typ.toNat : Int), .string h.link, .string h.uname, .string h.gname, .int .i64 h.major, .int .i64 h.minor, .string h.pre] 23)) hb1
  clear hb1 hg
  go_wp2_with fail
  refine (hr.out _).mono ?_
  rintro e w2 ⟨rfl, hb2⟩
  have hx2 := (BlkIs.made w1 23 #[.string X.name, .int .i64 X.mode, .int .i64 X.uid, .int .i64 X.gid, .int .i64 X.size, .int .i64 X.mtime, .int .u8 (X.typ.toNat : Int), .string X.link, .string X.uname, .string X.gname, .int .i64 X.major, .int .i64 X.minor, .string X.pre]).kept hb2 (by simp)
  have hh2 := (hh1.alloc (.cells #[.string X.name, .int .i64 X.mode, .int .i64 X.uid, .int .i64 X.gid, .int .i64 X.size, .int .i64 X.mtime, .int .u8 (X.typ.toNat : Int), .string X.link, .string X.uname, .string X.gname, .int .i64 X.major, .int .i64 X.minor, .string X.pre] 23)).kept hb2 (hh1.alloc _).size
  have hB2 := gr_call (gr_alloc hB1 (.cells #[.string X.name, .int .i64 X.mode, .int .i64 X.uid, .int .i64 X.gid, .int .i64 X.size, .int .i64 X.mtime, .int .u8 (X.typ.toNat : Int), .string X.link, .string X.uname, .string X.gname, .int .i64 X.major, .int .i64 X.minor, .string X.pre] 23)) hb2
  obtain ⟨gx, hgx⟩ : ∃ g, w1.heap.size = g := ⟨_, rfl⟩
  rw [hgx] at hx2 ⊢
  clear hb2 hr hh1 hB1 hgx
  go_wp2_with fail
  refine (hs.out _).mono ?_
  rintro e w3 ⟨rfl, hb3⟩
  have hy3 := (BlkIs.made w2 29 #[.string X.name, .int .i64 X.mode, .int .i64 X.uid, .int .i64 X.gid, .int .i64 X.size, .int .i64 X.mtime, .int .u8 (X.typ.toNat : Int), .string X.link, .string X.uname, .string X.gname, .int .i64 X.major, .int .i64 X.minor, .string X.pre, .int .i64 E]).kept hb3 (by simp)
  have hx3 := (hx2.alloc (.cells #[.string X.name, .int .i64 X.mode, .int .i64 X.uid, .int .i64 X.gid, .int .i64 X.size, .int .i64 X.mtime, .int .u8 (X.typ.toNat : Int), .string X.link, .string X.uname, .string X.gname, .int .i64 X.major, .int .i64 X.minor, .string X.pre, .int .i64 E] 29)).kept hb3 (hx2.alloc _).size
  have hh3 := (hh2.alloc (.cells #[.string X.name, .int .i64 X.mode, .int .i64 X.uid, .int .i64 X.gid, .int .i64 X.size, .int .i64 X.mtime, .int .u8 (X.typ.toNat : Int), .string X.link, .string X.uname, .string X.gname, .int .i64 X.major, .int .i64 X.minor, .string X.pre, .int .i64 E] 29)).kept hb3 (hh2.alloc _).size
  have hB3 := gr_call (gr_alloc hB2 _) hb3
  obtain ⟨gy, hgy⟩ : ∃ g, w2.heap.size = g := ⟨_, rfl⟩
  rw [hgy] at hy3 ⊢
  clear hb3 hs hh2 hx2 hB2 hgy
  go_wp2_with fail
  refine (ht.out _).mono ?_
  rintro e w4 ⟨rfl, hb4⟩
  have hy4 := hy3.kept hb4 hy3.size
  have hx4 := hx3.kept hb4 hx3.size
  have hh4 := hh3.kept hb4 hh3.size
  have hB4 := gr_call hB3 hb4
  clear hb4 ht hy3 hx3 hh3 hB3
  go_wp2_with fail
  have hq5 := BlkIs.made w4 34 #[.string p, .string n, .bool ok]
  have hy5 := hy4.alloc (.cells #[.string p, .string n, .bool ok] 34)
  have hx5 := hx4.alloc (.cells #[.string p, .string n, .bool ok] 34)
  have hh5 := hh4.alloc (.cells #[.string p, .string n, .bool ok] 34)
  have hB5 := gr_alloc hB4 (.cells #[.string p, .string n, .bool ok] 34)
  obtain ⟨gq, hgq⟩ : ∃ g, w4.heap.size = g := ⟨_, rfl⟩
  obtain ⟨w5, hw5⟩ : ∃ w5, w4.alloc (.cells #[.string p, .string n, .bool ok] 34) = w5 := ⟨_, rfl⟩
  rw [hgq] at hq5 ⊢
  rw [hw5] at hq5 hy5 hx5 hh5 hB5 ⊢
  clear hy4 hx4 hh4 hB4 hgq hw5
  refine region_lastqgL (S := fun W => Below w.heap.size w W ∧ BlkIs W w.heap.size 23 #[.string h.name, .int .i64 h.mode, .int .i64 h.uid, .int .i64 h.gid, .int .i64 h.size, .int .i64 h.mtime, .int .u8 (h.typ.toNat : Int), .string h.link, .string h.uname, .string h.gname, .int .i64 h.major, .int .i64 h.minor, .string h.pre] ∧ BlkIs W gx 23 #[.string X.name, .int .i64 X.mode, .int .i64 X.uid, .int .i64 X.gid, .int .i64 X.size, .int .i64 X.mtime, .int .u8 (X.typ.toNat : Int), .string X.link, .string X.uname, .string X.gname, .int .i64 X.major, .int .i64 X.minor, .string X.pre] ∧ BlkIs W gy 29 #[.string X.name, .int .i64 X.mode, .int .i64 X.uid, .int .i64 X.gid, .int .i64 X.size, .int .i64 X.mtime, .int .u8 (X.typ.toNat : Int), .string X.link, .string X.uname, .string X.gname, .int .i64 X.major, .int .i64 X.minor, .string X.pre, .int .i64 E] ∧ BlkIs W gq 34 #[.string p, .string n, .bool ok]) 53
    [(fun W v => v = .agg #[.string h.name, .int .i64 h.mode, .int .i64 h.uid, .int .i64 h.gid, .int .i64 h.size, .int .i64 h.mtime, .int .u8 (h.typ.toNat : Int), .string h.link, .string h.uname, .string h.gname, .int .i64 h.major, .int .i64 h.minor, .string h.pre]),
     (fun W v => v = .bool b),
     (fun W v => v = .agg #[.string h.name, .int .i64 h.mode, .int .i64 h.uid, .int .i64 h.gid, .int .i64 h.size, .int .i64 h.mtime, .int .u8 (h.typ.toNat : Int), .string h.link, .string h.uname, .string h.gname, .int .i64 h.major, .int .i64 h.minor, .string h.pre]),
     (fun W v => v = .bool b),
     (fun W v => v = .bool true),
     (fun W v => v = .bool true),
     (fun W v => v = .agg #[.string h.name, .int .i64 h.mode, .int .i64 h.uid, .int .i64 h.gid, .int .i64 h.size, .int .i64 h.mtime, .int .u8 (h.typ.toNat : Int), .string h.link, .string h.uname, .string h.gname, .int .i64 h.major, .int .i64 h.minor, .string h.pre]),
     (fun W v => v = .string T),
     (fun W v => v = .agg #[.string h.name, .int .i64 h.mode, .int .i64 h.uid, .int .i64 h.gid, .int .i64 h.size, .int .i64 h.mtime, .int .u8 (h.typ.toNat : Int), .string h.link, .string h.uname, .string h.gname, .int .i64 h.major, .int .i64 h.minor, .string h.pre]),
     (fun W v => v = .string T),
     (fun W v => v = .bool true),
     (fun W v => v = .bool true),
     (fun W v => v = .bool true),
     (fun W v => v = .agg #[.string X.name, .int .i64 X.mode, .int .i64 X.uid, .int .i64 X.gid, .int .i64 X.size, .int .i64 X.mtime, .int .u8 (X.typ.toNat : Int), .string X.link, .string X.uname, .string X.gname, .int .i64 X.major, .int .i64 X.minor, .string X.pre]),
     (fun W v => v = .pointer (some ⟨gy, 0, none⟩)),
     (fun W v => v = .agg #[.string X.name, .int .i64 X.mode, .int .i64 X.uid, .int .i64 X.gid, .int .i64 X.size, .int .i64 X.mtime, .int .u8 (X.typ.toNat : Int), .string X.link, .string X.uname, .string X.gname, .int .i64 X.major, .int .i64 X.minor, .string X.pre]),
     (fun W v => v = .bool true),
     (fun W v => v = .bool true),
     (fun W v => v = .bool true),
     (fun W v => v = .int .i64 E),
     (fun W v => v = .int .i64 E),
     (fun W v => v = .pointer (some ⟨gy, 13, none⟩)),
     (fun W v => v = .int .i64 E),
     (fun W v => v = .bool true),
     (fun W v => v = .bool true),
     (fun W v => v = .bool true),
     (fun W v => v = .string p),
     (fun W v => v = .pointer (some ⟨gq, 0, none⟩)),
     (fun W v => v = .string p),
     (fun W v => v = .bool true),
     (fun W v => v = .bool true),
     (fun W v => v = .bool true),
     (fun W v => v = .string n),
     (fun W v => v = .pointer (some ⟨gq, 1, none⟩)),
     (fun W v => v = .string n),
     (fun W v => v = .bool true),
     (fun W v => v = .bool true),
     (fun W v => v = .bool true),
     (fun W v => v = .bool ok),
     (fun W v => v = .pointer (some ⟨gq, 2, none⟩)),
     (fun W v => v = .bool ok),
     (fun W v => v = .bool true),
     (fun W v => v = .bool true),
     (fun W v => v = .bool true),
     (fun W v => v = .agg #[.string h.name, .int .i64 h.mode, .int .i64 h.uid, .int .i64 h.gid, .int .i64 h.size, .int .i64 h.mtime, .int .u8 (h.typ.toNat : Int), .string h.link, .string h.uname, .string h.gname, .int .i64 h.major, .int .i64 h.minor, .string h.pre]),
     (fun W v => v = .string J),
     (fun W v => v = .agg #[.string h.name, .int .i64 h.mode, .int .i64 h.uid, .int .i64 h.gid, .int .i64 h.size, .int .i64 h.mtime, .int .u8 (h.typ.toNat : Int), .string h.link, .string h.uname, .string h.gname, .int .i64 h.major, .int .i64 h.minor, .string h.pre]),
     (fun W v => v = .string J),
     (fun W v => v = .bool true),
     (fun W v => v = .bool true),
     (fun W v => v = .bool true),
     (fun W v => v = .bool true),
     (fun W v => v = .bool true)] (by rfl) (by kernel_rfl) (by kernel_rfl) (by kernel_rfl) (by kernel_rfl) (by rfl) (by kernel_rfl) ?hS ?hp ?hs ?he
  case hS => exact ⟨gr_drew hB5, hh5, hx5, hy5, hq5⟩
  case hp => repeat' (first | exact trivial | refine ⟨fun _ _ _ _ h => h, ?_⟩)
  case hs =>
    simp only [List.take_succ_cons, List.take_zero]
    clear hB5 hh5 hx5 hy5 hq5
    refine ⟨?_, ?_, ?_, ?_, ?_, ?_, ?_, ?_, ?_, ?_, ?_, ?_, ?_, ?_, ?_, ?_, ?_, ?_, ?_, ?_, ?_, ?_, ?_, ?_, ?_, ?_, ?_, ?_, ?_, ?_, ?_, ?_, ?_, ?_, ?_, ?_, ?_, ?_, ?_, ?_, ?_, ?_, ?_, ?_, ?_, ?_, ?_, ?_, ?_, ?_, ?_, ?_, ?_, trivial⟩
    · refine ⟨met_none rfl, ?_⟩
      intro a W K hS hd hf hK
      have e3 : a.tmps.getD 3 undef = .pointer (some ⟨w.heap.size, 0, none⟩) := hf 3 (by kernel_rfl)
      have c0 := hS.2.1.cell_some 0 _ rfl
      have c1 := hS.2.1.cell_some 1 _ rfl
      have c2 := hS.2.1.cell_some 2 _ rfl
      have c3 := hS.2.1.cell_some 3 _ rfl
      have c4 := hS.2.1.cell_some 4 _ rfl
      have c5 := hS.2.1.cell_some 5 _ rfl
      have c6 := hS.2.1.cell_some 6 _ rfl
      have c7 := hS.2.1.cell_some 7 _ rfl
      have c8 := hS.2.1.cell_some 8 _ rfl
      have c9 := hS.2.1.cell_some 9 _ rfl
      have c10 := hS.2.1.cell_some 10 _ rfl
      have c11 := hS.2.1.cell_some 11 _ rfl
      have c12 := hS.2.1.cell_some 12 _ rfl
      clear hd hf
      go_simp
      exact hK _ _ (Below.refl _ _) hS rfl
    · refine ⟨met_none rfl, ?_⟩
      intro a W K hS hd hf hK
      have e38 : a.tmps.getD 38 undef = .agg #[.string h.name, .int .i64 h.mode, .int .i64 h.uid, .int .i64 h.gid, .int .i64 h.size, .int .i64 h.mtime, .int .u8 (h.typ.toNat : Int), .string h.link, .string h.uname, .string h.gname, .int .i64 h.major, .int .i64 h.minor, .string h.pre] := hd ⟨0, .data⟩ (by simp) rfl
      clear hd hf
      go_simp
      go_at_call 14
      refine (hc1.out _).mono ?_
      rintro e w1 ⟨rfl, hb⟩
      exact hK _ _ hb (keep5 hS hb) rfl
    · refine ⟨met_none rfl, ?_⟩
      intro a W K hS hd hf hK
      have e3 : a.tmps.getD 3 undef = .pointer (some ⟨w.heap.size, 0, none⟩) := hf 3 (by kernel_rfl)
      have c0 := hS.2.1.cell_some 0 _ rfl
      have c1 := hS.2.1.cell_some 1 _ rfl
      have c2 := hS.2.1.cell_some 2 _ rfl
      have c3 := hS.2.1.cell_some 3 _ rfl
      have c4 := hS.2.1.cell_some 4 _ rfl
      have c5 := hS.2.1.cell_some 5 _ rfl
      have c6 := hS.2.1.cell_some 6 _ rfl
      have c7 := hS.2.1.cell_some 7 _ rfl
      have c8 := hS.2.1.cell_some 8 _ rfl
      have c9 := hS.2.1.cell_some 9 _ rfl
      have c10 := hS.2.1.cell_some 10 _ rfl
      have c11 := hS.2.1.cell_some 11 _ rfl
      have c12 := hS.2.1.cell_some 12 _ rfl
      clear hd hf
      go_simp
      exact hK _ _ (Below.refl _ _) hS rfl
    · refine ⟨met_none rfl, ?_⟩
      intro a W K hS hd hf hK
      have e40 : a.tmps.getD 40 undef = .agg #[.string h.name, .int .i64 h.mode, .int .i64 h.uid, .int .i64 h.gid, .int .i64 h.size, .int .i64 h.mtime, .int .u8 (h.typ.toNat : Int), .string h.link, .string h.uname, .string h.gname, .int .i64 h.major, .int .i64 h.minor, .string h.pre] := hd ⟨2, .data⟩ (by simp) rfl
      clear hd hf
      go_simp
      go_at_call 15
      refine (hc2.out _).mono ?_
      rintro e w1 ⟨rfl, hb⟩
      exact hK _ _ hb (keep5 hS hb) rfl
    · refine ⟨met_none rfl, ?_⟩
      intro a W K hS hd hf hK
      have e39 : a.tmps.getD 39 undef = .bool b := hd ⟨1, .data⟩ (by simp) rfl
      have e41 : a.tmps.getD 41 undef = .bool b := hd ⟨3, .data⟩ (by simp) rfl
      have hself := beq_self
      clear hd hf
      go_simp
      exact hK _ _ (Below.refl _ _) hS rfl
    · refine ⟨met_none rfl, ?_⟩
      intro a W K hS hd hf hK
      have e42 : a.tmps.getD 42 undef = .bool true := hd ⟨4, .data⟩ (by simp) rfl
      clear hd hf
      go_simp
      exact hK _ _ (Below.refl _ _) hS rfl
    · refine ⟨met_some 5 true rfl (fun w v h => h), ?_⟩
      intro a W K hS hd hf hK
      have e3 : a.tmps.getD 3 undef = .pointer (some ⟨w.heap.size, 0, none⟩) := hf 3 (by kernel_rfl)
      have c0 := hS.2.1.cell_some 0 _ rfl
      have c1 := hS.2.1.cell_some 1 _ rfl
      have c2 := hS.2.1.cell_some 2 _ rfl
      have c3 := hS.2.1.cell_some 3 _ rfl
      have c4 := hS.2.1.cell_some 4 _ rfl
      have c5 := hS.2.1.cell_some 5 _ rfl
      have c6 := hS.2.1.cell_some 6 _ rfl
      have c7 := hS.2.1.cell_some 7 _ rfl
      have c8 := hS.2.1.cell_some 8 _ rfl
      have c9 := hS.2.1.cell_some 9 _ rfl
      have c10 := hS.2.1.cell_some 10 _ rfl
      have c11 := hS.2.1.cell_some 11 _ rfl
      have c12 := hS.2.1.cell_some 12 _ rfl
      clear hd hf
      go_simp
      exact hK _ _ (Below.refl _ _) hS rfl
    · refine ⟨met_some 5 true rfl (fun w v h => h), ?_⟩
      intro a W K hS hd hf hK
      have e44 : a.tmps.getD 44 undef = .agg #[.string h.name, .int .i64 h.mode, .int .i64 h.uid, .int .i64 h.gid, .int .i64 h.size, .int .i64 h.mtime, .int .u8 (h.typ.toNat : Int), .string h.link, .string h.uname, .string h.gname, .int .i64 h.major, .int .i64 h.minor, .string h.pre] := hd ⟨6, .data⟩ (by simp) rfl
      clear hd hf
      go_simp
      go_at_call 16
      refine (hc3.out _).mono ?_
      rintro e w1 ⟨rfl, hb⟩
      exact hK _ _ hb (keep5 hS hb) rfl
    · refine ⟨met_some 5 true rfl (fun w v h => h), ?_⟩
      intro a W K hS hd hf hK
      have e3 : a.tmps.getD 3 undef = .pointer (some ⟨w.heap.size, 0, none⟩) := hf 3 (by kernel_rfl)
      have c0 := hS.2.1.cell_some 0 _ rfl
      have c1 := hS.2.1.cell_some 1 _ rfl
      have c2 := hS.2.1.cell_some 2 _ rfl
      have c3 := hS.2.1.cell_some 3 _ rfl
      have c4 := hS.2.1.cell_some 4 _ rfl
      have c5 := hS.2.1.cell_some 5 _ rfl
      have c6 := hS.2.1.cell_some 6 _ rfl
      have c7 := hS.2.1.cell_some 7 _ rfl
      have c8 := hS.2.1.cell_some 8 _ rfl
      have c9 := hS.2.1.cell_some 9 _ rfl
      have c10 := hS.2.1.cell_some 10 _ rfl
      have c11 := hS.2.1.cell_some 11 _ rfl
      have c12 := hS.2.1.cell_some 12 _ rfl
      clear hd hf
      go_simp
      exact hK _ _ (Below.refl _ _) hS rfl
    · refine ⟨met_some 5 true rfl (fun w v h => h), ?_⟩
      intro a W K hS hd hf hK
      have e46 : a.tmps.getD 46 undef = .agg #[.string h.name, .int .i64 h.mode, .int .i64 h.uid, .int .i64 h.gid, .int .i64 h.size, .int .i64 h.mtime, .int .u8 (h.typ.toNat : Int), .string h.link, .string h.uname, .string h.gname, .int .i64 h.major, .int .i64 h.minor, .string h.pre] := hd ⟨8, .data⟩ (by simp) rfl
      clear hd hf
      go_simp
      go_at_call 17
      refine (hc4.out _).mono ?_
      rintro e w1 ⟨rfl, hb⟩
      exact hK _ _ hb (keep5 hS hb) rfl
    · refine ⟨met_some 5 true rfl (fun w v h => h), ?_⟩
      intro a W K hS hd hf hK
      have e45 : a.tmps.getD 45 undef = .string T := hd ⟨7, .data⟩ (by simp) rfl
      have e47 : a.tmps.getD 47 undef = .string T := hd ⟨9, .data⟩ (by simp) rfl
      clear hd hf
      go_simp
      exact hK _ _ (Below.refl _ _) hS rfl
    · refine ⟨met_none rfl, ?_⟩
      intro a W K hS hd hf hK
      have e43 : a.tmps.getD 43 undef = .bool true := hd ⟨5, .data⟩ (by simp) rfl
      have e48 : a.tmps.getD 48 undef = .bool true := hd ⟨10, .data⟩ (by simp) rfl
      clear hd hf
      go_simp
      exact hK _ _ (Below.refl _ _) hS rfl
    · refine ⟨met_none rfl, ?_⟩
      intro a W K hS hd hf hK
      have e49 : a.tmps.getD 49 undef = .bool true := hd ⟨11, .data⟩ (by simp) rfl
      clear hd hf
      go_simp
      exact hK _ _ (Below.refl _ _) hS rfl
    · refine ⟨met_some 12 true rfl (fun w v h => h), ?_⟩
      intro a W K hS hd hf hK
      have e7 : a.tmps.getD 7 undef = .pointer (some ⟨gx, 0, none⟩) := hf 7 (by kernel_rfl)
      have c0 := hS.2.2.1.cell_some 0 _ rfl
      have c1 := hS.2.2.1.cell_some 1 _ rfl
      have c2 := hS.2.2.1.cell_some 2 _ rfl
      have c3 := hS.2.2.1.cell_some 3 _ rfl
      have c4 := hS.2.2.1.cell_some 4 _ rfl
      have c5 := hS.2.2.1.cell_some 5 _ rfl
      have c6 := hS.2.2.1.cell_some 6 _ rfl
      have c7 := hS.2.2.1.cell_some 7 _ rfl
      have c8 := hS.2.2.1.cell_some 8 _ rfl
      have c9 := hS.2.2.1.cell_some 9 _ rfl
      have c10 := hS.2.2.1.cell_some 10 _ rfl
      have c11 := hS.2.2.1.cell_some 11 _ rfl
      have c12 := hS.2.2.1.cell_some 12 _ rfl
      clear hd hf
      go_simp
      exact hK _ _ (Below.refl _ _) hS rfl
    · refine ⟨met_some 12 true rfl (fun w v h => h), ?_⟩
      intro a W K hS hd hf hK
      have e9 : a.tmps.getD 9 undef = .pointer (some ⟨gy, 0, none⟩) := hf 9 (by kernel_rfl)
      clear hd hf
      go_simp
      exact hK _ _ (Below.refl _ _) hS rfl
    · refine ⟨met_some 12 true rfl (fun w v h => h), ?_⟩
      intro a W K hS hd hf hK
      have e52 : a.tmps.getD 52 undef = .pointer (some ⟨gy, 0, none⟩) := hd ⟨14, .data⟩ (by simp) rfl
      have c0 := hS.2.2.2.1.cell_some 0 _ rfl
      have c1 := hS.2.2.2.1.cell_some 1 _ rfl
      have c2 := hS.2.2.2.1.cell_some 2 _ rfl
      have c3 := hS.2.2.2.1.cell_some 3 _ rfl
      have c4 := hS.2.2.2.1.cell_some 4 _ rfl
      have c5 := hS.2.2.2.1.cell_some 5 _ rfl
      have c6 := hS.2.2.2.1.cell_some 6 _ rfl
      have c7 := hS.2.2.2.1.cell_some 7 _ rfl
      have c8 := hS.2.2.2.1.cell_some 8 _ rfl
      have c9 := hS.2.2.2.1.cell_some 9 _ rfl
      have c10 := hS.2.2.2.1.cell_some 10 _ rfl
      have c11 := hS.2.2.2.1.cell_some 11 _ rfl
      have c12 := hS.2.2.2.1.cell_some 12 _ rfl
      clear hd hf
      go_simp
      exact hK _ _ (Below.refl _ _) hS rfl
    · refine ⟨met_some 12 true rfl (fun w v h => h), ?_⟩
      intro a W K hS hd hf hK
      have e51 : a.tmps.getD 51 undef = .agg #[.string X.name, .int .i64 X.mode, .int .i64 X.uid, .int .i64 X.gid, .int .i64 X.size, .int .i64 X.mtime, .int .u8 (X.typ.toNat : Int), .string X.link, .string X.uname, .string X.gname, .int .i64 X.major, .int .i64 X.minor, .string X.pre] := hd ⟨13, .data⟩ (by simp) rfl
      have e53 : a.tmps.getD 53 undef = .agg #[.string X.name, .int .i64 X.mode, .int .i64 X.uid, .int .i64 X.gid, .int .i64 X.size, .int .i64 X.mtime, .int .u8 (X.typ.toNat : Int), .string X.link, .string X.uname, .string X.gname, .int .i64 X.major, .int .i64 X.minor, .string X.pre] := hd ⟨15, .data⟩ (by simp) rfl
      clear hd hf
      go_simp
      exact hK _ _ (Below.refl _ _) hS rfl
    · refine ⟨met_none rfl, ?_⟩
      intro a W K hS hd hf hK
      have e50 : a.tmps.getD 50 undef = .bool true := hd ⟨12, .data⟩ (by simp) rfl
      have e54 : a.tmps.getD 54 undef = .bool true := hd ⟨16, .data⟩ (by simp) rfl
      clear hd hf
      go_simp
      exact hK _ _ (Below.refl _ _) hS rfl
    · refine ⟨met_none rfl, ?_⟩
      intro a W K hS hd hf hK
      have e55 : a.tmps.getD 55 undef = .bool true := hd ⟨17, .data⟩ (by simp) rfl
      clear hd hf
      go_simp
      exact hK _ _ (Below.refl _ _) hS rfl
    · refine ⟨met_some 18 true rfl (fun w v h => h), ?_⟩
      intro a W K hS hd hf hK
      have e8 : a.tmps.getD 8 undef = .int .i64 E := hf 8 (by kernel_rfl)
      clear hd hf
      go_simp
      exact hK _ _ (Below.refl _ _) hS rfl
    · refine ⟨met_some 18 true rfl (fun w v h => h), ?_⟩
      intro a W K hS hd hf hK
      have e57 : a.tmps.getD 57 undef = .int .i64 E := hd ⟨19, .data⟩ (by simp) rfl
      clear hd hf
      go_simp
      go_at_call 18
      refine (hc5.out _).mono ?_
      rintro e w1 ⟨rfl, hb⟩
      exact hK _ _ hb (keep5 hS hb) rfl
    · refine ⟨met_some 18 true rfl (fun w v h => h), ?_⟩
      intro a W K hS hd hf hK
      have e9 : a.tmps.getD 9 undef = .pointer (some ⟨gy, 0, none⟩) := hf 9 (by kernel_rfl)
      clear hd hf
      go_simp
      exact hK _ _ (Below.refl _ _) hS rfl
    · refine ⟨met_some 18 true rfl (fun w v h => h), ?_⟩
      intro a W K hS hd hf hK
      have e59 : a.tmps.getD 59 undef = .pointer (some ⟨gy, 13, none⟩) := hd ⟨21, .data⟩ (by simp) rfl
      have c0 := hS.2.2.2.1.cell_some 13 _ rfl
      clear hd hf
      go_simp
      exact hK _ _ (Below.refl _ _) hS rfl
    · refine ⟨met_some 18 true rfl (fun w v h => h), ?_⟩
      intro a W K hS hd hf hK
      have e58 : a.tmps.getD 58 undef = .int .i64 E := hd ⟨20, .data⟩ (by simp) rfl
      have e60 : a.tmps.getD 60 undef = .int .i64 E := hd ⟨22, .data⟩ (by simp) rfl
      clear hd hf
      go_simp
      exact hK _ _ (Below.refl _ _) hS rfl
    · refine ⟨met_none rfl, ?_⟩
      intro a W K hS hd hf hK
      have e56 : a.tmps.getD 56 undef = .bool true := hd ⟨18, .data⟩ (by simp) rfl
      have e61 : a.tmps.getD 61 undef = .bool true := hd ⟨23, .data⟩ (by simp) rfl
      clear hd hf
      go_simp
      exact hK _ _ (Below.refl _ _) hS rfl
    · refine ⟨met_none rfl, ?_⟩
      intro a W K hS hd hf hK
      have e62 : a.tmps.getD 62 undef = .bool true := hd ⟨24, .data⟩ (by simp) rfl
      clear hd hf
      go_simp
      exact hK _ _ (Below.refl _ _) hS rfl
    · refine ⟨met_some 25 true rfl (fun w v h => h), ?_⟩
      intro a W K hS hd hf hK
      have e10 : a.tmps.getD 10 undef = .string p := hf 10 (by kernel_rfl)
      clear hd hf
      go_simp
      exact hK _ _ (Below.refl _ _) hS rfl
    · refine ⟨met_some 25 true rfl (fun w v h => h), ?_⟩
      intro a W K hS hd hf hK
      have e13 : a.tmps.getD 13 undef = .pointer (some ⟨gq, 0, none⟩) := hf 13 (by kernel_rfl)
      clear hd hf
      go_simp
      exact hK _ _ (Below.refl _ _) hS rfl
    · refine ⟨met_some 25 true rfl (fun w v h => h), ?_⟩
      intro a W K hS hd hf hK
      have e65 : a.tmps.getD 65 undef = .pointer (some ⟨gq, 0, none⟩) := hd ⟨27, .data⟩ (by simp) rfl
      have c0 := hS.2.2.2.2.cell_some 0 _ rfl
      clear hd hf
      go_simp
      exact hK _ _ (Below.refl _ _) hS rfl
    · refine ⟨met_some 25 true rfl (fun w v h => h), ?_⟩
      intro a W K hS hd hf hK
      have e64 : a.tmps.getD 64 undef = .string p := hd ⟨26, .data⟩ (by simp) rfl
      have e66 : a.tmps.getD 66 undef = .string p := hd ⟨28, .data⟩ (by simp) rfl
      clear hd hf
      go_simp
      exact hK _ _ (Below.refl _ _) hS rfl
    · refine ⟨met_none rfl, ?_⟩
      intro a W K hS hd hf hK
      have e63 : a.tmps.getD 63 undef = .bool true := hd ⟨25, .data⟩ (by simp) rfl
      have e67 : a.tmps.getD 67 undef = .bool true := hd ⟨29, .data⟩ (by simp) rfl
      clear hd hf
      go_simp
      exact hK _ _ (Below.refl _ _) hS rfl
    · refine ⟨met_none rfl, ?_⟩
      intro a W K hS hd hf hK
      have e68 : a.tmps.getD 68 undef = .bool true := hd ⟨30, .data⟩ (by simp) rfl
      clear hd hf
      go_simp
      exact hK _ _ (Below.refl _ _) hS rfl
    · refine ⟨met_some 31 true rfl (fun w v h => h), ?_⟩
      intro a W K hS hd hf hK
      have e11 : a.tmps.getD 11 undef = .string n := hf 11 (by kernel_rfl)
      clear hd hf
      go_simp
      exact hK _ _ (Below.refl _ _) hS rfl
    · refine ⟨met_some 31 true rfl (fun w v h => h), ?_⟩
      intro a W K hS hd hf hK
      have e13 : a.tmps.getD 13 undef = .pointer (some ⟨gq, 0, none⟩) := hf 13 (by kernel_rfl)
      clear hd hf
      go_simp
      exact hK _ _ (Below.refl _ _) hS rfl
    · refine ⟨met_some 31 true rfl (fun w v h => h), ?_⟩
      intro a W K hS hd hf hK
      have e71 : a.tmps.getD 71 undef = .pointer (some ⟨gq, 1, none⟩) := hd ⟨33, .data⟩ (by simp) rfl
      have c0 := hS.2.2.2.2.cell_some 1 _ rfl
      clear hd hf
      go_simp
      exact hK _ _ (Below.refl _ _) hS rfl
    · refine ⟨met_some 31 true rfl (fun w v h => h), ?_⟩
      intro a W K hS hd hf hK
      have e70 : a.tmps.getD 70 undef = .string n := hd ⟨32, .data⟩ (by simp) rfl
      have e72 : a.tmps.getD 72 undef = .string n := hd ⟨34, .data⟩ (by simp) rfl
      clear hd hf
      go_simp
      exact hK _ _ (Below.refl _ _) hS rfl
    · refine ⟨met_none rfl, ?_⟩
      intro a W K hS hd hf hK
      have e69 : a.tmps.getD 69 undef = .bool true := hd ⟨31, .data⟩ (by simp) rfl
      have e73 : a.tmps.getD 73 undef = .bool true := hd ⟨35, .data⟩ (by simp) rfl
      clear hd hf
      go_simp
      exact hK _ _ (Below.refl _ _) hS rfl
    · refine ⟨met_none rfl, ?_⟩
      intro a W K hS hd hf hK
      have e74 : a.tmps.getD 74 undef = .bool true := hd ⟨36, .data⟩ (by simp) rfl
      clear hd hf
      go_simp
      exact hK _ _ (Below.refl _ _) hS rfl
    · refine ⟨met_some 37 true rfl (fun w v h => h), ?_⟩
      intro a W K hS hd hf hK
      have e12 : a.tmps.getD 12 undef = .bool ok := hf 12 (by kernel_rfl)
      clear hd hf
      go_simp
      exact hK _ _ (Below.refl _ _) hS rfl
    · refine ⟨met_some 37 true rfl (fun w v h => h), ?_⟩
      intro a W K hS hd hf hK
      have e13 : a.tmps.getD 13 undef = .pointer (some ⟨gq, 0, none⟩) := hf 13 (by kernel_rfl)
      clear hd hf
      go_simp
      exact hK _ _ (Below.refl _ _) hS rfl
    · refine ⟨met_some 37 true rfl (fun w v h => h), ?_⟩
      intro a W K hS hd hf hK
      have e77 : a.tmps.getD 77 undef = .pointer (some ⟨gq, 2, none⟩) := hd ⟨39, .data⟩ (by simp) rfl
      have c0 := hS.2.2.2.2.cell_some 2 _ rfl
      clear hd hf
      go_simp
      exact hK _ _ (Below.refl _ _) hS rfl
    · refine ⟨met_some 37 true rfl (fun w v h => h), ?_⟩
      intro a W K hS hd hf hK
      have e76 : a.tmps.getD 76 undef = .bool ok := hd ⟨38, .data⟩ (by simp) rfl
      have e78 : a.tmps.getD 78 undef = .bool ok := hd ⟨40, .data⟩ (by simp) rfl
      have hself := beq_self
      clear hd hf
      go_simp
      exact hK _ _ (Below.refl _ _) hS rfl
    · refine ⟨met_none rfl, ?_⟩
      intro a W K hS hd hf hK
      have e75 : a.tmps.getD 75 undef = .bool true := hd ⟨37, .data⟩ (by simp) rfl
      have e79 : a.tmps.getD 79 undef = .bool true := hd ⟨41, .data⟩ (by simp) rfl
      clear hd hf
      go_simp
      exact hK _ _ (Below.refl _ _) hS rfl
    · refine ⟨met_none rfl, ?_⟩
      intro a W K hS hd hf hK
      have e80 : a.tmps.getD 80 undef = .bool true := hd ⟨42, .data⟩ (by simp) rfl
      clear hd hf
      go_simp
      exact hK _ _ (Below.refl _ _) hS rfl
    · refine ⟨met_some 43 true rfl (fun w v h => h), ?_⟩
      intro a W K hS hd hf hK
      have e3 : a.tmps.getD 3 undef = .pointer (some ⟨w.heap.size, 0, none⟩) := hf 3 (by kernel_rfl)
      have c0 := hS.2.1.cell_some 0 _ rfl
      have c1 := hS.2.1.cell_some 1 _ rfl
      have c2 := hS.2.1.cell_some 2 _ rfl
      have c3 := hS.2.1.cell_some 3 _ rfl
      have c4 := hS.2.1.cell_some 4 _ rfl
      have c5 := hS.2.1.cell_some 5 _ rfl
      have c6 := hS.2.1.cell_some 6 _ rfl
      have c7 := hS.2.1.cell_some 7 _ rfl
      have c8 := hS.2.1.cell_some 8 _ rfl
      have c9 := hS.2.1.cell_some 9 _ rfl
      have c10 := hS.2.1.cell_some 10 _ rfl
      have c11 := hS.2.1.cell_some 11 _ rfl
      have c12 := hS.2.1.cell_some 12 _ rfl
      clear hd hf
      go_simp
      exact hK _ _ (Below.refl _ _) hS rfl
    · refine ⟨met_some 43 true rfl (fun w v h => h), ?_⟩
      intro a W K hS hd hf hK
      have e82 : a.tmps.getD 82 undef = .agg #[.string h.name, .int .i64 h.mode, .int .i64 h.uid, .int .i64 h.gid, .int .i64 h.size, .int .i64 h.mtime, .int .u8 (h.typ.toNat : Int), .string h.link, .string h.uname, .string h.gname, .int .i64 h.major, .int .i64 h.minor, .string h.pre] := hd ⟨44, .data⟩ (by simp) rfl
      clear hd hf
      go_simp
      go_at_call 19
      refine (hc6.out _).mono ?_
      rintro e w1 ⟨rfl, hb⟩
      exact hK _ _ hb (keep5 hS hb) rfl
    · refine ⟨met_some 43 true rfl (fun w v h => h), ?_⟩
      intro a W K hS hd hf hK
      have e3 : a.tmps.getD 3 undef = .pointer (some ⟨w.heap.size, 0, none⟩) := hf 3 (by kernel_rfl)
      have c0 := hS.2.1.cell_some 0 _ rfl
      have c1 := hS.2.1.cell_some 1 _ rfl
      have c2 := hS.2.1.cell_some 2 _ rfl
      have c3 := hS.2.1.cell_some 3 _ rfl
      have c4 := hS.2.1.cell_some 4 _ rfl
      have c5 := hS.2.1.cell_some 5 _ rfl
      have c6 := hS.2.1.cell_some 6 _ rfl
      have c7 := hS.2.1.cell_some 7 _ rfl
      have c8 := hS.2.1.cell_some 8 _ rfl
      have c9 := hS.2.1.cell_some 9 _ rfl
      have c10 := hS.2.1.cell_some 10 _ rfl
      have c11 := hS.2.1.cell_some 11 _ rfl
      have c12 := hS.2.1.cell_some 12 _ rfl
      clear hd hf
      go_simp
      exact hK _ _ (Below.refl _ _) hS rfl
    · refine ⟨met_some 43 true rfl (fun w v h => h), ?_⟩
      intro a W K hS hd hf hK
      have e84 : a.tmps.getD 84 undef = .agg #[.string h.name, .int .i64 h.mode, .int .i64 h.uid, .int .i64 h.gid, .int .i64 h.size, .int .i64 h.mtime, .int .u8 (h.typ.toNat : Int), .string h.link, .string h.uname, .string h.gname, .int .i64 h.major, .int .i64 h.minor, .string h.pre] := hd ⟨46, .data⟩ (by simp) rfl
      clear hd hf
      go_simp
      go_at_call 20
      refine (hc7.out _).mono ?_
      rintro e w1 ⟨rfl, hb⟩
      exact hK _ _ hb (keep5 hS hb) rfl
    · refine ⟨met_some 43 true rfl (fun w v h => h), ?_⟩
      intro a W K hS hd hf hK
      have e83 : a.tmps.getD 83 undef = .string J := hd ⟨45, .data⟩ (by simp) rfl
      have e85 : a.tmps.getD 85 undef = .string J := hd ⟨47, .data⟩ (by simp) rfl
      clear hd hf
      go_simp
      exact hK _ _ (Below.refl _ _) hS rfl
    · refine ⟨met_none rfl, ?_⟩
      intro a W K hS hd hf hK
      have e81 : a.tmps.getD 81 undef = .bool true := hd ⟨43, .data⟩ (by simp) rfl
      have e86 : a.tmps.getD 86 undef = .bool true := hd ⟨48, .data⟩ (by simp) rfl
      clear hd hf
      go_simp
      exact hK _ _ (Below.refl _ _) hS rfl
    · refine ⟨met_none rfl, ?_⟩
      intro a W K hS hd hf hK
      have e87 : a.tmps.getD 87 undef = .bool true := hd ⟨49, .data⟩ (by simp) rfl
      clear hd hf
      go_simp
      exact hK _ _ (Below.refl _ _) hS rfl
    · refine ⟨met_some 50 true rfl (fun w v h => h), ?_⟩
      intro a W K hS hd hf hK
      clear hd hf
      go_simp
      go_at_call 9
      refine (haw.out _).mono ?_
      rintro e w1 ⟨rfl, hb⟩
      exact hK _ _ hb (keep5 hS hb) rfl
    · refine ⟨met_none rfl, ?_⟩
      intro a W K hS hd hf hK
      have e88 : a.tmps.getD 88 undef = .bool true := hd ⟨50, .data⟩ (by simp) rfl
      have e89 : a.tmps.getD 89 undef = .bool true := hd ⟨51, .data⟩ (by simp) rfl
      clear hd hf
      go_simp
      exact hK _ _ (Below.refl _ _) hS rfl
  case he =>
    intro vals w6 K hS6 hV hK
    have e90 := hV 52 (by omega)
    clear hV
    simp only [List.getD_cons_succ, List.getD_cons_zero] at e90
    have hB6 := hS6.1
    clear hS6 hB5 hh5 hx5 hy5 hq5
    refine Later.mk ?_
    simp only [List.append_eq, List.cons_append, List.nil_append, setN, Nat.reduceAdd, List.setIfInBounds_toArray, List.set_cons_succ, List.set_cons_zero]
    rw [e90]
    go_simp
    refine hK _ _ ?_
    clear hK
    go_wp2_with fail
    go_ret
    exact ⟨rfl, hB6⟩
end Go.Proofs.Ytkkmhfgfkjeooaa
