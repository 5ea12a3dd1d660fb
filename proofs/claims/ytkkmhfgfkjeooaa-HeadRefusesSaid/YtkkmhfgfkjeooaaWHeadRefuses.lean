/- The law HeadRefuses, walked. -/
import Derived.Test.YtkkmhfgfkjeooaaHeadMake
import Derived.Test.YtkkmhfgfkjeooaaHeadAwake2
namespace Go.Proofs.Ytkkmhfgfkjeooaa
open Go.RowKit
open HeadM NumM
set_option linter.unusedVariables false

theorem mayT_long {s : ByteArray} {n : Nat} (h : ¬ s.size ≤ n) : mayT (L s) n = false := by
  cases hm : mayT (L s) n with
  | false => rfl
  | true => exact absurd (by have := (mayT_iff.1 hm).1; rw [size_L] at this; exact this) h
theorem may_no {h : Hd} (f : Parts h → False) : mayH h = false := by
  cases hm : mayH h with
  | false => rfl
  | true => exact (f (parts_of hm)).elim
theorem u8_of {t : Int} (h : 0 ≤ t ∧ t ≤ 255) : ∃ c : UInt8, t = (c.toNat : Int) := ⟨UInt8.ofNat t.toNat, by
  rw [UInt8.toNat_ofNat_of_lt' (by have : UInt8.size = 256 := rfl; omega)]; omega⟩

set_option maxHeartbeats 8000000 in
set_option maxRecDepth 100000 in
theorem refuses_true (A B : ByteArray) (na : Option Addr) (len cap : Nat) (zs : List Int) (t q : Int) (ht : 0 ≤ t ∧ t ≤ 255) (hq : 0 ≤ q ∧ q ≤ 255) (w : World) (hrow : IsRow .u32 w na len cap zs) :
    Calls Try.prog 6 #[.string A, .string B, .slice na len cap, .int .u8 t, .int .u8 q] w fun e w' => e = .returned (.bool true) ∧ Below w.heap.size w w' := by
  have haw := awake_true
  by_cases hA : 300 < A.size
  · have h1 : (300 : Int) < (A.size : Int) := by omega
    clear hrow
    go_enter Try.func6, Try.ntmps6
    go_wp2_with fail
    refine (haw _).mono ?_
    rintro e w1 ⟨rfl, hbw1⟩
    have hzw1 := hbw1.size
    try simp at hzw1
    go_wp2_with fail
    go_ret
    exact ⟨rfl, hbw1⟩
  by_cases hB : 300 < B.size
  · have h1 : ¬ (300 : Int) < (A.size : Int) := by omega
    have h2 : (300 : Int) < (B.size : Int) := by omega
    clear hrow
    go_enter Try.func6, Try.ntmps6
    go_wp2_with fail
    refine (haw _).mono ?_
    rintro e w1 ⟨rfl, hbw1⟩
    have hzw1 := hbw1.size
    try simp at hzw1
    go_wp2_with fail
    go_ret
    exact ⟨rfl, hbw1⟩
  obtain ⟨c, rfl⟩ := u8_of ht
  obtain ⟨M, hM⟩ : ∃ M, mkH (L A) (L B) zs len c = M := ⟨_, rfl⟩
  have hmk := make_any A B (by omega) (by omega) na len cap zs w hrow c
  rw [hM] at hmk
  replace hmk := Lib.hid hmk
  have h1 : ¬ (300 : Int) < (A.size : Int) := by omega
  have h2 : ¬ (300 : Int) < (B.size : Int) := by omega
  obtain ⟨X33, hX33⟩ : ∃ X33 : ByteArray, (⟨#[120, 120, 120, 120, 120, 120, 120, 120, 120, 120, 120, 120, 120, 120, 120, 120, 120, 120, 120, 120, 120, 120, 120, 120, 120, 120, 120, 120, 120, 120, 120, 120, 120]⟩ : ByteArray) = X33 := ⟨_, rfl⟩
  have zX33 : X33.size = 33 := by rw [← hX33]; rfl
  obtain ⟨Lg, hLg⟩ : ∃ Lg : ByteArray, (⟨#[]⟩ : ByteArray) ++ X33 = Lg := ⟨_, rfl⟩
  have zLg : Lg.size = 33 := by rw [← hLg, ByteArray.size_append, zX33]; rfl
  obtain ⟨r, hr⟩ : ∃ r : Int, q % 9 = r := ⟨_, rfl⟩
  have hr9 : r = 0 ∨ r = 1 ∨ r = 2 ∨ r = 3 ∨ r = 4 ∨ r = 5 ∨ r = 6 ∨ r = 7 ∨ r = 8 := by omega
  have hrm : q.tmod 9 = r := by rw [Int.tmod_eq_emod_of_nonneg hq.1]; exact hr
  clear hA hB hM hrow ht
  have hq0 := hq.1
  have hq1 := hq.2
  clear hq
  go_enter Try.func6, Try.ntmps6
  go_wp2_with fail
  refine hmk.out.mono ?_
  rintro e w1 ⟨rfl, hb1⟩
  have hblk0 := BlkIs.made w1 23 #[.string M.name, .int .i64 M.mode, .int .i64 M.uid, .int .i64 M.gid, .int .i64 M.size, .int .i64 M.mtime, .int .u8 (M.typ.toNat : Int), .string M.link, .string M.uname, .string M.gname, .int .i64 M.major, .int .i64 M.minor, .string M.pre]
  have hB0 := gr_alloc hb1 (.cells #[.string M.name, .int .i64 M.mode, .int .i64 M.uid, .int .i64 M.gid, .int .i64 M.size, .int .i64 M.mtime, .int .u8 (M.typ.toNat : Int), .string M.link, .string M.uname, .string M.gname, .int .i64 M.major, .int .i64 M.minor, .string M.pre] 23)
  clear hmk
  go_wp2_with (at_make; refine wp_make rfl _ _ rfl _ 0 0 0 rfl rfl rfl rfl (by omega) ?_)
  intro w2 hr2 hb2 hcv
  have hcv2 : (convert 43 9 (.slice (some ⟨w1.heap.size + 1, 0, none⟩) 0 0)).run Try.prog w2 = .ok (.string ⟨#[]⟩) w2 := hcv
  clear hr2 hcv
  have hblk := hblk0.kept hb2 (by simp)
  have hB2 : Below w.heap.size w w2 := hB0.trans (hb2.mono (by have := hb1.size; simp; omega))
  have hgw : w.heap.size ≤ w1.heap.size := hb1.size
  clear hblk0 hB0 hb2 hb1
  obtain ⟨X2, hX2⟩ : ∃ X2 : ByteArray, Lg ++ Lg = X2 := ⟨_, rfl⟩
  have zX2 : X2.size = 66 := by rw [← hX2, ByteArray.size_append, zLg]
  obtain ⟨X3, hX3⟩ : ∃ X3 : ByteArray, X2 ++ Lg = X3 := ⟨_, rfl⟩
  have zX3 : X3.size = 99 := by rw [← hX3, ByteArray.size_append, zLg, zX2]
  obtain ⟨X4, hX4⟩ : ∃ X4 : ByteArray, X3 ++ Lg = X4 := ⟨_, rfl⟩
  have zX4 : X4.size = 132 := by rw [← hX4, ByteArray.size_append, zLg, zX3]
  obtain ⟨X5, hX5⟩ : ∃ X5 : ByteArray, X4 ++ Lg = X5 := ⟨_, rfl⟩
  have zX5 : X5.size = 165 := by rw [← hX5, ByteArray.size_append, zLg, zX4]
  rcases hr9 with rfl | rfl | rfl | rfl | rfl | rfl | rfl | rfl | rfl
  · have hbad : mayH { M with name := X4 } = false := may_no (fun P => by
      have h1 := P.t1
      have h2 : mayT (L X4) 100 = false := mayT_long (by rw [zX4]; decide)
      rw [show ({ M with name := X4 } : Hd).name = X4 from rfl, h2] at h1
      cases h1)
    have hm : ∀ w, Calls Try.prog 14 #[.agg #[.string X4, .int .i64 M.mode, .int .i64 M.uid, .int .i64 M.gid, .int .i64 M.size, .int .i64 M.mtime, .int .u8 (M.typ.toNat : Int), .string M.link, .string M.uname, .string M.gname, .int .i64 M.major, .int .i64 M.minor, .string M.pre]] w fun e w' => e = .returned (.bool false) ∧ Below w.heap.size w w' := fun w => by
      have h1 := may_any { M with name := X4 } w
      rw [hbad] at h1
      exact h1
    have hp : ∀ w, Calls Try.prog 16 #[.agg #[.string X4, .int .i64 M.mode, .int .i64 M.uid, .int .i64 M.gid, .int .i64 M.size, .int .i64 M.mtime, .int .u8 (M.typ.toNat : Int), .string M.link, .string M.uname, .string M.gname, .int .i64 M.major, .int .i64 M.minor, .string M.pre]] w fun e w' => e = .returned (.string ⟨#[]⟩) ∧ Below w.heap.size w w' := fun w => by
      have h1 := put_any { M with name := X4 } w
      rw [put_not hbad] at h1
      exact h1
    replace hm := Lib.hid hm
    replace hp := Lib.hid hp
    have hblk3 := hblk.put 0 (.string X4)
    simp only [List.setIfInBounds_toArray, List.set_cons_zero, List.set_cons_succ] at hblk3
    have hB3 := gr_set hB2 (p := ⟨w1.heap.size, 0, none⟩) hgw (.string X4)
    have c0 := hblk.cell_some 0 _ rfl
    have c1 := hblk.cell_some 1 _ rfl
    have c2 := hblk.cell_some 2 _ rfl
    have c3 := hblk.cell_some 3 _ rfl
    have c4 := hblk.cell_some 4 _ rfl
    have c5 := hblk.cell_some 5 _ rfl
    have c6 := hblk.cell_some 6 _ rfl
    have c7 := hblk.cell_some 7 _ rfl
    have c8 := hblk.cell_some 8 _ rfl
    have c9 := hblk.cell_some 9 _ rfl
    have c10 := hblk.cell_some 10 _ rfl
    have c11 := hblk.cell_some 11 _ rfl
    have c12 := hblk.cell_some 12 _ rfl
    have f0 := hblk.free 0
    clear hbad hB2
    go_wp2_with fail
    refine (hm.out _).mono ?_
    rintro e w3 ⟨rfl, hb3⟩
    have hblk4 := hblk3.kept hb3 hblk3.size
    have hB4 := gr_call hB3 hb3
    clear hblk hblk3 hB3 hb3 hcv2 f0 c0 c1 c2 c3 c4 c5 c6 c7 c8 c9 c10 c11 c12
    have d0 := hblk4.cell_some 0 _ rfl
    have d1 := hblk4.cell_some 1 _ rfl
    have d2 := hblk4.cell_some 2 _ rfl
    have d3 := hblk4.cell_some 3 _ rfl
    have d4 := hblk4.cell_some 4 _ rfl
    have d5 := hblk4.cell_some 5 _ rfl
    have d6 := hblk4.cell_some 6 _ rfl
    have d7 := hblk4.cell_some 7 _ rfl
    have d8 := hblk4.cell_some 8 _ rfl
    have d9 := hblk4.cell_some 9 _ rfl
    have d10 := hblk4.cell_some 10 _ rfl
    have d11 := hblk4.cell_some 11 _ rfl
    have d12 := hblk4.cell_some 12 _ rfl
    go_wp2_with fail
    refine (hp.out _).mono ?_
    rintro e w4 ⟨rfl, hb4⟩
    have hB5 := gr_call hB4 hb4
    clear hblk4 hB4 hb4 d0 d1 d2 d3 d4 d5 d6 d7 d8 d9 d10 d11 d12
    go_wp2_with fail
    refine (haw _).mono ?_
    rintro e w5 ⟨rfl, hb5⟩
    have hB6 := gr_call hB5 hb5
    go_wp2_with fail
    go_ret
    exact ⟨rfl, hB6⟩
  · have hbad : mayH { M with link := ⟨#[97, 0]⟩ } = false := may_no (fun P => by
      have h1 := P.t2
      have h2 : mayT (L ⟨#[97, 0]⟩) 100 = false := by decide
      rw [show ({ M with link := ⟨#[97, 0]⟩ } : Hd).link = ⟨#[97, 0]⟩ from rfl, h2] at h1
      cases h1)
    have hm : ∀ w, Calls Try.prog 14 #[.agg #[.string M.name, .int .i64 M.mode, .int .i64 M.uid, .int .i64 M.gid, .int .i64 M.size, .int .i64 M.mtime, .int .u8 (M.typ.toNat : Int), .string ⟨#[97, 0]⟩, .string M.uname, .string M.gname, .int .i64 M.major, .int .i64 M.minor, .string M.pre]] w fun e w' => e = .returned (.bool false) ∧ Below w.heap.size w w' := fun w => by
      have h1 := may_any { M with link := ⟨#[97, 0]⟩ } w
      rw [hbad] at h1
      exact h1
    have hp : ∀ w, Calls Try.prog 16 #[.agg #[.string M.name, .int .i64 M.mode, .int .i64 M.uid, .int .i64 M.gid, .int .i64 M.size, .int .i64 M.mtime, .int .u8 (M.typ.toNat : Int), .string ⟨#[97, 0]⟩, .string M.uname, .string M.gname, .int .i64 M.major, .int .i64 M.minor, .string M.pre]] w fun e w' => e = .returned (.string ⟨#[]⟩) ∧ Below w.heap.size w w' := fun w => by
      have h1 := put_any { M with link := ⟨#[97, 0]⟩ } w
      rw [put_not hbad] at h1
      exact h1
    replace hm := Lib.hid hm
    replace hp := Lib.hid hp
    have hblk3 := hblk.put 7 (.string ⟨#[97, 0]⟩)
    simp only [List.setIfInBounds_toArray, List.set_cons_zero, List.set_cons_succ] at hblk3
    have hB3 := gr_set hB2 (p := ⟨w1.heap.size, 7, none⟩) hgw (.string ⟨#[97, 0]⟩)
    have c0 := hblk.cell_some 0 _ rfl
    have c1 := hblk.cell_some 1 _ rfl
    have c2 := hblk.cell_some 2 _ rfl
    have c3 := hblk.cell_some 3 _ rfl
    have c4 := hblk.cell_some 4 _ rfl
    have c5 := hblk.cell_some 5 _ rfl
    have c6 := hblk.cell_some 6 _ rfl
    have c7 := hblk.cell_some 7 _ rfl
    have c8 := hblk.cell_some 8 _ rfl
    have c9 := hblk.cell_some 9 _ rfl
    have c10 := hblk.cell_some 10 _ rfl
    have c11 := hblk.cell_some 11 _ rfl
    have c12 := hblk.cell_some 12 _ rfl
    have f7 := hblk.free 7
    clear hbad hB2
    go_wp2_with fail
    refine (hm.out _).mono ?_
    rintro e w3 ⟨rfl, hb3⟩
    have hblk4 := hblk3.kept hb3 hblk3.size
    have hB4 := gr_call hB3 hb3
    clear hblk hblk3 hB3 hb3 hcv2 f7 c0 c1 c2 c3 c4 c5 c6 c7 c8 c9 c10 c11 c12
    have d0 := hblk4.cell_some 0 _ rfl
    have d1 := hblk4.cell_some 1 _ rfl
    have d2 := hblk4.cell_some 2 _ rfl
    have d3 := hblk4.cell_some 3 _ rfl
    have d4 := hblk4.cell_some 4 _ rfl
    have d5 := hblk4.cell_some 5 _ rfl
    have d6 := hblk4.cell_some 6 _ rfl
    have d7 := hblk4.cell_some 7 _ rfl
    have d8 := hblk4.cell_some 8 _ rfl
    have d9 := hblk4.cell_some 9 _ rfl
    have d10 := hblk4.cell_some 10 _ rfl
    have d11 := hblk4.cell_some 11 _ rfl
    have d12 := hblk4.cell_some 12 _ rfl
    go_wp2_with fail
    refine (hp.out _).mono ?_
    rintro e w4 ⟨rfl, hb4⟩
    have hB5 := gr_call hB4 hb4
    clear hblk4 hB4 hb4 d0 d1 d2 d3 d4 d5 d6 d7 d8 d9 d10 d11 d12
    go_wp2_with fail
    refine (haw _).mono ?_
    rintro e w5 ⟨rfl, hb5⟩
    have hB6 := gr_call hB5 hb5
    go_wp2_with fail
    go_ret
    exact ⟨rfl, hB6⟩
  · have hbad : mayH { M with uname := Lg } = false := may_no (fun P => by
      have h1 := P.t3
      have h2 : mayT (L Lg) 32 = false := mayT_long (by rw [zLg]; decide)
      rw [show ({ M with uname := Lg } : Hd).uname = Lg from rfl, h2] at h1
      cases h1)
    have hm : ∀ w, Calls Try.prog 14 #[.agg #[.string M.name, .int .i64 M.mode, .int .i64 M.uid, .int .i64 M.gid, .int .i64 M.size, .int .i64 M.mtime, .int .u8 (M.typ.toNat : Int), .string M.link, .string Lg, .string M.gname, .int .i64 M.major, .int .i64 M.minor, .string M.pre]] w fun e w' => e = .returned (.bool false) ∧ Below w.heap.size w w' := fun w => by
      have h1 := may_any { M with uname := Lg } w
      rw [hbad] at h1
      exact h1
    have hp : ∀ w, Calls Try.prog 16 #[.agg #[.string M.name, .int .i64 M.mode, .int .i64 M.uid, .int .i64 M.gid, .int .i64 M.size, .int .i64 M.mtime, .int .u8 (M.typ.toNat : Int), .string M.link, .string Lg, .string M.gname, .int .i64 M.major, .int .i64 M.minor, .string M.pre]] w fun e w' => e = .returned (.string ⟨#[]⟩) ∧ Below w.heap.size w w' := fun w => by
      have h1 := put_any { M with uname := Lg } w
      rw [put_not hbad] at h1
      exact h1
    replace hm := Lib.hid hm
    replace hp := Lib.hid hp
    have hblk3 := hblk.put 8 (.string Lg)
    simp only [List.setIfInBounds_toArray, List.set_cons_zero, List.set_cons_succ] at hblk3
    have hB3 := gr_set hB2 (p := ⟨w1.heap.size, 8, none⟩) hgw (.string Lg)
    have c0 := hblk.cell_some 0 _ rfl
    have c1 := hblk.cell_some 1 _ rfl
    have c2 := hblk.cell_some 2 _ rfl
    have c3 := hblk.cell_some 3 _ rfl
    have c4 := hblk.cell_some 4 _ rfl
    have c5 := hblk.cell_some 5 _ rfl
    have c6 := hblk.cell_some 6 _ rfl
    have c7 := hblk.cell_some 7 _ rfl
    have c8 := hblk.cell_some 8 _ rfl
    have c9 := hblk.cell_some 9 _ rfl
    have c10 := hblk.cell_some 10 _ rfl
    have c11 := hblk.cell_some 11 _ rfl
    have c12 := hblk.cell_some 12 _ rfl
    have f8 := hblk.free 8
    clear hbad hB2
    go_wp2_with fail
    refine (hm.out _).mono ?_
    rintro e w3 ⟨rfl, hb3⟩
    have hblk4 := hblk3.kept hb3 hblk3.size
    have hB4 := gr_call hB3 hb3
    clear hblk hblk3 hB3 hb3 hcv2 f8 c0 c1 c2 c3 c4 c5 c6 c7 c8 c9 c10 c11 c12
    have d0 := hblk4.cell_some 0 _ rfl
    have d1 := hblk4.cell_some 1 _ rfl
    have d2 := hblk4.cell_some 2 _ rfl
    have d3 := hblk4.cell_some 3 _ rfl
    have d4 := hblk4.cell_some 4 _ rfl
    have d5 := hblk4.cell_some 5 _ rfl
    have d6 := hblk4.cell_some 6 _ rfl
    have d7 := hblk4.cell_some 7 _ rfl
    have d8 := hblk4.cell_some 8 _ rfl
    have d9 := hblk4.cell_some 9 _ rfl
    have d10 := hblk4.cell_some 10 _ rfl
    have d11 := hblk4.cell_some 11 _ rfl
    have d12 := hblk4.cell_some 12 _ rfl
    go_wp2_with fail
    refine (hp.out _).mono ?_
    rintro e w4 ⟨rfl, hb4⟩
    have hB5 := gr_call hB4 hb4
    clear hblk4 hB4 hb4 d0 d1 d2 d3 d4 d5 d6 d7 d8 d9 d10 d11 d12
    go_wp2_with fail
    refine (haw _).mono ?_
    rintro e w5 ⟨rfl, hb5⟩
    have hB6 := gr_call hB5 hb5
    go_wp2_with fail
    go_ret
    exact ⟨rfl, hB6⟩
  · have hbad : mayH { M with gname := ⟨#[0]⟩ } = false := may_no (fun P => by
      have h1 := P.t4
      have h2 : mayT (L ⟨#[0]⟩) 32 = false := by decide
      rw [show ({ M with gname := ⟨#[0]⟩ } : Hd).gname = ⟨#[0]⟩ from rfl, h2] at h1
      cases h1)
    have hm : ∀ w, Calls Try.prog 14 #[.agg #[.string M.name, .int .i64 M.mode, .int .i64 M.uid, .int .i64 M.gid, .int .i64 M.size, .int .i64 M.mtime, .int .u8 (M.typ.toNat : Int), .string M.link, .string M.uname, .string ⟨#[0]⟩, .int .i64 M.major, .int .i64 M.minor, .string M.pre]] w fun e w' => e = .returned (.bool false) ∧ Below w.heap.size w w' := fun w => by
      have h1 := may_any { M with gname := ⟨#[0]⟩ } w
      rw [hbad] at h1
      exact h1
    have hp : ∀ w, Calls Try.prog 16 #[.agg #[.string M.name, .int .i64 M.mode, .int .i64 M.uid, .int .i64 M.gid, .int .i64 M.size, .int .i64 M.mtime, .int .u8 (M.typ.toNat : Int), .string M.link, .string M.uname, .string ⟨#[0]⟩, .int .i64 M.major, .int .i64 M.minor, .string M.pre]] w fun e w' => e = .returned (.string ⟨#[]⟩) ∧ Below w.heap.size w w' := fun w => by
      have h1 := put_any { M with gname := ⟨#[0]⟩ } w
      rw [put_not hbad] at h1
      exact h1
    replace hm := Lib.hid hm
    replace hp := Lib.hid hp
    have hblk3 := hblk.put 9 (.string ⟨#[0]⟩)
    simp only [List.setIfInBounds_toArray, List.set_cons_zero, List.set_cons_succ] at hblk3
    have hB3 := gr_set hB2 (p := ⟨w1.heap.size, 9, none⟩) hgw (.string ⟨#[0]⟩)
    have c0 := hblk.cell_some 0 _ rfl
    have c1 := hblk.cell_some 1 _ rfl
    have c2 := hblk.cell_some 2 _ rfl
    have c3 := hblk.cell_some 3 _ rfl
    have c4 := hblk.cell_some 4 _ rfl
    have c5 := hblk.cell_some 5 _ rfl
    have c6 := hblk.cell_some 6 _ rfl
    have c7 := hblk.cell_some 7 _ rfl
    have c8 := hblk.cell_some 8 _ rfl
    have c9 := hblk.cell_some 9 _ rfl
    have c10 := hblk.cell_some 10 _ rfl
    have c11 := hblk.cell_some 11 _ rfl
    have c12 := hblk.cell_some 12 _ rfl
    have f9 := hblk.free 9
    clear hbad hB2
    go_wp2_with fail
    refine (hm.out _).mono ?_
    rintro e w3 ⟨rfl, hb3⟩
    have hblk4 := hblk3.kept hb3 hblk3.size
    have hB4 := gr_call hB3 hb3
    clear hblk hblk3 hB3 hb3 hcv2 f9 c0 c1 c2 c3 c4 c5 c6 c7 c8 c9 c10 c11 c12
    have d0 := hblk4.cell_some 0 _ rfl
    have d1 := hblk4.cell_some 1 _ rfl
    have d2 := hblk4.cell_some 2 _ rfl
    have d3 := hblk4.cell_some 3 _ rfl
    have d4 := hblk4.cell_some 4 _ rfl
    have d5 := hblk4.cell_some 5 _ rfl
    have d6 := hblk4.cell_some 6 _ rfl
    have d7 := hblk4.cell_some 7 _ rfl
    have d8 := hblk4.cell_some 8 _ rfl
    have d9 := hblk4.cell_some 9 _ rfl
    have d10 := hblk4.cell_some 10 _ rfl
    have d11 := hblk4.cell_some 11 _ rfl
    have d12 := hblk4.cell_some 12 _ rfl
    go_wp2_with fail
    refine (hp.out _).mono ?_
    rintro e w4 ⟨rfl, hb4⟩
    have hB5 := gr_call hB4 hb4
    clear hblk4 hB4 hb4 d0 d1 d2 d3 d4 d5 d6 d7 d8 d9 d10 d11 d12
    go_wp2_with fail
    refine (haw _).mono ?_
    rintro e w5 ⟨rfl, hb5⟩
    have hB6 := gr_call hB5 hb5
    go_wp2_with fail
    go_ret
    exact ⟨rfl, hB6⟩
  · have hbad : mayH { M with pre := X5 } = false := may_no (fun P => by
      have h1 := P.t5
      have h2 : mayT (L X5) 155 = false := mayT_long (by rw [zX5]; decide)
      rw [show ({ M with pre := X5 } : Hd).pre = X5 from rfl, h2] at h1
      cases h1)
    have hm : ∀ w, Calls Try.prog 14 #[.agg #[.string M.name, .int .i64 M.mode, .int .i64 M.uid, .int .i64 M.gid, .int .i64 M.size, .int .i64 M.mtime, .int .u8 (M.typ.toNat : Int), .string M.link, .string M.uname, .string M.gname, .int .i64 M.major, .int .i64 M.minor, .string X5]] w fun e w' => e = .returned (.bool false) ∧ Below w.heap.size w w' := fun w => by
      have h1 := may_any { M with pre := X5 } w
      rw [hbad] at h1
      exact h1
    have hp : ∀ w, Calls Try.prog 16 #[.agg #[.string M.name, .int .i64 M.mode, .int .i64 M.uid, .int .i64 M.gid, .int .i64 M.size, .int .i64 M.mtime, .int .u8 (M.typ.toNat : Int), .string M.link, .string M.uname, .string M.gname, .int .i64 M.major, .int .i64 M.minor, .string X5]] w fun e w' => e = .returned (.string ⟨#[]⟩) ∧ Below w.heap.size w w' := fun w => by
      have h1 := put_any { M with pre := X5 } w
      rw [put_not hbad] at h1
      exact h1
    replace hm := Lib.hid hm
    replace hp := Lib.hid hp
    have hblk3 := hblk.put 12 (.string X5)
    simp only [List.setIfInBounds_toArray, List.set_cons_zero, List.set_cons_succ] at hblk3
    have hB3 := gr_set hB2 (p := ⟨w1.heap.size, 12, none⟩) hgw (.string X5)
    have c0 := hblk.cell_some 0 _ rfl
    have c1 := hblk.cell_some 1 _ rfl
    have c2 := hblk.cell_some 2 _ rfl
    have c3 := hblk.cell_some 3 _ rfl
    have c4 := hblk.cell_some 4 _ rfl
    have c5 := hblk.cell_some 5 _ rfl
    have c6 := hblk.cell_some 6 _ rfl
    have c7 := hblk.cell_some 7 _ rfl
    have c8 := hblk.cell_some 8 _ rfl
    have c9 := hblk.cell_some 9 _ rfl
    have c10 := hblk.cell_some 10 _ rfl
    have c11 := hblk.cell_some 11 _ rfl
    have c12 := hblk.cell_some 12 _ rfl
    have f12 := hblk.free 12
    clear hbad hB2
    go_wp2_with fail
    refine (hm.out _).mono ?_
    rintro e w3 ⟨rfl, hb3⟩
    have hblk4 := hblk3.kept hb3 hblk3.size
    have hB4 := gr_call hB3 hb3
    clear hblk hblk3 hB3 hb3 hcv2 f12 c0 c1 c2 c3 c4 c5 c6 c7 c8 c9 c10 c11 c12
    have d0 := hblk4.cell_some 0 _ rfl
    have d1 := hblk4.cell_some 1 _ rfl
    have d2 := hblk4.cell_some 2 _ rfl
    have d3 := hblk4.cell_some 3 _ rfl
    have d4 := hblk4.cell_some 4 _ rfl
    have d5 := hblk4.cell_some 5 _ rfl
    have d6 := hblk4.cell_some 6 _ rfl
    have d7 := hblk4.cell_some 7 _ rfl
    have d8 := hblk4.cell_some 8 _ rfl
    have d9 := hblk4.cell_some 9 _ rfl
    have d10 := hblk4.cell_some 10 _ rfl
    have d11 := hblk4.cell_some 11 _ rfl
    have d12 := hblk4.cell_some 12 _ rfl
    go_wp2_with fail
    refine (hp.out _).mono ?_
    rintro e w4 ⟨rfl, hb4⟩
    have hB5 := gr_call hB4 hb4
    clear hblk4 hB4 hb4 d0 d1 d2 d3 d4 d5 d6 d7 d8 d9 d10 d11 d12
    go_wp2_with fail
    refine (haw _).mono ?_
    rintro e w5 ⟨rfl, hb5⟩
    have hB6 := gr_call hB5 hb5
    go_wp2_with fail
    go_ret
    exact ⟨rfl, hB6⟩
  · have hbad : mayH { M with mode := (-1) } = false := may_no (fun P => by
      have h1 := P.n1
      have h2 : mayN (-1) 8 = false := rfl
      rw [show ({ M with mode := (-1) } : Hd).mode = (-1) from rfl, h2] at h1
      cases h1)
    have hm : ∀ w, Calls Try.prog 14 #[.agg #[.string M.name, .int .i64 (-1), .int .i64 M.uid, .int .i64 M.gid, .int .i64 M.size, .int .i64 M.mtime, .int .u8 (M.typ.toNat : Int), .string M.link, .string M.uname, .string M.gname, .int .i64 M.major, .int .i64 M.minor, .string M.pre]] w fun e w' => e = .returned (.bool false) ∧ Below w.heap.size w w' := fun w => by
      have h1 := may_any { M with mode := (-1) } w
      rw [hbad] at h1
      exact h1
    have hp : ∀ w, Calls Try.prog 16 #[.agg #[.string M.name, .int .i64 (-1), .int .i64 M.uid, .int .i64 M.gid, .int .i64 M.size, .int .i64 M.mtime, .int .u8 (M.typ.toNat : Int), .string M.link, .string M.uname, .string M.gname, .int .i64 M.major, .int .i64 M.minor, .string M.pre]] w fun e w' => e = .returned (.string ⟨#[]⟩) ∧ Below w.heap.size w w' := fun w => by
      have h1 := put_any { M with mode := (-1) } w
      rw [put_not hbad] at h1
      exact h1
    replace hm := Lib.hid hm
    replace hp := Lib.hid hp
    have hblk3 := hblk.put 1 (.int .i64 (-1))
    simp only [List.setIfInBounds_toArray, List.set_cons_zero, List.set_cons_succ] at hblk3
    have hB3 := gr_set hB2 (p := ⟨w1.heap.size, 1, none⟩) hgw (.int .i64 (-1))
    have c0 := hblk.cell_some 0 _ rfl
    have c1 := hblk.cell_some 1 _ rfl
    have c2 := hblk.cell_some 2 _ rfl
    have c3 := hblk.cell_some 3 _ rfl
    have c4 := hblk.cell_some 4 _ rfl
    have c5 := hblk.cell_some 5 _ rfl
    have c6 := hblk.cell_some 6 _ rfl
    have c7 := hblk.cell_some 7 _ rfl
    have c8 := hblk.cell_some 8 _ rfl
    have c9 := hblk.cell_some 9 _ rfl
    have c10 := hblk.cell_some 10 _ rfl
    have c11 := hblk.cell_some 11 _ rfl
    have c12 := hblk.cell_some 12 _ rfl
    have f1 := hblk.free 1
    clear hbad hB2
    go_wp2_with fail
    refine (hm.out _).mono ?_
    rintro e w3 ⟨rfl, hb3⟩
    have hblk4 := hblk3.kept hb3 hblk3.size
    have hB4 := gr_call hB3 hb3
    clear hblk hblk3 hB3 hb3 hcv2 f1 c0 c1 c2 c3 c4 c5 c6 c7 c8 c9 c10 c11 c12
    have d0 := hblk4.cell_some 0 _ rfl
    have d1 := hblk4.cell_some 1 _ rfl
    have d2 := hblk4.cell_some 2 _ rfl
    have d3 := hblk4.cell_some 3 _ rfl
    have d4 := hblk4.cell_some 4 _ rfl
    have d5 := hblk4.cell_some 5 _ rfl
    have d6 := hblk4.cell_some 6 _ rfl
    have d7 := hblk4.cell_some 7 _ rfl
    have d8 := hblk4.cell_some 8 _ rfl
    have d9 := hblk4.cell_some 9 _ rfl
    have d10 := hblk4.cell_some 10 _ rfl
    have d11 := hblk4.cell_some 11 _ rfl
    have d12 := hblk4.cell_some 12 _ rfl
    go_wp2_with fail
    refine (hp.out _).mono ?_
    rintro e w4 ⟨rfl, hb4⟩
    have hB5 := gr_call hB4 hb4
    clear hblk4 hB4 hb4 d0 d1 d2 d3 d4 d5 d6 d7 d8 d9 d10 d11 d12
    go_wp2_with fail
    refine (haw _).mono ?_
    rintro e w5 ⟨rfl, hb5⟩
    have hB6 := gr_call hB5 hb5
    go_wp2_with fail
    go_ret
    exact ⟨rfl, hB6⟩
  · have hbad : mayH { M with uid := 72057594037927936 } = false := may_no (fun P => by
      have h1 := P.n2
      have h2 : mayN 72057594037927936 8 = false := by kernel_rfl
      rw [show ({ M with uid := 72057594037927936 } : Hd).uid = 72057594037927936 from rfl, h2] at h1
      cases h1)
    have hm : ∀ w, Calls Try.prog 14 #[.agg #[.string M.name, .int .i64 M.mode, .int .i64 72057594037927936, .int .i64 M.gid, .int .i64 M.size, .int .i64 M.mtime, .int .u8 (M.typ.toNat : Int), .string M.link, .string M.uname, .string M.gname, .int .i64 M.major, .int .i64 M.minor, .string M.pre]] w fun e w' => e = .returned (.bool false) ∧ Below w.heap.size w w' := fun w => by
      have h1 := may_any { M with uid := 72057594037927936 } w
      rw [hbad] at h1
      exact h1
    have hp : ∀ w, Calls Try.prog 16 #[.agg #[.string M.name, .int .i64 M.mode, .int .i64 72057594037927936, .int .i64 M.gid, .int .i64 M.size, .int .i64 M.mtime, .int .u8 (M.typ.toNat : Int), .string M.link, .string M.uname, .string M.gname, .int .i64 M.major, .int .i64 M.minor, .string M.pre]] w fun e w' => e = .returned (.string ⟨#[]⟩) ∧ Below w.heap.size w w' := fun w => by
      have h1 := put_any { M with uid := 72057594037927936 } w
      rw [put_not hbad] at h1
      exact h1
    replace hm := Lib.hid hm
    replace hp := Lib.hid hp
    have hblk3 := hblk.put 2 (.int .i64 72057594037927936)
    simp only [List.setIfInBounds_toArray, List.set_cons_zero, List.set_cons_succ] at hblk3
    have hB3 := gr_set hB2 (p := ⟨w1.heap.size, 2, none⟩) hgw (.int .i64 72057594037927936)
    have c0 := hblk.cell_some 0 _ rfl
    have c1 := hblk.cell_some 1 _ rfl
    have c2 := hblk.cell_some 2 _ rfl
    have c3 := hblk.cell_some 3 _ rfl
    have c4 := hblk.cell_some 4 _ rfl
    have c5 := hblk.cell_some 5 _ rfl
    have c6 := hblk.cell_some 6 _ rfl
    have c7 := hblk.cell_some 7 _ rfl
    have c8 := hblk.cell_some 8 _ rfl
    have c9 := hblk.cell_some 9 _ rfl
    have c10 := hblk.cell_some 10 _ rfl
    have c11 := hblk.cell_some 11 _ rfl
    have c12 := hblk.cell_some 12 _ rfl
    have f2 := hblk.free 2
    clear hbad hB2
    go_wp2_with fail
    refine (hm.out _).mono ?_
    rintro e w3 ⟨rfl, hb3⟩
    have hblk4 := hblk3.kept hb3 hblk3.size
    have hB4 := gr_call hB3 hb3
    clear hblk hblk3 hB3 hb3 hcv2 f2 c0 c1 c2 c3 c4 c5 c6 c7 c8 c9 c10 c11 c12
    have d0 := hblk4.cell_some 0 _ rfl
    have d1 := hblk4.cell_some 1 _ rfl
    have d2 := hblk4.cell_some 2 _ rfl
    have d3 := hblk4.cell_some 3 _ rfl
    have d4 := hblk4.cell_some 4 _ rfl
    have d5 := hblk4.cell_some 5 _ rfl
    have d6 := hblk4.cell_some 6 _ rfl
    have d7 := hblk4.cell_some 7 _ rfl
    have d8 := hblk4.cell_some 8 _ rfl
    have d9 := hblk4.cell_some 9 _ rfl
    have d10 := hblk4.cell_some 10 _ rfl
    have d11 := hblk4.cell_some 11 _ rfl
    have d12 := hblk4.cell_some 12 _ rfl
    go_wp2_with fail
    refine (hp.out _).mono ?_
    rintro e w4 ⟨rfl, hb4⟩
    have hB5 := gr_call hB4 hb4
    clear hblk4 hB4 hb4 d0 d1 d2 d3 d4 d5 d6 d7 d8 d9 d10 d11 d12
    go_wp2_with fail
    refine (haw _).mono ?_
    rintro e w5 ⟨rfl, hb5⟩
    have hB6 := gr_call hB5 hb5
    go_wp2_with fail
    go_ret
    exact ⟨rfl, hB6⟩
  · have hbad : mayH { M with size := (-5) } = false := may_no (fun P => by
      have h1 := P.n6
      have h2 : mayN (-5) 12 = false := rfl
      rw [show ({ M with size := (-5) } : Hd).size = (-5) from rfl, h2] at h1
      cases h1)
    have hm : ∀ w, Calls Try.prog 14 #[.agg #[.string M.name, .int .i64 M.mode, .int .i64 M.uid, .int .i64 M.gid, .int .i64 (-5), .int .i64 M.mtime, .int .u8 (M.typ.toNat : Int), .string M.link, .string M.uname, .string M.gname, .int .i64 M.major, .int .i64 M.minor, .string M.pre]] w fun e w' => e = .returned (.bool false) ∧ Below w.heap.size w w' := fun w => by
      have h1 := may_any { M with size := (-5) } w
      rw [hbad] at h1
      exact h1
    have hp : ∀ w, Calls Try.prog 16 #[.agg #[.string M.name, .int .i64 M.mode, .int .i64 M.uid, .int .i64 M.gid, .int .i64 (-5), .int .i64 M.mtime, .int .u8 (M.typ.toNat : Int), .string M.link, .string M.uname, .string M.gname, .int .i64 M.major, .int .i64 M.minor, .string M.pre]] w fun e w' => e = .returned (.string ⟨#[]⟩) ∧ Below w.heap.size w w' := fun w => by
      have h1 := put_any { M with size := (-5) } w
      rw [put_not hbad] at h1
      exact h1
    replace hm := Lib.hid hm
    replace hp := Lib.hid hp
    have hblk3 := hblk.put 4 (.int .i64 (-5))
    simp only [List.setIfInBounds_toArray, List.set_cons_zero, List.set_cons_succ] at hblk3
    have hB3 := gr_set hB2 (p := ⟨w1.heap.size, 4, none⟩) hgw (.int .i64 (-5))
    have c0 := hblk.cell_some 0 _ rfl
    have c1 := hblk.cell_some 1 _ rfl
    have c2 := hblk.cell_some 2 _ rfl
    have c3 := hblk.cell_some 3 _ rfl
    have c4 := hblk.cell_some 4 _ rfl
    have c5 := hblk.cell_some 5 _ rfl
    have c6 := hblk.cell_some 6 _ rfl
    have c7 := hblk.cell_some 7 _ rfl
    have c8 := hblk.cell_some 8 _ rfl
    have c9 := hblk.cell_some 9 _ rfl
    have c10 := hblk.cell_some 10 _ rfl
    have c11 := hblk.cell_some 11 _ rfl
    have c12 := hblk.cell_some 12 _ rfl
    have f4 := hblk.free 4
    clear hbad hB2
    go_wp2_with fail
    refine (hm.out _).mono ?_
    rintro e w3 ⟨rfl, hb3⟩
    have hblk4 := hblk3.kept hb3 hblk3.size
    have hB4 := gr_call hB3 hb3
    clear hblk hblk3 hB3 hb3 hcv2 f4 c0 c1 c2 c3 c4 c5 c6 c7 c8 c9 c10 c11 c12
    have d0 := hblk4.cell_some 0 _ rfl
    have d1 := hblk4.cell_some 1 _ rfl
    have d2 := hblk4.cell_some 2 _ rfl
    have d3 := hblk4.cell_some 3 _ rfl
    have d4 := hblk4.cell_some 4 _ rfl
    have d5 := hblk4.cell_some 5 _ rfl
    have d6 := hblk4.cell_some 6 _ rfl
    have d7 := hblk4.cell_some 7 _ rfl
    have d8 := hblk4.cell_some 8 _ rfl
    have d9 := hblk4.cell_some 9 _ rfl
    have d10 := hblk4.cell_some 10 _ rfl
    have d11 := hblk4.cell_some 11 _ rfl
    have d12 := hblk4.cell_some 12 _ rfl
    go_wp2_with fail
    refine (hp.out _).mono ?_
    rintro e w4 ⟨rfl, hb4⟩
    have hB5 := gr_call hB4 hb4
    clear hblk4 hB4 hb4 d0 d1 d2 d3 d4 d5 d6 d7 d8 d9 d10 d11 d12
    go_wp2_with fail
    refine (haw _).mono ?_
    rintro e w5 ⟨rfl, hb5⟩
    have hB6 := gr_call hB5 hb5
    go_wp2_with fail
    go_ret
    exact ⟨rfl, hB6⟩
  · have hbad : mayH { M with minor := (-1) } = false := may_no (fun P => by
      have h1 := P.n5
      have h2 : mayN (-1) 8 = false := rfl
      rw [show ({ M with minor := (-1) } : Hd).minor = (-1) from rfl, h2] at h1
      cases h1)
    have hm : ∀ w, Calls Try.prog 14 #[.agg #[.string M.name, .int .i64 M.mode, .int .i64 M.uid, .int .i64 M.gid, .int .i64 M.size, .int .i64 M.mtime, .int .u8 (M.typ.toNat : Int), .string M.link, .string M.uname, .string M.gname, .int .i64 M.major, .int .i64 (-1), .string M.pre]] w fun e w' => e = .returned (.bool false) ∧ Below w.heap.size w w' := fun w => by
      have h1 := may_any { M with minor := (-1) } w
      rw [hbad] at h1
      exact h1
    have hp : ∀ w, Calls Try.prog 16 #[.agg #[.string M.name, .int .i64 M.mode, .int .i64 M.uid, .int .i64 M.gid, .int .i64 M.size, .int .i64 M.mtime, .int .u8 (M.typ.toNat : Int), .string M.link, .string M.uname, .string M.gname, .int .i64 M.major, .int .i64 (-1), .string M.pre]] w fun e w' => e = .returned (.string ⟨#[]⟩) ∧ Below w.heap.size w w' := fun w => by
      have h1 := put_any { M with minor := (-1) } w
      rw [put_not hbad] at h1
      exact h1
    replace hm := Lib.hid hm
    replace hp := Lib.hid hp
    have hblk3 := hblk.put 11 (.int .i64 (-1))
    simp only [List.setIfInBounds_toArray, List.set_cons_zero, List.set_cons_succ] at hblk3
    have hB3 := gr_set hB2 (p := ⟨w1.heap.size, 11, none⟩) hgw (.int .i64 (-1))
    have c0 := hblk.cell_some 0 _ rfl
    have c1 := hblk.cell_some 1 _ rfl
    have c2 := hblk.cell_some 2 _ rfl
    have c3 := hblk.cell_some 3 _ rfl
    have c4 := hblk.cell_some 4 _ rfl
    have c5 := hblk.cell_some 5 _ rfl
    have c6 := hblk.cell_some 6 _ rfl
    have c7 := hblk.cell_some 7 _ rfl
    have c8 := hblk.cell_some 8 _ rfl
    have c9 := hblk.cell_some 9 _ rfl
    have c10 := hblk.cell_some 10 _ rfl
    have c11 := hblk.cell_some 11 _ rfl
    have c12 := hblk.cell_some 12 _ rfl
    have f11 := hblk.free 11
    clear hbad hB2
    go_wp2_with fail
    refine (hm.out _).mono ?_
    rintro e w3 ⟨rfl, hb3⟩
    have hblk4 := hblk3.kept hb3 hblk3.size
    have hB4 := gr_call hB3 hb3
    clear hblk hblk3 hB3 hb3 hcv2 f11 c0 c1 c2 c3 c4 c5 c6 c7 c8 c9 c10 c11 c12
    have d0 := hblk4.cell_some 0 _ rfl
    have d1 := hblk4.cell_some 1 _ rfl
    have d2 := hblk4.cell_some 2 _ rfl
    have d3 := hblk4.cell_some 3 _ rfl
    have d4 := hblk4.cell_some 4 _ rfl
    have d5 := hblk4.cell_some 5 _ rfl
    have d6 := hblk4.cell_some 6 _ rfl
    have d7 := hblk4.cell_some 7 _ rfl
    have d8 := hblk4.cell_some 8 _ rfl
    have d9 := hblk4.cell_some 9 _ rfl
    have d10 := hblk4.cell_some 10 _ rfl
    have d11 := hblk4.cell_some 11 _ rfl
    have d12 := hblk4.cell_some 12 _ rfl
    go_wp2_with fail
    refine (hp.out _).mono ?_
    rintro e w4 ⟨rfl, hb4⟩
    have hB5 := gr_call hB4 hb4
    clear hblk4 hB4 hb4 d0 d1 d2 d3 d4 d5 d6 d7 d8 d9 d10 d11 d12
    go_wp2_with fail
    refine (haw _).mono ?_
    rintro e w5 ⟨rfl, hb5⟩
    have hB6 := gr_call hB5 hb5
    go_wp2_with fail
    go_ret
    exact ⟨rfl, hB6⟩
end Go.Proofs.Ytkkmhfgfkjeooaa
