/- Walks over the document's answer for package head: PutHead. -/
import Derived.Test.YtkkmhfgfkjeooaaRefHead
namespace Go.Proofs.Ytkkmhfgfkjeooaa
open Go.RowKit
open HeadM NumM
set_option linter.unusedVariables false

set_option maxHeartbeats 4000000 in
set_option maxRecDepth 100000 in
theorem refPut_yes (h : Hd) (I : Ints h) (H : mayH h = true) (w : World) :
    Calls Try.prog 17 #[.agg #[.string h.name, .int .i64 h.mode, .int .i64 h.uid, .int .i64 h.gid, .int .i64 h.size, .int .i64 h.mtime, .int .u8 (h.typ.toNat : Int), .string h.link, .string h.uname, .string h.gname, .int .i64 h.major, .int .i64 h.minor, .string h.pre]] w fun e w' => e = .returned (.string (strOf (putL h))) ∧ Below w.heap.size w w' := by
  have P := parts_of H
  have LN := lens_of H
  have sz : ∀ {s : ByteArray} {n : Nat}, mayT (L s) n = true → s.size ≤ n := fun h => by rw [← size_L]; exact (mayT_iff.1 h).1
  have hmay := refMay_any h I
  rw [H] at hmay
  replace hmay := Lib.hid hmay
  have tn := fun w => filled_any h.name 100 100 rfl (sz P.t1) (by omega) w
  have m1 := fun w => refFld h.mode 8 I.i1 w
  have m2 := fun w => refFld h.uid 8 I.i2 w
  have m3 := fun w => refFld h.gid 8 I.i3 w
  have m4 := fun w => refFld h.size 12 I.i4 w
  have m5 := fun w => refFld h.mtime 12 I.i5 w
  have u1 := fun w => filled_any h.link 100 100 rfl (sz P.t2) (by omega) w
  have u2 := fun w => filled_any h.uname 32 32 rfl (sz P.t3) (by omega) w
  have u3 := fun w => filled_any h.gname 32 32 rfl (sz P.t4) (by omega) w
  have u4 := fun w => refFld h.major 8 I.i6 w
  have u5 := fun w => refFld h.minor 8 I.i7 w
  have u6 := fun w => filled_any h.pre 155 155 rfl (sz P.t5) (by omega) w
  rw [(mayN_hasF P.n1).1] at m1
  rw [(mayN_hasF P.n2).1] at m2
  rw [(mayN_hasF P.n3).1] at m3
  rw [(mayN_hasF P.n6).1] at m4
  rw [P.n7] at m5
  rw [(mayN_hasF P.n4).1] at u4
  rw [(mayN_hasF P.n5).1] at u5
  obtain ⟨N0, hN0⟩ : ∃ N0 : ByteArray, strOf (padL (L h.name) 100) = N0 := ⟨_, rfl⟩
  rw [hN0] at tn
  have zN0 : N0.size = 100 := by rw [← hN0, strOf_sz]; exact LN.a1
  have LN0 : L N0 = padL (L h.name) 100 := by rw [← hN0, L_strOf]
  replace tn := Lib.hid tn
  obtain ⟨N1, hN1⟩ : ∃ N1 : ByteArray, strOf (fl h.mode 8) = N1 := ⟨_, rfl⟩
  rw [hN1] at m1
  have zN1 : N1.size = 8 := by rw [← hN1, strOf_sz]; exact LN.a2
  have LN1 : L N1 = fl h.mode 8 := by rw [← hN1, L_strOf]
  replace m1 := Lib.hid m1
  obtain ⟨N2, hN2⟩ : ∃ N2 : ByteArray, strOf (fl h.uid 8) = N2 := ⟨_, rfl⟩
  rw [hN2] at m2
  have zN2 : N2.size = 8 := by rw [← hN2, strOf_sz]; exact LN.a3
  have LN2 : L N2 = fl h.uid 8 := by rw [← hN2, L_strOf]
  replace m2 := Lib.hid m2
  obtain ⟨N3, hN3⟩ : ∃ N3 : ByteArray, strOf (fl h.gid 8) = N3 := ⟨_, rfl⟩
  rw [hN3] at m3
  have zN3 : N3.size = 8 := by rw [← hN3, strOf_sz]; exact LN.a4
  have LN3 : L N3 = fl h.gid 8 := by rw [← hN3, L_strOf]
  replace m3 := Lib.hid m3
  obtain ⟨N4, hN4⟩ : ∃ N4 : ByteArray, strOf (fl h.size 12) = N4 := ⟨_, rfl⟩
  rw [hN4] at m4
  have zN4 : N4.size = 12 := by rw [← hN4, strOf_sz]; exact LN.a5
  have LN4 : L N4 = fl h.size 12 := by rw [← hN4, L_strOf]
  replace m4 := Lib.hid m4
  obtain ⟨N5, hN5⟩ : ∃ N5 : ByteArray, strOf (fl h.mtime 12) = N5 := ⟨_, rfl⟩
  rw [hN5] at m5
  have zN5 : N5.size = 12 := by rw [← hN5, strOf_sz]; exact LN.a6
  have LN5 : L N5 = fl h.mtime 12 := by rw [← hN5, L_strOf]
  replace m5 := Lib.hid m5
  obtain ⟨B1, hB1⟩ : ∃ B1 : ByteArray, strOf (padL (L h.link) 100) = B1 := ⟨_, rfl⟩
  rw [hB1] at u1
  have zB1 : B1.size = 100 := by rw [← hB1, strOf_sz]; exact LN.b1
  have LB1 : L B1 = padL (L h.link) 100 := by rw [← hB1, L_strOf]
  replace u1 := Lib.hid u1
  obtain ⟨B2, hB2⟩ : ∃ B2 : ByteArray, strOf (padL (L h.uname) 32) = B2 := ⟨_, rfl⟩
  rw [hB2] at u2
  have zB2 : B2.size = 32 := by rw [← hB2, strOf_sz]; exact LN.b2
  have LB2 : L B2 = padL (L h.uname) 32 := by rw [← hB2, L_strOf]
  replace u2 := Lib.hid u2
  obtain ⟨B3, hB3⟩ : ∃ B3 : ByteArray, strOf (padL (L h.gname) 32) = B3 := ⟨_, rfl⟩
  rw [hB3] at u3
  have zB3 : B3.size = 32 := by rw [← hB3, strOf_sz]; exact LN.b3
  have LB3 : L B3 = padL (L h.gname) 32 := by rw [← hB3, L_strOf]
  replace u3 := Lib.hid u3
  obtain ⟨B4, hB4⟩ : ∃ B4 : ByteArray, strOf (fl h.major 8) = B4 := ⟨_, rfl⟩
  rw [hB4] at u4
  have zB4 : B4.size = 8 := by rw [← hB4, strOf_sz]; exact LN.b4
  have LB4 : L B4 = fl h.major 8 := by rw [← hB4, L_strOf]
  replace u4 := Lib.hid u4
  obtain ⟨B5, hB5⟩ : ∃ B5 : ByteArray, strOf (fl h.minor 8) = B5 := ⟨_, rfl⟩
  rw [hB5] at u5
  have zB5 : B5.size = 8 := by rw [← hB5, strOf_sz]; exact LN.b5
  have LB5 : L B5 = fl h.minor 8 := by rw [← hB5, L_strOf]
  replace u5 := Lib.hid u5
  obtain ⟨B6, hB6⟩ : ∃ B6 : ByteArray, strOf (padL (L h.pre) 155) = B6 := ⟨_, rfl⟩
  rw [hB6] at u6
  have zB6 : B6.size = 155 := by rw [← hB6, strOf_sz]; exact LN.b6
  have LB6 : L B6 = padL (L h.pre) 155 := by rw [← hB6, L_strOf]
  replace u6 := Lib.hid u6
  obtain ⟨B0, hB0⟩ : ∃ B0 : ByteArray, (⟨#[h.typ]⟩ : ByteArray) = B0 := ⟨_, rfl⟩
  have zB0 : B0.size = 1 := by rw [← hB0]; rfl
  have LB0 : L B0 = [h.typ] := by rw [← hB0]; rfl
  have hcv0 : ∀ {g : Nat} {W : World}, BlkIs W g 5 #[.int .u8 (h.typ.toNat : Int)] → (convert 43 9 (.slice (some ⟨g, 0, none⟩) 1 1)).run Try.prog W = .ok (.string B0) W := fun hr => by
    rw [← hB0]
    exact conv_back (P := Try.prog) (src := 43) (dst := 9) [h.typ] 1 hr Try.underlying43 Try.underlying5 Try.underlying9
  obtain ⟨B7, hB7⟩ : ∃ B7 : ByteArray, strOf (List.replicate 12 0) = B7 := ⟨_, rfl⟩
  have zB7 : B7.size = 12 := by rw [← hB7]; rfl
  have LB7 : L B7 = List.replicate 12 0 := by rw [← hB7, L_strOf]
  have hcv7 : ∀ {g : Nat} {W : World}, BRow g (.slice (some ⟨g, 0, none⟩) 12 12) (List.replicate 12 0) W → (convert 43 9 (.slice (some ⟨g, 0, none⟩) 12 12)).run Try.prog W = .ok (.string B7) W := fun hr => by
    rw [← hB7]
    exact hr.str
  clear hB0 hB7 hN0 hN1 hN2 hN3 hN4 hN5 hB1 hB2 hB3 hB4 hB5 hB6
  have hb0 := BlkIs.made w 23 #[.string h.name, .int .i64 h.mode, .int .i64 h.uid, .int .i64 h.gid, .int .i64 h.size, .int .i64 h.mtime, .int .u8 (h.typ.toNat : Int), .string h.link, .string h.uname, .string h.gname, .int .i64 h.major, .int .i64 h.minor, .string h.pre]
  go_enter Try.func17, Try.ntmps17
  go_wp2_with fail
  refine (hmay.out _).mono ?_
  rintro e w1 ⟨rfl, hbw1⟩
  have hblk := hb0.kept hbw1 hb0.size
  have hB : Below w.heap.size w w1 := by (repeat' (first | exact Below.refl _ _ | assumption | refine gr_drew ?_ | refine gr_drewN ?_ _ | refine gr_alloc ?_ _ | refine gr_set ?_ ?_ _ | refine gr_call ?_ (by assumption)) <;> (try (simp; done)) <;> (try (simp; omega)) <;> (try omega))
  clear hb0
  go_wp2_with fail
  refine region_list (S := fun W => Below w.heap.size w W ∧ BlkIs W w.heap.size 23 #[.string h.name, .int .i64 h.mode, .int .i64 h.uid, .int .i64 h.gid, .int .i64 h.size, .int .i64 h.mtime, .int .u8 (h.typ.toNat : Int), .string h.link, .string h.uname, .string h.gname, .int .i64 h.major, .int .i64 h.minor, .string h.pre])
    [(fun W v => v = .pointer (some ⟨w.heap.size, 0, none⟩)),
     (fun W v => v = .string h.name),
     (fun W v => v = .string N0),
     (fun W v => v = .pointer (some ⟨w.heap.size, 1, none⟩)),
     (fun W v => v = .int .i64 h.mode),
     (fun W v => v = .agg #[.string N1, .bool true]),
     (fun W v => v = .string N1),
     (fun W v => v = .string (N0 ++ N1)),
     (fun W v => v = .pointer (some ⟨w.heap.size, 2, none⟩)),
     (fun W v => v = .int .i64 h.uid),
     (fun W v => v = .agg #[.string N2, .bool true]),
     (fun W v => v = .string N2),
     (fun W v => v = .string ((N0 ++ N1) ++ N2)),
     (fun W v => v = .pointer (some ⟨w.heap.size, 3, none⟩)),
     (fun W v => v = .int .i64 h.gid),
     (fun W v => v = .agg #[.string N3, .bool true]),
     (fun W v => v = .string N3),
     (fun W v => v = .string (((N0 ++ N1) ++ N2) ++ N3)),
     (fun W v => v = .pointer (some ⟨w.heap.size, 4, none⟩)),
     (fun W v => v = .int .i64 h.size),
     (fun W v => v = .agg #[.string N4, .bool true]),
     (fun W v => v = .string N4),
     (fun W v => v = .string ((((N0 ++ N1) ++ N2) ++ N3) ++ N4)),
     (fun W v => v = .pointer (some ⟨w.heap.size, 5, none⟩)),
     (fun W v => v = .int .i64 h.mtime),
     (fun W v => v = .agg #[.string N5, .bool true]),
     (fun W v => v = .string N5),
     (fun W v => v = .string (((((N0 ++ N1) ++ N2) ++ N3) ++ N4) ++ N5)),
     (fun W v => v = .string (((((N0 ++ N1) ++ N2) ++ N3) ++ N4) ++ N5))] (by kernel_rfl) (by kernel_rfl) (by kernel_rfl) ?hS ?hp ?hs ?he
  case hS => exact ⟨gr_drew hB, hblk⟩
  case hp => repeat' (first | exact trivial | refine ⟨fun _ _ _ _ h => h, ?_⟩ | refine ⟨fun _ _ _ hb ⟨g, h1, h2⟩ => ⟨g, h1, h2.kept hb h2.size⟩, ?_⟩ | refine ⟨fun _ _ _ hb ⟨g, h1, h2⟩ => ⟨g, h1, h2.call hb⟩, ?_⟩)
  case hs =>
    refine ⟨?_, ?_, ?_, ?_, ?_, ?_, ?_, ?_, ?_, ?_, ?_, ?_, ?_, ?_, ?_, ?_, ?_, ?_, ?_, ?_, ?_, ?_, ?_, ?_, ?_, ?_, ?_, ?_, ?_, trivial⟩
    · intro a W K hS hd hf hK
      have e1 : a.tmps.getD 1 undef = .pointer (some ⟨w.heap.size, 0, none⟩) := hf 1 (by kernel_rfl)
      clear hd hf
      go_simp
      exact hK _ _ (Below.refl _ _) hS rfl
    · intro a W K hS hd hf hK
      have e11 : a.tmps.getD 11 undef = .pointer (some ⟨w.heap.size, 0, none⟩) := hd ⟨0, .data⟩ (by simp) rfl
      have c := hS.2.cell_some 0 _ rfl
      clear hd hf
      go_simp
      exact hK _ _ (Below.refl _ _) hS rfl
    · intro a W K hS hd hf hK
      have e12 : a.tmps.getD 12 undef = .string h.name := hd ⟨1, .data⟩ (by simp) rfl
      clear hd hf
      go_simp
      go_at_call 35
      refine (tn.out _).mono ?_
      rintro e w1 ⟨rfl, hb⟩
      exact hK _ _ hb ⟨gr_call hS.1 hb, hS.2.kept hb hS.2.size⟩ rfl
    · intro a W K hS hd hf hK
      have e1 : a.tmps.getD 1 undef = .pointer (some ⟨w.heap.size, 0, none⟩) := hf 1 (by kernel_rfl)
      clear hd hf
      go_simp
      exact hK _ _ (Below.refl _ _) hS rfl
    · intro a W K hS hd hf hK
      have e14 : a.tmps.getD 14 undef = .pointer (some ⟨w.heap.size, 1, none⟩) := hd ⟨3, .data⟩ (by simp) rfl
      have c := hS.2.cell_some 1 _ rfl
      clear hd hf
      go_simp
      exact hK _ _ (Below.refl _ _) hS rfl
    · intro a W K hS hd hf hK
      have e15 : a.tmps.getD 15 undef = .int .i64 h.mode := hd ⟨4, .data⟩ (by simp) rfl
      clear hd hf
      go_simp
      go_at_call 22
      refine (m1.out _).mono ?_
      rintro e w1 ⟨rfl, hb⟩
      exact hK _ _ hb ⟨gr_call hS.1 hb, hS.2.kept hb hS.2.size⟩ rfl
    · intro a W K hS hd hf hK
      have e16 : a.tmps.getD 16 undef = .agg #[.string N1, .bool true] := hd ⟨5, .data⟩ (by simp) rfl
      have hfld := fld0
      clear hd hf
      go_simp
      exact hK _ _ (Below.refl _ _) hS rfl
    · intro a W K hS hd hf hK
      have e13 : a.tmps.getD 13 undef = .string N0 := hd ⟨2, .data⟩ (by simp) rfl
      have e17 : a.tmps.getD 17 undef = .string N1 := hd ⟨6, .data⟩ (by simp) rfl
      clear hd hf
      go_simp
      exact hK _ _ (Below.refl _ _) hS rfl
    · intro a W K hS hd hf hK
      have e1 : a.tmps.getD 1 undef = .pointer (some ⟨w.heap.size, 0, none⟩) := hf 1 (by kernel_rfl)
      clear hd hf
      go_simp
      exact hK _ _ (Below.refl _ _) hS rfl
    · intro a W K hS hd hf hK
      have e19 : a.tmps.getD 19 undef = .pointer (some ⟨w.heap.size, 2, none⟩) := hd ⟨8, .data⟩ (by simp) rfl
      have c := hS.2.cell_some 2 _ rfl
      clear hd hf
      go_simp
      exact hK _ _ (Below.refl _ _) hS rfl
    · intro a W K hS hd hf hK
      have e20 : a.tmps.getD 20 undef = .int .i64 h.uid := hd ⟨9, .data⟩ (by simp) rfl
      clear hd hf
      go_simp
      go_at_call 22
      refine (m2.out _).mono ?_
      rintro e w1 ⟨rfl, hb⟩
      exact hK _ _ hb ⟨gr_call hS.1 hb, hS.2.kept hb hS.2.size⟩ rfl
    · intro a W K hS hd hf hK
      have e21 : a.tmps.getD 21 undef = .agg #[.string N2, .bool true] := hd ⟨10, .data⟩ (by simp) rfl
      have hfld := fld0
      clear hd hf
      go_simp
      exact hK _ _ (Below.refl _ _) hS rfl
    · intro a W K hS hd hf hK
      have e18 : a.tmps.getD 18 undef = .string (N0 ++ N1) := hd ⟨7, .data⟩ (by simp) rfl
      have e22 : a.tmps.getD 22 undef = .string N2 := hd ⟨11, .data⟩ (by simp) rfl
      clear hd hf
      go_simp
      exact hK _ _ (Below.refl _ _) hS rfl
    · intro a W K hS hd hf hK
      have e1 : a.tmps.getD 1 undef = .pointer (some ⟨w.heap.size, 0, none⟩) := hf 1 (by kernel_rfl)
      clear hd hf
      go_simp
      exact hK _ _ (Below.refl _ _) hS rfl
    · intro a W K hS hd hf hK
      have e24 : a.tmps.getD 24 undef = .pointer (some ⟨w.heap.size, 3, none⟩) := hd ⟨13, .data⟩ (by simp) rfl
      have c := hS.2.cell_some 3 _ rfl
      clear hd hf
      go_simp
      exact hK _ _ (Below.refl _ _) hS rfl
    · intro a W K hS hd hf hK
      have e25 : a.tmps.getD 25 undef = .int .i64 h.gid := hd ⟨14, .data⟩ (by simp) rfl
      clear hd hf
      go_simp
      go_at_call 22
      refine (m3.out _).mono ?_
      rintro e w1 ⟨rfl, hb⟩
      exact hK _ _ hb ⟨gr_call hS.1 hb, hS.2.kept hb hS.2.size⟩ rfl
    · intro a W K hS hd hf hK
      have e26 : a.tmps.getD 26 undef = .agg #[.string N3, .bool true] := hd ⟨15, .data⟩ (by simp) rfl
      have hfld := fld0
      clear hd hf
      go_simp
      exact hK _ _ (Below.refl _ _) hS rfl
    · intro a W K hS hd hf hK
      have e23 : a.tmps.getD 23 undef = .string ((N0 ++ N1) ++ N2) := hd ⟨12, .data⟩ (by simp) rfl
      have e27 : a.tmps.getD 27 undef = .string N3 := hd ⟨16, .data⟩ (by simp) rfl
      clear hd hf
      go_simp
      exact hK _ _ (Below.refl _ _) hS rfl
    · intro a W K hS hd hf hK
      have e1 : a.tmps.getD 1 undef = .pointer (some ⟨w.heap.size, 0, none⟩) := hf 1 (by kernel_rfl)
      clear hd hf
      go_simp
      exact hK _ _ (Below.refl _ _) hS rfl
    · intro a W K hS hd hf hK
      have e29 : a.tmps.getD 29 undef = .pointer (some ⟨w.heap.size, 4, none⟩) := hd ⟨18, .data⟩ (by simp) rfl
      have c := hS.2.cell_some 4 _ rfl
      clear hd hf
      go_simp
      exact hK _ _ (Below.refl _ _) hS rfl
    · intro a W K hS hd hf hK
      have e30 : a.tmps.getD 30 undef = .int .i64 h.size := hd ⟨19, .data⟩ (by simp) rfl
      clear hd hf
      go_simp
      go_at_call 22
      refine (m4.out _).mono ?_
      rintro e w1 ⟨rfl, hb⟩
      exact hK _ _ hb ⟨gr_call hS.1 hb, hS.2.kept hb hS.2.size⟩ rfl
    · intro a W K hS hd hf hK
      have e31 : a.tmps.getD 31 undef = .agg #[.string N4, .bool true] := hd ⟨20, .data⟩ (by simp) rfl
      have hfld := fld0
      clear hd hf
      go_simp
      exact hK _ _ (Below.refl _ _) hS rfl
    · intro a W K hS hd hf hK
      have e28 : a.tmps.getD 28 undef = .string (((N0 ++ N1) ++ N2) ++ N3) := hd ⟨17, .data⟩ (by simp) rfl
      have e32 : a.tmps.getD 32 undef = .string N4 := hd ⟨21, .data⟩ (by simp) rfl
      clear hd hf
      go_simp
      exact hK _ _ (Below.refl _ _) hS rfl
    · intro a W K hS hd hf hK
      have e1 : a.tmps.getD 1 undef = .pointer (some ⟨w.heap.size, 0, none⟩) := hf 1 (by kernel_rfl)
      clear hd hf
      go_simp
      exact hK _ _ (Below.refl _ _) hS rfl
    · intro a W K hS hd hf hK
      have e34 : a.tmps.getD 34 undef = .pointer (some ⟨w.heap.size, 5, none⟩) := hd ⟨23, .data⟩ (by simp) rfl
      have c := hS.2.cell_some 5 _ rfl
      clear hd hf
      go_simp
      exact hK _ _ (Below.refl _ _) hS rfl
    · intro a W K hS hd hf hK
      have e35 : a.tmps.getD 35 undef = .int .i64 h.mtime := hd ⟨24, .data⟩ (by simp) rfl
      clear hd hf
      go_simp
      go_at_call 22
      refine (m5.out _).mono ?_
      rintro e w1 ⟨rfl, hb⟩
      exact hK _ _ hb ⟨gr_call hS.1 hb, hS.2.kept hb hS.2.size⟩ rfl
    · intro a W K hS hd hf hK
      have e36 : a.tmps.getD 36 undef = .agg #[.string N5, .bool true] := hd ⟨25, .data⟩ (by simp) rfl
      have hfld := fld0
      clear hd hf
      go_simp
      exact hK _ _ (Below.refl _ _) hS rfl
    · intro a W K hS hd hf hK
      have e33 : a.tmps.getD 33 undef = .string ((((N0 ++ N1) ++ N2) ++ N3) ++ N4) := hd ⟨22, .data⟩ (by simp) rfl
      have e37 : a.tmps.getD 37 undef = .string N5 := hd ⟨26, .data⟩ (by simp) rfl
      clear hd hf
      go_simp
      exact hK _ _ (Below.refl _ _) hS rfl
    · intro a W K hS hd hf hK
      have e38 : a.tmps.getD 38 undef = .string (((((N0 ++ N1) ++ N2) ++ N3) ++ N4) ++ N5) := hd ⟨27, .data⟩ (by simp) rfl
      clear hd hf
      go_simp
      exact hK _ _ (Below.refl _ _) hS rfl
  case he =>
    intro vals w2 hS2 hV
    have hv : vals 28 = .string (((((N0 ++ N1) ++ N2) ++ N3) ++ N4) ++ N5) := hV 28 (by decide)
    clear hV
    simp only [setAll, Nat.reduceAdd, List.setIfInBounds_toArray, List.set_cons_succ, List.set_cons_zero]
    rw [hv]
    obtain ⟨A, hA⟩ : ∃ A : ByteArray, (((((N0 ++ N1) ++ N2) ++ N3) ++ N4) ++ N5) = A := ⟨_, rfl⟩
    rw [hA]
    have LA : L A = aheadL h := by
      rw [← hA]
      simp only [L_app, LN0, LN1, LN2, LN3, LN4, LN5, aheadL, List.append_assoc]
    have zA : A.size = 148 := by rw [← size_L, LA]; exact ahead_length H
    clear hB hblk hv hA tn m1 m2 m3 m4 m5 zN0 zN1 zN2 zN3 zN4 zN5 LN0 LN1 LN2 LN3 LN4 LN5
    obtain ⟨hB, hblk⟩ := hS2
    go_wp2_with fail
    refine region_list (S := fun W => Below w.heap.size w W ∧ BlkIs W w.heap.size 23 #[.string h.name, .int .i64 h.mode, .int .i64 h.uid, .int .i64 h.gid, .int .i64 h.size, .int .i64 h.mtime, .int .u8 (h.typ.toNat : Int), .string h.link, .string h.uname, .string h.gname, .int .i64 h.major, .int .i64 h.minor, .string h.pre])
      [(fun W v => v = .pointer (some ⟨w.heap.size, 6, none⟩)),
       (fun W v => v = .int .u8 (h.typ.toNat : Int)),
       (fun W v => ∃ g, v = .slice (some ⟨g, 0, none⟩) 1 1 ∧ BlkIs W g 5 #[.int .u8 (h.typ.toNat : Int)]),
       (fun W v => v = .string B0),
       (fun W v => v = .pointer (some ⟨w.heap.size, 7, none⟩)),
       (fun W v => v = .string h.link),
       (fun W v => v = .string B1),
       (fun W v => v = .string (B0 ++ B1)),
       (fun W v => v = .string ((B0 ++ B1) ++ { data := #[117, 115, 116, 97, 114, 0, 48, 48] })),
       (fun W v => v = .pointer (some ⟨w.heap.size, 8, none⟩)),
       (fun W v => v = .string h.uname),
       (fun W v => v = .string B2),
       (fun W v => v = .string (((B0 ++ B1) ++ { data := #[117, 115, 116, 97, 114, 0, 48, 48] }) ++ B2)),
       (fun W v => v = .pointer (some ⟨w.heap.size, 9, none⟩)),
       (fun W v => v = .string h.gname),
       (fun W v => v = .string B3),
       (fun W v => v = .string ((((B0 ++ B1) ++ { data := #[117, 115, 116, 97, 114, 0, 48, 48] }) ++ B2) ++ B3)),
       (fun W v => v = .pointer (some ⟨w.heap.size, 10, none⟩)),
       (fun W v => v = .int .i64 h.major),
       (fun W v => v = .agg #[.string B4, .bool true]),
       (fun W v => v = .string B4),
       (fun W v => v = .string (((((B0 ++ B1) ++ { data := #[117, 115, 116, 97, 114, 0, 48, 48] }) ++ B2) ++ B3) ++ B4)),
       (fun W v => v = .pointer (some ⟨w.heap.size, 11, none⟩)),
       (fun W v => v = .int .i64 h.minor),
       (fun W v => v = .agg #[.string B5, .bool true]),
       (fun W v => v = .string B5),
       (fun W v => v = .string ((((((B0 ++ B1) ++ { data := #[117, 115, 116, 97, 114, 0, 48, 48] }) ++ B2) ++ B3) ++ B4) ++ B5)),
       (fun W v => v = .pointer (some ⟨w.heap.size, 12, none⟩)),
       (fun W v => v = .string h.pre),
       (fun W v => v = .string B6),
       (fun W v => v = .string (((((((B0 ++ B1) ++ { data := #[117, 115, 116, 97, 114, 0, 48, 48] }) ++ B2) ++ B3) ++ B4) ++ B5) ++ B6)),
       (fun W v => ∃ g, v = .slice (some ⟨g, 0, none⟩) 12 12 ∧ BRow g (.slice (some ⟨g, 0, none⟩) 12 12) (List.replicate 12 0) W),
       (fun W v => v = .string B7),
       (fun W v => v = .string ((((((((B0 ++ B1) ++ { data := #[117, 115, 116, 97, 114, 0, 48, 48] }) ++ B2) ++ B3) ++ B4) ++ B5) ++ B6) ++ B7)),
       (fun W v => v = .string ((((((((B0 ++ B1) ++ { data := #[117, 115, 116, 97, 114, 0, 48, 48] }) ++ B2) ++ B3) ++ B4) ++ B5) ++ B6) ++ B7))] (by kernel_rfl) (by kernel_rfl) (by kernel_rfl) ?hS ?hp ?hs ?he
    case hS => exact ⟨gr_drew hB, hblk⟩
    case hp => repeat' (first | exact trivial | refine ⟨fun _ _ _ _ h => h, ?_⟩ | refine ⟨fun _ _ _ hb ⟨g, h1, h2⟩ => ⟨g, h1, h2.kept hb h2.size⟩, ?_⟩ | refine ⟨fun _ _ _ hb ⟨g, h1, h2⟩ => ⟨g, h1, h2.call hb⟩, ?_⟩)
    case hs =>
      refine ⟨?_, ?_, ?_, ?_, ?_, ?_, ?_, ?_, ?_, ?_, ?_, ?_, ?_, ?_, ?_, ?_, ?_, ?_, ?_, ?_, ?_, ?_, ?_, ?_, ?_, ?_, ?_, ?_, ?_, ?_, ?_, ?_, ?_, ?_, ?_, trivial⟩
      · intro a W K hS hd hf hK
        have e1 : a.tmps.getD 1 undef = .pointer (some ⟨w.heap.size, 0, none⟩) := hf 1 (by kernel_rfl)
        clear hd hf
        go_simp
        exact hK _ _ (Below.refl _ _) hS rfl
      · intro a W K hS hd hf hK
        have e39 : a.tmps.getD 39 undef = .pointer (some ⟨w.heap.size, 6, none⟩) := hd ⟨0, .data⟩ (by simp) rfl
        have c := hS.2.cell_some 6 _ rfl
        clear hd hf
        go_simp
        exact hK _ _ (Below.refl _ _) hS rfl
      · intro a W K hS hd hf hK
        have e40 : a.tmps.getD 40 undef = .int .u8 (h.typ.toNat : Int) := hd ⟨1, .data⟩ (by simp) rfl
        have f40 := e40
        rw [Array.getD_eq_getD_getElem?] at f40
        clear hd hf
        go_simp
        exact hK _ _ ((Below.refl _ _).alloc (Nat.le_refl _) _) ⟨gr_alloc hS.1 _, hS.2.alloc _⟩ ⟨_, rfl, BlkIs.made _ _ _⟩
      · intro a W K hS hd hf hK
        obtain ⟨g41, e41, r41⟩ : ∃ g, a.tmps.getD 41 undef = .slice (some ⟨g, 0, none⟩) 1 1 ∧ BlkIs W g 5 #[.int .u8 (h.typ.toNat : Int)] := hd ⟨2, .data⟩ (by simp) rfl
        have hcv := hcv0 r41
        clear hd hf
        go_simp
        exact hK _ _ (Below.refl _ _) hS rfl
      · intro a W K hS hd hf hK
        have e1 : a.tmps.getD 1 undef = .pointer (some ⟨w.heap.size, 0, none⟩) := hf 1 (by kernel_rfl)
        clear hd hf
        go_simp
        exact hK _ _ (Below.refl _ _) hS rfl
      · intro a W K hS hd hf hK
        have e43 : a.tmps.getD 43 undef = .pointer (some ⟨w.heap.size, 7, none⟩) := hd ⟨4, .data⟩ (by simp) rfl
        have c := hS.2.cell_some 7 _ rfl
        clear hd hf
        go_simp
        exact hK _ _ (Below.refl _ _) hS rfl
      · intro a W K hS hd hf hK
        have e44 : a.tmps.getD 44 undef = .string h.link := hd ⟨5, .data⟩ (by simp) rfl
        clear hd hf
        go_simp
        go_at_call 35
        refine (u1.out _).mono ?_
        rintro e w1 ⟨rfl, hb⟩
        exact hK _ _ hb ⟨gr_call hS.1 hb, hS.2.kept hb hS.2.size⟩ rfl
      · intro a W K hS hd hf hK
        have e42 : a.tmps.getD 42 undef = .string B0 := hd ⟨3, .data⟩ (by simp) rfl
        have e45 : a.tmps.getD 45 undef = .string B1 := hd ⟨6, .data⟩ (by simp) rfl
        clear hd hf
        go_simp
        exact hK _ _ (Below.refl _ _) hS rfl
      · intro a W K hS hd hf hK
        have e46 : a.tmps.getD 46 undef = .string (B0 ++ B1) := hd ⟨7, .data⟩ (by simp) rfl
        clear hd hf
        go_simp
        exact hK _ _ (Below.refl _ _) hS rfl
      · intro a W K hS hd hf hK
        have e1 : a.tmps.getD 1 undef = .pointer (some ⟨w.heap.size, 0, none⟩) := hf 1 (by kernel_rfl)
        clear hd hf
        go_simp
        exact hK _ _ (Below.refl _ _) hS rfl
      · intro a W K hS hd hf hK
        have e48 : a.tmps.getD 48 undef = .pointer (some ⟨w.heap.size, 8, none⟩) := hd ⟨9, .data⟩ (by simp) rfl
        have c := hS.2.cell_some 8 _ rfl
        clear hd hf
        go_simp
        exact hK _ _ (Below.refl _ _) hS rfl
      · intro a W K hS hd hf hK
        have e49 : a.tmps.getD 49 undef = .string h.uname := hd ⟨10, .data⟩ (by simp) rfl
        clear hd hf
        go_simp
        go_at_call 35
        refine (u2.out _).mono ?_
        rintro e w1 ⟨rfl, hb⟩
        exact hK _ _ hb ⟨gr_call hS.1 hb, hS.2.kept hb hS.2.size⟩ rfl
      · intro a W K hS hd hf hK
        have e47 : a.tmps.getD 47 undef = .string ((B0 ++ B1) ++ { data := #[117, 115, 116, 97, 114, 0, 48, 48] }) := hd ⟨8, .data⟩ (by simp) rfl
        have e50 : a.tmps.getD 50 undef = .string B2 := hd ⟨11, .data⟩ (by simp) rfl
        clear hd hf
        go_simp
        exact hK _ _ (Below.refl _ _) hS rfl
      · intro a W K hS hd hf hK
        have e1 : a.tmps.getD 1 undef = .pointer (some ⟨w.heap.size, 0, none⟩) := hf 1 (by kernel_rfl)
        clear hd hf
        go_simp
        exact hK _ _ (Below.refl _ _) hS rfl
      · intro a W K hS hd hf hK
        have e52 : a.tmps.getD 52 undef = .pointer (some ⟨w.heap.size, 9, none⟩) := hd ⟨13, .data⟩ (by simp) rfl
        have c := hS.2.cell_some 9 _ rfl
        clear hd hf
        go_simp
        exact hK _ _ (Below.refl _ _) hS rfl
      · intro a W K hS hd hf hK
        have e53 : a.tmps.getD 53 undef = .string h.gname := hd ⟨14, .data⟩ (by simp) rfl
        clear hd hf
        go_simp
        go_at_call 35
        refine (u3.out _).mono ?_
        rintro e w1 ⟨rfl, hb⟩
        exact hK _ _ hb ⟨gr_call hS.1 hb, hS.2.kept hb hS.2.size⟩ rfl
      · intro a W K hS hd hf hK
        have e51 : a.tmps.getD 51 undef = .string (((B0 ++ B1) ++ { data := #[117, 115, 116, 97, 114, 0, 48, 48] }) ++ B2) := hd ⟨12, .data⟩ (by simp) rfl
        have e54 : a.tmps.getD 54 undef = .string B3 := hd ⟨15, .data⟩ (by simp) rfl
        clear hd hf
        go_simp
        exact hK _ _ (Below.refl _ _) hS rfl
      · intro a W K hS hd hf hK
        have e1 : a.tmps.getD 1 undef = .pointer (some ⟨w.heap.size, 0, none⟩) := hf 1 (by kernel_rfl)
        clear hd hf
        go_simp
        exact hK _ _ (Below.refl _ _) hS rfl
      · intro a W K hS hd hf hK
        have e56 : a.tmps.getD 56 undef = .pointer (some ⟨w.heap.size, 10, none⟩) := hd ⟨17, .data⟩ (by simp) rfl
        have c := hS.2.cell_some 10 _ rfl
        clear hd hf
        go_simp
        exact hK _ _ (Below.refl _ _) hS rfl
      · intro a W K hS hd hf hK
        have e57 : a.tmps.getD 57 undef = .int .i64 h.major := hd ⟨18, .data⟩ (by simp) rfl
        clear hd hf
        go_simp
        go_at_call 22
        refine (u4.out _).mono ?_
        rintro e w1 ⟨rfl, hb⟩
        exact hK _ _ hb ⟨gr_call hS.1 hb, hS.2.kept hb hS.2.size⟩ rfl
      · intro a W K hS hd hf hK
        have e58 : a.tmps.getD 58 undef = .agg #[.string B4, .bool true] := hd ⟨19, .data⟩ (by simp) rfl
        have hfld := fld0
        clear hd hf
        go_simp
        exact hK _ _ (Below.refl _ _) hS rfl
      · intro a W K hS hd hf hK
        have e55 : a.tmps.getD 55 undef = .string ((((B0 ++ B1) ++ { data := #[117, 115, 116, 97, 114, 0, 48, 48] }) ++ B2) ++ B3) := hd ⟨16, .data⟩ (by simp) rfl
        have e59 : a.tmps.getD 59 undef = .string B4 := hd ⟨20, .data⟩ (by simp) rfl
        clear hd hf
        go_simp
        exact hK _ _ (Below.refl _ _) hS rfl
      · intro a W K hS hd hf hK
        have e1 : a.tmps.getD 1 undef = .pointer (some ⟨w.heap.size, 0, none⟩) := hf 1 (by kernel_rfl)
        clear hd hf
        go_simp
        exact hK _ _ (Below.refl _ _) hS rfl
      · intro a W K hS hd hf hK
        have e61 : a.tmps.getD 61 undef = .pointer (some ⟨w.heap.size, 11, none⟩) := hd ⟨22, .data⟩ (by simp) rfl
        have c := hS.2.cell_some 11 _ rfl
        clear hd hf
        go_simp
        exact hK _ _ (Below.refl _ _) hS rfl
      · intro a W K hS hd hf hK
        have e62 : a.tmps.getD 62 undef = .int .i64 h.minor := hd ⟨23, .data⟩ (by simp) rfl
        clear hd hf
        go_simp
        go_at_call 22
        refine (u5.out _).mono ?_
        rintro e w1 ⟨rfl, hb⟩
        exact hK _ _ hb ⟨gr_call hS.1 hb, hS.2.kept hb hS.2.size⟩ rfl
      · intro a W K hS hd hf hK
        have e63 : a.tmps.getD 63 undef = .agg #[.string B5, .bool true] := hd ⟨24, .data⟩ (by simp) rfl
        have hfld := fld0
        clear hd hf
        go_simp
        exact hK _ _ (Below.refl _ _) hS rfl
      · intro a W K hS hd hf hK
        have e60 : a.tmps.getD 60 undef = .string (((((B0 ++ B1) ++ { data := #[117, 115, 116, 97, 114, 0, 48, 48] }) ++ B2) ++ B3) ++ B4) := hd ⟨21, .data⟩ (by simp) rfl
        have e64 : a.tmps.getD 64 undef = .string B5 := hd ⟨25, .data⟩ (by simp) rfl
        clear hd hf
        go_simp
        exact hK _ _ (Below.refl _ _) hS rfl
      · intro a W K hS hd hf hK
        have e1 : a.tmps.getD 1 undef = .pointer (some ⟨w.heap.size, 0, none⟩) := hf 1 (by kernel_rfl)
        clear hd hf
        go_simp
        exact hK _ _ (Below.refl _ _) hS rfl
      · intro a W K hS hd hf hK
        have e66 : a.tmps.getD 66 undef = .pointer (some ⟨w.heap.size, 12, none⟩) := hd ⟨27, .data⟩ (by simp) rfl
        have c := hS.2.cell_some 12 _ rfl
        clear hd hf
        go_simp
        exact hK _ _ (Below.refl _ _) hS rfl
      · intro a W K hS hd hf hK
        have e67 : a.tmps.getD 67 undef = .string h.pre := hd ⟨28, .data⟩ (by simp) rfl
        clear hd hf
        go_simp
        go_at_call 35
        refine (u6.out _).mono ?_
        rintro e w1 ⟨rfl, hb⟩
        exact hK _ _ hb ⟨gr_call hS.1 hb, hS.2.kept hb hS.2.size⟩ rfl
      · intro a W K hS hd hf hK
        have e65 : a.tmps.getD 65 undef = .string ((((((B0 ++ B1) ++ { data := #[117, 115, 116, 97, 114, 0, 48, 48] }) ++ B2) ++ B3) ++ B4) ++ B5) := hd ⟨26, .data⟩ (by simp) rfl
        have e68 : a.tmps.getD 68 undef = .string B6 := hd ⟨29, .data⟩ (by simp) rfl
        clear hd hf
        go_simp
        exact hK _ _ (Below.refl _ _) hS rfl
      · intro a W K hS hd hf hK
        clear hd hf
        refine oper_make _ _ rfl W 12 _ _ rfl rfl rfl rfl (by decide) ?_
        intro w1 hr hb
        exact hK _ _ hb ⟨gr_call hS.1 hb, hS.2.kept hb hS.2.size⟩ ⟨_, rfl, hr⟩
      · intro a W K hS hd hf hK
        obtain ⟨g70, e70, r70⟩ : ∃ g, a.tmps.getD 70 undef = .slice (some ⟨g, 0, none⟩) 12 12 ∧ BRow g (.slice (some ⟨g, 0, none⟩) 12 12) (List.replicate 12 0) W := hd ⟨31, .data⟩ (by simp) rfl
        have hcv := hcv7 r70
        clear hd hf
        go_simp
        exact hK _ _ (Below.refl _ _) hS rfl
      · intro a W K hS hd hf hK
        have e69 : a.tmps.getD 69 undef = .string (((((((B0 ++ B1) ++ { data := #[117, 115, 116, 97, 114, 0, 48, 48] }) ++ B2) ++ B3) ++ B4) ++ B5) ++ B6) := hd ⟨30, .data⟩ (by simp) rfl
        have e71 : a.tmps.getD 71 undef = .string B7 := hd ⟨32, .data⟩ (by simp) rfl
        clear hd hf
        go_simp
        exact hK _ _ (Below.refl _ _) hS rfl
      · intro a W K hS hd hf hK
        have e72 : a.tmps.getD 72 undef = .string ((((((((B0 ++ B1) ++ { data := #[117, 115, 116, 97, 114, 0, 48, 48] }) ++ B2) ++ B3) ++ B4) ++ B5) ++ B6) ++ B7) := hd ⟨33, .data⟩ (by simp) rfl
        clear hd hf
        go_simp
        exact hK _ _ (Below.refl _ _) hS rfl
    case he =>
      intro vals2 w3 hS3 hV
      have hv : vals2 34 = .string ((((((((B0 ++ B1) ++ { data := #[117, 115, 116, 97, 114, 0, 48, 48] }) ++ B2) ++ B3) ++ B4) ++ B5) ++ B6) ++ B7) := hV 34 (by decide)
      clear hV
      simp only [setAll, Nat.reduceAdd, List.setIfInBounds_toArray, List.set_cons_succ, List.set_cons_zero]
      rw [hv]
      obtain ⟨B, hBB⟩ : ∃ B : ByteArray, ((((((((B0 ++ B1) ++ { data := #[117, 115, 116, 97, 114, 0, 48, 48] }) ++ B2) ++ B3) ++ B4) ++ B5) ++ B6) ++ B7) = B := ⟨_, rfl⟩
      rw [hBB]
      have LB : L B = behindL h := by
        rw [← hBB]
        have hmg : L (ByteArray.mk #[117, 115, 116, 97, 114, 0, 48, 48]) = magicL := rfl
        simp only [L_app, LB0, LB1, LB2, LB3, LB4, LB5, LB6, LB7, hmg, behindL, List.append_assoc]
      have zB : B.size = 356 := by rw [← size_L, LB]; exact behind_length H
      clear hB hblk hv hBB u1 u2 u3 u4 u5 u6 zB0 zB1 zB2 zB3 zB4 zB5 zB6 zB7 LB0 LB1 LB2 LB3 LB4 LB5 LB6 LB7 hcv0 hcv7 P LN sz
      obtain ⟨hB, _⟩ := hS3
      have HL := Lib.hid (And.intro LA LB)
      clear LA LB
      go_wp2_with fail
      go_loop [5, 6] (fun nv iv => ∃ k : Nat, k ≤ A.size ∧ iv = .int .i64 (k : Int) ∧ nv = .int .i64 ((256 + sumL ((L A).take k) : Nat) : Int)) (fun _ iv => A.size - (intOf iv).toNat)
      case atStart => exact ⟨0, Nat.zero_le _, rfl, by simp [sumL]⟩
      case round =>
        obtain ⟨k, hk, rfl, rfl⟩ := hrel
        have hb := sumL_le ((L A).take k)
        have hb2 : ((L A).take k).length ≤ 8000 := by have := List.length_take_le k (L A); omega
        by_cases hlt : k < A.size
        · have hb1 := sumL_le ((L A).take (k + 1))
          have hb3 : ((L A).take (k + 1)).length ≤ 8000 := by rw [List.length_take, size_L]; omega
          have Hs : (256 + sumL ((L A).take (k + 1)) : Nat) = 256 + sumL ((L A).take k) + (A[k]'hlt).toNat := by
            rw [take_succ_L A k hlt, sumL_snoc]; omega
          have hc := (A[k]'hlt).toNat_lt
          obtain ⟨m', hm'⟩ : ∃ m', 256 + sumL ((L A).take (k + 1)) = m' := ⟨_, rfl⟩
          obtain ⟨m, hm⟩ : ∃ m, 256 + sumL ((L A).take k) = m := ⟨_, rfl⟩
          have hm9 : m ≤ 5000000 := by omega
          rw [hm, hm'] at Hs
          rw [hm]
          have HM := Lib.hid hm'
          have HS : Hid ((m' : Int) = (m : Int) + ((A[k]'hlt).toNat : Int)) := Lib.hid (by omega)
          clear hb hb2 hb1 hb3 hm hm' Hs
          have hd : (k : Int) < (A.size : Int) := by omega
          go_wp2
          all_goals
            go_round
            case rel => exact ⟨k + 1, by omega, by go_num, by rw [HM.out, HS.out]⟩
            case measure => simp [intOf]; omega
        · obtain rfl : k = A.size := by omega
          have e : (L A).take A.size = L A := List.take_of_length_le (by rw [size_L]; exact Nat.le_refl _)
          rw [e] at hb hb2 ⊢
          have hd : ¬ (A.size : Int) < (A.size : Int) := by omega
          obtain ⟨n1, hn'⟩ : ∃ n, 256 + sumL (L A) = n := ⟨_, rfl⟩
          rw [hn']
          have HN1 := Lib.hid hn'
          have hlx := size_L A
          have hn1 : n1 < 500000 := by omega
          clear hb hb2 hn' e hlt hlx
          go_wp2_with fail
          go_loop [5, 7] (fun nv iv => ∃ k : Nat, k ≤ B.size ∧ iv = .int .i64 (k : Int) ∧ nv = .int .i64 ((n1 + sumL ((L B).take k) : Nat) : Int)) (fun _ iv => B.size - (intOf iv).toNat)
          case atStart => exact ⟨0, Nat.zero_le _, rfl, by simp [sumL]⟩
          case round =>
            obtain ⟨k, hk, rfl, rfl⟩ := hrel
            have hb := sumL_le ((L B).take k)
            have hb2 : ((L B).take k).length ≤ 8000 := by have := List.length_take_le k (L B); omega
            by_cases hlt : k < B.size
            · have hb1 := sumL_le ((L B).take (k + 1))
              have hb3 : ((L B).take (k + 1)).length ≤ 8000 := by rw [List.length_take, size_L]; omega
              have Hs : (n1 + sumL ((L B).take (k + 1)) : Nat) = n1 + sumL ((L B).take k) + (B[k]'hlt).toNat := by
                rw [take_succ_L B k hlt, sumL_snoc]; omega
              have hc := (B[k]'hlt).toNat_lt
              obtain ⟨m', hm'⟩ : ∃ m', n1 + sumL ((L B).take (k + 1)) = m' := ⟨_, rfl⟩
              obtain ⟨m, hm⟩ : ∃ m, n1 + sumL ((L B).take k) = m := ⟨_, rfl⟩
              have hm9 : m ≤ 5000000 := by omega
              rw [hm, hm'] at Hs
              rw [hm]
              have HM := Lib.hid hm'
              have HS : Hid ((m' : Int) = (m : Int) + ((B[k]'hlt).toNat : Int)) := Lib.hid (by omega)
              clear hb hb2 hb1 hb3 hm hm' Hs
              have hd : (k : Int) < (B.size : Int) := by omega
              go_wp2
              all_goals
                go_round
                case rel => exact ⟨k + 1, by omega, by go_num, by rw [HM.out, HS.out]⟩
                case measure => simp [intOf]; omega
            · obtain rfl : k = B.size := by omega
              have e : (L B).take B.size = L B := List.take_of_length_le (by rw [size_L]; exact Nat.le_refl _)
              rw [e] at hb hb2 ⊢
              have hd : ¬ (B.size : Int) < (B.size : Int) := by omega
              obtain ⟨n2, hn'⟩ : ∃ n, n1 + sumL (L B) = n := ⟨_, rfl⟩
              rw [hn']
              have HN2 := Lib.hid hn'
              have hlx := size_L B
              have hn2 : n2 < 1000000 := by omega
              clear hb hb2 hn' e hlt hlx
              go_wp2_with fail
              have hoc := fun w => refOctal_any (n2 : Int) 8 (by omega) w
              rw [octO_sum n2 (by omega)] at hoc
              obtain ⟨D, hD⟩ : ∃ D : ByteArray, strOf (digs 7 n2 ++ [0]) = D := ⟨_, rfl⟩
              replace hoc := Lib.hid (show ∀ w, Calls Try.prog 36 #[.int .i64 (n2 : Int), .int .i64 8] w fun e w' => e = .returned (.agg #[.string (strOf (digs 7 n2 ++ [0])), .bool true]) ∧ Below w.heap.size w w' from hoc)
              rw [hD] at hoc
              have hz : D.size = 8 := by rw [← hD, strOf_sz]; simp [digs_length]
              have hez : (D.extract 1 8).size = 7 := by simp [hz]
              have HE := Lib.hid (show A ++ D.extract 1 8 ++ ⟨#[32]⟩ ++ B = strOf (putL h) from by
                have hc := chk_of n2
                rw [hD, hz] at hc
                apply str_L
                have e2 : L (D.extract 1 8) ++ [32] = chkL n2 := by
                  have := congrArg L hc
                  rw [L_app, L_strOf] at this
                  exact this
                rw [L_app, L_app, L_app, HL.out.1, HL.out.2]
                have e3 : L (ByteArray.mk #[32]) = [32] := rfl
                rw [e3, List.append_assoc (aheadL h), e2]
                have en : n2 = sumL (aheadL h) + 256 + sumL (behindL h) := by
                  rw [← HN2.out, ← HN1.out, HL.out.1, HL.out.2]; omega
                unfold putL
                rw [en, List.append_assoc])
              have hf0 := fld0
              clear hD
              go_wp2_with fail
              refine (hoc.out _).mono ?_
              rintro e w4 ⟨rfl, hbw4⟩
              go_wp2_with fail
              go_ret
              exact ⟨ret_str HE.out, by (repeat' (first | exact Below.refl _ _ | assumption | refine gr_drew ?_ | refine gr_drewN ?_ _ | refine gr_alloc ?_ _ | refine gr_set ?_ ?_ _ | refine gr_call ?_ (by assumption)) <;> (try (simp; done)) <;> (try (simp; omega)) <;> (try omega))⟩

theorem refPut_any (h : Hd) (I : Ints h) (w : World) :
    Calls Try.prog 17 #[.agg #[.string h.name, .int .i64 h.mode, .int .i64 h.uid, .int .i64 h.gid, .int .i64 h.size, .int .i64 h.mtime, .int .u8 (h.typ.toNat : Int), .string h.link, .string h.uname, .string h.gname, .int .i64 h.major, .int .i64 h.minor, .string h.pre]] w fun e w' => e = .returned (.string (strOf (putH h))) ∧ Below w.heap.size w w' := by
  cases H : mayH h with
  | true => rw [put_may H]; exact refPut_yes h I H w
  | false =>
    rw [put_not H]
    have hmay := refMay_any h I
    rw [H] at hmay
    replace hmay := Lib.hid hmay
    go_enter Try.func17, Try.ntmps17
    go_wp2_with fail
    refine (hmay.out _).mono ?_
    rintro e w1 ⟨rfl, hbw1⟩
    go_wp2_with fail
    go_ret
    exact ⟨rfl, by (repeat' (first | exact Below.refl _ _ | assumption | refine gr_drew ?_ | refine gr_drewN ?_ _ | refine gr_alloc ?_ _ | refine gr_set ?_ ?_ _ | refine gr_call ?_ (by assumption)) <;> (try (simp; done)) <;> (try (simp; omega)) <;> (try omega))⟩
end Go.Proofs.Ytkkmhfgfkjeooaa
