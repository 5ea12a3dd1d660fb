/- Walks over package head: Put. -/
import Derived.Test.YtbhnhoenjoagbaaGreatDoorHdMay2
import Derived.Test.YtbhnhoenjoagbaaGreatDoorPk04
namespace Go.Proofs.YtbhnhoenjoagbaaGreatDoor.HeadW
open Go.RowKit
open HeadM NumM
set_option linter.unusedVariables false

set_option maxHeartbeats 4000000 in
set_option maxRecDepth 100000 in
theorem put_yes (h : Hd) (H : mayH h = true) (w : World) :
    Calls Tryz.prog 87 #[.agg #[.string h.name, .int .i64 h.mode, .int .i64 h.uid, .int .i64 h.gid, .int .i64 h.size, .int .i64 h.mtime, .int .u8 (h.typ.toNat : Int), .string h.link, .string h.uname, .string h.gname, .int .i64 h.major, .int .i64 h.minor, .string h.pre]] w fun e w' => e = .returned (.string (strOf (putL h))) ∧ Below w.heap.size w w' := by
  have P := parts_of H
  have LN := lens_of H
  have sz : ∀ {s : ByteArray} {n : Nat}, mayT (L s) n = true → s.size ≤ n := fun h => by rw [← size_L]; exact (mayT_iff.1 h).1
  have hmay := may_any h
  rw [H] at hmay
  replace hmay := Lib.hid hmay
  have tn := fun w => text_any h.name 100 100 rfl (sz P.t1) (by omega) w
  have m1 := fun w => number_any h.mode 8 w
  have m2 := fun w => number_any h.uid 8 w
  have m3 := fun w => number_any h.gid 8 w
  have m4 := fun w => number_any h.size 12 w
  have m5 := fun w => number_any h.mtime 12 w
  have u1 := fun w => text_any h.link 100 100 rfl (sz P.t2) (by omega) w
  have u2 := fun w => text_any h.uname 32 32 rfl (sz P.t3) (by omega) w
  have u3 := fun w => text_any h.gname 32 32 rfl (sz P.t4) (by omega) w
  have u4 := fun w => number_any h.major 8 w
  have u5 := fun w => number_any h.minor 8 w
  have u6 := fun w => text_any h.pre 155 155 rfl (sz P.t5) (by omega) w
  have u7 := fun w => text_any ⟨#[]⟩ 12 12 rfl (Nat.zero_le _) (by omega) w
  obtain ⟨N0, hN0⟩ : ∃ N0 : ByteArray, strOf (padL (L h.name) 100) = N0 := ⟨_, rfl⟩
  rw [hN0] at tn
  have zN0 : N0.size = 100 := by rw [← hN0, strOf_sz]; exact LN.a1
  have LN0 : L N0 = padL (L h.name) 100 := by rw [← hN0, L_strOf]
  replace tn := Lib.hid tn
  obtain ⟨N1, hN1⟩ : ∃ N1 : ByteArray, strOf (fl h.mode 8) = N1 := ⟨_, rfl⟩
  rw [hN1] at m1
  have zN1 : N1.size = 8 := by rw [← hN1, strOf_sz]; exact LN.a2
  have LN1 : L N1 = fl h.mode 8 := by rw [← hN1, L_strOf]
  replace m1 := Lib.hid m1
  obtain ⟨N2, hN2⟩ : ∃ N2 : ByteArray, strOf (fl h.uid 8) = N2 := ⟨_, rfl⟩
  rw [hN2] at m2
  have zN2 : N2.size = 8 := by rw [← hN2, strOf_sz]; exact LN.a3
  have LN2 : L N2 = fl h.uid 8 := by rw [← hN2, L_strOf]
  replace m2 := Lib.hid m2
  obtain ⟨N3, hN3⟩ : ∃ N3 : ByteArray, strOf (fl h.gid 8) = N3 := ⟨_, rfl⟩
  rw [hN3] at m3
  have zN3 : N3.size = 8 := by rw [← hN3, strOf_sz]; exact LN.a4
  have LN3 : L N3 = fl h.gid 8 := by rw [← hN3, L_strOf]
  replace m3 := Lib.hid m3
  obtain ⟨N4, hN4⟩ : ∃ N4 : ByteArray, strOf (fl h.size 12) = N4 := ⟨_, rfl⟩
  rw [hN4] at m4
  have zN4 : N4.size = 12 := by rw [← hN4, strOf_sz]; exact LN.a5
  have LN4 : L N4 = fl h.size 12 := by rw [← hN4, L_strOf]
  replace m4 := Lib.hid m4
  obtain ⟨N5, hN5⟩ : ∃ N5 : ByteArray, strOf (fl h.mtime 12) = N5 := ⟨_, rfl⟩
  rw [hN5] at m5
  have zN5 : N5.size = 12 := by rw [← hN5, strOf_sz]; exact LN.a6
  have LN5 : L N5 = fl h.mtime 12 := by rw [← hN5, L_strOf]
  replace m5 := Lib.hid m5
  obtain ⟨B1, hB1⟩ : ∃ B1 : ByteArray, strOf (padL (L h.link) 100) = B1 := ⟨_, rfl⟩
  rw [hB1] at u1
  have zB1 : B1.size = 100 := by rw [← hB1, strOf_sz]; exact LN.b1
  have LB1 : L B1 = padL (L h.link) 100 := by rw [← hB1, L_strOf]
  replace u1 := Lib.hid u1
  obtain ⟨B2, hB2⟩ : ∃ B2 : ByteArray, strOf (padL (L h.uname) 32) = B2 := ⟨_, rfl⟩
  rw [hB2] at u2
  have zB2 : B2.size = 32 := by rw [← hB2, strOf_sz]; exact LN.b2
  have LB2 : L B2 = padL (L h.uname) 32 := by rw [← hB2, L_strOf]
  replace u2 := Lib.hid u2
  obtain ⟨B3, hB3⟩ : ∃ B3 : ByteArray, strOf (padL (L h.gname) 32) = B3 := ⟨_, rfl⟩
  rw [hB3] at u3
  have zB3 : B3.size = 32 := by rw [← hB3, strOf_sz]; exact LN.b3
  have LB3 : L B3 = padL (L h.gname) 32 := by rw [← hB3, L_strOf]
  replace u3 := Lib.hid u3
  obtain ⟨B4, hB4⟩ : ∃ B4 : ByteArray, strOf (fl h.major 8) = B4 := ⟨_, rfl⟩
  rw [hB4] at u4
  have zB4 : B4.size = 8 := by rw [← hB4, strOf_sz]; exact LN.b4
  have LB4 : L B4 = fl h.major 8 := by rw [← hB4, L_strOf]
  replace u4 := Lib.hid u4
  obtain ⟨B5, hB5⟩ : ∃ B5 : ByteArray, strOf (fl h.minor 8) = B5 := ⟨_, rfl⟩
  rw [hB5] at u5
  have zB5 : B5.size = 8 := by rw [← hB5, strOf_sz]; exact LN.b5
  have LB5 : L B5 = fl h.minor 8 := by rw [← hB5, L_strOf]
  replace u5 := Lib.hid u5
  obtain ⟨B6, hB6⟩ : ∃ B6 : ByteArray, strOf (padL (L h.pre) 155) = B6 := ⟨_, rfl⟩
  rw [hB6] at u6
  have zB6 : B6.size = 155 := by rw [← hB6, strOf_sz]; exact LN.b6
  have LB6 : L B6 = padL (L h.pre) 155 := by rw [← hB6, L_strOf]
  replace u6 := Lib.hid u6
  obtain ⟨B7, hB7⟩ : ∃ B7 : ByteArray, strOf (padL (L ⟨#[]⟩) 12) = B7 := ⟨_, rfl⟩
  rw [hB7] at u7
  have zB7 : B7.size = 12 := by rw [← hB7, strOf_sz]; exact rfl
  have LB7 : L B7 = padL (L ⟨#[]⟩) 12 := by rw [← hB7, L_strOf]
  replace u7 := Lib.hid u7
  obtain ⟨B0, hB0⟩ : ∃ B0 : ByteArray, (⟨#[h.typ]⟩ : ByteArray) = B0 := ⟨_, rfl⟩
  have zB0 : B0.size = 1 := by rw [← hB0]; rfl
  have LB0 : L B0 = [h.typ] := by rw [← hB0]; rfl
  have hcv0 : ∀ {g : Nat} {W : World}, BlkIs W g 5 #[.int .u8 (h.typ.toNat : Int)] → (convert 49 9 (.slice (some ⟨g, 0, none⟩) 1 1)).run Tryz.prog W = .ok (.string B0) W := fun hr => by
    rw [← hB0]
    exact conv_back (P := Tryz.prog) (src := 49) (dst := 9) [h.typ] 1 hr Tryz.underlying49 Tryz.underlying5 Tryz.underlying9
  clear hB0 hN0 hN1 hN2 hN3 hN4 hN5 hB1 hB2 hB3 hB4 hB5 hB6 hB7
  have hb0 := BlkIs.made w 23 #[.string h.name, .int .i64 h.mode, .int .i64 h.uid, .int .i64 h.gid, .int .i64 h.size, .int .i64 h.mtime, .int .u8 (h.typ.toNat : Int), .string h.link, .string h.uname, .string h.gname, .int .i64 h.major, .int .i64 h.minor, .string h.pre]
  go_enter Tryz.func87, Tryz.ntmps87
  go_wp2_with fail
  refine (hmay.out _).mono ?_
  rintro e w1 ⟨rfl, hbw1⟩
  have hblk := hb0.kept hbw1 hb0.size
  have hB : Below w.heap.size w w1 := by (repeat' (first | exact Below.refl _ _ | assumption | refine gr_drew ?_ | refine gr_drewN ?_ _ | refine gr_alloc ?_ _ | refine gr_set ?_ ?_ _ | refine gr_call ?_ (by assumption)) <;> (try (simp; done)) <;> (try (simp; omega)) <;> (try omega))
  clear hb0
  go_wp2_with fail
  refine region_list (S := fun W => Below w.heap.size w W ∧ BlkIs W w.heap.size 23 #[.string h.name, .int .i64 h.mode, .int .i64 h.uid, .int .i64 h.gid, .int .i64 h.size, .int .i64 h.mtime, .int .u8 (h.typ.toNat : Int), .string h.link, .string h.uname, .string h.gname, .int .i64 h.major, .int .i64 h.minor, .string h.pre])
    [(fun W v => v = .pointer (some ⟨w.heap.size, 0, none⟩)),
     (fun W v => v = .string h.name),
     (fun W v => v = .string N0),
     (fun W v => v = .pointer (some ⟨w.heap.size, 1, none⟩)),
     (fun W v => v = .int .i64 h.mode),
     (fun W v => v = .string N1),
     (fun W v => v = .string (N0 ++ N1)),
     (fun W v => v = .pointer (some ⟨w.heap.size, 2, none⟩)),
     (fun W v => v = .int .i64 h.uid),
     (fun W v => v = .string N2),
     (fun W v => v = .string ((N0 ++ N1) ++ N2)),
     (fun W v => v = .pointer (some ⟨w.heap.size, 3, none⟩)),
     (fun W v => v = .int .i64 h.gid),
     (fun W v => v = .string N3),
     (fun W v => v = .string (((N0 ++ N1) ++ N2) ++ N3)),
     (fun W v => v = .pointer (some ⟨w.heap.size, 4, none⟩)),
     (fun W v => v = .int .i64 h.size),
     (fun W v => v = .string N4),
     (fun W v => v = .string ((((N0 ++ N1) ++ N2) ++ N3) ++ N4)),
     (fun W v => v = .pointer (some ⟨w.heap.size, 5, none⟩)),
     (fun W v => v = .int .i64 h.mtime),
     (fun W v => v = .string N5),
     (fun W v => v = .string (((((N0 ++ N1) ++ N2) ++ N3) ++ N4) ++ N5)),
     (fun W v => v = .string (((((N0 ++ N1) ++ N2) ++ N3) ++ N4) ++ N5))] (by kernel_rfl) (by kernel_rfl) (by kernel_rfl) ?hS ?hp ?hs ?he
  case hS => exact ⟨gr_drew hB, hblk⟩
  case hp => repeat' (first | exact trivial | refine ⟨fun _ _ _ _ h => h, ?_⟩ | refine ⟨fun _ _ _ hb ⟨g, h1, h2⟩ => ⟨g, h1, h2.kept hb h2.size⟩, ?_⟩ | refine ⟨fun _ _ _ hb ⟨g, h1, h2⟩ => ⟨g, h1, h2.call hb⟩, ?_⟩)
  case hs =>
    refine ⟨?_, ?_, ?_, ?_, ?_, ?_, ?_, ?_, ?_, ?_, ?_, ?_, ?_, ?_, ?_, ?_, ?_, ?_, ?_, ?_, ?_, ?_, ?_, ?_, trivial⟩
    · intro a W K hS hd hf hK
      have e1 : a.tmps.getD 1 undef = .pointer (some ⟨w.heap.size, 0, none⟩) := hf 1 (by kernel_rfl)
      clear hd hf
      go_simp
      exact hK _ _ (Below.refl _ _) hS rfl
    · intro a W K hS hd hf hK
      have e8 : a.tmps.getD 8 undef = .pointer (some ⟨w.heap.size, 0, none⟩) := hd ⟨0, .data⟩ (by simp) rfl
      have c := hS.2.cell_some 0 _ rfl
      clear hd hf
      go_simp
      exact hK _ _ (Below.refl _ _) hS rfl
    · intro a W K hS hd hf hK
      have e9 : a.tmps.getD 9 undef = .string h.name := hd ⟨1, .data⟩ (by simp) rfl
      clear hd hf
      go_simp
      go_at_call 152
      refine (tn.out _).mono ?_
      rintro e w1 ⟨rfl, hb⟩
      exact hK _ _ hb ⟨gr_call hS.1 hb, hS.2.kept hb hS.2.size⟩ rfl
    · intro a W K hS hd hf hK
      have e1 : a.tmps.getD 1 undef = .pointer (some ⟨w.heap.size, 0, none⟩) := hf 1 (by kernel_rfl)
      clear hd hf
      go_simp
      exact hK _ _ (Below.refl _ _) hS rfl
    · intro a W K hS hd hf hK
      have e11 : a.tmps.getD 11 undef = .pointer (some ⟨w.heap.size, 1, none⟩) := hd ⟨3, .data⟩ (by simp) rfl
      have c := hS.2.cell_some 1 _ rfl
      clear hd hf
      go_simp
      exact hK _ _ (Below.refl _ _) hS rfl
    · intro a W K hS hd hf hK
      have e12 : a.tmps.getD 12 undef = .int .i64 h.mode := hd ⟨4, .data⟩ (by simp) rfl
      clear hd hf
      go_simp
      go_at_call 153
      refine (m1.out _).mono ?_
      rintro e w1 ⟨rfl, hb⟩
      exact hK _ _ hb ⟨gr_call hS.1 hb, hS.2.kept hb hS.2.size⟩ rfl
    · intro a W K hS hd hf hK
      have e10 : a.tmps.getD 10 undef = .string N0 := hd ⟨2, .data⟩ (by simp) rfl
      have e13 : a.tmps.getD 13 undef = .string N1 := hd ⟨5, .data⟩ (by simp) rfl
      clear hd hf
      go_simp
      exact hK _ _ (Below.refl _ _) hS rfl
    · intro a W K hS hd hf hK
      have e1 : a.tmps.getD 1 undef = .pointer (some ⟨w.heap.size, 0, none⟩) := hf 1 (by kernel_rfl)
      clear hd hf
      go_simp
      exact hK _ _ (Below.refl _ _) hS rfl
    · intro a W K hS hd hf hK
      have e15 : a.tmps.getD 15 undef = .pointer (some ⟨w.heap.size, 2, none⟩) := hd ⟨7, .data⟩ (by simp) rfl
      have c := hS.2.cell_some 2 _ rfl
      clear hd hf
      go_simp
      exact hK _ _ (Below.refl _ _) hS rfl
    · intro a W K hS hd hf hK
      have e16 : a.tmps.getD 16 undef = .int .i64 h.uid := hd ⟨8, .data⟩ (by simp) rfl
      clear hd hf
      go_simp
      go_at_call 153
      refine (m2.out _).mono ?_
      rintro e w1 ⟨rfl, hb⟩
      exact hK _ _ hb ⟨gr_call hS.1 hb, hS.2.kept hb hS.2.size⟩ rfl
    · intro a W K hS hd hf hK
      have e14 : a.tmps.getD 14 undef = .string (N0 ++ N1) := hd ⟨6, .data⟩ (by simp) rfl
      have e17 : a.tmps.getD 17 undef = .string N2 := hd ⟨9, .data⟩ (by simp) rfl
      clear hd hf
      go_simp
      exact hK _ _ (Below.refl _ _) hS rfl
    · intro a W K hS hd hf hK
      have e1 : a.tmps.getD 1 undef = .pointer (some ⟨w.heap.size, 0, none⟩) := hf 1 (by kernel_rfl)
      clear hd hf
      go_simp
      exact hK _ _ (Below.refl _ _) hS rfl
    · intro a W K hS hd hf hK
      have e19 : a.tmps.getD 19 undef = .pointer (some ⟨w.heap.size, 3, none⟩) := hd ⟨11, .data⟩ (by simp) rfl
      have c := hS.2.cell_some 3 _ rfl
      clear hd hf
      go_simp
      exact hK _ _ (Below.refl _ _) hS rfl
    · intro a W K hS hd hf hK
      have e20 : a.tmps.getD 20 undef = .int .i64 h.gid := hd ⟨12, .data⟩ (by simp) rfl
      clear hd hf
      go_simp
      go_at_call 153
      refine (m3.out _).mono ?_
      rintro e w1 ⟨rfl, hb⟩
      exact hK _ _ hb ⟨gr_call hS.1 hb, hS.2.kept hb hS.2.size⟩ rfl
    · intro a W K hS hd hf hK
      have e18 : a.tmps.getD 18 undef = .string ((N0 ++ N1) ++ N2) := hd ⟨10, .data⟩ (by simp) rfl
      have e21 : a.tmps.getD 21 undef = .string N3 := hd ⟨13, .data⟩ (by simp) rfl
      clear hd hf
      go_simp
      exact hK _ _ (Below.refl _ _) hS rfl
    · intro a W K hS hd hf hK
      have e1 : a.tmps.getD 1 undef = .pointer (some ⟨w.heap.size, 0, none⟩) := hf 1 (by kernel_rfl)
      clear hd hf
      go_simp
      exact hK _ _ (Below.refl _ _) hS rfl
    · intro a W K hS hd hf hK
      have e23 : a.tmps.getD 23 undef = .pointer (some ⟨w.heap.size, 4, none⟩) := hd ⟨15, .data⟩ (by simp) rfl
      have c := hS.2.cell_some 4 _ rfl
      clear hd hf
      go_simp
      exact hK _ _ (Below.refl _ _) hS rfl
    · intro a W K hS hd hf hK
      have e24 : a.tmps.getD 24 undef = .int .i64 h.size := hd ⟨16, .data⟩ (by simp) rfl
      clear hd hf
      go_simp
      go_at_call 153
      refine (m4.out _).mono ?_
      rintro e w1 ⟨rfl, hb⟩
      exact hK _ _ hb ⟨gr_call hS.1 hb, hS.2.kept hb hS.2.size⟩ rfl
    · intro a W K hS hd hf hK
      have e22 : a.tmps.getD 22 undef = .string (((N0 ++ N1) ++ N2) ++ N3) := hd ⟨14, .data⟩ (by simp) rfl
      have e25 : a.tmps.getD 25 undef = .string N4 := hd ⟨17, .data⟩ (by simp) rfl
      clear hd hf
      go_simp
      exact hK _ _ (Below.refl _ _) hS rfl
    · intro a W K hS hd hf hK
      have e1 : a.tmps.getD 1 undef = .pointer (some ⟨w.heap.size, 0, none⟩) := hf 1 (by kernel_rfl)
      clear hd hf
      go_simp
      exact hK _ _ (Below.refl _ _) hS rfl
    · intro a W K hS hd hf hK
      have e27 : a.tmps.getD 27 undef = .pointer (some ⟨w.heap.size, 5, none⟩) := hd ⟨19, .data⟩ (by simp) rfl
      have c := hS.2.cell_some 5 _ rfl
      clear hd hf
      go_simp
      exact hK _ _ (Below.refl _ _) hS rfl
    · intro a W K hS hd hf hK
      have e28 : a.tmps.getD 28 undef = .int .i64 h.mtime := hd ⟨20, .data⟩ (by simp) rfl
      clear hd hf
      go_simp
      go_at_call 153
      refine (m5.out _).mono ?_
      rintro e w1 ⟨rfl, hb⟩
      exact hK _ _ hb ⟨gr_call hS.1 hb, hS.2.kept hb hS.2.size⟩ rfl
    · intro a W K hS hd hf hK
      have e26 : a.tmps.getD 26 undef = .string ((((N0 ++ N1) ++ N2) ++ N3) ++ N4) := hd ⟨18, .data⟩ (by simp) rfl
      have e29 : a.tmps.getD 29 undef = .string N5 := hd ⟨21, .data⟩ (by simp) rfl
      clear hd hf
      go_simp
      exact hK _ _ (Below.refl _ _) hS rfl
    · intro a W K hS hd hf hK
      have e30 : a.tmps.getD 30 undef = .string (((((N0 ++ N1) ++ N2) ++ N3) ++ N4) ++ N5) := hd ⟨22, .data⟩ (by simp) rfl
      clear hd hf
      go_simp
      exact hK _ _ (Below.refl _ _) hS rfl
  case he =>
    intro vals w2 hS2 hV
    have hv : vals 23 = .string (((((N0 ++ N1) ++ N2) ++ N3) ++ N4) ++ N5) := hV 23 (by decide)
    clear hV
    simp only [setAll, Nat.reduceAdd, List.setIfInBounds_toArray, List.set_cons_succ, List.set_cons_zero]
    rw [hv]
    obtain ⟨A, hA⟩ : ∃ A : ByteArray, (((((N0 ++ N1) ++ N2) ++ N3) ++ N4) ++ N5) = A := ⟨_, rfl⟩
    rw [hA]
    have LA : L A = aheadL h := by
      rw [← hA]
      simp only [L_app, LN0, LN1, LN2, LN3, LN4, LN5, aheadL, List.append_assoc]
    have zA : A.size = 148 := by rw [← size_L, LA]; exact ahead_length H
    clear hB hblk hv hA tn m1 m2 m3 m4 m5 zN0 zN1 zN2 zN3 zN4 zN5 LN0 LN1 LN2 LN3 LN4 LN5
    obtain ⟨hB, hblk⟩ := hS2
    go_wp2_with fail
    refine region_list (S := fun W => Below w.heap.size w W ∧ BlkIs W w.heap.size 23 #[.string h.name, .int .i64 h.mode, .int .i64 h.uid, .int .i64 h.gid, .int .i64 h.size, .int .i64 h.mtime, .int .u8 (h.typ.toNat : Int), .string h.link, .string h.uname, .string h.gname, .int .i64 h.major, .int .i64 h.minor, .string h.pre])
      [(fun W v => v = .pointer (some ⟨w.heap.size, 6, none⟩)),
       (fun W v => v = .int .u8 (h.typ.toNat : Int)),
       (fun W v => ∃ g, v = .slice (some ⟨g, 0, none⟩) 1 1 ∧ BlkIs W g 5 #[.int .u8 (h.typ.toNat : Int)]),
       (fun W v => v = .string B0),
       (fun W v => v = .pointer (some ⟨w.heap.size, 7, none⟩)),
       (fun W v => v = .string h.link),
       (fun W v => v = .string B1),
       (fun W v => v = .string (B0 ++ B1)),
       (fun W v => v = .string ((B0 ++ B1) ++ { data := #[117, 115, 116, 97, 114, 0, 48, 48] })),
       (fun W v => v = .pointer (some ⟨w.heap.size, 8, none⟩)),
       (fun W v => v = .string h.uname),
       (fun W v => v = .string B2),
       (fun W v => v = .string (((B0 ++ B1) ++ { data := #[117, 115, 116, 97, 114, 0, 48, 48] }) ++ B2)),
       (fun W v => v = .pointer (some ⟨w.heap.size, 9, none⟩)),
       (fun W v => v = .string h.gname),
       (fun W v => v = .string B3),
       (fun W v => v = .string ((((B0 ++ B1) ++ { data := #[117, 115, 116, 97, 114, 0, 48, 48] }) ++ B2) ++ B3)),
       (fun W v => v = .pointer (some ⟨w.heap.size, 10, none⟩)),
       (fun W v => v = .int .i64 h.major),
       (fun W v => v = .string B4),
       (fun W v => v = .string (((((B0 ++ B1) ++ { data := #[117, 115, 116, 97, 114, 0, 48, 48] }) ++ B2) ++ B3) ++ B4)),
       (fun W v => v = .pointer (some ⟨w.heap.size, 11, none⟩)),
       (fun W v => v = .int .i64 h.minor),
       (fun W v => v = .string B5),
       (fun W v => v = .string ((((((B0 ++ B1) ++ { data := #[117, 115, 116, 97, 114, 0, 48, 48] }) ++ B2) ++ B3) ++ B4) ++ B5)),
       (fun W v => v = .pointer (some ⟨w.heap.size, 12, none⟩)),
       (fun W v => v = .string h.pre),
       (fun W v => v = .string B6),
       (fun W v => v = .string (((((((B0 ++ B1) ++ { data := #[117, 115, 116, 97, 114, 0, 48, 48] }) ++ B2) ++ B3) ++ B4) ++ B5) ++ B6)),
       (fun W v => v = .string B7),
       (fun W v => v = .string ((((((((B0 ++ B1) ++ { data := #[117, 115, 116, 97, 114, 0, 48, 48] }) ++ B2) ++ B3) ++ B4) ++ B5) ++ B6) ++ B7)),
       (fun W v => v = .string ((((((((B0 ++ B1) ++ { data := #[117, 115, 116, 97, 114, 0, 48, 48] }) ++ B2) ++ B3) ++ B4) ++ B5) ++ B6) ++ B7))] (by kernel_rfl) (by kernel_rfl) (by kernel_rfl) ?hS ?hp ?hs ?he
    case hS => exact ⟨gr_drew hB, hblk⟩
    case hp => repeat' (first | exact trivial | refine ⟨fun _ _ _ _ h => h, ?_⟩ | refine ⟨fun _ _ _ hb ⟨g, h1, h2⟩ => ⟨g, h1, h2.kept hb h2.size⟩, ?_⟩ | refine ⟨fun _ _ _ hb ⟨g, h1, h2⟩ => ⟨g, h1, h2.call hb⟩, ?_⟩)
    case hs =>
      refine ⟨?_, ?_, ?_, ?_, ?_, ?_, ?_, ?_, ?_, ?_, ?_, ?_, ?_, ?_, ?_, ?_, ?_, ?_, ?_, ?_, ?_, ?_, ?_, ?_, ?_, ?_, ?_, ?_, ?_, ?_, ?_, ?_, trivial⟩
      · intro a W K hS hd hf hK
        have e1 : a.tmps.getD 1 undef = .pointer (some ⟨w.heap.size, 0, none⟩) := hf 1 (by kernel_rfl)
        clear hd hf
        go_simp
        exact hK _ _ (Below.refl _ _) hS rfl
      · intro a W K hS hd hf hK
        have e31 : a.tmps.getD 31 undef = .pointer (some ⟨w.heap.size, 6, none⟩) := hd ⟨0, .data⟩ (by simp) rfl
        have c := hS.2.cell_some 6 _ rfl
        clear hd hf
        go_simp
        exact hK _ _ (Below.refl _ _) hS rfl
      · intro a W K hS hd hf hK
        have e32 : a.tmps.getD 32 undef = .int .u8 (h.typ.toNat : Int) := hd ⟨1, .data⟩ (by simp) rfl
        have f32 := e32
        rw [Array.getD_eq_getD_getElem?] at f32
        clear hd hf
        go_simp
        exact hK _ _ ((Below.refl _ _).alloc (Nat.le_refl _) _) ⟨gr_alloc hS.1 _, hS.2.alloc _⟩ ⟨_, rfl, BlkIs.made _ _ _⟩
      · intro a W K hS hd hf hK
        obtain ⟨g33, e33, r33⟩ : ∃ g, a.tmps.getD 33 undef = .slice (some ⟨g, 0, none⟩) 1 1 ∧ BlkIs W g 5 #[.int .u8 (h.typ.toNat : Int)] := hd ⟨2, .data⟩ (by simp) rfl
        have hcv := hcv0 r33
        clear hd hf
        go_simp
        exact hK _ _ (Below.refl _ _) hS rfl
      · intro a W K hS hd hf hK
        have e1 : a.tmps.getD 1 undef = .pointer (some ⟨w.heap.size, 0, none⟩) := hf 1 (by kernel_rfl)
        clear hd hf
        go_simp
        exact hK _ _ (Below.refl _ _) hS rfl
      · intro a W K hS hd hf hK
        have e35 : a.tmps.getD 35 undef = .pointer (some ⟨w.heap.size, 7, none⟩) := hd ⟨4, .data⟩ (by simp) rfl
        have c := hS.2.cell_some 7 _ rfl
        clear hd hf
        go_simp
        exact hK _ _ (Below.refl _ _) hS rfl
      · intro a W K hS hd hf hK
        have e36 : a.tmps.getD 36 undef = .string h.link := hd ⟨5, .data⟩ (by simp) rfl
        clear hd hf
        go_simp
        go_at_call 152
        refine (u1.out _).mono ?_
        rintro e w1 ⟨rfl, hb⟩
        exact hK _ _ hb ⟨gr_call hS.1 hb, hS.2.kept hb hS.2.size⟩ rfl
      · intro a W K hS hd hf hK
        have e34 : a.tmps.getD 34 undef = .string B0 := hd ⟨3, .data⟩ (by simp) rfl
        have e37 : a.tmps.getD 37 undef = .string B1 := hd ⟨6, .data⟩ (by simp) rfl
        clear hd hf
        go_simp
        exact hK _ _ (Below.refl _ _) hS rfl
      · intro a W K hS hd hf hK
        have e38 : a.tmps.getD 38 undef = .string (B0 ++ B1) := hd ⟨7, .data⟩ (by simp) rfl
        clear hd hf
        go_simp
        exact hK _ _ (Below.refl _ _) hS rfl
      · intro a W K hS hd hf hK
        have e1 : a.tmps.getD 1 undef = .pointer (some ⟨w.heap.size, 0, none⟩) := hf 1 (by kernel_rfl)
        clear hd hf
        go_simp
        exact hK _ _ (Below.refl _ _) hS rfl
      · intro a W K hS hd hf hK
        have e40 : a.tmps.getD 40 undef = .pointer (some ⟨w.heap.size, 8, none⟩) := hd ⟨9, .data⟩ (by simp) rfl
        have c := hS.2.cell_some 8 _ rfl
        clear hd hf
        go_simp
        exact hK _ _ (Below.refl _ _) hS rfl
      · intro a W K hS hd hf hK
        have e41 : a.tmps.getD 41 undef = .string h.uname := hd ⟨10, .data⟩ (by simp) rfl
        clear hd hf
        go_simp
        go_at_call 152
        refine (u2.out _).mono ?_
        rintro e w1 ⟨rfl, hb⟩
        exact hK _ _ hb ⟨gr_call hS.1 hb, hS.2.kept hb hS.2.size⟩ rfl
      · intro a W K hS hd hf hK
        have e39 : a.tmps.getD 39 undef = .string ((B0 ++ B1) ++ { data := #[117, 115, 116, 97, 114, 0, 48, 48] }) := hd ⟨8, .data⟩ (by simp) rfl
        have e42 : a.tmps.getD 42 undef = .string B2 := hd ⟨11, .data⟩ (by simp) rfl
        clear hd hf
        go_simp
        exact hK _ _ (Below.refl _ _) hS rfl
      · intro a W K hS hd hf hK
        have e1 : a.tmps.getD 1 undef = .pointer (some ⟨w.heap.size, 0, none⟩) := hf 1 (by kernel_rfl)
        clear hd hf
        go_simp
        exact hK _ _ (Below.refl _ _) hS rfl
      · intro a W K hS hd hf hK
        have e44 : a.tmps.getD 44 undef = .pointer (some ⟨w.heap.size, 9, none⟩) := hd ⟨13, .data⟩ (by simp) rfl
        have c := hS.2.cell_some 9 _ rfl
        clear hd hf
        go_simp
        exact hK _ _ (Below.refl _ _) hS rfl
      · intro a W K hS hd hf hK
        have e45 : a.tmps.getD 45 undef = .string h.gname := hd ⟨14, .data⟩ (by simp) rfl
        clear hd hf
        go_simp
        go_at_call 152
        refine (u3.out _).mono ?_
        rintro e w1 ⟨rfl, hb⟩
        exact hK _ _ hb ⟨gr_call hS.1 hb, hS.2.kept hb hS.2.size⟩ rfl
      · intro a W K hS hd hf hK
        have e43 : a.tmps.getD 43 undef = .string (((B0 ++ B1) ++ { data := #[117, 115, 116, 97, 114, 0, 48, 48] }) ++ B2) := hd ⟨12, .data⟩ (by simp) rfl
        have e46 : a.tmps.getD 46 undef = .string B3 := hd ⟨15, .data⟩ (by simp) rfl
        clear hd hf
        go_simp
        exact hK _ _ (Below.refl _ _) hS rfl
      · intro a W K hS hd hf hK
        have e1 : a.tmps.getD 1 undef = .pointer (some ⟨w.heap.size, 0, none⟩) := hf 1 (by kernel_rfl)
        clear hd hf
        go_simp
        exact hK _ _ (Below.refl _ _) hS rfl
      · intro a W K hS hd hf hK
        have e48 : a.tmps.getD 48 undef = .pointer (some ⟨w.heap.size, 10, none⟩) := hd ⟨17, .data⟩ (by simp) rfl
        have c := hS.2.cell_some 10 _ rfl
        clear hd hf
        go_simp
        exact hK _ _ (Below.refl _ _) hS rfl
      · intro a W K hS hd hf hK
        have e49 : a.tmps.getD 49 undef = .int .i64 h.major := hd ⟨18, .data⟩ (by simp) rfl
        clear hd hf
        go_simp
        go_at_call 153
        refine (u4.out _).mono ?_
        rintro e w1 ⟨rfl, hb⟩
        exact hK _ _ hb ⟨gr_call hS.1 hb, hS.2.kept hb hS.2.size⟩ rfl
      · intro a W K hS hd hf hK
        have e47 : a.tmps.getD 47 undef = .string ((((B0 ++ B1) ++ { data := #[117, 115, 116, 97, 114, 0, 48, 48] }) ++ B2) ++ B3) := hd ⟨16, .data⟩ (by simp) rfl
        have e50 : a.tmps.getD 50 undef = .string B4 := hd ⟨19, .data⟩ (by simp) rfl
        clear hd hf
        go_simp
        exact hK _ _ (Below.refl _ _) hS rfl
      · intro a W K hS hd hf hK
        have e1 : a.tmps.getD 1 undef = .pointer (some ⟨w.heap.size, 0, none⟩) := hf 1 (by kernel_rfl)
        clear hd hf
        go_simp
        exact hK _ _ (Below.refl _ _) hS rfl
      · intro a W K hS hd hf hK
        have e52 : a.tmps.getD 52 undef = .pointer (some ⟨w.heap.size, 11, none⟩) := hd ⟨21, .data⟩ (by simp) rfl
        have c := hS.2.cell_some 11 _ rfl
        clear hd hf
        go_simp
        exact hK _ _ (Below.refl _ _) hS rfl
      · intro a W K hS hd hf hK
        have e53 : a.tmps.getD 53 undef = .int .i64 h.minor := hd ⟨22, .data⟩ (by simp) rfl
        clear hd hf
        go_simp
        go_at_call 153
        refine (u5.out _).mono ?_
        rintro e w1 ⟨rfl, hb⟩
        exact hK _ _ hb ⟨gr_call hS.1 hb, hS.2.kept hb hS.2.size⟩ rfl
      · intro a W K hS hd hf hK
        have e51 : a.tmps.getD 51 undef = .string (((((B0 ++ B1) ++ { data := #[117, 115, 116, 97, 114, 0, 48, 48] }) ++ B2) ++ B3) ++ B4) := hd ⟨20, .data⟩ (by simp) rfl
        have e54 : a.tmps.getD 54 undef = .string B5 := hd ⟨23, .data⟩ (by simp) rfl
        clear hd hf
        go_simp
        exact hK _ _ (Below.refl _ _) hS rfl
      · intro a W K hS hd hf hK
        have e1 : a.tmps.getD 1 undef = .pointer (some ⟨w.heap.size, 0, none⟩) := hf 1 (by kernel_rfl)
        clear hd hf
        go_simp
        exact hK _ _ (Below.refl _ _) hS rfl
      · intro a W K hS hd hf hK
        have e56 : a.tmps.getD 56 undef = .pointer (some ⟨w.heap.size, 12, none⟩) := hd ⟨25, .data⟩ (by simp) rfl
        have c := hS.2.cell_some 12 _ rfl
        clear hd hf
        go_simp
        exact hK _ _ (Below.refl _ _) hS rfl
      · intro a W K hS hd hf hK
        have e57 : a.tmps.getD 57 undef = .string h.pre := hd ⟨26, .data⟩ (by simp) rfl
        clear hd hf
        go_simp
        go_at_call 152
        refine (u6.out _).mono ?_
        rintro e w1 ⟨rfl, hb⟩
        exact hK _ _ hb ⟨gr_call hS.1 hb, hS.2.kept hb hS.2.size⟩ rfl
      · intro a W K hS hd hf hK
        have e55 : a.tmps.getD 55 undef = .string ((((((B0 ++ B1) ++ { data := #[117, 115, 116, 97, 114, 0, 48, 48] }) ++ B2) ++ B3) ++ B4) ++ B5) := hd ⟨24, .data⟩ (by simp) rfl
        have e58 : a.tmps.getD 58 undef = .string B6 := hd ⟨27, .data⟩ (by simp) rfl
        clear hd hf
        go_simp
        exact hK _ _ (Below.refl _ _) hS rfl
      · intro a W K hS hd hf hK
        clear hd hf
        go_simp
        go_at_call 152
        refine (u7.out _).mono ?_
        rintro e w1 ⟨rfl, hb⟩
        exact hK _ _ hb ⟨gr_call hS.1 hb, hS.2.kept hb hS.2.size⟩ rfl
      · intro a W K hS hd hf hK
        have e59 : a.tmps.getD 59 undef = .string (((((((B0 ++ B1) ++ { data := #[117, 115, 116, 97, 114, 0, 48, 48] }) ++ B2) ++ B3) ++ B4) ++ B5) ++ B6) := hd ⟨28, .data⟩ (by simp) rfl
        have e60 : a.tmps.getD 60 undef = .string B7 := hd ⟨29, .data⟩ (by simp) rfl
        clear hd hf
        go_simp
        exact hK _ _ (Below.refl _ _) hS rfl
      · intro a W K hS hd hf hK
        have e61 : a.tmps.getD 61 undef = .string ((((((((B0 ++ B1) ++ { data := #[117, 115, 116, 97, 114, 0, 48, 48] }) ++ B2) ++ B3) ++ B4) ++ B5) ++ B6) ++ B7) := hd ⟨30, .data⟩ (by simp) rfl
        clear hd hf
        go_simp
        exact hK _ _ (Below.refl _ _) hS rfl
    case he =>
      intro vals2 w3 hS3 hV
      have hv : vals2 31 = .string ((((((((B0 ++ B1) ++ { data := #[117, 115, 116, 97, 114, 0, 48, 48] }) ++ B2) ++ B3) ++ B4) ++ B5) ++ B6) ++ B7) := hV 31 (by decide)
      clear hV
      simp only [setAll, Nat.reduceAdd, List.setIfInBounds_toArray, List.set_cons_succ, List.set_cons_zero]
      rw [hv]
      obtain ⟨B, hBB⟩ : ∃ B : ByteArray, ((((((((B0 ++ B1) ++ { data := #[117, 115, 116, 97, 114, 0, 48, 48] }) ++ B2) ++ B3) ++ B4) ++ B5) ++ B6) ++ B7) = B := ⟨_, rfl⟩
      rw [hBB]
      have LB : L B = behindL h := by
        rw [← hBB]
        have hmg : L (ByteArray.mk #[117, 115, 116, 97, 114, 0, 48, 48]) = magicL := rfl
        have h7 : padL (L (ByteArray.mk #[])) 12 = List.replicate 12 0 := rfl
        simp only [L_app, LB0, LB1, LB2, LB3, LB4, LB5, LB6, LB7, hmg, h7, behindL, List.append_assoc]
      have zB : B.size = 356 := by rw [← size_L, LB]; exact behind_length H
      clear hB hblk hv hBB u1 u2 u3 u4 u5 u6 u7 zB0 zB1 zB2 zB3 zB4 zB5 zB6 zB7 LB0 LB1 LB2 LB3 LB4 LB5 LB6 LB7 hcv0
      obtain ⟨hB, _⟩ := hS3
      have hbl : L (ByteArray.mk #[32, 32, 32, 32, 32, 32, 32, 32]) = blanks := rfl
      have hbz : (ByteArray.mk #[32, 32, 32, 32, 32, 32, 32, 32]).size = 8 := rfl
      have hck := fun w => checksum_any (A ++ ByteArray.mk #[32, 32, 32, 32, 32, 32, 32, 32] ++ B) (by rw [ByteArray.size_append, ByteArray.size_append, zA, zB, hbz]; decide) w
      have hsum : sumL (L (A ++ ByteArray.mk #[32, 32, 32, 32, 32, 32, 32, 32] ++ B)) = sumL (aheadL h) + 256 + sumL (behindL h) := by
        rw [L_app, L_app, LA, LB, hbl, sumL_app, sumL_app]
        rfl
      rw [hsum] at hck
      obtain ⟨C, hC⟩ : ∃ C : ByteArray, strOf (chkL (sumL (aheadL h) + 256 + sumL (behindL h))) = C := ⟨_, rfl⟩
      rw [hC] at hck
      have zC : C.size = 8 := by rw [← hC, strOf_sz]; exact chk_length _
      have HE := Lib.hid (show A ++ C ++ B = strOf (putL h) from by
        apply str_L
        rw [L_app, L_app, LA, LB, ← hC, L_strOf]
        unfold putL
        rw [List.append_assoc])
      replace hck := Lib.hid hck
      clear hsum hC LA LB hbl
      go_wp2_with fail
      refine (hck.out _).mono ?_
      rintro e w4 ⟨rfl, hbw4⟩
      go_wp2_with fail
      go_ret
      exact ⟨ret_str HE.out, by (repeat' (first | exact Below.refl _ _ | assumption | refine gr_drew ?_ | refine gr_drewN ?_ _ | refine gr_alloc ?_ _ | refine gr_set ?_ ?_ _ | refine gr_call ?_ (by assumption)) <;> (try (simp; done)) <;> (try (simp; omega)) <;> (try omega))⟩

theorem put_any (h : Hd) (w : World) :
    Calls Tryz.prog 87 #[.agg #[.string h.name, .int .i64 h.mode, .int .i64 h.uid, .int .i64 h.gid, .int .i64 h.size, .int .i64 h.mtime, .int .u8 (h.typ.toNat : Int), .string h.link, .string h.uname, .string h.gname, .int .i64 h.major, .int .i64 h.minor, .string h.pre]] w fun e w' => e = .returned (.string (strOf (putH h))) ∧ Below w.heap.size w w' := by
  cases H : mayH h with
  | true => rw [put_may H]; exact put_yes h H w
  | false =>
    rw [put_not H]
    have hmay := may_any h
    rw [H] at hmay
    replace hmay := Lib.hid hmay
    go_enter Tryz.func87, Tryz.ntmps87
    go_wp2_with fail
    refine (hmay.out _).mono ?_
    rintro e w1 ⟨rfl, hbw1⟩
    go_wp2_with fail
    go_ret
    exact ⟨rfl, by (repeat' (first | exact Below.refl _ _ | assumption | refine gr_drew ?_ | refine gr_drewN ?_ _ | refine gr_alloc ?_ _ | refine gr_set ?_ ?_ _ | refine gr_call ?_ (by assumption)) <;> (try (simp; done)) <;> (try (simp; omega)) <;> (try omega))⟩
end Go.Proofs.YtbhnhoenjoagbaaGreatDoor.HeadW
