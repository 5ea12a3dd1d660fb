/- The document's answer: the bytes of capabilities. -/
import Derived.Test.YtijagjahocjaaaaCapsWord
import Derived.Test.YtijagjahocjaaaaLater
namespace Go.Proofs.Ytijagjahocjaaaa
open Go.RowKit
open CapsM
set_option linter.unusedVariables false

theorem add_str {A B C : ByteArray} (h : C = A ++ B) : C.size = A.size + B.size := by rw [h, ByteArray.size_append]
theorem put_sum (c : Cap) (h : may c = true) (hv : c.v ≠ 0) (A0 A1 A2 A3 A4 S1 S2 S3 S4 : ByteArray) (h0 : strOf (four (first c)) = A0) (h1 : strOf (four c.p) = A1) (h2 : strOf (four c.i) = A2) (h3 : strOf (four (c.p / 4294967296)) = A3) (h4 : strOf (four (c.i / 4294967296)) = A4)
    (e1 : A0 ++ A1 = S1) (e2 : S1 ++ A2 = S2) (e3 : S2 ++ A3 = S3) (e4 : S3 ++ A4 = S4) : (c.v ≠ 3 → S4 = strOf (putL c)) ∧ (c.v = 3 → ∀ A5 S5, strOf (four c.r.toNat) = A5 → S4 ++ A5 = S5 → S5 = strOf (putL c)) := by
  subst h0 h1 h2 h3 h4 e1 e2 e3 e4
  refine ⟨fun h3 => str_eq ?_, fun h3 A5 S5 h5 e5 => ?_⟩
  · rw [putL_eq h hv, if_neg h3, four_mod, four_mod]
    simp only [bytes_list, strOf_list]
    simp [bytesOf]
  · subst h5 e5
    apply str_eq
    rw [putL_eq h hv, if_pos h3, four_mod, four_mod]
    simp only [bytes_list, strOf_list]
    simp [bytesOf]

set_option maxHeartbeats 6400000 in
set_option maxRecDepth 100000 in
theorem refPut_any (c : Cap) (hf : Fits c) (w : World) :
    Calls Try.prog 13 #[capV c] w fun e w' => e = .returned (.string (strOf (putL c))) ∧ Below w.heap.size w w' := by
  have hmay := refMay_any c
  by_cases hm : may c = true
  · rw [hm] at hmay
    by_cases hv : c.v = 0
    · have t0 : (c.v == 0) = true := by simpa using hv
      have HE := Lib.hid (show putL c = [] from putL_none (by simp [hv]))
      obtain ⟨v, p, i, e, r⟩ := c
      unfold capV at hmay ⊢
      simp only at t0 hmay ⊢
      have Hm := Lib.hid hmay
      clear hmay hm hv hf
      go_enter Try.func13, Try.ntmps13
      go_wp2_with fail
      refine (Hm.out _).mono ?_
      rintro e w1 ⟨rfl, hb1⟩
      have : w1.cell? ⟨w.heap.size, 0, none⟩ = some (.int .i64 v) := cell_kept hb1 (by simp [go_sem])
      go_wp2_with fail
      go_ret
      exact ⟨by rw [HE.out]; rfl, by (repeat' (first | exact Below.refl _ _ | assumption | refine gr_drew ?_ | refine gr_drewN ?_ _ | refine gr_alloc ?_ _ | refine gr_set ?_ ?_ _ | refine gr_call ?_ (by assumption)) <;> (try (simp; done)) <;> (try (simp; omega)) <;> (try omega))⟩
    · have t0 : (c.v == 0) = false := by simpa using hv
      have hv2 : c.v = 2 ∨ c.v = 3 := by
        rcases may_ver hm with h | h | h
        · exact absurd h hv
        · exact .inl h
        · exact .inr h
      have hfl := first_lt hv2
      obtain ⟨hp, hi⟩ := hf
      have hrr := may_root hm
      have hq0 := Lib.hid (fun w => four_any (first c) (by omega) w)
      have hq1 := Lib.hid (fun w => four_any c.p hp w)
      have hq2 := Lib.hid (fun w => four_any c.i hi w)
      have hq3 := Lib.hid (fun w => four_any (c.p / 4294967296) (by omega) w)
      have hq4 := Lib.hid (fun w => four_any (c.i / 4294967296) (by omega) w)
      have hq5 := Lib.hid (fun w => four_any c.r.toNat (by omega) w)
      obtain ⟨A0, hA0⟩ : ∃ A, strOf (four (first c)) = A := ⟨_, rfl⟩
      obtain ⟨A1, hA1⟩ : ∃ A, strOf (four c.p) = A := ⟨_, rfl⟩
      obtain ⟨A2, hA2⟩ : ∃ A, strOf (four c.i) = A := ⟨_, rfl⟩
      obtain ⟨A3, hA3⟩ : ∃ A, strOf (four (c.p / 4294967296)) = A := ⟨_, rfl⟩
      obtain ⟨A4, hA4⟩ : ∃ A, strOf (four (c.i / 4294967296)) = A := ⟨_, rfl⟩
      obtain ⟨A5, hA5⟩ : ∃ A, strOf (four c.r.toNat) = A := ⟨_, rfl⟩
      obtain ⟨S1, e1⟩ : ∃ A, A0 ++ A1 = A := ⟨_, rfl⟩
      obtain ⟨S2, e2⟩ : ∃ A, S1 ++ A2 = A := ⟨_, rfl⟩
      obtain ⟨S3, e3⟩ : ∃ A, S2 ++ A3 = A := ⟨_, rfl⟩
      obtain ⟨S4, e4⟩ : ∃ A, S3 ++ A4 = A := ⟨_, rfl⟩
      obtain ⟨S5, e5⟩ : ∃ A, S4 ++ A5 = A := ⟨_, rfl⟩
      have HS := Lib.hid (put_sum c hm hv A0 A1 A2 A3 A4 S1 S2 S3 S4 hA0 hA1 hA2 hA3 hA4 e1 e2 e3 e4)
      have HS3 := Lib.hid (fun h3 => HS.out.2 h3 A5 S5 hA5 e5)
      have z0 : A0.size = 4 := by rw [← hA0, strOf_size]; rfl
      have z1 : A1.size = 4 := by rw [← hA1, strOf_size]; rfl
      have z2 : A2.size = 4 := by rw [← hA2, strOf_size]; rfl
      have z3 : A3.size = 4 := by rw [← hA3, strOf_size]; rfl
      have z4 : A4.size = 4 := by rw [← hA4, strOf_size]; rfl
      have z5 : A5.size = 4 := by rw [← hA5, strOf_size]; rfl
      have y1 := add_str e1.symm
      have y2 := add_str e2.symm
      have y3 := add_str e3.symm
      have y4 := add_str e4.symm
      have b1 : ¬ 9223372036854775807 < A0.size + A1.size := by omega
      have b2 : ¬ 9223372036854775807 < S1.size + A2.size := by omega
      have b3 : ¬ 9223372036854775807 < S2.size + A3.size := by omega
      have b4 : ¬ 9223372036854775807 < S3.size + A4.size := by omega
      have b5 : ¬ 9223372036854775807 < S4.size + A5.size := by omega
      clear z0 z1 z2 z3 z4 z5 y1 y2 y3 y4
      rw [hA0] at hq0
      rw [hA1] at hq1
      rw [hA2] at hq2
      rw [hA3] at hq3
      rw [hA4] at hq4
      rw [hA5] at hq5
      clear hA0 hA1 hA2 hA3 hA4 hA5
      obtain ⟨v, p, i, e, r⟩ := c
      simp only at hp hi hrr hv2 t0 hq1 hq2 hq3 hq4 hq5 HS HS3
      obtain ⟨R, rfl⟩ : ∃ k : Nat, r = (k : Int) := ⟨r.toNat, by omega⟩
      rw [Int.toNat_natCast] at hq5
      obtain ⟨M, hM⟩ : ∃ M, first ⟨v, p, i, e, (R : Int)⟩ = M := ⟨_, rfl⟩
      rw [hM] at hq0 hfl
      unfold first at hM
      simp only at hM
      have hR4 : (R : Int) % 18446744073709551616 = (R : Int) := by omega
      obtain ⟨PH, hPH⟩ : ∃ P, p / 4294967296 = P := ⟨_, rfl⟩
      obtain ⟨IH, hIH⟩ : ∃ P, i / 4294967296 = P := ⟨_, rfl⟩
      rw [hPH] at hq3
      rw [hIH] at hq4
      have k1 : (p : Int) / 4294967296 = (PH : Int) := by omega
      have k2 : (i : Int) / 4294967296 = (IH : Int) := by omega
      unfold capV at hmay ⊢
      simp only at hmay ⊢
      have Hm := Lib.hid hmay
      clear hmay hm hv hrr
      rcases hv2 with rfl | rfl
      · have HF : Hid (S4 = strOf (putL ⟨2, p, i, e, (R : Int)⟩)) := Lib.hid (HS.out.1 (by decide))
        have t3 : ((2 : Int) == 3) = false := rfl
        clear HS HS3
        go_enter Try.func13, Try.ntmps13
        go_wp2_with fail
        refine (Hm.out _).mono ?_
        rintro e' w1 ⟨rfl, hb1⟩
        have hblk : BlkIs w1 w.heap.size 24 #[.int .i64 2, .int .u64 (p : Int), .int .u64 (i : Int), .bool e, .int .i64 (R : Int)] := (BlkIs.made w 24 _).kept hb1 (by simp)
        have c0 := hblk.cell_some 0 _ rfl
        have c1 := hblk.cell_some 1 _ rfl
        have c2 := hblk.cell_some 2 _ rfl
        have c3 := hblk.cell_some 3 _ rfl
        have c4 := hblk.cell_some 4 _ rfl
        have hbl : Below w.heap.size w w1 := gr_call (by (repeat' (first | exact Below.refl _ _ | assumption | refine gr_drew ?_ | refine gr_drewN ?_ _ | refine gr_alloc ?_ _ | refine gr_set ?_ ?_ _ | refine gr_call ?_ (by assumption)) <;> (try (simp; done)) <;> (try (simp; omega)) <;> (try omega))) hb1
        clear hb1 Hm
        rcases e with _ | _
        · replace hM : M = 33554432 := by simpa using hM.symm
          rw [hM] at hq0
          have hr0 := Lib.hid (show ∀ w, Calls Try.prog 19 #[.int .u64 33554432] w fun e w' => e = .returned (.string A0) ∧ Below w.heap.size w w' from hq0.out)
          clear hM hfl hq0
          go_wp2_with fail
          obtain ⟨gx, hgx⟩ : ∃ g, w.heap.size = g := ⟨_, rfl⟩
          rw [hgx] at hblk ⊢
          refine region_lastqgL (S := fun W => Below w1.heap.size w1 W ∧ BlkIs W gx 24 #[.int .i64 2, .int .u64 (p : Int), .int .u64 (i : Int), .bool false, .int .i64 (R : Int)]) 20
            [(fun W v => v = .int .u64 33554432),
     (fun W v => v = .string A0),
     (fun W v => v = .pointer (some ⟨gx, 1, none⟩)),
     (fun W v => v = .int .u64 (p : Int)),
     (fun W v => v = .string A1),
     (fun W v => v = .string S1),
     (fun W v => v = .pointer (some ⟨gx, 2, none⟩)),
     (fun W v => v = .int .u64 (i : Int)),
     (fun W v => v = .string A2),
     (fun W v => v = .string S2),
     (fun W v => v = .pointer (some ⟨gx, 1, none⟩)),
     (fun W v => v = .int .u64 (p : Int)),
     (fun W v => v = .int .u64 (PH : Int)),
     (fun W v => v = .string A3),
     (fun W v => v = .string S3),
     (fun W v => v = .pointer (some ⟨gx, 2, none⟩)),
     (fun W v => v = .int .u64 (i : Int)),
     (fun W v => v = .int .u64 (IH : Int)),
     (fun W v => v = .string A4),
     (fun W v => v = .string S4)] (by rfl) (by kernel_rfl) (by kernel_rfl) (by kernel_rfl) (by kernel_rfl) (by rfl) (by kernel_rfl) ?hS ?hp ?hs ?he
          case hS => exact ⟨gr_drew (Below.refl _ _), hblk⟩
          case hp => repeat' (first | exact trivial | refine ⟨fun _ _ _ _ h => h, ?_⟩)
          case hs =>
            simp only [List.take_succ_cons, List.take_zero]
            clear hbl hblk c0 c1 c2 c3 c4
            refine ⟨?_, ?_, ?_, ?_, ?_, ?_, ?_, ?_, ?_, ?_, ?_, ?_, ?_, ?_, ?_, ?_, ?_, ?_, ?_, ?_, trivial⟩
            · refine ⟨met_none rfl, ?_⟩
              intro a W K hS hd hf hK
              have e3 : a.tmps.getD 3 undef = .int .u64 33554432 := hf 3 (by kernel_rfl)
              clear hd hf
              go_simp
              exact hK _ _ (Below.refl _ _) hS rfl
            · refine ⟨met_none rfl, ?_⟩
              intro a W K hS hd hf hK
              have e21 : a.tmps.getD 21 undef = .int .u64 33554432 := hd ⟨0, .data⟩ (by simp) rfl
              clear hd hf
              go_simp
              go_at_call 19
              refine (hr0.out _).mono ?_
              rintro e w1 ⟨rfl, hb⟩
              exact hK _ _ hb (⟨gr_call hS.1 hb, hS.2.kept hb hS.2.size⟩) rfl
            · refine ⟨met_none rfl, ?_⟩
              intro a W K hS hd hf hK
              have e1 : a.tmps.getD 1 undef = .pointer (some ⟨gx, 0, none⟩) := hf 1 (by kernel_rfl)
              clear hd hf
              go_simp
              exact hK _ _ (Below.refl _ _) hS rfl
            · refine ⟨met_none rfl, ?_⟩
              intro a W K hS hd hf hK
              have e23 : a.tmps.getD 23 undef = .pointer (some ⟨gx, 1, none⟩) := hd ⟨2, .data⟩ (by simp) rfl
              have c0 := hS.2.cell_some 1 _ rfl
              clear hd hf
              go_simp
              exact hK _ _ (Below.refl _ _) hS rfl
            · refine ⟨met_none rfl, ?_⟩
              intro a W K hS hd hf hK
              have e24 : a.tmps.getD 24 undef = .int .u64 (p : Int) := hd ⟨3, .data⟩ (by simp) rfl
              clear hd hf
              go_simp
              go_at_call 19
              refine (hq1.out _).mono ?_
              rintro e w1 ⟨rfl, hb⟩
              exact hK _ _ hb (⟨gr_call hS.1 hb, hS.2.kept hb hS.2.size⟩) rfl
            · refine ⟨met_none rfl, ?_⟩
              intro a W K hS hd hf hK
              have e22 : a.tmps.getD 22 undef = .string A0 := hd ⟨1, .data⟩ (by simp) rfl
              have e25 : a.tmps.getD 25 undef = .string A1 := hd ⟨4, .data⟩ (by simp) rfl
              clear hd hf
              go_simp
              exact hK _ _ (Below.refl _ _) hS rfl
            · refine ⟨met_none rfl, ?_⟩
              intro a W K hS hd hf hK
              have e1 : a.tmps.getD 1 undef = .pointer (some ⟨gx, 0, none⟩) := hf 1 (by kernel_rfl)
              clear hd hf
              go_simp
              exact hK _ _ (Below.refl _ _) hS rfl
            · refine ⟨met_none rfl, ?_⟩
              intro a W K hS hd hf hK
              have e27 : a.tmps.getD 27 undef = .pointer (some ⟨gx, 2, none⟩) := hd ⟨6, .data⟩ (by simp) rfl
              have c0 := hS.2.cell_some 2 _ rfl
              clear hd hf
              go_simp
              exact hK _ _ (Below.refl _ _) hS rfl
            · refine ⟨met_none rfl, ?_⟩
              intro a W K hS hd hf hK
              have e28 : a.tmps.getD 28 undef = .int .u64 (i : Int) := hd ⟨7, .data⟩ (by simp) rfl
              clear hd hf
              go_simp
              go_at_call 19
              refine (hq2.out _).mono ?_
              rintro e w1 ⟨rfl, hb⟩
              exact hK _ _ hb (⟨gr_call hS.1 hb, hS.2.kept hb hS.2.size⟩) rfl
            · refine ⟨met_none rfl, ?_⟩
              intro a W K hS hd hf hK
              have e26 : a.tmps.getD 26 undef = .string S1 := hd ⟨5, .data⟩ (by simp) rfl
              have e29 : a.tmps.getD 29 undef = .string A2 := hd ⟨8, .data⟩ (by simp) rfl
              clear hd hf
              go_simp
              exact hK _ _ (Below.refl _ _) hS rfl
            · refine ⟨met_none rfl, ?_⟩
              intro a W K hS hd hf hK
              have e1 : a.tmps.getD 1 undef = .pointer (some ⟨gx, 0, none⟩) := hf 1 (by kernel_rfl)
              clear hd hf
              go_simp
              exact hK _ _ (Below.refl _ _) hS rfl
            · refine ⟨met_none rfl, ?_⟩
              intro a W K hS hd hf hK
              have e31 : a.tmps.getD 31 undef = .pointer (some ⟨gx, 1, none⟩) := hd ⟨10, .data⟩ (by simp) rfl
              have c0 := hS.2.cell_some 1 _ rfl
              clear hd hf
              go_simp
              exact hK _ _ (Below.refl _ _) hS rfl
            · refine ⟨met_none rfl, ?_⟩
              intro a W K hS hd hf hK
              have e32 : a.tmps.getD 32 undef = .int .u64 (p : Int) := hd ⟨11, .data⟩ (by simp) rfl
              clear hd hf
              go_simp
              exact hK _ _ (Below.refl _ _) hS rfl
            · refine ⟨met_none rfl, ?_⟩
              intro a W K hS hd hf hK
              have e33 : a.tmps.getD 33 undef = .int .u64 (PH : Int) := hd ⟨12, .data⟩ (by simp) rfl
              clear hd hf
              go_simp
              go_at_call 19
              refine (hq3.out _).mono ?_
              rintro e w1 ⟨rfl, hb⟩
              exact hK _ _ hb (⟨gr_call hS.1 hb, hS.2.kept hb hS.2.size⟩) rfl
            · refine ⟨met_none rfl, ?_⟩
              intro a W K hS hd hf hK
              have e30 : a.tmps.getD 30 undef = .string S2 := hd ⟨9, .data⟩ (by simp) rfl
              have e34 : a.tmps.getD 34 undef = .string A3 := hd ⟨13, .data⟩ (by simp) rfl
              clear hd hf
              go_simp
              exact hK _ _ (Below.refl _ _) hS rfl
            · refine ⟨met_none rfl, ?_⟩
              intro a W K hS hd hf hK
              have e1 : a.tmps.getD 1 undef = .pointer (some ⟨gx, 0, none⟩) := hf 1 (by kernel_rfl)
              clear hd hf
              go_simp
              exact hK _ _ (Below.refl _ _) hS rfl
            · refine ⟨met_none rfl, ?_⟩
              intro a W K hS hd hf hK
              have e36 : a.tmps.getD 36 undef = .pointer (some ⟨gx, 2, none⟩) := hd ⟨15, .data⟩ (by simp) rfl
              have c0 := hS.2.cell_some 2 _ rfl
              clear hd hf
              go_simp
              exact hK _ _ (Below.refl _ _) hS rfl
            · refine ⟨met_none rfl, ?_⟩
              intro a W K hS hd hf hK
              have e37 : a.tmps.getD 37 undef = .int .u64 (i : Int) := hd ⟨16, .data⟩ (by simp) rfl
              clear hd hf
              go_simp
              exact hK _ _ (Below.refl _ _) hS rfl
            · refine ⟨met_none rfl, ?_⟩
              intro a W K hS hd hf hK
              have e38 : a.tmps.getD 38 undef = .int .u64 (IH : Int) := hd ⟨17, .data⟩ (by simp) rfl
              clear hd hf
              go_simp
              go_at_call 19
              refine (hq4.out _).mono ?_
              rintro e w1 ⟨rfl, hb⟩
              exact hK _ _ hb (⟨gr_call hS.1 hb, hS.2.kept hb hS.2.size⟩) rfl
            · refine ⟨met_none rfl, ?_⟩
              intro a W K hS hd hf hK
              have e35 : a.tmps.getD 35 undef = .string S3 := hd ⟨14, .data⟩ (by simp) rfl
              have e39 : a.tmps.getD 39 undef = .string A4 := hd ⟨18, .data⟩ (by simp) rfl
              clear hd hf
              go_simp
              exact hK _ _ (Below.refl _ _) hS rfl
          case he =>
            intro vals w6 K hS6 hV hK
            have e40 := hV 19 (by omega)
            clear hV
            simp only [List.getD_cons_succ, List.getD_cons_zero] at e40
            have hb6 := gr_call hbl hS6.1
            have d0 := hS6.2.cell_some 0 _ rfl
            have d4 := hS6.2.cell_some 4 _ rfl
            clear hS6 hbl hblk c0 c1 c2 c3 c4
            refine Later.mk ?_
            simp only [List.append_eq, List.cons_append, List.nil_append, setN, Nat.reduceAdd, List.setIfInBounds_toArray, List.set_cons_succ, List.set_cons_zero]
            rw [e40]
            go_simp
            refine hK _ _ ?_
            clear hK e40
            go_wp2_with fail
            go_ret
            exact ⟨by rw [← HF.out]; rfl, hb6⟩

        · replace hM : M = 33554433 := by simpa using hM.symm
          rw [hM] at hq0
          have hr0 := Lib.hid (show ∀ w, Calls Try.prog 19 #[.int .u64 33554433] w fun e w' => e = .returned (.string A0) ∧ Below w.heap.size w w' from hq0.out)
          clear hM hfl hq0
          go_wp2_with fail
          obtain ⟨gx, hgx⟩ : ∃ g, w.heap.size = g := ⟨_, rfl⟩
          rw [hgx] at hblk ⊢
          refine region_lastqgL (S := fun W => Below w1.heap.size w1 W ∧ BlkIs W gx 24 #[.int .i64 2, .int .u64 (p : Int), .int .u64 (i : Int), .bool true, .int .i64 (R : Int)]) 20
            [(fun W v => v = .int .u64 33554433),
     (fun W v => v = .string A0),
     (fun W v => v = .pointer (some ⟨gx, 1, none⟩)),
     (fun W v => v = .int .u64 (p : Int)),
     (fun W v => v = .string A1),
     (fun W v => v = .string S1),
     (fun W v => v = .pointer (some ⟨gx, 2, none⟩)),
     (fun W v => v = .int .u64 (i : Int)),
     (fun W v => v = .string A2),
     (fun W v => v = .string S2),
     (fun W v => v = .pointer (some ⟨gx, 1, none⟩)),
     (fun W v => v = .int .u64 (p : Int)),
     (fun W v => v = .int .u64 (PH : Int)),
     (fun W v => v = .string A3),
     (fun W v => v = .string S3),
     (fun W v => v = .pointer (some ⟨gx, 2, none⟩)),
     (fun W v => v = .int .u64 (i : Int)),
     (fun W v => v = .int .u64 (IH : Int)),
     (fun W v => v = .string A4),
     (fun W v => v = .string S4)] (by rfl) (by kernel_rfl) (by kernel_rfl) (by kernel_rfl) (by kernel_rfl) (by rfl) (by kernel_rfl) ?hS ?hp ?hs ?he
          case hS => exact ⟨gr_drew (Below.refl _ _), hblk⟩
          case hp => repeat' (first | exact trivial | refine ⟨fun _ _ _ _ h => h, ?_⟩)
          case hs =>
            simp only [List.take_succ_cons, List.take_zero]
            clear hbl hblk c0 c1 c2 c3 c4
            refine ⟨?_, ?_, ?_, ?_, ?_, ?_, ?_, ?_, ?_, ?_, ?_, ?_, ?_, ?_, ?_, ?_, ?_, ?_, ?_, ?_, trivial⟩
            · refine ⟨met_none rfl, ?_⟩
              intro a W K hS hd hf hK
              have e3 : a.tmps.getD 3 undef = .int .u64 33554433 := hf 3 (by kernel_rfl)
              clear hd hf
              go_simp
              exact hK _ _ (Below.refl _ _) hS rfl
            · refine ⟨met_none rfl, ?_⟩
              intro a W K hS hd hf hK
              have e21 : a.tmps.getD 21 undef = .int .u64 33554433 := hd ⟨0, .data⟩ (by simp) rfl
              clear hd hf
              go_simp
              go_at_call 19
              refine (hr0.out _).mono ?_
              rintro e w1 ⟨rfl, hb⟩
              exact hK _ _ hb (⟨gr_call hS.1 hb, hS.2.kept hb hS.2.size⟩) rfl
            · refine ⟨met_none rfl, ?_⟩
              intro a W K hS hd hf hK
              have e1 : a.tmps.getD 1 undef = .pointer (some ⟨gx, 0, none⟩) := hf 1 (by kernel_rfl)
              clear hd hf
              go_simp
              exact hK _ _ (Below.refl _ _) hS rfl
            · refine ⟨met_none rfl, ?_⟩
              intro a W K hS hd hf hK
              have e23 : a.tmps.getD 23 undef = .pointer (some ⟨gx, 1, none⟩) := hd ⟨2, .data⟩ (by simp) rfl
              have c0 := hS.2.cell_some 1 _ rfl
              clear hd hf
              go_simp
              exact hK _ _ (Below.refl _ _) hS rfl
            · refine ⟨met_none rfl, ?_⟩
              intro a W K hS hd hf hK
              have e24 : a.tmps.getD 24 undef = .int .u64 (p : Int) := hd ⟨3, .data⟩ (by simp) rfl
              clear hd hf
              go_simp
              go_at_call 19
              refine (hq1.out _).mono ?_
              rintro e w1 ⟨rfl, hb⟩
              exact hK _ _ hb (⟨gr_call hS.1 hb, hS.2.kept hb hS.2.size⟩) rfl
            · refine ⟨met_none rfl, ?_⟩
              intro a W K hS hd hf hK
              have e22 : a.tmps.getD 22 undef = .string A0 := hd ⟨1, .data⟩ (by simp) rfl
              have e25 : a.tmps.getD 25 undef = .string A1 := hd ⟨4, .data⟩ (by simp) rfl
              clear hd hf
              go_simp
              exact hK _ _ (Below.refl _ _) hS rfl
            · refine ⟨met_none rfl, ?_⟩
              intro a W K hS hd hf hK
              have e1 : a.tmps.getD 1 undef = .pointer (some ⟨gx, 0, none⟩) := hf 1 (by kernel_rfl)
              clear hd hf
              go_simp
              exact hK _ _ (Below.refl _ _) hS rfl
            · refine ⟨met_none rfl, ?_⟩
              intro a W K hS hd hf hK
              have e27 : a.tmps.getD 27 undef = .pointer (some ⟨gx, 2, none⟩) := hd ⟨6, .data⟩ (by simp) rfl
              have c0 := hS.2.cell_some 2 _ rfl
              clear hd hf
              go_simp
              exact hK _ _ (Below.refl _ _) hS rfl
            · refine ⟨met_none rfl, ?_⟩
              intro a W K hS hd hf hK
              have e28 : a.tmps.getD 28 undef = .int .u64 (i : Int) := hd ⟨7, .data⟩ (by simp) rfl
              clear hd hf
              go_simp
              go_at_call 19
              refine (hq2.out _).mono ?_
              rintro e w1 ⟨rfl, hb⟩
              exact hK _ _ hb (⟨gr_call hS.1 hb, hS.2.kept hb hS.2.size⟩) rfl
            · refine ⟨met_none rfl, ?_⟩
              intro a W K hS hd hf hK
              have e26 : a.tmps.getD 26 undef = .string S1 := hd ⟨5, .data⟩ (by simp) rfl
              have e29 : a.tmps.getD 29 undef = .string A2 := hd ⟨8, .data⟩ (by simp) rfl
              clear hd hf
              go_simp
              exact hK _ _ (Below.refl _ _) hS rfl
            · refine ⟨met_none rfl, ?_⟩
              intro a W K hS hd hf hK
              have e1 : a.tmps.getD 1 undef = .pointer (some ⟨gx, 0, none⟩) := hf 1 (by kernel_rfl)
              clear hd hf
              go_simp
              exact hK _ _ (Below.refl _ _) hS rfl
            · refine ⟨met_none rfl, ?_⟩
              intro a W K hS hd hf hK
              have e31 : a.tmps.getD 31 undef = .pointer (some ⟨gx, 1, none⟩) := hd ⟨10, .data⟩ (by simp) rfl
              have c0 := hS.2.cell_some 1 _ rfl
              clear hd hf
              go_simp
              exact hK _ _ (Below.refl _ _) hS rfl
            · refine ⟨met_none rfl, ?_⟩
              intro a W K hS hd hf hK
              have e32 : a.tmps.getD 32 undef = .int .u64 (p : Int) := hd ⟨11, .data⟩ (by simp) rfl
              clear hd hf
              go_simp
              exact hK _ _ (Below.refl _ _) hS rfl
            · refine ⟨met_none rfl, ?_⟩
              intro a W K hS hd hf hK
              have e33 : a.tmps.getD 33 undef = .int .u64 (PH : Int) := hd ⟨12, .data⟩ (by simp) rfl
              clear hd hf
              go_simp
              go_at_call 19
              refine (hq3.out _).mono ?_
              rintro e w1 ⟨rfl, hb⟩
              exact hK _ _ hb (⟨gr_call hS.1 hb, hS.2.kept hb hS.2.size⟩) rfl
            · refine ⟨met_none rfl, ?_⟩
              intro a W K hS hd hf hK
              have e30 : a.tmps.getD 30 undef = .string S2 := hd ⟨9, .data⟩ (by simp) rfl
              have e34 : a.tmps.getD 34 undef = .string A3 := hd ⟨13, .data⟩ (by simp) rfl
              clear hd hf
              go_simp
              exact hK _ _ (Below.refl _ _) hS rfl
            · refine ⟨met_none rfl, ?_⟩
              intro a W K hS hd hf hK
              have e1 : a.tmps.getD 1 undef = .pointer (some ⟨gx, 0, none⟩) := hf 1 (by kernel_rfl)
              clear hd hf
              go_simp
              exact hK _ _ (Below.refl _ _) hS rfl
            · refine ⟨met_none rfl, ?_⟩
              intro a W K hS hd hf hK
              have e36 : a.tmps.getD 36 undef = .pointer (some ⟨gx, 2, none⟩) := hd ⟨15, .data⟩ (by simp) rfl
              have c0 := hS.2.cell_some 2 _ rfl
              clear hd hf
              go_simp
              exact hK _ _ (Below.refl _ _) hS rfl
            · refine ⟨met_none rfl, ?_⟩
              intro a W K hS hd hf hK
              have e37 : a.tmps.getD 37 undef = .int .u64 (i : Int) := hd ⟨16, .data⟩ (by simp) rfl
              clear hd hf
              go_simp
              exact hK _ _ (Below.refl _ _) hS rfl
            · refine ⟨met_none rfl, ?_⟩
              intro a W K hS hd hf hK
              have e38 : a.tmps.getD 38 undef = .int .u64 (IH : Int) := hd ⟨17, .data⟩ (by simp) rfl
              clear hd hf
              go_simp
              go_at_call 19
              refine (hq4.out _).mono ?_
              rintro e w1 ⟨rfl, hb⟩
              exact hK _ _ hb (⟨gr_call hS.1 hb, hS.2.kept hb hS.2.size⟩) rfl
            · refine ⟨met_none rfl, ?_⟩
              intro a W K hS hd hf hK
              have e35 : a.tmps.getD 35 undef = .string S3 := hd ⟨14, .data⟩ (by simp) rfl
              have e39 : a.tmps.getD 39 undef = .string A4 := hd ⟨18, .data⟩ (by simp) rfl
              clear hd hf
              go_simp
              exact hK _ _ (Below.refl _ _) hS rfl
          case he =>
            intro vals w6 K hS6 hV hK
            have e40 := hV 19 (by omega)
            clear hV
            simp only [List.getD_cons_succ, List.getD_cons_zero] at e40
            have hb6 := gr_call hbl hS6.1
            have d0 := hS6.2.cell_some 0 _ rfl
            have d4 := hS6.2.cell_some 4 _ rfl
            clear hS6 hbl hblk c0 c1 c2 c3 c4
            refine Later.mk ?_
            simp only [List.append_eq, List.cons_append, List.nil_append, setN, Nat.reduceAdd, List.setIfInBounds_toArray, List.set_cons_succ, List.set_cons_zero]
            rw [e40]
            go_simp
            refine hK _ _ ?_
            clear hK e40
            go_wp2_with fail
            go_ret
            exact ⟨by rw [← HF.out]; rfl, hb6⟩

      · have HF : Hid (S5 = strOf (putL ⟨3, p, i, e, (R : Int)⟩)) := Lib.hid (HS3.out rfl)
        clear HS HS3
        go_enter Try.func13, Try.ntmps13
        go_wp2_with fail
        refine (Hm.out _).mono ?_
        rintro e' w1 ⟨rfl, hb1⟩
        have hblk : BlkIs w1 w.heap.size 24 #[.int .i64 3, .int .u64 (p : Int), .int .u64 (i : Int), .bool e, .int .i64 (R : Int)] := (BlkIs.made w 24 _).kept hb1 (by simp)
        have c0 := hblk.cell_some 0 _ rfl
        have c1 := hblk.cell_some 1 _ rfl
        have c2 := hblk.cell_some 2 _ rfl
        have c3 := hblk.cell_some 3 _ rfl
        have c4 := hblk.cell_some 4 _ rfl
        have hbl : Below w.heap.size w w1 := gr_call (by (repeat' (first | exact Below.refl _ _ | assumption | refine gr_drew ?_ | refine gr_drewN ?_ _ | refine gr_alloc ?_ _ | refine gr_set ?_ ?_ _ | refine gr_call ?_ (by assumption)) <;> (try (simp; done)) <;> (try (simp; omega)) <;> (try omega))) hb1
        clear hb1 Hm
        rcases e with _ | _
        · replace hM : M = 50331648 := by simpa using hM.symm
          rw [hM] at hq0
          have hr0 := Lib.hid (show ∀ w, Calls Try.prog 19 #[.int .u64 50331648] w fun e w' => e = .returned (.string A0) ∧ Below w.heap.size w w' from hq0.out)
          clear hM hfl hq0
          go_wp2_with fail
          obtain ⟨gx, hgx⟩ : ∃ g, w.heap.size = g := ⟨_, rfl⟩
          rw [hgx] at hblk ⊢
          refine region_lastqgL (S := fun W => Below w1.heap.size w1 W ∧ BlkIs W gx 24 #[.int .i64 3, .int .u64 (p : Int), .int .u64 (i : Int), .bool false, .int .i64 (R : Int)]) 20
            [(fun W v => v = .int .u64 50331648),
     (fun W v => v = .string A0),
     (fun W v => v = .pointer (some ⟨gx, 1, none⟩)),
     (fun W v => v = .int .u64 (p : Int)),
     (fun W v => v = .string A1),
     (fun W v => v = .string S1),
     (fun W v => v = .pointer (some ⟨gx, 2, none⟩)),
     (fun W v => v = .int .u64 (i : Int)),
     (fun W v => v = .string A2),
     (fun W v => v = .string S2),
     (fun W v => v = .pointer (some ⟨gx, 1, none⟩)),
     (fun W v => v = .int .u64 (p : Int)),
     (fun W v => v = .int .u64 (PH : Int)),
     (fun W v => v = .string A3),
     (fun W v => v = .string S3),
     (fun W v => v = .pointer (some ⟨gx, 2, none⟩)),
     (fun W v => v = .int .u64 (i : Int)),
     (fun W v => v = .int .u64 (IH : Int)),
     (fun W v => v = .string A4),
     (fun W v => v = .string S4)] (by rfl) (by kernel_rfl) (by kernel_rfl) (by kernel_rfl) (by kernel_rfl) (by rfl) (by kernel_rfl) ?hS ?hp ?hs ?he
          case hS => exact ⟨gr_drew (Below.refl _ _), hblk⟩
          case hp => repeat' (first | exact trivial | refine ⟨fun _ _ _ _ h => h, ?_⟩)
          case hs =>
            simp only [List.take_succ_cons, List.take_zero]
            clear hbl hblk c0 c1 c2 c3 c4
            refine ⟨?_, ?_, ?_, ?_, ?_, ?_, ?_, ?_, ?_, ?_, ?_, ?_, ?_, ?_, ?_, ?_, ?_, ?_, ?_, ?_, trivial⟩
            · refine ⟨met_none rfl, ?_⟩
              intro a W K hS hd hf hK
              have e3 : a.tmps.getD 3 undef = .int .u64 50331648 := hf 3 (by kernel_rfl)
              clear hd hf
              go_simp
              exact hK _ _ (Below.refl _ _) hS rfl
            · refine ⟨met_none rfl, ?_⟩
              intro a W K hS hd hf hK
              have e21 : a.tmps.getD 21 undef = .int .u64 50331648 := hd ⟨0, .data⟩ (by simp) rfl
              clear hd hf
              go_simp
              go_at_call 19
              refine (hr0.out _).mono ?_
              rintro e w1 ⟨rfl, hb⟩
              exact hK _ _ hb (⟨gr_call hS.1 hb, hS.2.kept hb hS.2.size⟩) rfl
            · refine ⟨met_none rfl, ?_⟩
              intro a W K hS hd hf hK
              have e1 : a.tmps.getD 1 undef = .pointer (some ⟨gx, 0, none⟩) := hf 1 (by kernel_rfl)
              clear hd hf
              go_simp
              exact hK _ _ (Below.refl _ _) hS rfl
            · refine ⟨met_none rfl, ?_⟩
              intro a W K hS hd hf hK
              have e23 : a.tmps.getD 23 undef = .pointer (some ⟨gx, 1, none⟩) := hd ⟨2, .data⟩ (by simp) rfl
              have c0 := hS.2.cell_some 1 _ rfl
              clear hd hf
              go_simp
              exact hK _ _ (Below.refl _ _) hS rfl
            · refine ⟨met_none rfl, ?_⟩
              intro a W K hS hd hf hK
              have e24 : a.tmps.getD 24 undef = .int .u64 (p : Int) := hd ⟨3, .data⟩ (by simp) rfl
              clear hd hf
              go_simp
              go_at_call 19
              refine (hq1.out _).mono ?_
              rintro e w1 ⟨rfl, hb⟩
              exact hK _ _ hb (⟨gr_call hS.1 hb, hS.2.kept hb hS.2.size⟩) rfl
            · refine ⟨met_none rfl, ?_⟩
              intro a W K hS hd hf hK
              have e22 : a.tmps.getD 22 undef = .string A0 := hd ⟨1, .data⟩ (by simp) rfl
              have e25 : a.tmps.getD 25 undef = .string A1 := hd ⟨4, .data⟩ (by simp) rfl
              clear hd hf
              go_simp
              exact hK _ _ (Below.refl _ _) hS rfl
            · refine ⟨met_none rfl, ?_⟩
              intro a W K hS hd hf hK
              have e1 : a.tmps.getD 1 undef = .pointer (some ⟨gx, 0, none⟩) := hf 1 (by kernel_rfl)
              clear hd hf
              go_simp
              exact hK _ _ (Below.refl _ _) hS rfl
            · refine ⟨met_none rfl, ?_⟩
              intro a W K hS hd hf hK
              have e27 : a.tmps.getD 27 undef = .pointer (some ⟨gx, 2, none⟩) := hd ⟨6, .data⟩ (by simp) rfl
              have c0 := hS.2.cell_some 2 _ rfl
              clear hd hf
              go_simp
              exact hK _ _ (Below.refl _ _) hS rfl
            · refine ⟨met_none rfl, ?_⟩
              intro a W K hS hd hf hK
              have e28 : a.tmps.getD 28 undef = .int .u64 (i : Int) := hd ⟨7, .data⟩ (by simp) rfl
              clear hd hf
              go_simp
              go_at_call 19
              refine (hq2.out _).mono ?_
              rintro e w1 ⟨rfl, hb⟩
              exact hK _ _ hb (⟨gr_call hS.1 hb, hS.2.kept hb hS.2.size⟩) rfl
            · refine ⟨met_none rfl, ?_⟩
              intro a W K hS hd hf hK
              have e26 : a.tmps.getD 26 undef = .string S1 := hd ⟨5, .data⟩ (by simp) rfl
              have e29 : a.tmps.getD 29 undef = .string A2 := hd ⟨8, .data⟩ (by simp) rfl
              clear hd hf
              go_simp
              exact hK _ _ (Below.refl _ _) hS rfl
            · refine ⟨met_none rfl, ?_⟩
              intro a W K hS hd hf hK
              have e1 : a.tmps.getD 1 undef = .pointer (some ⟨gx, 0, none⟩) := hf 1 (by kernel_rfl)
              clear hd hf
              go_simp
              exact hK _ _ (Below.refl _ _) hS rfl
            · refine ⟨met_none rfl, ?_⟩
              intro a W K hS hd hf hK
              have e31 : a.tmps.getD 31 undef = .pointer (some ⟨gx, 1, none⟩) := hd ⟨10, .data⟩ (by simp) rfl
              have c0 := hS.2.cell_some 1 _ rfl
              clear hd hf
              go_simp
              exact hK _ _ (Below.refl _ _) hS rfl
            · refine ⟨met_none rfl, ?_⟩
              intro a W K hS hd hf hK
              have e32 : a.tmps.getD 32 undef = .int .u64 (p : Int) := hd ⟨11, .data⟩ (by simp) rfl
              clear hd hf
              go_simp
              exact hK _ _ (Below.refl _ _) hS rfl
            · refine ⟨met_none rfl, ?_⟩
              intro a W K hS hd hf hK
              have e33 : a.tmps.getD 33 undef = .int .u64 (PH : Int) := hd ⟨12, .data⟩ (by simp) rfl
              clear hd hf
              go_simp
              go_at_call 19
              refine (hq3.out _).mono ?_
              rintro e w1 ⟨rfl, hb⟩
              exact hK _ _ hb (⟨gr_call hS.1 hb, hS.2.kept hb hS.2.size⟩) rfl
            · refine ⟨met_none rfl, ?_⟩
              intro a W K hS hd hf hK
              have e30 : a.tmps.getD 30 undef = .string S2 := hd ⟨9, .data⟩ (by simp) rfl
              have e34 : a.tmps.getD 34 undef = .string A3 := hd ⟨13, .data⟩ (by simp) rfl
              clear hd hf
              go_simp
              exact hK _ _ (Below.refl _ _) hS rfl
            · refine ⟨met_none rfl, ?_⟩
              intro a W K hS hd hf hK
              have e1 : a.tmps.getD 1 undef = .pointer (some ⟨gx, 0, none⟩) := hf 1 (by kernel_rfl)
              clear hd hf
              go_simp
              exact hK _ _ (Below.refl _ _) hS rfl
            · refine ⟨met_none rfl, ?_⟩
              intro a W K hS hd hf hK
              have e36 : a.tmps.getD 36 undef = .pointer (some ⟨gx, 2, none⟩) := hd ⟨15, .data⟩ (by simp) rfl
              have c0 := hS.2.cell_some 2 _ rfl
              clear hd hf
              go_simp
              exact hK _ _ (Below.refl _ _) hS rfl
            · refine ⟨met_none rfl, ?_⟩
              intro a W K hS hd hf hK
              have e37 : a.tmps.getD 37 undef = .int .u64 (i : Int) := hd ⟨16, .data⟩ (by simp) rfl
              clear hd hf
              go_simp
              exact hK _ _ (Below.refl _ _) hS rfl
            · refine ⟨met_none rfl, ?_⟩
              intro a W K hS hd hf hK
              have e38 : a.tmps.getD 38 undef = .int .u64 (IH : Int) := hd ⟨17, .data⟩ (by simp) rfl
              clear hd hf
              go_simp
              go_at_call 19
              refine (hq4.out _).mono ?_
              rintro e w1 ⟨rfl, hb⟩
              exact hK _ _ hb (⟨gr_call hS.1 hb, hS.2.kept hb hS.2.size⟩) rfl
            · refine ⟨met_none rfl, ?_⟩
              intro a W K hS hd hf hK
              have e35 : a.tmps.getD 35 undef = .string S3 := hd ⟨14, .data⟩ (by simp) rfl
              have e39 : a.tmps.getD 39 undef = .string A4 := hd ⟨18, .data⟩ (by simp) rfl
              clear hd hf
              go_simp
              exact hK _ _ (Below.refl _ _) hS rfl
          case he =>
            intro vals w6 K hS6 hV hK
            have e40 := hV 19 (by omega)
            clear hV
            simp only [List.getD_cons_succ, List.getD_cons_zero] at e40
            have hb6 := gr_call hbl hS6.1
            have d0 := hS6.2.cell_some 0 _ rfl
            have d4 := hS6.2.cell_some 4 _ rfl
            clear hS6 hbl hblk c0 c1 c2 c3 c4
            refine Later.mk ?_
            simp only [List.append_eq, List.cons_append, List.nil_append, setN, Nat.reduceAdd, List.setIfInBounds_toArray, List.set_cons_succ, List.set_cons_zero]
            rw [e40]
            go_simp
            refine hK _ _ ?_
            clear hK e40
            go_wp2_with fail
            refine (hq5.out _).mono ?_
            rintro e' w7 ⟨rfl, hb7⟩
            go_wp2_with fail
            go_ret
            exact ⟨by rw [← HF.out]; rfl, gr_call hb6 hb7⟩

        · replace hM : M = 50331649 := by simpa using hM.symm
          rw [hM] at hq0
          have hr0 := Lib.hid (show ∀ w, Calls Try.prog 19 #[.int .u64 50331649] w fun e w' => e = .returned (.string A0) ∧ Below w.heap.size w w' from hq0.out)
          clear hM hfl hq0
          go_wp2_with fail
          obtain ⟨gx, hgx⟩ : ∃ g, w.heap.size = g := ⟨_, rfl⟩
          rw [hgx] at hblk ⊢
          refine region_lastqgL (S := fun W => Below w1.heap.size w1 W ∧ BlkIs W gx 24 #[.int .i64 3, .int .u64 (p : Int), .int .u64 (i : Int), .bool true, .int .i64 (R : Int)]) 20
            [(fun W v => v = .int .u64 50331649),
     (fun W v => v = .string A0),
     (fun W v => v = .pointer (some ⟨gx, 1, none⟩)),
     (fun W v => v = .int .u64 (p : Int)),
     (fun W v => v = .string A1),
     (fun W v => v = .string S1),
     (fun W v => v = .pointer (some ⟨gx, 2, none⟩)),
     (fun W v => v = .int .u64 (i : Int)),
     (fun W v => v = .string A2),
     (fun W v => v = .string S2),
     (fun W v => v = .pointer (some ⟨gx, 1, none⟩)),
     (fun W v => v = .int .u64 (p : Int)),
     (fun W v => v = .int .u64 (PH : Int)),
     (fun W v => v = .string A3),
     (fun W v => v = .string S3),
     (fun W v => v = .pointer (some ⟨gx, 2, none⟩)),
     (fun W v => v = .int .u64 (i : Int)),
     (fun W v => v = .int .u64 (IH : Int)),
     (fun W v => v = .string A4),
     (fun W v => v = .string S4)] (by rfl) (by kernel_rfl) (by kernel_rfl) (by kernel_rfl) (by kernel_rfl) (by rfl) (by kernel_rfl) ?hS ?hp ?hs ?he
          case hS => exact ⟨gr_drew (Below.refl _ _), hblk⟩
          case hp => repeat' (first | exact trivial | refine ⟨fun _ _ _ _ h => h, ?_⟩)
          case hs =>
            simp only [List.take_succ_cons, List.take_zero]
            clear hbl hblk c0 c1 c2 c3 c4
            refine ⟨?_, ?_, ?_, ?_, ?_, ?_, ?_, ?_, ?_, ?_, ?_, ?_, ?_, ?_, ?_, ?_, ?_, ?_, ?_, ?_, trivial⟩
            · refine ⟨met_none rfl, ?_⟩
              intro a W K hS hd hf hK
              have e3 : a.tmps.getD 3 undef = .int .u64 50331649 := hf 3 (by kernel_rfl)
              clear hd hf
              go_simp
              exact hK _ _ (Below.refl _ _) hS rfl
            · refine ⟨met_none rfl, ?_⟩
              intro a W K hS hd hf hK
              have e21 : a.tmps.getD 21 undef = .int .u64 50331649 := hd ⟨0, .data⟩ (by simp) rfl
              clear hd hf
              go_simp
              go_at_call 19
              refine (hr0.out _).mono ?_
              rintro e w1 ⟨rfl, hb⟩
              exact hK _ _ hb (⟨gr_call hS.1 hb, hS.2.kept hb hS.2.size⟩) rfl
            · refine ⟨met_none rfl, ?_⟩
              intro a W K hS hd hf hK
              have e1 : a.tmps.getD 1 undef = .pointer (some ⟨gx, 0, none⟩) := hf 1 (by kernel_rfl)
              clear hd hf
              go_simp
              exact hK _ _ (Below.refl _ _) hS rfl
            · refine ⟨met_none rfl, ?_⟩
              intro a W K hS hd hf hK
              have e23 : a.tmps.getD 23 undef = .pointer (some ⟨gx, 1, none⟩) := hd ⟨2, .data⟩ (by simp) rfl
              have c0 := hS.2.cell_some 1 _ rfl
              clear hd hf
              go_simp
              exact hK _ _ (Below.refl _ _) hS rfl
            · refine ⟨met_none rfl, ?_⟩
              intro a W K hS hd hf hK
              have e24 : a.tmps.getD 24 undef = .int .u64 (p : Int) := hd ⟨3, .data⟩ (by simp) rfl
              clear hd hf
              go_simp
              go_at_call 19
              refine (hq1.out _).mono ?_
              rintro e w1 ⟨rfl, hb⟩
              exact hK _ _ hb (⟨gr_call hS.1 hb, hS.2.kept hb hS.2.size⟩) rfl
            · refine ⟨met_none rfl, ?_⟩
              intro a W K hS hd hf hK
              have e22 : a.tmps.getD 22 undef = .string A0 := hd ⟨1, .data⟩ (by simp) rfl
              have e25 : a.tmps.getD 25 undef = .string A1 := hd ⟨4, .data⟩ (by simp) rfl
              clear hd hf
              go_simp
              exact hK _ _ (Below.refl _ _) hS rfl
            · refine ⟨met_none rfl, ?_⟩
              intro a W K hS hd hf hK
              have e1 : a.tmps.getD 1 undef = .pointer (some ⟨gx, 0, none⟩) := hf 1 (by kernel_rfl)
              clear hd hf
              go_simp
              exact hK _ _ (Below.refl _ _) hS rfl
            · refine ⟨met_none rfl, ?_⟩
              intro a W K hS hd hf hK
              have e27 : a.tmps.getD 27 undef = .pointer (some ⟨gx, 2, none⟩) := hd ⟨6, .data⟩ (by simp) rfl
              have c0 := hS.2.cell_some 2 _ rfl
              clear hd hf
              go_simp
              exact hK _ _ (Below.refl _ _) hS rfl
            · refine ⟨met_none rfl, ?_⟩
              intro a W K hS hd hf hK
              have e28 : a.tmps.getD 28 undef = .int .u64 (i : Int) := hd ⟨7, .data⟩ (by simp) rfl
              clear hd hf
              go_simp
              go_at_call 19
              refine (hq2.out _).mono ?_
              rintro e w1 ⟨rfl, hb⟩
              exact hK _ _ hb (⟨gr_call hS.1 hb, hS.2.kept hb hS.2.size⟩) rfl
            · refine ⟨met_none rfl, ?_⟩
              intro a W K hS hd hf hK
              have e26 : a.tmps.getD 26 undef = .string S1 := hd ⟨5, .data⟩ (by simp) rfl
              have e29 : a.tmps.getD 29 undef = .string A2 := hd ⟨8, .data⟩ (by simp) rfl
              clear hd hf
              go_simp
              exact hK _ _ (Below.refl _ _) hS rfl
            · refine ⟨met_none rfl, ?_⟩
              intro a W K hS hd hf hK
              have e1 : a.tmps.getD 1 undef = .pointer (some ⟨gx, 0, none⟩) := hf 1 (by kernel_rfl)
              clear hd hf
              go_simp
              exact hK _ _ (Below.refl _ _) hS rfl
            · refine ⟨met_none rfl, ?_⟩
              intro a W K hS hd hf hK
              have e31 : a.tmps.getD 31 undef = .pointer (some ⟨gx, 1, none⟩) := hd ⟨10, .data⟩ (by simp) rfl
              have c0 := hS.2.cell_some 1 _ rfl
              clear hd hf
              go_simp
              exact hK _ _ (Below.refl _ _) hS rfl
            · refine ⟨met_none rfl, ?_⟩
              intro a W K hS hd hf hK
              have e32 : a.tmps.getD 32 undef = .int .u64 (p : Int) := hd ⟨11, .data⟩ (by simp) rfl
              clear hd hf
              go_simp
              exact hK _ _ (Below.refl _ _) hS rfl
            · refine ⟨met_none rfl, ?_⟩
              intro a W K hS hd hf hK
              have e33 : a.tmps.getD 33 undef = .int .u64 (PH : Int) := hd ⟨12, .data⟩ (by simp) rfl
              clear hd hf
              go_simp
              go_at_call 19
              refine (hq3.out _).mono ?_
              rintro e w1 ⟨rfl, hb⟩
              exact hK _ _ hb (⟨gr_call hS.1 hb, hS.2.kept hb hS.2.size⟩) rfl
            · refine ⟨met_none rfl, ?_⟩
              intro a W K hS hd hf hK
              have e30 : a.tmps.getD 30 undef = .string S2 := hd ⟨9, .data⟩ (by simp) rfl
              have e34 : a.tmps.getD 34 undef = .string A3 := hd ⟨13, .data⟩ (by simp) rfl
              clear hd hf
              go_simp
              exact hK _ _ (Below.refl _ _) hS rfl
            · refine ⟨met_none rfl, ?_⟩
              intro a W K hS hd hf hK
              have e1 : a.tmps.getD 1 undef = .pointer (some ⟨gx, 0, none⟩) := hf 1 (by kernel_rfl)
              clear hd hf
              go_simp
              exact hK _ _ (Below.refl _ _) hS rfl
            · refine ⟨met_none rfl, ?_⟩
              intro a W K hS hd hf hK
              have e36 : a.tmps.getD 36 undef = .pointer (some ⟨gx, 2, none⟩) := hd ⟨15, .data⟩ (by simp) rfl
              have c0 := hS.2.cell_some 2 _ rfl
              clear hd hf
              go_simp
              exact hK _ _ (Below.refl _ _) hS rfl
            · refine ⟨met_none rfl, ?_⟩
              intro a W K hS hd hf hK
              have e37 : a.tmps.getD 37 undef = .int .u64 (i : Int) := hd ⟨16, .data⟩ (by simp) rfl
              clear hd hf
              go_simp
              exact hK _ _ (Below.refl _ _) hS rfl
            · refine ⟨met_none rfl, ?_⟩
              intro a W K hS hd hf hK
              have e38 : a.tmps.getD 38 undef = .int .u64 (IH : Int) := hd ⟨17, .data⟩ (by simp) rfl
              clear hd hf
              go_simp
              go_at_call 19
              refine (hq4.out _).mono ?_
              rintro e w1 ⟨rfl, hb⟩
              exact hK _ _ hb (⟨gr_call hS.1 hb, hS.2.kept hb hS.2.size⟩) rfl
            · refine ⟨met_none rfl, ?_⟩
              intro a W K hS hd hf hK
              have e35 : a.tmps.getD 35 undef = .string S3 := hd ⟨14, .data⟩ (by simp) rfl
              have e39 : a.tmps.getD 39 undef = .string A4 := hd ⟨18, .data⟩ (by simp) rfl
              clear hd hf
              go_simp
              exact hK _ _ (Below.refl _ _) hS rfl
          case he =>
            intro vals w6 K hS6 hV hK
            have e40 := hV 19 (by omega)
            clear hV
            simp only [List.getD_cons_succ, List.getD_cons_zero] at e40
            have hb6 := gr_call hbl hS6.1
            have d0 := hS6.2.cell_some 0 _ rfl
            have d4 := hS6.2.cell_some 4 _ rfl
            clear hS6 hbl hblk c0 c1 c2 c3 c4
            refine Later.mk ?_
            simp only [List.append_eq, List.cons_append, List.nil_append, setN, Nat.reduceAdd, List.setIfInBounds_toArray, List.set_cons_succ, List.set_cons_zero]
            rw [e40]
            go_simp
            refine hK _ _ ?_
            clear hK e40
            go_wp2_with fail
            refine (hq5.out _).mono ?_
            rintro e' w7 ⟨rfl, hb7⟩
            go_wp2_with fail
            go_ret
            exact ⟨by rw [← HF.out]; rfl, gr_call hb6 hb7⟩

  · have hm' : may c = false := by simpa using hm
    rw [hm'] at hmay
    have HE := Lib.hid (show putL c = [] from putL_none (by simp [hm']))
    obtain ⟨v, p, i, e, r⟩ := c
    unfold capV at hmay ⊢
    simp only at hmay ⊢
    have Hm := Lib.hid hmay
    clear hmay hm hm' hf
    go_enter Try.func13, Try.ntmps13
    go_wp2_with fail
    refine (Hm.out _).mono ?_
    rintro e w1 ⟨rfl, hb1⟩
    go_wp2_with fail
    go_ret
    exact ⟨by rw [HE.out]; rfl, by (repeat' (first | exact Below.refl _ _ | assumption | refine gr_drew ?_ | refine gr_drewN ?_ _ | refine gr_alloc ?_ _ | refine gr_set ?_ ?_ _ | refine gr_call ?_ (by assumption)) <;> (try (simp; done)) <;> (try (simp; omega)) <;> (try omega))⟩
end Go.Proofs.Ytijagjahocjaaaa