/- Walks over package caps: decode. -/
import Derived.Test.YtijagjahocjaaaaCapsNum
import Derived.Test.YtijagjahocjaaaaRegionQ
import Derived.Deep.CutRange
namespace Go.Proofs.Ytijagjahocjaaaa
open Go.RowKit
open CapsM
set_option linter.unusedVariables false

theorem num_yes (g : Nat) (l : List UInt8) (j k : Nat) (hk : k = j + 4) (h : k ≤ l.length) (hl : l.length ≤ 800000) (X Y : ByteArray) (hX : strOf (l.drop j) = X) (hY : strOf (l.drop k) = Y) (N : Nat) (hN : le4 (l.drop j) = N)
    (w : World) (hc : w.cell? ⟨g, 0, none⟩ = some (.string X)) (hz : w.frozen? ⟨g, 0, none⟩ = false) :
    Calls Try.prog 20 #[.pointer (some ⟨g, 0, none⟩)] w fun e w' => e = .returned (.int .u32 (N : Int)) ∧ w' = w.setCell ⟨g, 0, none⟩ (.string Y) := by
  subst hX hY hN hk
  have := number_yes g (strOf (l.drop j)) (by rw [strOf_size, List.length_drop]; omega) (by rw [strOf_size, List.length_drop]; omega) w hc hz
  rw [strOf_list, List.drop_drop] at this
  exact this
theorem num_no (g : Nat) (l : List UInt8) (j : Nat) (h : l.length < j + 4) (X : ByteArray) (hX : strOf (l.drop j) = X) (w : World) (hc : w.cell? ⟨g, 0, none⟩ = some (.string X)) :
    Calls Try.prog 20 #[.pointer (some ⟨g, 0, none⟩)] w fun e w' => e = .panicked noCaps ∧ w' = w := by
  subst hX
  exact number_no g _ (by rw [strOf_size, List.length_drop]; omega) w hc
/-- How the decoding ends. -/
def DecEnd (o : Option Cap) (e : Ending) : Prop := match o with
  | some c => e = .returned (capV c)
  | none => e = .panicked noCaps

theorem and_one (n : Nat) (hn : n < 4294967296) : (bits .and .u32 (n : Int) 1 != 0) = decide (n % 2 = 1) := by
  rw [show (1 : Int) = ((1 : Nat) : Int) from rfl, u32_and_nat n 1 hn (by decide), Nat.and_one_is_mod]
  have : n % 2 = 0 ∨ n % 2 = 1 := by omega
  rcases this with h | h <;> simp [h]
theorem or_half (a b : Nat) (ha : a < 4294967296) (hb : b < 4294967296) (x : Int) (hx : x = ((b * 4294967296 : Nat) : Int)) : bits .or .u64 (a : Int) x = ((a + b * 4294967296 : Nat) : Int) := by
  subst hx
  rw [u64_or_nat _ _ (by omega) (by omega)]
  have := Nat.two_pow_add_eq_or_of_lt (i := 32) (show a < 2 ^ 32 from ha) b
  rw [Nat.mul_comm b, Nat.or_comm, show 4294967296 = 2 ^ 32 from rfl, ← this, Nat.add_comm]

set_option maxHeartbeats 3200000 in
set_option maxRecDepth 100000 in
theorem decode_any (S : ByteArray) (h0 : S.data.toList ≠ []) (hS : S.size ≤ 800000) (w : World) :
    Calls Try.prog 16 #[.string S] w fun e w' => DecEnd (getL S.data.toList) e ∧ Below w.heap.size w w' := by
  have hl : S.data.toList.length ≤ 800000 := by rw [len_list]; exact hS
  have hX0 : strOf (S.data.toList.drop 0) = S := strOf_self S
  rw [getL_gval _ h0]
  have hlen := fun h => gval_len (l := S.data.toList) h h0
  obtain ⟨l, hlS⟩ : ∃ l, S.data.toList = l := ⟨_, rfl⟩
  have HS := Lib.hid hlS
  rw [hlS] at hl hX0 hlen h0 ⊢
  clear hlS hS h0
  obtain ⟨X1, hX1⟩ : ∃ X, strOf (l.drop 4) = X := ⟨_, rfl⟩
  obtain ⟨X2, hX2⟩ : ∃ X, strOf (l.drop 8) = X := ⟨_, rfl⟩
  obtain ⟨X3, hX3⟩ : ∃ X, strOf (l.drop 12) = X := ⟨_, rfl⟩
  obtain ⟨X4, hX4⟩ : ∃ X, strOf (l.drop 16) = X := ⟨_, rfl⟩
  obtain ⟨X5, hX5⟩ : ∃ X, strOf (l.drop 20) = X := ⟨_, rfl⟩
  obtain ⟨X6, hX6⟩ : ∃ X, strOf (l.drop 24) = X := ⟨_, rfl⟩
  obtain ⟨N0, hN0⟩ : ∃ N, le4 (l.drop 0) = N := ⟨_, rfl⟩
  obtain ⟨N1, hN1⟩ : ∃ N, le4 (l.drop 4) = N := ⟨_, rfl⟩
  obtain ⟨N2, hN2⟩ : ∃ N, le4 (l.drop 8) = N := ⟨_, rfl⟩
  obtain ⟨N3, hN3⟩ : ∃ N, le4 (l.drop 12) = N := ⟨_, rfl⟩
  obtain ⟨N4, hN4⟩ : ∃ N, le4 (l.drop 16) = N := ⟨_, rfl⟩
  obtain ⟨N5, hN5⟩ : ∃ N, le4 (l.drop 20) = N := ⟨_, rfl⟩
  have l0 : N0 < 4294967296 := hN0 ▸ le4_lt _
  have l1 : N1 < 4294967296 := hN1 ▸ le4_lt _
  have l2 : N2 < 4294967296 := hN2 ▸ le4_lt _
  have l3 : N3 < 4294967296 := hN3 ▸ le4_lt _
  have l4 : N4 < 4294967296 := hN4 ▸ le4_lt _
  have l5 : N5 < 4294967296 := hN5 ▸ le4_lt _
  have n0 := Lib.hid (fun h => num_yes (w.heap.size + 1) l 0 4 rfl h hl S X1 hX0 hX1 N0 hN0)
  have n1 := Lib.hid (fun h => num_yes (w.heap.size + 1) l 4 8 rfl h hl X1 X2 hX1 hX2 N1 hN1)
  have n2 := Lib.hid (fun h => num_yes (w.heap.size + 1) l 8 12 rfl h hl X2 X3 hX2 hX3 N2 hN2)
  have n3 := Lib.hid (fun h => num_yes (w.heap.size + 1) l 12 16 rfl h hl X3 X4 hX3 hX4 N3 hN3)
  have n4 := Lib.hid (fun h => num_yes (w.heap.size + 1) l 16 20 rfl h hl X4 X5 hX4 hX5 N4 hN4)
  have n5 := Lib.hid (fun h => num_yes (w.heap.size + 1) l 20 24 rfl h hl X5 X6 hX5 hX6 N5 hN5)
  have p0 := Lib.hid (fun h => num_no (w.heap.size + 1) l 0 h S hX0)
  have p1 := Lib.hid (fun h => num_no (w.heap.size + 1) l 4 h X1 hX1)
  have p2 := Lib.hid (fun h => num_no (w.heap.size + 1) l 8 h X2 hX2)
  have p3 := Lib.hid (fun h => num_no (w.heap.size + 1) l 12 h X3 hX3)
  have p4 := Lib.hid (fun h => num_no (w.heap.size + 1) l 16 h X4 hX4)
  have p5 := Lib.hid (fun h => num_no (w.heap.size + 1) l 20 h X5 hX5)
  obtain ⟨o, ho⟩ : ∃ o, (if putL (gval l) = l then some (gval l) else none) = o := ⟨_, rfl⟩
  rw [ho]
  have HB := Lib.hid (fun (h : ¬ (20 ≤ l.length ∧ (N0 / 16777216 = 3 → 24 ≤ l.length))) => show o = none from by
    rw [← ho]
    exact if_neg (fun e => h (by rw [← hN0]; exact hlen e)))
  have HG : Hid (gval l = ⟨(N0 / 16777216 : Nat), N1 + N3 * 4294967296, N2 + N4 * 4294967296, decide (N0 % 2 = 1), ((if N0 / 16777216 = 3 then N5 else 0 : Nat) : Int)⟩) := Lib.hid (by
    subst hN0 hN1 hN2 hN3 hN4 hN5
    rfl)
  have HF := Lib.hid (guess_fits l (if le4 l / 16777216 = 3 then le4 (l.drop 20) else 0))
  rw [show guess l (if le4 l / 16777216 = 3 then le4 (l.drop 20) else 0) = gval l from rfl] at HF
  rw [HG.out] at ho HF
  have Ho := Lib.hid ho
  obtain ⟨P, hP⟩ : ∃ P, N1 + N3 * 4294967296 = P := ⟨_, rfl⟩
  obtain ⟨I, hI⟩ : ∃ P, N2 + N4 * 4294967296 = P := ⟨_, rfl⟩
  obtain ⟨V, hV⟩ : ∃ P, N0 / 16777216 = P := ⟨_, rfl⟩
  obtain ⟨E, hE⟩ : ∃ P, decide (N0 % 2 = 1) = P := ⟨_, rfl⟩
  have hv := and_one N0 l0
  rw [hE] at hv
  have hq0 : (N0 : Int) / 16777216 = (V : Int) := by rw [← hV]; rfl
  have hq1 : (N1 : Int) % 18446744073709551616 = (N1 : Int) := by omega
  have hq2 : (N2 : Int) % 18446744073709551616 = (N2 : Int) := by omega
  have ho1 := or_half N1 N3 l1 l3
  have ho2 := or_half N2 N4 l2 l4
  rw [hP] at ho1
  rw [hI] at ho2
  rw [hP, hI, hV, hE] at Ho HF
  rw [hV] at HB
  clear hX0 hX1 hX2 hX3 hX4 hX5 hX6 hN0 hN1 hN2 hN3 hN4 hN5 hP hI hV hE HG ho hlen
  go_enter Try.func16, Try.ntmps16
  go_wp2_with fail
  by_cases k0 : 4 ≤ l.length
  case neg =>
    refine (p0.out (by omega) _ (by simp [go_sem])).mono ?_
    rintro e w1 ⟨rfl, rfl⟩
    have HN := Lib.hid (HB.out (by omega))
    clear HB
    go_wp2_with fail
    exact ⟨rfl, by rw [HN.out]; rfl, by (repeat' (first | exact Below.refl _ _ | assumption | refine gr_drew ?_ | refine gr_drewN ?_ _ | refine gr_alloc ?_ _ | refine gr_set ?_ ?_ _ | refine gr_call ?_ (by assumption)) <;> (try (simp; done)) <;> (try (simp; omega)) <;> (try omega))⟩
  refine (n0.out k0 _ (by simp [go_sem]) (by simp [go_sem])).mono ?_
  rintro e w1 ⟨rfl, rfl⟩
  clear n0 p0
  go_wp2_with fail
  by_cases k1 : 8 ≤ l.length
  case neg =>
    refine (p1.out (by omega) _ (by simp [go_sem])).mono ?_
    rintro e w1 ⟨rfl, rfl⟩
    have HN := Lib.hid (HB.out (by omega))
    clear HB
    go_wp2_with fail
    exact ⟨rfl, by rw [HN.out]; rfl, by (repeat' (first | exact Below.refl _ _ | assumption | refine gr_drew ?_ | refine gr_drewN ?_ _ | refine gr_alloc ?_ _ | refine gr_set ?_ ?_ _ | refine gr_call ?_ (by assumption)) <;> (try (simp; done)) <;> (try (simp; omega)) <;> (try omega))⟩
  refine (n1.out k1 _ (by simp [go_sem]) (by simp [go_sem])).mono ?_
  rintro e w1 ⟨rfl, rfl⟩
  clear n1 p1
  go_wp2_with fail
  by_cases k2 : 12 ≤ l.length
  case neg =>
    refine (p2.out (by omega) _ (by simp [go_sem])).mono ?_
    rintro e w1 ⟨rfl, rfl⟩
    have HN := Lib.hid (HB.out (by omega))
    clear HB
    go_wp2_with fail
    exact ⟨rfl, by rw [HN.out]; rfl, by (repeat' (first | exact Below.refl _ _ | assumption | refine gr_drew ?_ | refine gr_drewN ?_ _ | refine gr_alloc ?_ _ | refine gr_set ?_ ?_ _ | refine gr_call ?_ (by assumption)) <;> (try (simp; done)) <;> (try (simp; omega)) <;> (try omega))⟩
  refine (n2.out k2 _ (by simp [go_sem]) (by simp [go_sem])).mono ?_
  rintro e w1 ⟨rfl, rfl⟩
  clear n2 p2
  go_upto_region 6 with fail
  by_cases k3 : 16 ≤ l.length
  case neg =>
    have HN := Lib.hid (HB.out (by omega))
    clear HB
    obtain ⟨W, hW⟩ : ∃ W, ((w.alloc (.cells #[.int .i64 0, .int .u64 0, .int .u64 0, .bool false, .int .i64 0] 24)).alloc (.cells #[.string X3] 47)).alloc (.cells #[.int .i64 (V : Int), .int .u64 (N1 : Int), .int .u64 (N2 : Int), .bool E, .int .i64 0] 24) = W := ⟨_, rfl⟩
    have C0 : W.cell? ⟨w.heap.size + 1 + 1, 1, none⟩ = some (.int .u64 (N1 : Int)) := by rw [← hW]; simp [go_sem]
    have R0 : W.cell? ⟨w.heap.size + 1, 0, none⟩ = some (.string X3) := by rw [← hW]; simp [go_sem]
    have hbW : Below w.heap.size w W := by rw [← hW]; (repeat' (first | exact Below.refl _ _ | assumption | refine gr_drew ?_ | refine gr_drewN ?_ _ | refine gr_alloc ?_ _ | refine gr_set ?_ ?_ _ | refine gr_call ?_ (by assumption)) <;> (try (simp; done)) <;> (try (simp; omega)) <;> (try omega))
    rw [hW]
    clear hW
    refine region_lastqQL (S := fun Z => Below W.heap.size W Z) 7
      [(fun W v => v = .pointer (some ⟨w.heap.size + 1 + 1, 1, none⟩)),
     (fun W v => v = .int .u64 (N1 : Int)),
     (fun W v => False),
     (fun W v => False),
     (fun W v => False),
     (fun W v => False),
     (fun W v => v = .pointer (some ⟨w.heap.size + 1 + 1, 1, none⟩))] (by rfl) (by kernel_rfl) (by kernel_rfl) (by kernel_rfl) (by kernel_rfl) (by rfl) (by kernel_rfl) ?hS ?hp ?hs ?he
    case hS => exact gr_drew (Below.refl _ _)
    case hp => repeat' (first | exact trivial | refine ⟨fun _ _ _ _ h => h, ?_⟩)
    case hs =>
      simp only [List.take_succ_cons, List.take_zero]
      refine ⟨?_, ?_, ?_, ?_, ?_, ?_, ?_, trivial⟩
      · refine ⟨met_none rfl, ?_⟩
        intro a W K hS hd hD hf hK
        have e5 : a.tmps.getD 5 undef = .pointer (some ⟨w.heap.size + 1 + 1, 0, none⟩) := hf 5 (by kernel_rfl)
        clear hd hf hD
        go_simp
        exact hK _ _ (Below.refl _ _) hS rfl
      · refine ⟨met_none rfl, ?_⟩
        intro a W K hS hd hD hf hK
        have e22 : a.tmps.getD 22 undef = .pointer (some ⟨w.heap.size + 1 + 1, 1, none⟩) := hd ⟨0, .data⟩ (by simp) rfl
        have c0 := cell_kept hS C0
        clear hd hf hD
        go_simp
        exact hK _ _ (Below.refl _ _) hS rfl
      · refine ⟨met_none rfl, ?_⟩
        intro a W K hS hd hD hf hK
        have e3 : a.tmps.getD 3 undef = .pointer (some ⟨w.heap.size + 1, 0, none⟩) := hf 3 (by kernel_rfl)
        have HD := Lib.hid hD
        have c0 := cell_kept hS R0
        clear hd hf hD
        go_simp
        go_at_call 20
        refine (p3.out (by omega) _ c0).mono ?_
        rintro e w1 ⟨rfl, rfl⟩
        refine (show _ ∧ _ ∧ _ from ⟨HD.out, ?_, ?_⟩)
        · rw [HN.out]; rfl
        · exact gr_call hbW hS
      · refine ⟨met_none rfl, ?_⟩
        intro a W K hS hd hD hf hK
        have p24 := hd ⟨2, .data⟩ (by simp) rfl
        exact p24.elim
      · refine ⟨met_none rfl, ?_⟩
        intro a W K hS hd hD hf hK
        have p25 := hd ⟨3, .data⟩ (by simp) rfl
        exact p25.elim
      · refine ⟨met_none rfl, ?_⟩
        intro a W K hS hd hD hf hK
        have e23 : a.tmps.getD 23 undef = .int .u64 (N1 : Int) := hd ⟨1, .data⟩ (by simp) rfl
        have p26 := hd ⟨4, .data⟩ (by simp) rfl
        exact p26.elim
      · refine ⟨met_none rfl, ?_⟩
        intro a W K hS hd hD hf hK
        have e5 : a.tmps.getD 5 undef = .pointer (some ⟨w.heap.size + 1 + 1, 0, none⟩) := hf 5 (by kernel_rfl)
        clear hd hf hD
        go_simp
        exact hK _ _ (Below.refl _ _) hS rfl
    case he =>
      intro vals w6 K hS6 hV hK
      exact (hV 2 (by omega)).elim
  go_cut [27] from 22 to 28 (fun _ wx => wx = (((w.alloc (.cells #[.int .i64 0, .int .u64 0, .int .u64 0, .bool false, .int .i64 0] 24)).alloc (.cells #[.string X4] 47)).alloc (.cells #[.int .i64 (V : Int), .int .u64 (P : Int), .int .u64 (N2 : Int), .bool E, .int .i64 0] 24)).drew)
  case first =>
    have ho1' := ho1 (IntKind.u64.wrap (IntKind.u64.wrap (N3 : Int) * 4294967296)) (by simp only [IntKind.wrap_u64]; omega)
    go_region_with (first | (go_at_call 20; refine (n3.out k3 _ (by simp [go_sem]) (by simp [go_sem])).mono ?_; rintro e w1 ⟨rfl, rfl⟩))
    all_goals
      go_wp2_with fail
      go_meet
      rfl
  case rest =>
    obtain rfl := hcut
    clear n3 p3
    go_upto_region 7 with fail
    by_cases k4 : 20 ≤ l.length
    case neg =>
      have HN := Lib.hid (HB.out (by omega))
      clear HB
      obtain ⟨W, hW⟩ : ∃ W, (((w.alloc (.cells #[.int .i64 0, .int .u64 0, .int .u64 0, .bool false, .int .i64 0] 24)).alloc (.cells #[.string X4] 47)).alloc (.cells #[.int .i64 (V : Int), .int .u64 (P : Int), .int .u64 (N2 : Int), .bool E, .int .i64 0] 24)).drew = W := ⟨_, rfl⟩
      have C0 : W.cell? ⟨w.heap.size + 1 + 1, 2, none⟩ = some (.int .u64 (N2 : Int)) := by rw [← hW]; simp [go_sem]
      have R0 : W.cell? ⟨w.heap.size + 1, 0, none⟩ = some (.string X4) := by rw [← hW]; simp [go_sem]
      have hbW : Below w.heap.size w W := by rw [← hW]; (repeat' (first | exact Below.refl _ _ | assumption | refine gr_drew ?_ | refine gr_drewN ?_ _ | refine gr_alloc ?_ _ | refine gr_set ?_ ?_ _ | refine gr_call ?_ (by assumption)) <;> (try (simp; done)) <;> (try (simp; omega)) <;> (try omega))
      rw [hW]
      clear hW
      refine region_lastqQL (S := fun Z => Below W.heap.size W Z) 7
        [(fun W v => v = .pointer (some ⟨w.heap.size + 1 + 1, 2, none⟩)),
       (fun W v => v = .int .u64 (N2 : Int)),
       (fun W v => False),
       (fun W v => False),
       (fun W v => False),
       (fun W v => False),
       (fun W v => v = .pointer (some ⟨w.heap.size + 1 + 1, 2, none⟩))] (by rfl) (by kernel_rfl) (by kernel_rfl) (by kernel_rfl) (by kernel_rfl) (by rfl) (by kernel_rfl) ?hS ?hp ?hs ?he
      case hS => exact gr_drew (Below.refl _ _)
      case hp => repeat' (first | exact trivial | refine ⟨fun _ _ _ _ h => h, ?_⟩)
      case hs =>
        simp only [List.take_succ_cons, List.take_zero]
        refine ⟨?_, ?_, ?_, ?_, ?_, ?_, ?_, trivial⟩
        · refine ⟨met_none rfl, ?_⟩
          intro a W K hS hd hD hf hK
          have e5 : a.tmps.getD 5 undef = .pointer (some ⟨w.heap.size + 1 + 1, 0, none⟩) := hf 5 (by kernel_rfl)
          clear hd hf hD
          go_simp
          exact hK _ _ (Below.refl _ _) hS rfl
        · refine ⟨met_none rfl, ?_⟩
          intro a W K hS hd hD hf hK
          have e29 : a.tmps.getD 29 undef = .pointer (some ⟨w.heap.size + 1 + 1, 2, none⟩) := hd ⟨0, .data⟩ (by simp) rfl
          have c0 := cell_kept hS C0
          clear hd hf hD
          go_simp
          exact hK _ _ (Below.refl _ _) hS rfl
        · refine ⟨met_none rfl, ?_⟩
          intro a W K hS hd hD hf hK
          have e3 : a.tmps.getD 3 undef = .pointer (some ⟨w.heap.size + 1, 0, none⟩) := hf 3 (by kernel_rfl)
          have HD := Lib.hid hD
          have c0 := cell_kept hS R0
          clear hd hf hD
          go_simp
          go_at_call 20
          refine (p4.out (by omega) _ c0).mono ?_
          rintro e w1 ⟨rfl, rfl⟩
          refine (show _ ∧ _ ∧ _ from ⟨HD.out, ?_, ?_⟩)
          · rw [HN.out]; rfl
          · exact gr_call hbW hS
        · refine ⟨met_none rfl, ?_⟩
          intro a W K hS hd hD hf hK
          have p31 := hd ⟨2, .data⟩ (by simp) rfl
          exact p31.elim
        · refine ⟨met_none rfl, ?_⟩
          intro a W K hS hd hD hf hK
          have p32 := hd ⟨3, .data⟩ (by simp) rfl
          exact p32.elim
        · refine ⟨met_none rfl, ?_⟩
          intro a W K hS hd hD hf hK
          have e30 : a.tmps.getD 30 undef = .int .u64 (N2 : Int) := hd ⟨1, .data⟩ (by simp) rfl
          have p33 := hd ⟨4, .data⟩ (by simp) rfl
          exact p33.elim
        · refine ⟨met_none rfl, ?_⟩
          intro a W K hS hd hD hf hK
          have e5 : a.tmps.getD 5 undef = .pointer (some ⟨w.heap.size + 1 + 1, 0, none⟩) := hf 5 (by kernel_rfl)
          clear hd hf hD
          go_simp
          exact hK _ _ (Below.refl _ _) hS rfl
      case he =>
        intro vals w6 K hS6 hV hK
        exact (hV 2 (by omega)).elim
    go_cut [34] from 29 to 35 (fun _ wx => wx = (((w.alloc (.cells #[.int .i64 0, .int .u64 0, .int .u64 0, .bool false, .int .i64 0] 24)).alloc (.cells #[.string X5] 47)).alloc (.cells #[.int .i64 (V : Int), .int .u64 (P : Int), .int .u64 (I : Int), .bool E, .int .i64 0] 24)).drew.drew)
    case first =>
      have ho2' := ho2 (IntKind.u64.wrap (IntKind.u64.wrap (N4 : Int) * 4294967296)) (by simp only [IntKind.wrap_u64]; omega)
      go_region_with (first | (go_at_call 20; refine (n4.out k4 _ (by simp [go_sem]) (by simp [go_sem])).mono ?_; rintro e w1 ⟨rfl, rfl⟩))
      all_goals
        go_wp2_with fail
        go_meet
        rfl
    case rest =>
      obtain rfl := hcut
      clear n4 p4
      by_cases hV3 : V = 3
      · subst hV3
        rw [if_pos rfl] at Ho HF
        by_cases k5 : 24 ≤ l.length
        case neg =>
          go_wp2_with fail
          refine (p5.out (by omega) _ (by simp [go_sem])).mono ?_
          rintro e w1 ⟨rfl, rfl⟩
          have HN := Lib.hid (HB.out (fun h => by simp at h; omega))
          clear HB
          go_wp2_with fail
          exact ⟨rfl, by rw [HN.out]; rfl, by (repeat' (first | exact Below.refl _ _ | assumption | refine gr_drew ?_ | refine gr_drewN ?_ _ | refine gr_alloc ?_ _ | refine gr_set ?_ ?_ _ | refine gr_call ?_ (by assumption)) <;> (try (simp; done)) <;> (try (simp; omega)) <;> (try omega))⟩
        have hq5 : (N5 : Int) % 18446744073709551616 = (N5 : Int) := by omega
        go_wp2_with fail
        refine (n5.out k5 _ (by simp [go_sem]) (by simp [go_sem])).mono ?_
        rintro e w1 ⟨rfl, rfl⟩
        clear n5 p5
        go_wp2_with fail
        have hput := Lib.hid (fun W => Put_any ⟨3, P, I, E, (N5 : Nat)⟩ HF.out W)
        unfold capV at hput
        simp only at hput
        have Hq := Lib.hid (str_beq (strOf (putL ⟨3, P, I, E, (N5 : Nat)⟩)) S)
        rw [strOf_list, HS.out] at Hq
        obtain ⟨Q, hQ⟩ : ∃ Q, strOf (putL ⟨3, P, I, E, (N5 : Nat)⟩) = Q := ⟨_, rfl⟩
        rw [hQ] at hput Hq
        clear hQ
        obtain ⟨W, hW⟩ : ∃ W, (((w.alloc (.cells #[.int .i64 0, .int .u64 0, .int .u64 0, .bool false, .int .i64 0] 24)).alloc (.cells #[.string X6] 47)).alloc (.cells #[.int .i64 3, .int .u64 (P : Int), .int .u64 (I : Int), .bool E, .int .i64 (N5 : Int)] 24)).drew.drew = W := ⟨_, rfl⟩
        have a0 : W.cell? ⟨w.heap.size, 0, none⟩ = some (.int .i64 0) := by rw [← hW]; simp [go_sem]
        have a1 : W.cell? ⟨w.heap.size, 1, none⟩ = some (.int .u64 0) := by rw [← hW]; simp [go_sem]
        have a2 : W.cell? ⟨w.heap.size, 2, none⟩ = some (.int .u64 0) := by rw [← hW]; simp [go_sem]
        have a3 : W.cell? ⟨w.heap.size, 3, none⟩ = some (.bool false) := by rw [← hW]; simp [go_sem]
        have a4 : W.cell? ⟨w.heap.size, 4, none⟩ = some (.int .i64 0) := by rw [← hW]; simp [go_sem]
        have f0 : W.frozen? ⟨w.heap.size, 0, none⟩ = false := by rw [← hW]; simp [go_sem]
        have f1 : W.frozen? ⟨w.heap.size, 1, none⟩ = false := by rw [← hW]; simp [go_sem]
        have f2 : W.frozen? ⟨w.heap.size, 2, none⟩ = false := by rw [← hW]; simp [go_sem]
        have f3 : W.frozen? ⟨w.heap.size, 3, none⟩ = false := by rw [← hW]; simp [go_sem]
        have f4 : W.frozen? ⟨w.heap.size, 4, none⟩ = false := by rw [← hW]; simp [go_sem]
        have c0 : W.cell? ⟨w.heap.size + 1 + 1, 0, none⟩ = some (.int .i64 3) := by rw [← hW]; simp [go_sem]
        have c1 : W.cell? ⟨w.heap.size + 1 + 1, 1, none⟩ = some (.int .u64 (P : Int)) := by rw [← hW]; simp [go_sem]
        have c2 : W.cell? ⟨w.heap.size + 1 + 1, 2, none⟩ = some (.int .u64 (I : Int)) := by rw [← hW]; simp [go_sem]
        have c3 : W.cell? ⟨w.heap.size + 1 + 1, 3, none⟩ = some (.bool E) := by rw [← hW]; simp [go_sem]
        have c4 : W.cell? ⟨w.heap.size + 1 + 1, 4, none⟩ = some (.int .i64 (N5 : Int)) := by rw [← hW]; simp [go_sem]
        have hbW : Below w.heap.size w W := by rw [← hW]; (repeat' (first | exact Below.refl _ _ | assumption | refine gr_drew ?_ | refine gr_drewN ?_ _ | refine gr_alloc ?_ _ | refine gr_set ?_ ?_ _ | refine gr_call ?_ (by assumption)) <;> (try (simp; done)) <;> (try (simp; omega)) <;> (try omega))
        refine (hput.out _).mono ?_
        rintro e w1 ⟨rfl, hb1⟩
        replace hb1 : Below W.heap.size W w1 := by rw [← hW]; exact hb1
        clear hW hput hv hq0 hq1 hq2 ho1 ho2
        replace f0 := free_kept hb1 a0 f0
        replace f1 := free_kept hb1 a1 f1
        replace f2 := free_kept hb1 a2 f2
        replace f3 := free_kept hb1 a3 f3
        replace f4 := free_kept hb1 a4 f4
        replace a0 := cell_kept hb1 a0
        replace a1 := cell_kept hb1 a1
        replace a2 := cell_kept hb1 a2
        replace a3 := cell_kept hb1 a3
        replace a4 := cell_kept hb1 a4
        replace c0 := cell_kept hb1 c0
        replace c1 := cell_kept hb1 c1
        replace c2 := cell_kept hb1 c2
        replace c3 := cell_kept hb1 c3
        replace c4 := cell_kept hb1 c4
        have hbl := gr_call hbW hb1
        clear hbW hb1
        by_cases hp : putL ⟨3, P, I, E, (N5 : Nat)⟩ = l
        · have hq := Hq.out.trans (decide_eq_true hp)
          have HO := Lib.hid (Ho.out.symm.trans (if_pos hp))
          clear Ho Hq hp
          go_wp2_with fail
          clear c0 c1 c2 c3 c4
          exact bodyPost_ret (v := capV ⟨3, P, I, E, (N5 : Nat)⟩) (by simp [results, Try.results16, go_sem, capV, *]) rfl ⟨by rw [HO.out]; rfl, by repeat' (first | exact hbl | refine gr_set ?_ (Nat.le_refl _) _)⟩
        · have hq := Hq.out.trans (decide_eq_false hp)
          have HO := Lib.hid (Ho.out.symm.trans (if_neg hp))
          clear Ho Hq hp
          go_wp2_with fail
          exact ⟨rfl, by rw [HO.out]; rfl, hbl⟩
      · have t3 : ((V : Int) == 3) = false := by simp; omega
        rw [if_neg hV3] at Ho HF
        go_wp2_with fail
        have hput := Lib.hid (fun W => Put_any ⟨(V : Int), P, I, E, (0 : Nat)⟩ HF.out W)
        unfold capV at hput
        simp only at hput
        have Hq := Lib.hid (str_beq (strOf (putL ⟨(V : Int), P, I, E, (0 : Nat)⟩)) S)
        rw [strOf_list, HS.out] at Hq
        obtain ⟨Q, hQ⟩ : ∃ Q, strOf (putL ⟨(V : Int), P, I, E, (0 : Nat)⟩) = Q := ⟨_, rfl⟩
        rw [hQ] at hput Hq
        clear hQ
        obtain ⟨W, hW⟩ : ∃ W, (((w.alloc (.cells #[.int .i64 0, .int .u64 0, .int .u64 0, .bool false, .int .i64 0] 24)).alloc (.cells #[.string X5] 47)).alloc (.cells #[.int .i64 (V : Int), .int .u64 (P : Int), .int .u64 (I : Int), .bool E, .int .i64 0] 24)).drew.drew = W := ⟨_, rfl⟩
        have a0 : W.cell? ⟨w.heap.size, 0, none⟩ = some (.int .i64 0) := by rw [← hW]; simp [go_sem]
        have a1 : W.cell? ⟨w.heap.size, 1, none⟩ = some (.int .u64 0) := by rw [← hW]; simp [go_sem]
        have a2 : W.cell? ⟨w.heap.size, 2, none⟩ = some (.int .u64 0) := by rw [← hW]; simp [go_sem]
        have a3 : W.cell? ⟨w.heap.size, 3, none⟩ = some (.bool false) := by rw [← hW]; simp [go_sem]
        have a4 : W.cell? ⟨w.heap.size, 4, none⟩ = some (.int .i64 0) := by rw [← hW]; simp [go_sem]
        have f0 : W.frozen? ⟨w.heap.size, 0, none⟩ = false := by rw [← hW]; simp [go_sem]
        have f1 : W.frozen? ⟨w.heap.size, 1, none⟩ = false := by rw [← hW]; simp [go_sem]
        have f2 : W.frozen? ⟨w.heap.size, 2, none⟩ = false := by rw [← hW]; simp [go_sem]
        have f3 : W.frozen? ⟨w.heap.size, 3, none⟩ = false := by rw [← hW]; simp [go_sem]
        have f4 : W.frozen? ⟨w.heap.size, 4, none⟩ = false := by rw [← hW]; simp [go_sem]
        have c0 : W.cell? ⟨w.heap.size + 1 + 1, 0, none⟩ = some (.int .i64 (V : Int)) := by rw [← hW]; simp [go_sem]
        have c1 : W.cell? ⟨w.heap.size + 1 + 1, 1, none⟩ = some (.int .u64 (P : Int)) := by rw [← hW]; simp [go_sem]
        have c2 : W.cell? ⟨w.heap.size + 1 + 1, 2, none⟩ = some (.int .u64 (I : Int)) := by rw [← hW]; simp [go_sem]
        have c3 : W.cell? ⟨w.heap.size + 1 + 1, 3, none⟩ = some (.bool E) := by rw [← hW]; simp [go_sem]
        have c4 : W.cell? ⟨w.heap.size + 1 + 1, 4, none⟩ = some (.int .i64 0) := by rw [← hW]; simp [go_sem]
        have hbW : Below w.heap.size w W := by rw [← hW]; (repeat' (first | exact Below.refl _ _ | assumption | refine gr_drew ?_ | refine gr_drewN ?_ _ | refine gr_alloc ?_ _ | refine gr_set ?_ ?_ _ | refine gr_call ?_ (by assumption)) <;> (try (simp; done)) <;> (try (simp; omega)) <;> (try omega))
        refine (hput.out _).mono ?_
        rintro e w1 ⟨rfl, hb1⟩
        replace hb1 : Below W.heap.size W w1 := by rw [← hW]; exact hb1
        clear hW hput hv hq0 hq1 hq2 ho1 ho2
        replace f0 := free_kept hb1 a0 f0
        replace f1 := free_kept hb1 a1 f1
        replace f2 := free_kept hb1 a2 f2
        replace f3 := free_kept hb1 a3 f3
        replace f4 := free_kept hb1 a4 f4
        replace a0 := cell_kept hb1 a0
        replace a1 := cell_kept hb1 a1
        replace a2 := cell_kept hb1 a2
        replace a3 := cell_kept hb1 a3
        replace a4 := cell_kept hb1 a4
        replace c0 := cell_kept hb1 c0
        replace c1 := cell_kept hb1 c1
        replace c2 := cell_kept hb1 c2
        replace c3 := cell_kept hb1 c3
        replace c4 := cell_kept hb1 c4
        have hbl := gr_call hbW hb1
        clear hbW hb1
        by_cases hp : putL ⟨(V : Int), P, I, E, (0 : Nat)⟩ = l
        · have hq := Hq.out.trans (decide_eq_true hp)
          have HO := Lib.hid (Ho.out.symm.trans (if_pos hp))
          clear Ho Hq hp
          go_wp2_with fail
          clear c0 c1 c2 c3 c4
          exact bodyPost_ret (v := capV ⟨(V : Int), P, I, E, (0 : Nat)⟩) (by simp [results, Try.results16, go_sem, capV, *]) rfl ⟨by rw [HO.out]; rfl, by repeat' (first | exact hbl | refine gr_set ?_ (Nat.le_refl _) _)⟩
        · have hq := Hq.out.trans (decide_eq_false hp)
          have HO := Lib.hid (Ho.out.symm.trans (if_neg hp))
          clear Ho Hq hp
          go_wp2_with fail
          exact ⟨rfl, by rw [HO.out]; rfl, hbl⟩
end Go.Proofs.Ytijagjahocjaaaa
