/- The law CapsBits, walked. -/
import Derived.Test.YtijagjahocjaaaaCapsAwake
import Derived.Deep.CutRange
import Derived.Test.YtijagjahocjaaaaLater
namespace Go.Proofs.Ytijagjahocjaaaa
open Go.RowKit
open CapsM
set_option linter.unusedVariables false

/-- The bytes from the fifth on, so many, together. -/
def sumB (l : List UInt8) : Nat → Nat
  | 0 => 0
  | k + 1 => sumB l k + ((l[4 + k]?).map (·.toNat)).getD 0
theorem sumB_le (l : List UInt8) : ∀ k, sumB l k ≤ 255 * k
  | 0 => Nat.le_refl _
  | k + 1 => by
    have h1 := sumB_le l k
    have h2 : ((l[4 + k]?).map (·.toNat)).getD 0 ≤ 255 := by
      cases l[4 + k]? with
      | none => simp
      | some c => have := c.toNat_lt; simp; omega
    simp only [sumB]
    omega
def ver (b : Bool) : Int := if b then 3 else 2
def placeN (n : Nat) : Nat := 4 + n % 32 / 8 + if 32 ≤ n then 8 else 0
def bitsOk (b : Bool) (n : Nat) : Bool :=
  decide (20 ≤ (putL ⟨ver b, 2 ^ n, 0, false, 0⟩).length) && decide (20 ≤ (putL ⟨ver b, 0, 2 ^ n, false, 0⟩).length) &&
  decide ((putL ⟨ver b, 2 ^ n, 0, false, 0⟩)[placeN n]? = some (UInt8.ofNat (2 ^ (n % 8)))) && decide ((putL ⟨ver b, 0, 2 ^ n, false, 0⟩)[placeN n + 4]? = some (UInt8.ofNat (2 ^ (n % 8)))) &&
  decide (sumB (putL ⟨ver b, 2 ^ n, 0, false, 0⟩) 16 = 2 ^ (n % 8)) && decide (sumB (putL ⟨ver b, 0, 2 ^ n, false, 0⟩) 16 = 2 ^ (n % 8))
theorem bits_ok : ∀ b : Bool, ∀ n, n < 64 → bitsOk b n = true := by decide +kernel

set_option maxHeartbeats 3200000 in
set_option maxRecDepth 100000 in
theorem bits_case (m n : Nat) (b : Bool) (hm : m < 256) (hn : m % 64 = n) (w : World) :
    Calls Try.prog 5 #[.int .u8 (m : Int), .bool b] w fun e w' => e = .returned (.bool true) ∧ Below w.heap.size w w' := by
  have hn64 : n < 64 := by omega
  have hok := bits_ok b n hn64
  unfold bitsOk at hok
  simp only [Bool.and_eq_true, decide_eq_true_eq] at hok
  obtain ⟨⟨⟨⟨⟨hl1, hl2⟩, ha1⟩, ha2⟩, hs1⟩, hs2⟩ := hok
  have hp : (2 : Nat) ^ n < 18446744073709551616 := Nat.lt_of_lt_of_le (Nat.pow_lt_pow_right (by decide) hn64) (by decide)
  have hput1 := Put_any ⟨ver b, 2 ^ n, 0, false, 0⟩ (by unfold Fits; simp; exact hp)
  have hput2 := Put_any ⟨ver b, 0, 2 ^ n, false, 0⟩ (by unfold Fits; simp; exact hp)
  obtain ⟨P, hP⟩ : ∃ P, 2 ^ n = P := ⟨_, rfl⟩
  have hw : IntKind.u64.wrap (2 ^ n) = (P : Int) := by
    rw [IntKind.wrap_u64, ← hP]
    have : ((2 : Int) ^ n) = ((2 ^ n : Nat) : Int) := by simp
    rw [this]
    omega
  rw [hP] at hl1 hl2 ha1 ha2 hs1 hs2 hput1 hput2
  obtain ⟨L, hL⟩ : ∃ L, putL ⟨ver b, P, 0, false, 0⟩ = L := ⟨_, rfl⟩
  obtain ⟨M, hM⟩ : ∃ L, putL ⟨ver b, 0, P, false, 0⟩ = L := ⟨_, rfl⟩
  rw [hL] at hl1 ha1 hs1 hput1
  rw [hM] at hl2 ha2 hs2 hput2
  clear hL hM hP hp
  obtain ⟨T, hT⟩ : ∃ T, strOf L = T := ⟨_, rfl⟩
  obtain ⟨U, hU⟩ : ∃ T, strOf M = T := ⟨_, rfl⟩
  have hTl : T.data.toList = L := by rw [← hT, strOf_list]
  have hUl : U.data.toList = M := by rw [← hU, strOf_list]
  rw [hT] at hput1
  rw [hU] at hput2
  rw [← hTl, len_list] at hl1
  rw [← hUl, len_list] at hl2
  clear hT hU
  unfold capV at hput1 hput2
  simp only at hput1 hput2
  have Hp1 := Lib.hid hput1
  have Hp2 := Lib.hid hput2
  have HL := Lib.hid hTl
  have HM := Lib.hid hUl
  have HA1 := Lib.hid ha1
  have HA2 := Lib.hid ha2
  have HS1 := Lib.hid hs1
  have HS2 := Lib.hid hs2
  obtain ⟨y, hy⟩ : ∃ y, T.size = y := ⟨_, rfl⟩
  obtain ⟨z, hz⟩ : ∃ y, U.size = y := ⟨_, rfl⟩
  rw [hy] at hl1
  rw [hz] at hl2
  have hq : Int.tmod (m : Int) 64 = (n : Int) := by rw [← hn]; rfl
  have hq2 : (m : Int) % 64 = (n : Int) := by rw [← hn]; rfl
  have d1 : decide ((y : Int) < 20) = false := decide_eq_false (by omega)
  have d2 : decide ((z : Int) < 20) = false := decide_eq_false (by omega)
  have d3 : decide (y < 20) = false := decide_eq_false (by omega)
  have d4 : decide (z < 20) = false := decide_eq_false (by omega)
  clear hput1 hput2 hTl hUl ha1 ha2 hs1 hs2 hn
  rcases b with _ | _
  · rw [show ver false = 2 from rfl] at Hp1 Hp2
    go_enter Try.func5, Try.ntmps5
    go_wp2_with fail
    obtain ⟨W, hW⟩ : ∃ W, (w.alloc (.cells #[.int .i64 2, .int .u64 (P : Int), .int .u64 0, .bool false, .int .i64 0] 24)).alloc (.cells #[.int .i64 2, .int .u64 0, .int .u64 (P : Int), .bool false, .int .i64 0] 24) = W := ⟨_, rfl⟩
    rw [hW]
    have c0 : W.cell? ⟨w.heap.size, 0, none⟩ = some (.int .i64 2) := by rw [← hW]; simp [go_sem]
    have c1 : W.cell? ⟨w.heap.size, 1, none⟩ = some (.int .u64 (P : Int)) := by rw [← hW]; simp [go_sem]
    have c2 : W.cell? ⟨w.heap.size, 2, none⟩ = some (.int .u64 0) := by rw [← hW]; simp [go_sem]
    have c3 : W.cell? ⟨w.heap.size, 3, none⟩ = some (.bool false) := by rw [← hW]; simp [go_sem]
    have c4 : W.cell? ⟨w.heap.size, 4, none⟩ = some (.int .i64 0) := by rw [← hW]; simp [go_sem]
    have x0 : W.cell? ⟨w.heap.size + 1, 0, none⟩ = some (.int .i64 2) := by rw [← hW]; simp [go_sem]
    have x1 : W.cell? ⟨w.heap.size + 1, 1, none⟩ = some (.int .u64 0) := by rw [← hW]; simp [go_sem]
    have x2 : W.cell? ⟨w.heap.size + 1, 2, none⟩ = some (.int .u64 (P : Int)) := by rw [← hW]; simp [go_sem]
    have x3 : W.cell? ⟨w.heap.size + 1, 3, none⟩ = some (.bool false) := by rw [← hW]; simp [go_sem]
    have x4 : W.cell? ⟨w.heap.size + 1, 4, none⟩ = some (.int .i64 0) := by rw [← hW]; simp [go_sem]
    have hbW : Below w.heap.size w W := by rw [← hW]; (repeat' (first | exact Below.refl _ _ | assumption | refine gr_drew ?_ | refine gr_drewN ?_ _ | refine gr_alloc ?_ _ | refine gr_set ?_ ?_ _ | refine gr_call ?_ (by assumption)) <;> (try (simp; done)) <;> (try (simp; omega)) <;> (try omega))
    clear hW
    go_cut [8, 9] from 26 to 29 (fun s8 s9 wx => s8 = .string T ∧ s9 = .string U ∧ Below w.heap.size w wx)
    case first =>
      go_region_with (first | (have y9 := y0; clear y9; go_at_call 12; refine (Hp2.out _).mono ?_; rintro e w2 ⟨rfl, hb2⟩) | (go_at_call 12; refine (Hp1.out _).mono ?_; rintro e w1 ⟨rfl, hb1⟩; have hy1 := gr_call (gr_drew (Below.refl _ W)) hb1; have y0 := cell_kept hy1 x0; have y1 := cell_kept hy1 x1; have y2 := cell_kept hy1 x2; have y3 := cell_kept hy1 x3; have y4 := cell_kept hy1 x4; clear hb1))
      all_goals
        go_wp2_with fail
        go_meet
        exact ⟨rfl, rfl, gr_call (gr_call hbW hy1) hb2⟩
    case rest =>
      obtain ⟨rfl, rfl, hbl⟩ := hcut
      clear c0 c1 c2 c3 c4 x0 x1 x2 x3 x4 hbW Hp1 Hp2
      have bT := Lib.hid (fun j (h : j < 20) => idxAt (P := Try.prog) Try.underlying9 T j (by omega))
      have bU := Lib.hid (fun j (h : j < 20) => idxAt (P := Try.prog) Try.underlying9 U j (by omega))
      rw [HL.out] at bT
      rw [HM.out] at bU
      by_cases h32 : 32 ≤ n
      · have t32 : decide (32 ≤ (n : Int)) = true := decide_eq_true (by omega)
        have t33 : decide (32 ≤ n) = true := decide_eq_true h32
        obtain ⟨q0, hq0⟩ : ∃ q, 4 + n % 32 / 8 = q := ⟨_, rfl⟩
        obtain ⟨q, hq1⟩ : ∃ q, q0 + 8 = q := ⟨_, rfl⟩
        have hat0 : 4 + (n : Int) % 32 / 8 = (q0 : Int) := by rw [← hq0]; rfl
        have hat1 : (q0 : Int) + 8 = (q : Int) := by rw [← hq1]; rfl
        have hplace : placeN n = q := by unfold placeN; rw [if_pos h32, hq0, hq1]
        have hqb : q < 16 := by omega
        rw [hplace] at HA1 HA2
        clear hplace hq0 hq1 h32
        go_wp2_with fail
        go_loopw [11, 12, 13] (fun av bv iv wr => wr = wc ∧ ∃ k s t : Nat, iv = .int .i64 ((4 + k : Nat) : Int) ∧ k ≤ 16 ∧ av = .int .i64 (s : Int) ∧ bv = .int .i64 (t : Int) ∧ Hid (s = sumB L k) ∧ Hid (t = sumB M k)) (fun _ _ iv _ => 20 - (intOf iv).toNat)
        case atStart => exact ⟨rfl, 0, 0, 0, rfl, by omega, rfl, rfl, Lib.hid rfl, Lib.hid rfl⟩
        case round =>
          obtain ⟨rfl, k, s, t, rfl, hk, rfl, rfl, HS, HT⟩ := hrel
          obtain ⟨j, hj⟩ : ∃ j, 4 + k = j := ⟨_, rfl⟩
          have hs := sumB_le L k
          have ht := sumB_le M k
          rw [← HS.out] at hs
          rw [← HT.out] at ht
          rw [hj]
          by_cases hlt : j < 20
          · have hlt' : decide ((j : Int) < 20) = true := decide_eq_true (by omega)
            have hlt2 : decide (j < 20) = true := decide_eq_true hlt
            obtain ⟨c, hc1, hc2⟩ := bT.out j hlt
            obtain ⟨d, hd1, hd2⟩ := bU.out j hlt
            have HS' := Lib.hid (show s + c.toNat = sumB L (k + 1) by simp only [sumB]; rw [hj, hc1, HS.out]; rfl)
            have HT' := Lib.hid (show t + d.toNat = sumB M (k + 1) by simp only [sumB]; rw [hj, hd1, HT.out]; rfl)
            have hcl := c.toNat_lt
            have hdl := d.toNat_lt
            clear hc1 hd1 HS HT
            have Hj := Lib.hid hj
            clear hj
            go_wp2_with fail
            go_roundw
            case rel => exact ⟨trivial, k + 1, s + c.toNat, t + d.toNat, by have := Hj.out; congr 1; omega, by have := Hj.out; omega, rfl, rfl, HS', HT'⟩
            case measure => simp only [intOf]; omega
          · have hlt' : decide ((j : Int) < 20) = false := decide_eq_false (by omega)
            have hlt2 : decide (j < 20) = false := decide_eq_false hlt
            obtain rfl : k = 16 := by omega
            have e1 := HS.out.trans HS1.out
            have e2 := HT.out.trans HS2.out
            obtain ⟨x, hx⟩ : ∃ x, 2 ^ (n % 8) = x := ⟨_, rfl⟩
            obtain ⟨r, hrr⟩ : ∃ r, n % 8 = r := ⟨_, rfl⟩
            have hr8 : r < 8 := by omega
            have hx256 : x < 256 := by
              rw [← hx, hrr]
              exact Nat.lt_of_lt_of_le (Nat.pow_lt_pow_right (by decide) hr8) (by decide)
            have hxb : (UInt8.ofNat x).toNat = x := by simp; omega
            have hi1 : ∀ w, (Instr.index 9 (.string T) (.int .i64 (q : Int))).run Try.prog w = .ok (.int .u8 (x : Int)) w := by
              obtain ⟨c, h1, h2⟩ := bT.out q (by omega)
              rw [HA1.out, hx] at h1
              rw [← Option.some.inj h1, hxb] at h2
              exact h2
            obtain ⟨p, hp4⟩ : ∃ p, q + 4 = p := ⟨_, rfl⟩
            have hi2 : ∀ w, (Instr.index 9 (.string U) (.int .i64 (p : Int))).run Try.prog w = .ok (.int .u8 (x : Int)) w := by
              obtain ⟨c, h1, h2⟩ := bU.out p (by omega)
              rw [← hp4, HA2.out, hx] at h1
              rw [← Option.some.inj h1, hxb] at h2
              exact h2
            have ht8 : Int.tmod (n : Int) 8 = (r : Int) := by rw [← hrr]; rfl
            have hm8 : (n : Int) % 8 = (r : Int) := by rw [← hrr]; rfl
            have hw8 : IntKind.u8.wrap (2 ^ r) = (x : Int) := by
              have h : ((2 : Int) ^ r) = ((2 ^ r : Nat) : Int) := by simp
              rw [← hrr, show (2 : Int) ^ (n % 8) = ((2 ^ (n % 8) : Nat) : Int) by simp, hx, IntKind.wrap_u8']
              omega
            have hwq : IntKind.i64.wrap ((q : Int) + 4) = (p : Int) := by rw [IntKind.wrap_i64]; omega
            have hwx : IntKind.i64.wrap (x : Int) = (x : Int) := by rw [IntKind.wrap_i64]; omega
            rw [hx] at e1 e2
            clear HS HT
            subst s t
            clear bT bU HS1 HS2 HA1 HA2 HL HM hx hrr hxb hp4 hs ht hy hz hq hq2
            go_wp2_with fail
            refine region_lastqgL (S := fun W => Below w.heap.size w W) 37
              [(fun W v => v = .string T),
     (fun W v => v = .int .i64 (q : Int)),
     (fun W v => v = .int .u8 (x : Int)),
     (fun W v => v = .int .i64 (n : Int)),
     (fun W v => v = .int .i64 (r : Int)),
     (fun W v => v = .int .u8 (x : Int)),
     (fun W v => v = .bool true),
     (fun W v => v = .bool true),
     (fun W v => v = .string U),
     (fun W v => v = .int .i64 (q : Int)),
     (fun W v => v = .int .i64 (p : Int)),
     (fun W v => v = .int .u8 (x : Int)),
     (fun W v => v = .int .i64 (n : Int)),
     (fun W v => v = .int .i64 (r : Int)),
     (fun W v => v = .int .u8 (x : Int)),
     (fun W v => v = .bool true),
     (fun W v => v = .bool true),
     (fun W v => v = .bool true),
     (fun W v => v = .int .i64 (x : Int)),
     (fun W v => v = .string T),
     (fun W v => v = .int .i64 (q : Int)),
     (fun W v => v = .int .u8 (x : Int)),
     (fun W v => v = .int .i64 (x : Int)),
     (fun W v => v = .bool true),
     (fun W v => v = .bool true),
     (fun W v => v = .bool true),
     (fun W v => v = .int .i64 (x : Int)),
     (fun W v => v = .string U),
     (fun W v => v = .int .i64 (q : Int)),
     (fun W v => v = .int .i64 (p : Int)),
     (fun W v => v = .int .u8 (x : Int)),
     (fun W v => v = .int .i64 (x : Int)),
     (fun W v => v = .bool true),
     (fun W v => v = .bool true),
     (fun W v => v = .bool true),
     (fun W v => v = .bool true),
     (fun W v => v = .bool true)] (by rfl) (by kernel_rfl) (by kernel_rfl) (by kernel_rfl) (by kernel_rfl) (by rfl) (by kernel_rfl) ?hS ?hp ?hs ?he
            case hS => exact gr_drew hbl
            case hp => repeat' (first | exact trivial | refine ⟨fun _ _ _ _ h => h, ?_⟩)
            case hs =>
              simp only [List.take_succ_cons, List.take_zero]
              clear hbl
              refine ⟨?_, ?_, ?_, ?_, ?_, ?_, ?_, ?_, ?_, ?_, ?_, ?_, ?_, ?_, ?_, ?_, ?_, ?_, ?_, ?_, ?_, ?_, ?_, ?_, ?_, ?_, ?_, ?_, ?_, ?_, ?_, ?_, ?_, ?_, ?_, ?_, ?_, trivial⟩
              · refine ⟨met_none rfl, ?_⟩
                intro a W K hS hd hf hK
                have e8 : a.tmps.getD 8 undef = .string T := hf 8 (by kernel_rfl)
                clear hd hf
                go_simp
                exact hK _ _ (Below.refl _ _) hS rfl
              · refine ⟨met_none rfl, ?_⟩
                intro a W K hS hd hf hK
                have e10 : a.tmps.getD 10 undef = .int .i64 (q : Int) := hf 10 (by kernel_rfl)
                clear hd hf
                go_simp
                exact hK _ _ (Below.refl _ _) hS rfl
              · refine ⟨met_none rfl, ?_⟩
                intro a W K hS hd hf hK
                have e62 : a.tmps.getD 62 undef = .string T := hd ⟨0, .data⟩ (by simp) rfl
                have e63 : a.tmps.getD 63 undef = .int .i64 (q : Int) := hd ⟨1, .data⟩ (by simp) rfl
                clear hd hf
                go_simp
                exact hK _ _ (Below.refl _ _) hS rfl
              · refine ⟨met_none rfl, ?_⟩
                intro a W K hS hd hf hK
                have e5 : a.tmps.getD 5 undef = .int .i64 (n : Int) := hf 5 (by kernel_rfl)
                clear hd hf
                go_simp
                exact hK _ _ (Below.refl _ _) hS rfl
              · refine ⟨met_none rfl, ?_⟩
                intro a W K hS hd hf hK
                have e65 : a.tmps.getD 65 undef = .int .i64 (n : Int) := hd ⟨3, .data⟩ (by simp) rfl
                clear hd hf
                go_simp
                exact hK _ _ (Below.refl _ _) hS rfl
              · refine ⟨met_none rfl, ?_⟩
                intro a W K hS hd hf hK
                have e66 : a.tmps.getD 66 undef = .int .i64 (r : Int) := hd ⟨4, .data⟩ (by simp) rfl
                clear hd hf
                go_simp
                exact hK _ _ (Below.refl _ _) hS rfl
              · refine ⟨met_none rfl, ?_⟩
                intro a W K hS hd hf hK
                have e64 : a.tmps.getD 64 undef = .int .u8 (x : Int) := hd ⟨2, .data⟩ (by simp) rfl
                have e67 : a.tmps.getD 67 undef = .int .u8 (x : Int) := hd ⟨5, .data⟩ (by simp) rfl
                clear hd hf
                go_simp
                exact hK _ _ (Below.refl _ _) hS rfl
              · refine ⟨met_none rfl, ?_⟩
                intro a W K hS hd hf hK
                have e68 : a.tmps.getD 68 undef = .bool true := hd ⟨6, .data⟩ (by simp) rfl
                clear hd hf
                go_simp
                exact hK _ _ (Below.refl _ _) hS rfl
              · refine ⟨met_some 7 true rfl (fun w v h => h), ?_⟩
                intro a W K hS hd hf hK
                have e9 : a.tmps.getD 9 undef = .string U := hf 9 (by kernel_rfl)
                clear hd hf
                go_simp
                exact hK _ _ (Below.refl _ _) hS rfl
              · refine ⟨met_some 7 true rfl (fun w v h => h), ?_⟩
                intro a W K hS hd hf hK
                have e10 : a.tmps.getD 10 undef = .int .i64 (q : Int) := hf 10 (by kernel_rfl)
                clear hd hf
                go_simp
                exact hK _ _ (Below.refl _ _) hS rfl
              · refine ⟨met_some 7 true rfl (fun w v h => h), ?_⟩
                intro a W K hS hd hf hK
                have e71 : a.tmps.getD 71 undef = .int .i64 (q : Int) := hd ⟨9, .data⟩ (by simp) rfl
                clear hd hf
                go_simp
                exact hK _ _ (Below.refl _ _) hS rfl
              · refine ⟨met_some 7 true rfl (fun w v h => h), ?_⟩
                intro a W K hS hd hf hK
                have e70 : a.tmps.getD 70 undef = .string U := hd ⟨8, .data⟩ (by simp) rfl
                have e72 : a.tmps.getD 72 undef = .int .i64 (p : Int) := hd ⟨10, .data⟩ (by simp) rfl
                clear hd hf
                go_simp
                exact hK _ _ (Below.refl _ _) hS rfl
              · refine ⟨met_some 7 true rfl (fun w v h => h), ?_⟩
                intro a W K hS hd hf hK
                have e5 : a.tmps.getD 5 undef = .int .i64 (n : Int) := hf 5 (by kernel_rfl)
                clear hd hf
                go_simp
                exact hK _ _ (Below.refl _ _) hS rfl
              · refine ⟨met_some 7 true rfl (fun w v h => h), ?_⟩
                intro a W K hS hd hf hK
                have e74 : a.tmps.getD 74 undef = .int .i64 (n : Int) := hd ⟨12, .data⟩ (by simp) rfl
                clear hd hf
                go_simp
                exact hK _ _ (Below.refl _ _) hS rfl
              · refine ⟨met_some 7 true rfl (fun w v h => h), ?_⟩
                intro a W K hS hd hf hK
                have e75 : a.tmps.getD 75 undef = .int .i64 (r : Int) := hd ⟨13, .data⟩ (by simp) rfl
                clear hd hf
                go_simp
                exact hK _ _ (Below.refl _ _) hS rfl
              · refine ⟨met_some 7 true rfl (fun w v h => h), ?_⟩
                intro a W K hS hd hf hK
                have e73 : a.tmps.getD 73 undef = .int .u8 (x : Int) := hd ⟨11, .data⟩ (by simp) rfl
                have e76 : a.tmps.getD 76 undef = .int .u8 (x : Int) := hd ⟨14, .data⟩ (by simp) rfl
                clear hd hf
                go_simp
                exact hK _ _ (Below.refl _ _) hS rfl
              · refine ⟨met_none rfl, ?_⟩
                intro a W K hS hd hf hK
                have e69 : a.tmps.getD 69 undef = .bool true := hd ⟨7, .data⟩ (by simp) rfl
                have e77 : a.tmps.getD 77 undef = .bool true := hd ⟨15, .data⟩ (by simp) rfl
                clear hd hf
                go_simp
                exact hK _ _ (Below.refl _ _) hS rfl
              · refine ⟨met_none rfl, ?_⟩
                intro a W K hS hd hf hK
                have e78 : a.tmps.getD 78 undef = .bool true := hd ⟨16, .data⟩ (by simp) rfl
                clear hd hf
                go_simp
                exact hK _ _ (Below.refl _ _) hS rfl
              · refine ⟨met_some 17 true rfl (fun w v h => h), ?_⟩
                intro a W K hS hd hf hK
                have e11 : a.tmps.getD 11 undef = .int .i64 (x : Int) := hf 11 (by kernel_rfl)
                clear hd hf
                go_simp
                exact hK _ _ (Below.refl _ _) hS rfl
              · refine ⟨met_some 17 true rfl (fun w v h => h), ?_⟩
                intro a W K hS hd hf hK
                have e8 : a.tmps.getD 8 undef = .string T := hf 8 (by kernel_rfl)
                clear hd hf
                go_simp
                exact hK _ _ (Below.refl _ _) hS rfl
              · refine ⟨met_some 17 true rfl (fun w v h => h), ?_⟩
                intro a W K hS hd hf hK
                have e10 : a.tmps.getD 10 undef = .int .i64 (q : Int) := hf 10 (by kernel_rfl)
                clear hd hf
                go_simp
                exact hK _ _ (Below.refl _ _) hS rfl
              · refine ⟨met_some 17 true rfl (fun w v h => h), ?_⟩
                intro a W K hS hd hf hK
                have e81 : a.tmps.getD 81 undef = .string T := hd ⟨19, .data⟩ (by simp) rfl
                have e82 : a.tmps.getD 82 undef = .int .i64 (q : Int) := hd ⟨20, .data⟩ (by simp) rfl
                clear hd hf
                go_simp
                exact hK _ _ (Below.refl _ _) hS rfl
              · refine ⟨met_some 17 true rfl (fun w v h => h), ?_⟩
                intro a W K hS hd hf hK
                have e83 : a.tmps.getD 83 undef = .int .u8 (x : Int) := hd ⟨21, .data⟩ (by simp) rfl
                clear hd hf
                go_simp
                exact hK _ _ (Below.refl _ _) hS rfl
              · refine ⟨met_some 17 true rfl (fun w v h => h), ?_⟩
                intro a W K hS hd hf hK
                have e80 : a.tmps.getD 80 undef = .int .i64 (x : Int) := hd ⟨18, .data⟩ (by simp) rfl
                have e84 : a.tmps.getD 84 undef = .int .i64 (x : Int) := hd ⟨22, .data⟩ (by simp) rfl
                clear hd hf
                go_simp
                exact hK _ _ (Below.refl _ _) hS rfl
              · refine ⟨met_none rfl, ?_⟩
                intro a W K hS hd hf hK
                have e79 : a.tmps.getD 79 undef = .bool true := hd ⟨17, .data⟩ (by simp) rfl
                have e85 : a.tmps.getD 85 undef = .bool true := hd ⟨23, .data⟩ (by simp) rfl
                clear hd hf
                go_simp
                exact hK _ _ (Below.refl _ _) hS rfl
              · refine ⟨met_none rfl, ?_⟩
                intro a W K hS hd hf hK
                have e86 : a.tmps.getD 86 undef = .bool true := hd ⟨24, .data⟩ (by simp) rfl
                clear hd hf
                go_simp
                exact hK _ _ (Below.refl _ _) hS rfl
              · refine ⟨met_some 25 true rfl (fun w v h => h), ?_⟩
                intro a W K hS hd hf hK
                have e12 : a.tmps.getD 12 undef = .int .i64 (x : Int) := hf 12 (by kernel_rfl)
                clear hd hf
                go_simp
                exact hK _ _ (Below.refl _ _) hS rfl
              · refine ⟨met_some 25 true rfl (fun w v h => h), ?_⟩
                intro a W K hS hd hf hK
                have e9 : a.tmps.getD 9 undef = .string U := hf 9 (by kernel_rfl)
                clear hd hf
                go_simp
                exact hK _ _ (Below.refl _ _) hS rfl
              · refine ⟨met_some 25 true rfl (fun w v h => h), ?_⟩
                intro a W K hS hd hf hK
                have e10 : a.tmps.getD 10 undef = .int .i64 (q : Int) := hf 10 (by kernel_rfl)
                clear hd hf
                go_simp
                exact hK _ _ (Below.refl _ _) hS rfl
              · refine ⟨met_some 25 true rfl (fun w v h => h), ?_⟩
                intro a W K hS hd hf hK
                have e90 : a.tmps.getD 90 undef = .int .i64 (q : Int) := hd ⟨28, .data⟩ (by simp) rfl
                clear hd hf
                go_simp
                exact hK _ _ (Below.refl _ _) hS rfl
              · refine ⟨met_some 25 true rfl (fun w v h => h), ?_⟩
                intro a W K hS hd hf hK
                have e89 : a.tmps.getD 89 undef = .string U := hd ⟨27, .data⟩ (by simp) rfl
                have e91 : a.tmps.getD 91 undef = .int .i64 (p : Int) := hd ⟨29, .data⟩ (by simp) rfl
                clear hd hf
                go_simp
                exact hK _ _ (Below.refl _ _) hS rfl
              · refine ⟨met_some 25 true rfl (fun w v h => h), ?_⟩
                intro a W K hS hd hf hK
                have e92 : a.tmps.getD 92 undef = .int .u8 (x : Int) := hd ⟨30, .data⟩ (by simp) rfl
                clear hd hf
                go_simp
                exact hK _ _ (Below.refl _ _) hS rfl
              · refine ⟨met_some 25 true rfl (fun w v h => h), ?_⟩
                intro a W K hS hd hf hK
                have e88 : a.tmps.getD 88 undef = .int .i64 (x : Int) := hd ⟨26, .data⟩ (by simp) rfl
                have e93 : a.tmps.getD 93 undef = .int .i64 (x : Int) := hd ⟨31, .data⟩ (by simp) rfl
                clear hd hf
                go_simp
                exact hK _ _ (Below.refl _ _) hS rfl
              · refine ⟨met_none rfl, ?_⟩
                intro a W K hS hd hf hK
                have e87 : a.tmps.getD 87 undef = .bool true := hd ⟨25, .data⟩ (by simp) rfl
                have e94 : a.tmps.getD 94 undef = .bool true := hd ⟨32, .data⟩ (by simp) rfl
                clear hd hf
                go_simp
                exact hK _ _ (Below.refl _ _) hS rfl
              · refine ⟨met_none rfl, ?_⟩
                intro a W K hS hd hf hK
                have e95 : a.tmps.getD 95 undef = .bool true := hd ⟨33, .data⟩ (by simp) rfl
                clear hd hf
                go_simp
                exact hK _ _ (Below.refl _ _) hS rfl
              · refine ⟨met_some 34 true rfl (fun w v h => h), ?_⟩
                intro a W K hS hd hf hK
                clear hd hf
                go_simp
                go_at_call 7
                refine (awake_true _).mono ?_
                rintro e w1 ⟨rfl, hb⟩
                exact hK _ _ hb (gr_call hS hb) rfl
              · refine ⟨met_none rfl, ?_⟩
                intro a W K hS hd hf hK
                have e96 : a.tmps.getD 96 undef = .bool true := hd ⟨34, .data⟩ (by simp) rfl
                have e97 : a.tmps.getD 97 undef = .bool true := hd ⟨35, .data⟩ (by simp) rfl
                clear hd hf
                go_simp
                exact hK _ _ (Below.refl _ _) hS rfl
            case he =>
              intro vals w6 K hS6 hV hK
              have e98 := hV 36 (by omega)
              clear hV
              simp only [List.getD_cons_succ, List.getD_cons_zero] at e98
              clear hbl
              refine Later.mk ?_
              simp only [List.append_eq, List.cons_append, List.nil_append, setN, Nat.reduceAdd, List.setIfInBounds_toArray, List.set_cons_succ, List.set_cons_zero]
              rw [e98]
              go_simp
              refine hK _ _ ?_
              clear hK e98
              go_wp2_with fail
              go_ret
              exact ⟨rfl, hS6⟩
      · have t32 : decide (32 ≤ (n : Int)) = false := decide_eq_false (by omega)
        have t33 : decide (32 ≤ n) = false := decide_eq_false h32
        obtain ⟨q, hq0⟩ : ∃ q, 4 + n % 32 / 8 = q := ⟨_, rfl⟩
        have hat0 : 4 + (n : Int) % 32 / 8 = (q : Int) := by rw [← hq0]; rfl
        have hplace : placeN n = q := by unfold placeN; rw [if_neg h32, hq0]; rfl
        have hqb : q < 16 := by omega
        rw [hplace] at HA1 HA2
        clear hplace hq0 h32
        go_wp2_with fail
        go_loopw [11, 12, 13] (fun av bv iv wr => wr = wc ∧ ∃ k s t : Nat, iv = .int .i64 ((4 + k : Nat) : Int) ∧ k ≤ 16 ∧ av = .int .i64 (s : Int) ∧ bv = .int .i64 (t : Int) ∧ Hid (s = sumB L k) ∧ Hid (t = sumB M k)) (fun _ _ iv _ => 20 - (intOf iv).toNat)
        case atStart => exact ⟨rfl, 0, 0, 0, rfl, by omega, rfl, rfl, Lib.hid rfl, Lib.hid rfl⟩
        case round =>
          obtain ⟨rfl, k, s, t, rfl, hk, rfl, rfl, HS, HT⟩ := hrel
          obtain ⟨j, hj⟩ : ∃ j, 4 + k = j := ⟨_, rfl⟩
          have hs := sumB_le L k
          have ht := sumB_le M k
          rw [← HS.out] at hs
          rw [← HT.out] at ht
          rw [hj]
          by_cases hlt : j < 20
          · have hlt' : decide ((j : Int) < 20) = true := decide_eq_true (by omega)
            have hlt2 : decide (j < 20) = true := decide_eq_true hlt
            obtain ⟨c, hc1, hc2⟩ := bT.out j hlt
            obtain ⟨d, hd1, hd2⟩ := bU.out j hlt
            have HS' := Lib.hid (show s + c.toNat = sumB L (k + 1) by simp only [sumB]; rw [hj, hc1, HS.out]; rfl)
            have HT' := Lib.hid (show t + d.toNat = sumB M (k + 1) by simp only [sumB]; rw [hj, hd1, HT.out]; rfl)
            have hcl := c.toNat_lt
            have hdl := d.toNat_lt
            clear hc1 hd1 HS HT
            have Hj := Lib.hid hj
            clear hj
            go_wp2_with fail
            go_roundw
            case rel => exact ⟨trivial, k + 1, s + c.toNat, t + d.toNat, by have := Hj.out; congr 1; omega, by have := Hj.out; omega, rfl, rfl, HS', HT'⟩
            case measure => simp only [intOf]; omega
          · have hlt' : decide ((j : Int) < 20) = false := decide_eq_false (by omega)
            have hlt2 : decide (j < 20) = false := decide_eq_false hlt
            obtain rfl : k = 16 := by omega
            have e1 := HS.out.trans HS1.out
            have e2 := HT.out.trans HS2.out
            obtain ⟨x, hx⟩ : ∃ x, 2 ^ (n % 8) = x := ⟨_, rfl⟩
            obtain ⟨r, hrr⟩ : ∃ r, n % 8 = r := ⟨_, rfl⟩
            have hr8 : r < 8 := by omega
            have hx256 : x < 256 := by
              rw [← hx, hrr]
              exact Nat.lt_of_lt_of_le (Nat.pow_lt_pow_right (by decide) hr8) (by decide)
            have hxb : (UInt8.ofNat x).toNat = x := by simp; omega
            have hi1 : ∀ w, (Instr.index 9 (.string T) (.int .i64 (q : Int))).run Try.prog w = .ok (.int .u8 (x : Int)) w := by
              obtain ⟨c, h1, h2⟩ := bT.out q (by omega)
              rw [HA1.out, hx] at h1
              rw [← Option.some.inj h1, hxb] at h2
              exact h2
            obtain ⟨p, hp4⟩ : ∃ p, q + 4 = p := ⟨_, rfl⟩
            have hi2 : ∀ w, (Instr.index 9 (.string U) (.int .i64 (p : Int))).run Try.prog w = .ok (.int .u8 (x : Int)) w := by
              obtain ⟨c, h1, h2⟩ := bU.out p (by omega)
              rw [← hp4, HA2.out, hx] at h1
              rw [← Option.some.inj h1, hxb] at h2
              exact h2
            have ht8 : Int.tmod (n : Int) 8 = (r : Int) := by rw [← hrr]; rfl
            have hm8 : (n : Int) % 8 = (r : Int) := by rw [← hrr]; rfl
            have hw8 : IntKind.u8.wrap (2 ^ r) = (x : Int) := by
              have h : ((2 : Int) ^ r) = ((2 ^ r : Nat) : Int) := by simp
              rw [← hrr, show (2 : Int) ^ (n % 8) = ((2 ^ (n % 8) : Nat) : Int) by simp, hx, IntKind.wrap_u8']
              omega
            have hwq : IntKind.i64.wrap ((q : Int) + 4) = (p : Int) := by rw [IntKind.wrap_i64]; omega
            have hwx : IntKind.i64.wrap (x : Int) = (x : Int) := by rw [IntKind.wrap_i64]; omega
            rw [hx] at e1 e2
            clear HS HT
            subst s t
            clear bT bU HS1 HS2 HA1 HA2 HL HM hx hrr hxb hp4 hs ht hy hz hq hq2
            go_wp2_with fail
            refine region_lastqgL (S := fun W => Below w.heap.size w W) 37
              [(fun W v => v = .string T),
     (fun W v => v = .int .i64 (q : Int)),
     (fun W v => v = .int .u8 (x : Int)),
     (fun W v => v = .int .i64 (n : Int)),
     (fun W v => v = .int .i64 (r : Int)),
     (fun W v => v = .int .u8 (x : Int)),
     (fun W v => v = .bool true),
     (fun W v => v = .bool true),
     (fun W v => v = .string U),
     (fun W v => v = .int .i64 (q : Int)),
     (fun W v => v = .int .i64 (p : Int)),
     (fun W v => v = .int .u8 (x : Int)),
     (fun W v => v = .int .i64 (n : Int)),
     (fun W v => v = .int .i64 (r : Int)),
     (fun W v => v = .int .u8 (x : Int)),
     (fun W v => v = .bool true),
     (fun W v => v = .bool true),
     (fun W v => v = .bool true),
     (fun W v => v = .int .i64 (x : Int)),
     (fun W v => v = .string T),
     (fun W v => v = .int .i64 (q : Int)),
     (fun W v => v = .int .u8 (x : Int)),
     (fun W v => v = .int .i64 (x : Int)),
     (fun W v => v = .bool true),
     (fun W v => v = .bool true),
     (fun W v => v = .bool true),
     (fun W v => v = .int .i64 (x : Int)),
     (fun W v => v = .string U),
     (fun W v => v = .int .i64 (q : Int)),
     (fun W v => v = .int .i64 (p : Int)),
     (fun W v => v = .int .u8 (x : Int)),
     (fun W v => v = .int .i64 (x : Int)),
     (fun W v => v = .bool true),
     (fun W v => v = .bool true),
     (fun W v => v = .bool true),
     (fun W v => v = .bool true),
     (fun W v => v = .bool true)] (by rfl) (by kernel_rfl) (by kernel_rfl) (by kernel_rfl) (by kernel_rfl) (by rfl) (by kernel_rfl) ?hS ?hp ?hs ?he
            case hS => exact gr_drew hbl
            case hp => repeat' (first | exact trivial | refine ⟨fun _ _ _ _ h => h, ?_⟩)
            case hs =>
              simp only [List.take_succ_cons, List.take_zero]
              clear hbl
              refine ⟨?_, ?_, ?_, ?_, ?_, ?_, ?_, ?_, ?_, ?_, ?_, ?_, ?_, ?_, ?_, ?_, ?_, ?_, ?_, ?_, ?_, ?_, ?_, ?_, ?_, ?_, ?_, ?_, ?_, ?_, ?_, ?_, ?_, ?_, ?_, ?_, ?_, trivial⟩
              · refine ⟨met_none rfl, ?_⟩
                intro a W K hS hd hf hK
                have e8 : a.tmps.getD 8 undef = .string T := hf 8 (by kernel_rfl)
                clear hd hf
                go_simp
                exact hK _ _ (Below.refl _ _) hS rfl
              · refine ⟨met_none rfl, ?_⟩
                intro a W K hS hd hf hK
                have e10 : a.tmps.getD 10 undef = .int .i64 (q : Int) := hf 10 (by kernel_rfl)
                clear hd hf
                go_simp
                exact hK _ _ (Below.refl _ _) hS rfl
              · refine ⟨met_none rfl, ?_⟩
                intro a W K hS hd hf hK
                have e62 : a.tmps.getD 62 undef = .string T := hd ⟨0, .data⟩ (by simp) rfl
                have e63 : a.tmps.getD 63 undef = .int .i64 (q : Int) := hd ⟨1, .data⟩ (by simp) rfl
                clear hd hf
                go_simp
                exact hK _ _ (Below.refl _ _) hS rfl
              · refine ⟨met_none rfl, ?_⟩
                intro a W K hS hd hf hK
                have e5 : a.tmps.getD 5 undef = .int .i64 (n : Int) := hf 5 (by kernel_rfl)
                clear hd hf
                go_simp
                exact hK _ _ (Below.refl _ _) hS rfl
              · refine ⟨met_none rfl, ?_⟩
                intro a W K hS hd hf hK
                have e65 : a.tmps.getD 65 undef = .int .i64 (n : Int) := hd ⟨3, .data⟩ (by simp) rfl
                clear hd hf
                go_simp
                exact hK _ _ (Below.refl _ _) hS rfl
              · refine ⟨met_none rfl, ?_⟩
                intro a W K hS hd hf hK
                have e66 : a.tmps.getD 66 undef = .int .i64 (r : Int) := hd ⟨4, .data⟩ (by simp) rfl
                clear hd hf
                go_simp
                exact hK _ _ (Below.refl _ _) hS rfl
              · refine ⟨met_none rfl, ?_⟩
                intro a W K hS hd hf hK
                have e64 : a.tmps.getD 64 undef = .int .u8 (x : Int) := hd ⟨2, .data⟩ (by simp) rfl
                have e67 : a.tmps.getD 67 undef = .int .u8 (x : Int) := hd ⟨5, .data⟩ (by simp) rfl
                clear hd hf
                go_simp
                exact hK _ _ (Below.refl _ _) hS rfl
              · refine ⟨met_none rfl, ?_⟩
                intro a W K hS hd hf hK
                have e68 : a.tmps.getD 68 undef = .bool true := hd ⟨6, .data⟩ (by simp) rfl
                clear hd hf
                go_simp
                exact hK _ _ (Below.refl _ _) hS rfl
              · refine ⟨met_some 7 true rfl (fun w v h => h), ?_⟩
                intro a W K hS hd hf hK
                have e9 : a.tmps.getD 9 undef = .string U := hf 9 (by kernel_rfl)
                clear hd hf
                go_simp
                exact hK _ _ (Below.refl _ _) hS rfl
              · refine ⟨met_some 7 true rfl (fun w v h => h), ?_⟩
                intro a W K hS hd hf hK
                have e10 : a.tmps.getD 10 undef = .int .i64 (q : Int) := hf 10 (by kernel_rfl)
                clear hd hf
                go_simp
                exact hK _ _ (Below.refl _ _) hS rfl
              · refine ⟨met_some 7 true rfl (fun w v h => h), ?_⟩
                intro a W K hS hd hf hK
                have e71 : a.tmps.getD 71 undef = .int .i64 (q : Int) := hd ⟨9, .data⟩ (by simp) rfl
                clear hd hf
                go_simp
                exact hK _ _ (Below.refl _ _) hS rfl
              · refine ⟨met_some 7 true rfl (fun w v h => h), ?_⟩
                intro a W K hS hd hf hK
                have e70 : a.tmps.getD 70 undef = .string U := hd ⟨8, .data⟩ (by simp) rfl
                have e72 : a.tmps.getD 72 undef = .int .i64 (p : Int) := hd ⟨10, .data⟩ (by simp) rfl
                clear hd hf
                go_simp
                exact hK _ _ (Below.refl _ _) hS rfl
              · refine ⟨met_some 7 true rfl (fun w v h => h), ?_⟩
                intro a W K hS hd hf hK
                have e5 : a.tmps.getD 5 undef = .int .i64 (n : Int) := hf 5 (by kernel_rfl)
                clear hd hf
                go_simp
                exact hK _ _ (Below.refl _ _) hS rfl
              · refine ⟨met_some 7 true rfl (fun w v h => h), ?_⟩
                intro a W K hS hd hf hK
                have e74 : a.tmps.getD 74 undef = .int .i64 (n : Int) := hd ⟨12, .data⟩ (by simp) rfl
                clear hd hf
                go_simp
                exact hK _ _ (Below.refl _ _) hS rfl
              · refine ⟨met_some 7 true rfl (fun w v h => h), ?_⟩
                intro a W K hS hd hf hK
                have e75 : a.tmps.getD 75 undef = .int .i64 (r : Int) := hd ⟨13, .data⟩ (by simp) rfl
                clear hd hf
                go_simp
                exact hK _ _ (Below.refl _ _) hS rfl
              · refine ⟨met_some 7 true rfl (fun w v h => h), ?_⟩
                intro a W K hS hd hf hK
                have e73 : a.tmps.getD 73 undef = .int .u8 (x : Int) := hd ⟨11, .data⟩ (by simp) rfl
                have e76 : a.tmps.getD 76 undef = .int .u8 (x : Int) := hd ⟨14, .data⟩ (by simp) rfl
                clear hd hf
                go_simp
                exact hK _ _ (Below.refl _ _) hS rfl
              · refine ⟨met_none rfl, ?_⟩
                intro a W K hS hd hf hK
                have e69 : a.tmps.getD 69 undef = .bool true := hd ⟨7, .data⟩ (by simp) rfl
                have e77 : a.tmps.getD 77 undef = .bool true := hd ⟨15, .data⟩ (by simp) rfl
                clear hd hf
                go_simp
                exact hK _ _ (Below.refl _ _) hS rfl
              · refine ⟨met_none rfl, ?_⟩
                intro a W K hS hd hf hK
                have e78 : a.tmps.getD 78 undef = .bool true := hd ⟨16, .data⟩ (by simp) rfl
                clear hd hf
                go_simp
                exact hK _ _ (Below.refl _ _) hS rfl
              · refine ⟨met_some 17 true rfl (fun w v h => h), ?_⟩
                intro a W K hS hd hf hK
                have e11 : a.tmps.getD 11 undef = .int .i64 (x : Int) := hf 11 (by kernel_rfl)
                clear hd hf
                go_simp
                exact hK _ _ (Below.refl _ _) hS rfl
              · refine ⟨met_some 17 true rfl (fun w v h => h), ?_⟩
                intro a W K hS hd hf hK
                have e8 : a.tmps.getD 8 undef = .string T := hf 8 (by kernel_rfl)
                clear hd hf
                go_simp
                exact hK _ _ (Below.refl _ _) hS rfl
              · refine ⟨met_some 17 true rfl (fun w v h => h), ?_⟩
                intro a W K hS hd hf hK
                have e10 : a.tmps.getD 10 undef = .int .i64 (q : Int) := hf 10 (by kernel_rfl)
                clear hd hf
                go_simp
                exact hK _ _ (Below.refl _ _) hS rfl
              · refine ⟨met_some 17 true rfl (fun w v h => h), ?_⟩
                intro a W K hS hd hf hK
                have e81 : a.tmps.getD 81 undef = .string T := hd ⟨19, .data⟩ (by simp) rfl
                have e82 : a.tmps.getD 82 undef = .int .i64 (q : Int) := hd ⟨20, .data⟩ (by simp) rfl
                clear hd hf
                go_simp
                exact hK _ _ (Below.refl _ _) hS rfl
              · refine ⟨met_some 17 true rfl (fun w v h => h), ?_⟩
                intro a W K hS hd hf hK
                have e83 : a.tmps.getD 83 undef = .int .u8 (x : Int) := hd ⟨21, .data⟩ (by simp) rfl
                clear hd hf
                go_simp
                exact hK _ _ (Below.refl _ _) hS rfl
              · refine ⟨met_some 17 true rfl (fun w v h => h), ?_⟩
                intro a W K hS hd hf hK
                have e80 : a.tmps.getD 80 undef = .int .i64 (x : Int) := hd ⟨18, .data⟩ (by simp) rfl
                have e84 : a.tmps.getD 84 undef = .int .i64 (x : Int) := hd ⟨22, .data⟩ (by simp) rfl
                clear hd hf
                go_simp
                exact hK _ _ (Below.refl _ _) hS rfl
              · refine ⟨met_none rfl, ?_⟩
                intro a W K hS hd hf hK
                have e79 : a.tmps.getD 79 undef = .bool true := hd ⟨17, .data⟩ (by simp) rfl
                have e85 : a.tmps.getD 85 undef = .bool true := hd ⟨23, .data⟩ (by simp) rfl
                clear hd hf
                go_simp
                exact hK _ _ (Below.refl _ _) hS rfl
              · refine ⟨met_none rfl, ?_⟩
                intro a W K hS hd hf hK
                have e86 : a.tmps.getD 86 undef = .bool true := hd ⟨24, .data⟩ (by simp) rfl
                clear hd hf
                go_simp
                exact hK _ _ (Below.refl _ _) hS rfl
              · refine ⟨met_some 25 true rfl (fun w v h => h), ?_⟩
                intro a W K hS hd hf hK
                have e12 : a.tmps.getD 12 undef = .int .i64 (x : Int) := hf 12 (by kernel_rfl)
                clear hd hf
                go_simp
                exact hK _ _ (Below.refl _ _) hS rfl
              · refine ⟨met_some 25 true rfl (fun w v h => h), ?_⟩
                intro a W K hS hd hf hK
                have e9 : a.tmps.getD 9 undef = .string U := hf 9 (by kernel_rfl)
                clear hd hf
                go_simp
                exact hK _ _ (Below.refl _ _) hS rfl
              · refine ⟨met_some 25 true rfl (fun w v h => h), ?_⟩
                intro a W K hS hd hf hK
                have e10 : a.tmps.getD 10 undef = .int .i64 (q : Int) := hf 10 (by kernel_rfl)
                clear hd hf
                go_simp
                exact hK _ _ (Below.refl _ _) hS rfl
              · refine ⟨met_some 25 true rfl (fun w v h => h), ?_⟩
                intro a W K hS hd hf hK
                have e90 : a.tmps.getD 90 undef = .int .i64 (q : Int) := hd ⟨28, .data⟩ (by simp) rfl
                clear hd hf
                go_simp
                exact hK _ _ (Below.refl _ _) hS rfl
              · refine ⟨met_some 25 true rfl (fun w v h => h), ?_⟩
                intro a W K hS hd hf hK
                have e89 : a.tmps.getD 89 undef = .string U := hd ⟨27, .data⟩ (by simp) rfl
                have e91 : a.tmps.getD 91 undef = .int .i64 (p : Int) := hd ⟨29, .data⟩ (by simp) rfl
                clear hd hf
                go_simp
                exact hK _ _ (Below.refl _ _) hS rfl
              · refine ⟨met_some 25 true rfl (fun w v h => h), ?_⟩
                intro a W K hS hd hf hK
                have e92 : a.tmps.getD 92 undef = .int .u8 (x : Int) := hd ⟨30, .data⟩ (by simp) rfl
                clear hd hf
                go_simp
                exact hK _ _ (Below.refl _ _) hS rfl
              · refine ⟨met_some 25 true rfl (fun w v h => h), ?_⟩
                intro a W K hS hd hf hK
                have e88 : a.tmps.getD 88 undef = .int .i64 (x : Int) := hd ⟨26, .data⟩ (by simp) rfl
                have e93 : a.tmps.getD 93 undef = .int .i64 (x : Int) := hd ⟨31, .data⟩ (by simp) rfl
                clear hd hf
                go_simp
                exact hK _ _ (Below.refl _ _) hS rfl
              · refine ⟨met_none rfl, ?_⟩
                intro a W K hS hd hf hK
                have e87 : a.tmps.getD 87 undef = .bool true := hd ⟨25, .data⟩ (by simp) rfl
                have e94 : a.tmps.getD 94 undef = .bool true := hd ⟨32, .data⟩ (by simp) rfl
                clear hd hf
                go_simp
                exact hK _ _ (Below.refl _ _) hS rfl
              · refine ⟨met_none rfl, ?_⟩
                intro a W K hS hd hf hK
                have e95 : a.tmps.getD 95 undef = .bool true := hd ⟨33, .data⟩ (by simp) rfl
                clear hd hf
                go_simp
                exact hK _ _ (Below.refl _ _) hS rfl
              · refine ⟨met_some 34 true rfl (fun w v h => h), ?_⟩
                intro a W K hS hd hf hK
                clear hd hf
                go_simp
                go_at_call 7
                refine (awake_true _).mono ?_
                rintro e w1 ⟨rfl, hb⟩
                exact hK _ _ hb (gr_call hS hb) rfl
              · refine ⟨met_none rfl, ?_⟩
                intro a W K hS hd hf hK
                have e96 : a.tmps.getD 96 undef = .bool true := hd ⟨34, .data⟩ (by simp) rfl
                have e97 : a.tmps.getD 97 undef = .bool true := hd ⟨35, .data⟩ (by simp) rfl
                clear hd hf
                go_simp
                exact hK _ _ (Below.refl _ _) hS rfl
            case he =>
              intro vals w6 K hS6 hV hK
              have e98 := hV 36 (by omega)
              clear hV
              simp only [List.getD_cons_succ, List.getD_cons_zero] at e98
              clear hbl
              refine Later.mk ?_
              simp only [List.append_eq, List.cons_append, List.nil_append, setN, Nat.reduceAdd, List.setIfInBounds_toArray, List.set_cons_succ, List.set_cons_zero]
              rw [e98]
              go_simp
              refine hK _ _ ?_
              clear hK e98
              go_wp2_with fail
              go_ret
              exact ⟨rfl, hS6⟩

  · rw [show ver true = 3 from rfl] at Hp1 Hp2
    go_enter Try.func5, Try.ntmps5
    go_wp2_with fail
    obtain ⟨W, hW⟩ : ∃ W, (w.alloc (.cells #[.int .i64 3, .int .u64 (P : Int), .int .u64 0, .bool false, .int .i64 0] 24)).alloc (.cells #[.int .i64 3, .int .u64 0, .int .u64 (P : Int), .bool false, .int .i64 0] 24) = W := ⟨_, rfl⟩
    rw [hW]
    have c0 : W.cell? ⟨w.heap.size, 0, none⟩ = some (.int .i64 3) := by rw [← hW]; simp [go_sem]
    have c1 : W.cell? ⟨w.heap.size, 1, none⟩ = some (.int .u64 (P : Int)) := by rw [← hW]; simp [go_sem]
    have c2 : W.cell? ⟨w.heap.size, 2, none⟩ = some (.int .u64 0) := by rw [← hW]; simp [go_sem]
    have c3 : W.cell? ⟨w.heap.size, 3, none⟩ = some (.bool false) := by rw [← hW]; simp [go_sem]
    have c4 : W.cell? ⟨w.heap.size, 4, none⟩ = some (.int .i64 0) := by rw [← hW]; simp [go_sem]
    have x0 : W.cell? ⟨w.heap.size + 1, 0, none⟩ = some (.int .i64 3) := by rw [← hW]; simp [go_sem]
    have x1 : W.cell? ⟨w.heap.size + 1, 1, none⟩ = some (.int .u64 0) := by rw [← hW]; simp [go_sem]
    have x2 : W.cell? ⟨w.heap.size + 1, 2, none⟩ = some (.int .u64 (P : Int)) := by rw [← hW]; simp [go_sem]
    have x3 : W.cell? ⟨w.heap.size + 1, 3, none⟩ = some (.bool false) := by rw [← hW]; simp [go_sem]
    have x4 : W.cell? ⟨w.heap.size + 1, 4, none⟩ = some (.int .i64 0) := by rw [← hW]; simp [go_sem]
    have hbW : Below w.heap.size w W := by rw [← hW]; (repeat' (first | exact Below.refl _ _ | assumption | refine gr_drew ?_ | refine gr_drewN ?_ _ | refine gr_alloc ?_ _ | refine gr_set ?_ ?_ _ | refine gr_call ?_ (by assumption)) <;> (try (simp; done)) <;> (try (simp; omega)) <;> (try omega))
    clear hW
    go_cut [8, 9] from 26 to 29 (fun s8 s9 wx => s8 = .string T ∧ s9 = .string U ∧ Below w.heap.size w wx)
    case first =>
      go_region_with (first | (have y9 := y0; clear y9; go_at_call 12; refine (Hp2.out _).mono ?_; rintro e w2 ⟨rfl, hb2⟩) | (go_at_call 12; refine (Hp1.out _).mono ?_; rintro e w1 ⟨rfl, hb1⟩; have hy1 := gr_call (gr_drew (Below.refl _ W)) hb1; have y0 := cell_kept hy1 x0; have y1 := cell_kept hy1 x1; have y2 := cell_kept hy1 x2; have y3 := cell_kept hy1 x3; have y4 := cell_kept hy1 x4; clear hb1))
      all_goals
        go_wp2_with fail
        go_meet
        exact ⟨rfl, rfl, gr_call (gr_call hbW hy1) hb2⟩
    case rest =>
      obtain ⟨rfl, rfl, hbl⟩ := hcut
      clear c0 c1 c2 c3 c4 x0 x1 x2 x3 x4 hbW Hp1 Hp2
      have bT := Lib.hid (fun j (h : j < 20) => idxAt (P := Try.prog) Try.underlying9 T j (by omega))
      have bU := Lib.hid (fun j (h : j < 20) => idxAt (P := Try.prog) Try.underlying9 U j (by omega))
      rw [HL.out] at bT
      rw [HM.out] at bU
      by_cases h32 : 32 ≤ n
      · have t32 : decide (32 ≤ (n : Int)) = true := decide_eq_true (by omega)
        have t33 : decide (32 ≤ n) = true := decide_eq_true h32
        obtain ⟨q0, hq0⟩ : ∃ q, 4 + n % 32 / 8 = q := ⟨_, rfl⟩
        obtain ⟨q, hq1⟩ : ∃ q, q0 + 8 = q := ⟨_, rfl⟩
        have hat0 : 4 + (n : Int) % 32 / 8 = (q0 : Int) := by rw [← hq0]; rfl
        have hat1 : (q0 : Int) + 8 = (q : Int) := by rw [← hq1]; rfl
        have hplace : placeN n = q := by unfold placeN; rw [if_pos h32, hq0, hq1]
        have hqb : q < 16 := by omega
        rw [hplace] at HA1 HA2
        clear hplace hq0 hq1 h32
        go_wp2_with fail
        go_loopw [11, 12, 13] (fun av bv iv wr => wr = wc ∧ ∃ k s t : Nat, iv = .int .i64 ((4 + k : Nat) : Int) ∧ k ≤ 16 ∧ av = .int .i64 (s : Int) ∧ bv = .int .i64 (t : Int) ∧ Hid (s = sumB L k) ∧ Hid (t = sumB M k)) (fun _ _ iv _ => 20 - (intOf iv).toNat)
        case atStart => exact ⟨rfl, 0, 0, 0, rfl, by omega, rfl, rfl, Lib.hid rfl, Lib.hid rfl⟩
        case round =>
          obtain ⟨rfl, k, s, t, rfl, hk, rfl, rfl, HS, HT⟩ := hrel
          obtain ⟨j, hj⟩ : ∃ j, 4 + k = j := ⟨_, rfl⟩
          have hs := sumB_le L k
          have ht := sumB_le M k
          rw [← HS.out] at hs
          rw [← HT.out] at ht
          rw [hj]
          by_cases hlt : j < 20
          · have hlt' : decide ((j : Int) < 20) = true := decide_eq_true (by omega)
            have hlt2 : decide (j < 20) = true := decide_eq_true hlt
            obtain ⟨c, hc1, hc2⟩ := bT.out j hlt
            obtain ⟨d, hd1, hd2⟩ := bU.out j hlt
            have HS' := Lib.hid (show s + c.toNat = sumB L (k + 1) by simp only [sumB]; rw [hj, hc1, HS.out]; rfl)
            have HT' := Lib.hid (show t + d.toNat = sumB M (k + 1) by simp only [sumB]; rw [hj, hd1, HT.out]; rfl)
            have hcl := c.toNat_lt
            have hdl := d.toNat_lt
            clear hc1 hd1 HS HT
            have Hj := Lib.hid hj
            clear hj
            go_wp2_with fail
            go_roundw
            case rel => exact ⟨trivial, k + 1, s + c.toNat, t + d.toNat, by have := Hj.out; congr 1; omega, by have := Hj.out; omega, rfl, rfl, HS', HT'⟩
            case measure => simp only [intOf]; omega
          · have hlt' : decide ((j : Int) < 20) = false := decide_eq_false (by omega)
            have hlt2 : decide (j < 20) = false := decide_eq_false hlt
            obtain rfl : k = 16 := by omega
            have e1 := HS.out.trans HS1.out
            have e2 := HT.out.trans HS2.out
            obtain ⟨x, hx⟩ : ∃ x, 2 ^ (n % 8) = x := ⟨_, rfl⟩
            obtain ⟨r, hrr⟩ : ∃ r, n % 8 = r := ⟨_, rfl⟩
            have hr8 : r < 8 := by omega
            have hx256 : x < 256 := by
              rw [← hx, hrr]
              exact Nat.lt_of_lt_of_le (Nat.pow_lt_pow_right (by decide) hr8) (by decide)
            have hxb : (UInt8.ofNat x).toNat = x := by simp; omega
            have hi1 : ∀ w, (Instr.index 9 (.string T) (.int .i64 (q : Int))).run Try.prog w = .ok (.int .u8 (x : Int)) w := by
              obtain ⟨c, h1, h2⟩ := bT.out q (by omega)
              rw [HA1.out, hx] at h1
              rw [← Option.some.inj h1, hxb] at h2
              exact h2
            obtain ⟨p, hp4⟩ : ∃ p, q + 4 = p := ⟨_, rfl⟩
            have hi2 : ∀ w, (Instr.index 9 (.string U) (.int .i64 (p : Int))).run Try.prog w = .ok (.int .u8 (x : Int)) w := by
              obtain ⟨c, h1, h2⟩ := bU.out p (by omega)
              rw [← hp4, HA2.out, hx] at h1
              rw [← Option.some.inj h1, hxb] at h2
              exact h2
            have ht8 : Int.tmod (n : Int) 8 = (r : Int) := by rw [← hrr]; rfl
            have hm8 : (n : Int) % 8 = (r : Int) := by rw [← hrr]; rfl
            have hw8 : IntKind.u8.wrap (2 ^ r) = (x : Int) := by
              have h : ((2 : Int) ^ r) = ((2 ^ r : Nat) : Int) := by simp
              rw [← hrr, show (2 : Int) ^ (n % 8) = ((2 ^ (n % 8) : Nat) : Int) by simp, hx, IntKind.wrap_u8']
              omega
            have hwq : IntKind.i64.wrap ((q : Int) + 4) = (p : Int) := by rw [IntKind.wrap_i64]; omega
            have hwx : IntKind.i64.wrap (x : Int) = (x : Int) := by rw [IntKind.wrap_i64]; omega
            rw [hx] at e1 e2
            clear HS HT
            subst s t
            clear bT bU HS1 HS2 HA1 HA2 HL HM hx hrr hxb hp4 hs ht hy hz hq hq2
            go_wp2_with fail
            refine region_lastqgL (S := fun W => Below w.heap.size w W) 37
              [(fun W v => v = .string T),
     (fun W v => v = .int .i64 (q : Int)),
     (fun W v => v = .int .u8 (x : Int)),
     (fun W v => v = .int .i64 (n : Int)),
     (fun W v => v = .int .i64 (r : Int)),
     (fun W v => v = .int .u8 (x : Int)),
     (fun W v => v = .bool true),
     (fun W v => v = .bool true),
     (fun W v => v = .string U),
     (fun W v => v = .int .i64 (q : Int)),
     (fun W v => v = .int .i64 (p : Int)),
     (fun W v => v = .int .u8 (x : Int)),
     (fun W v => v = .int .i64 (n : Int)),
     (fun W v => v = .int .i64 (r : Int)),
     (fun W v => v = .int .u8 (x : Int)),
     (fun W v => v = .bool true),
     (fun W v => v = .bool true),
     (fun W v => v = .bool true),
     (fun W v => v = .int .i64 (x : Int)),
     (fun W v => v = .string T),
     (fun W v => v = .int .i64 (q : Int)),
     (fun W v => v = .int .u8 (x : Int)),
     (fun W v => v = .int .i64 (x : Int)),
     (fun W v => v = .bool true),
     (fun W v => v = .bool true),
     (fun W v => v = .bool true),
     (fun W v => v = .int .i64 (x : Int)),
     (fun W v => v = .string U),
     (fun W v => v = .int .i64 (q : Int)),
     (fun W v => v = .int .i64 (p : Int)),
     (fun W v => v = .int .u8 (x : Int)),
     (fun W v => v = .int .i64 (x : Int)),
     (fun W v => v = .bool true),
     (fun W v => v = .bool true),
     (fun W v => v = .bool true),
     (fun W v => v = .bool true),
     (fun W v => v = .bool true)] (by rfl) (by kernel_rfl) (by kernel_rfl) (by kernel_rfl) (by kernel_rfl) (by rfl) (by kernel_rfl) ?hS ?hp ?hs ?he
            case hS => exact gr_drew hbl
            case hp => repeat' (first | exact trivial | refine ⟨fun _ _ _ _ h => h, ?_⟩)
            case hs =>
              simp only [List.take_succ_cons, List.take_zero]
              clear hbl
              refine ⟨?_, ?_, ?_, ?_, ?_, ?_, ?_, ?_, ?_, ?_, ?_, ?_, ?_, ?_, ?_, ?_, ?_, ?_, ?_, ?_, ?_, ?_, ?_, ?_, ?_, ?_, ?_, ?_, ?_, ?_, ?_, ?_, ?_, ?_, ?_, ?_, ?_, trivial⟩
              · refine ⟨met_none rfl, ?_⟩
                intro a W K hS hd hf hK
                have e8 : a.tmps.getD 8 undef = .string T := hf 8 (by kernel_rfl)
                clear hd hf
                go_simp
                exact hK _ _ (Below.refl _ _) hS rfl
              · refine ⟨met_none rfl, ?_⟩
                intro a W K hS hd hf hK
                have e10 : a.tmps.getD 10 undef = .int .i64 (q : Int) := hf 10 (by kernel_rfl)
                clear hd hf
                go_simp
                exact hK _ _ (Below.refl _ _) hS rfl
              · refine ⟨met_none rfl, ?_⟩
                intro a W K hS hd hf hK
                have e62 : a.tmps.getD 62 undef = .string T := hd ⟨0, .data⟩ (by simp) rfl
                have e63 : a.tmps.getD 63 undef = .int .i64 (q : Int) := hd ⟨1, .data⟩ (by simp) rfl
                clear hd hf
                go_simp
                exact hK _ _ (Below.refl _ _) hS rfl
              · refine ⟨met_none rfl, ?_⟩
                intro a W K hS hd hf hK
                have e5 : a.tmps.getD 5 undef = .int .i64 (n : Int) := hf 5 (by kernel_rfl)
                clear hd hf
                go_simp
                exact hK _ _ (Below.refl _ _) hS rfl
              · refine ⟨met_none rfl, ?_⟩
                intro a W K hS hd hf hK
                have e65 : a.tmps.getD 65 undef = .int .i64 (n : Int) := hd ⟨3, .data⟩ (by simp) rfl
                clear hd hf
                go_simp
                exact hK _ _ (Below.refl _ _) hS rfl
              · refine ⟨met_none rfl, ?_⟩
                intro a W K hS hd hf hK
                have e66 : a.tmps.getD 66 undef = .int .i64 (r : Int) := hd ⟨4, .data⟩ (by simp) rfl
                clear hd hf
                go_simp
                exact hK _ _ (Below.refl _ _) hS rfl
              · refine ⟨met_none rfl, ?_⟩
                intro a W K hS hd hf hK
                have e64 : a.tmps.getD 64 undef = .int .u8 (x : Int) := hd ⟨2, .data⟩ (by simp) rfl
                have e67 : a.tmps.getD 67 undef = .int .u8 (x : Int) := hd ⟨5, .data⟩ (by simp) rfl
                clear hd hf
                go_simp
                exact hK _ _ (Below.refl _ _) hS rfl
              · refine ⟨met_none rfl, ?_⟩
                intro a W K hS hd hf hK
                have e68 : a.tmps.getD 68 undef = .bool true := hd ⟨6, .data⟩ (by simp) rfl
                clear hd hf
                go_simp
                exact hK _ _ (Below.refl _ _) hS rfl
              · refine ⟨met_some 7 true rfl (fun w v h => h), ?_⟩
                intro a W K hS hd hf hK
                have e9 : a.tmps.getD 9 undef = .string U := hf 9 (by kernel_rfl)
                clear hd hf
                go_simp
                exact hK _ _ (Below.refl _ _) hS rfl
              · refine ⟨met_some 7 true rfl (fun w v h => h), ?_⟩
                intro a W K hS hd hf hK
                have e10 : a.tmps.getD 10 undef = .int .i64 (q : Int) := hf 10 (by kernel_rfl)
                clear hd hf
                go_simp
                exact hK _ _ (Below.refl _ _) hS rfl
              · refine ⟨met_some 7 true rfl (fun w v h => h), ?_⟩
                intro a W K hS hd hf hK
                have e71 : a.tmps.getD 71 undef = .int .i64 (q : Int) := hd ⟨9, .data⟩ (by simp) rfl
                clear hd hf
                go_simp
                exact hK _ _ (Below.refl _ _) hS rfl
              · refine ⟨met_some 7 true rfl (fun w v h => h), ?_⟩
                intro a W K hS hd hf hK
                have e70 : a.tmps.getD 70 undef = .string U := hd ⟨8, .data⟩ (by simp) rfl
                have e72 : a.tmps.getD 72 undef = .int .i64 (p : Int) := hd ⟨10, .data⟩ (by simp) rfl
                clear hd hf
                go_simp
                exact hK _ _ (Below.refl _ _) hS rfl
              · refine ⟨met_some 7 true rfl (fun w v h => h), ?_⟩
                intro a W K hS hd hf hK
                have e5 : a.tmps.getD 5 undef = .int .i64 (n : Int) := hf 5 (by kernel_rfl)
                clear hd hf
                go_simp
                exact hK _ _ (Below.refl _ _) hS rfl
              · refine ⟨met_some 7 true rfl (fun w v h => h), ?_⟩
                intro a W K hS hd hf hK
                have e74 : a.tmps.getD 74 undef = .int .i64 (n : Int) := hd ⟨12, .data⟩ (by simp) rfl
                clear hd hf
                go_simp
                exact hK _ _ (Below.refl _ _) hS rfl
              · refine ⟨met_some 7 true rfl (fun w v h => h), ?_⟩
                intro a W K hS hd hf hK
                have e75 : a.tmps.getD 75 undef = .int .i64 (r : Int) := hd ⟨13, .data⟩ (by simp) rfl
                clear hd hf
                go_simp
                exact hK _ _ (Below.refl _ _) hS rfl
              · refine ⟨met_some 7 true rfl (fun w v h => h), ?_⟩
                intro a W K hS hd hf hK
                have e73 : a.tmps.getD 73 undef = .int .u8 (x : Int) := hd ⟨11, .data⟩ (by simp) rfl
                have e76 : a.tmps.getD 76 undef = .int .u8 (x : Int) := hd ⟨14, .data⟩ (by simp) rfl
                clear hd hf
                go_simp
                exact hK _ _ (Below.refl _ _) hS rfl
              · refine ⟨met_none rfl, ?_⟩
                intro a W K hS hd hf hK
                have e69 : a.tmps.getD 69 undef = .bool true := hd ⟨7, .data⟩ (by simp) rfl
                have e77 : a.tmps.getD 77 undef = .bool true := hd ⟨15, .data⟩ (by simp) rfl
                clear hd hf
                go_simp
                exact hK _ _ (Below.refl _ _) hS rfl
              · refine ⟨met_none rfl, ?_⟩
                intro a W K hS hd hf hK
                have e78 : a.tmps.getD 78 undef = .bool true := hd ⟨16, .data⟩ (by simp) rfl
                clear hd hf
                go_simp
                exact hK _ _ (Below.refl _ _) hS rfl
              · refine ⟨met_some 17 true rfl (fun w v h => h), ?_⟩
                intro a W K hS hd hf hK
                have e11 : a.tmps.getD 11 undef = .int .i64 (x : Int) := hf 11 (by kernel_rfl)
                clear hd hf
                go_simp
                exact hK _ _ (Below.refl _ _) hS rfl
              · refine ⟨met_some 17 true rfl (fun w v h => h), ?_⟩
                intro a W K hS hd hf hK
                have e8 : a.tmps.getD 8 undef = .string T := hf 8 (by kernel_rfl)
                clear hd hf
                go_simp
                exact hK _ _ (Below.refl _ _) hS rfl
              · refine ⟨met_some 17 true rfl (fun w v h => h), ?_⟩
                intro a W K hS hd hf hK
                have e10 : a.tmps.getD 10 undef = .int .i64 (q : Int) := hf 10 (by kernel_rfl)
                clear hd hf
                go_simp
                exact hK _ _ (Below.refl _ _) hS rfl
              · refine ⟨met_some 17 true rfl (fun w v h => h), ?_⟩
                intro a W K hS hd hf hK
                have e81 : a.tmps.getD 81 undef = .string T := hd ⟨19, .data⟩ (by simp) rfl
                have e82 : a.tmps.getD 82 undef = .int .i64 (q : Int) := hd ⟨20, .data⟩ (by simp) rfl
                clear hd hf
                go_simp
                exact hK _ _ (Below.refl _ _) hS rfl
              · refine ⟨met_some 17 true rfl (fun w v h => h), ?_⟩
                intro a W K hS hd hf hK
                have e83 : a.tmps.getD 83 undef = .int .u8 (x : Int) := hd ⟨21, .data⟩ (by simp) rfl
                clear hd hf
                go_simp
                exact hK _ _ (Below.refl _ _) hS rfl
              · refine ⟨met_some 17 true rfl (fun w v h => h), ?_⟩
                intro a W K hS hd hf hK
                have e80 : a.tmps.getD 80 undef = .int .i64 (x : Int) := hd ⟨18, .data⟩ (by simp) rfl
                have e84 : a.tmps.getD 84 undef = .int .i64 (x : Int) := hd ⟨22, .data⟩ (by simp) rfl
                clear hd hf
                go_simp
                exact hK _ _ (Below.refl _ _) hS rfl
              · refine ⟨met_none rfl, ?_⟩
                intro a W K hS hd hf hK
                have e79 : a.tmps.getD 79 undef = .bool true := hd ⟨17, .data⟩ (by simp) rfl
                have e85 : a.tmps.getD 85 undef = .bool true := hd ⟨23, .data⟩ (by simp) rfl
                clear hd hf
                go_simp
                exact hK _ _ (Below.refl _ _) hS rfl
              · refine ⟨met_none rfl, ?_⟩
                intro a W K hS hd hf hK
                have e86 : a.tmps.getD 86 undef = .bool true := hd ⟨24, .data⟩ (by simp) rfl
                clear hd hf
                go_simp
                exact hK _ _ (Below.refl _ _) hS rfl
              · refine ⟨met_some 25 true rfl (fun w v h => h), ?_⟩
                intro a W K hS hd hf hK
                have e12 : a.tmps.getD 12 undef = .int .i64 (x : Int) := hf 12 (by kernel_rfl)
                clear hd hf
                go_simp
                exact hK _ _ (Below.refl _ _) hS rfl
              · refine ⟨met_some 25 true rfl (fun w v h => h), ?_⟩
                intro a W K hS hd hf hK
                have e9 : a.tmps.getD 9 undef = .string U := hf 9 (by kernel_rfl)
                clear hd hf
                go_simp
                exact hK _ _ (Below.refl _ _) hS rfl
              · refine ⟨met_some 25 true rfl (fun w v h => h), ?_⟩
                intro a W K hS hd hf hK
                have e10 : a.tmps.getD 10 undef = .int .i64 (q : Int) := hf 10 (by kernel_rfl)
                clear hd hf
                go_simp
                exact hK _ _ (Below.refl _ _) hS rfl
              · refine ⟨met_some 25 true rfl (fun w v h => h), ?_⟩
                intro a W K hS hd hf hK
                have e90 : a.tmps.getD 90 undef = .int .i64 (q : Int) := hd ⟨28, .data⟩ (by simp) rfl
                clear hd hf
                go_simp
                exact hK _ _ (Below.refl _ _) hS rfl
              · refine ⟨met_some 25 true rfl (fun w v h => h), ?_⟩
                intro a W K hS hd hf hK
                have e89 : a.tmps.getD 89 undef = .string U := hd ⟨27, .data⟩ (by simp) rfl
                have e91 : a.tmps.getD 91 undef = .int .i64 (p : Int) := hd ⟨29, .data⟩ (by simp) rfl
                clear hd hf
                go_simp
                exact hK _ _ (Below.refl _ _) hS rfl
              · refine ⟨met_some 25 true rfl (fun w v h => h), ?_⟩
                intro a W K hS hd hf hK
                have e92 : a.tmps.getD 92 undef = .int .u8 (x : Int) := hd ⟨30, .data⟩ (by simp) rfl
                clear hd hf
                go_simp
                exact hK _ _ (Below.refl _ _) hS rfl
              · refine ⟨met_some 25 true rfl (fun w v h => h), ?_⟩
                intro a W K hS hd hf hK
                have e88 : a.tmps.getD 88 undef = .int .i64 (x : Int) := hd ⟨26, .data⟩ (by simp) rfl
                have e93 : a.tmps.getD 93 undef = .int .i64 (x : Int) := hd ⟨31, .data⟩ (by simp) rfl
                clear hd hf
                go_simp
                exact hK _ _ (Below.refl _ _) hS rfl
              · refine ⟨met_none rfl, ?_⟩
                intro a W K hS hd hf hK
                have e87 : a.tmps.getD 87 undef = .bool true := hd ⟨25, .data⟩ (by simp) rfl
                have e94 : a.tmps.getD 94 undef = .bool true := hd ⟨32, .data⟩ (by simp) rfl
                clear hd hf
                go_simp
                exact hK _ _ (Below.refl _ _) hS rfl
              · refine ⟨met_none rfl, ?_⟩
                intro a W K hS hd hf hK
                have e95 : a.tmps.getD 95 undef = .bool true := hd ⟨33, .data⟩ (by simp) rfl
                clear hd hf
                go_simp
                exact hK _ _ (Below.refl _ _) hS rfl
              · refine ⟨met_some 34 true rfl (fun w v h => h), ?_⟩
                intro a W K hS hd hf hK
                clear hd hf
                go_simp
                go_at_call 7
                refine (awake_true _).mono ?_
                rintro e w1 ⟨rfl, hb⟩
                exact hK _ _ hb (gr_call hS hb) rfl
              · refine ⟨met_none rfl, ?_⟩
                intro a W K hS hd hf hK
                have e96 : a.tmps.getD 96 undef = .bool true := hd ⟨34, .data⟩ (by simp) rfl
                have e97 : a.tmps.getD 97 undef = .bool true := hd ⟨35, .data⟩ (by simp) rfl
                clear hd hf
                go_simp
                exact hK _ _ (Below.refl _ _) hS rfl
            case he =>
              intro vals w6 K hS6 hV hK
              have e98 := hV 36 (by omega)
              clear hV
              simp only [List.getD_cons_succ, List.getD_cons_zero] at e98
              clear hbl
              refine Later.mk ?_
              simp only [List.append_eq, List.cons_append, List.nil_append, setN, Nat.reduceAdd, List.setIfInBounds_toArray, List.set_cons_succ, List.set_cons_zero]
              rw [e98]
              go_simp
              refine hK _ _ ?_
              clear hK e98
              go_wp2_with fail
              go_ret
              exact ⟨rfl, hS6⟩
      · have t32 : decide (32 ≤ (n : Int)) = false := decide_eq_false (by omega)
        have t33 : decide (32 ≤ n) = false := decide_eq_false h32
        obtain ⟨q, hq0⟩ : ∃ q, 4 + n % 32 / 8 = q := ⟨_, rfl⟩
        have hat0 : 4 + (n : Int) % 32 / 8 = (q : Int) := by rw [← hq0]; rfl
        have hplace : placeN n = q := by unfold placeN; rw [if_neg h32, hq0]; rfl
        have hqb : q < 16 := by omega
        rw [hplace] at HA1 HA2
        clear hplace hq0 h32
        go_wp2_with fail
        go_loopw [11, 12, 13] (fun av bv iv wr => wr = wc ∧ ∃ k s t : Nat, iv = .int .i64 ((4 + k : Nat) : Int) ∧ k ≤ 16 ∧ av = .int .i64 (s : Int) ∧ bv = .int .i64 (t : Int) ∧ Hid (s = sumB L k) ∧ Hid (t = sumB M k)) (fun _ _ iv _ => 20 - (intOf iv).toNat)
        case atStart => exact ⟨rfl, 0, 0, 0, rfl, by omega, rfl, rfl, Lib.hid rfl, Lib.hid rfl⟩
        case round =>
          obtain ⟨rfl, k, s, t, rfl, hk, rfl, rfl, HS, HT⟩ := hrel
          obtain ⟨j, hj⟩ : ∃ j, 4 + k = j := ⟨_, rfl⟩
          have hs := sumB_le L k
          have ht := sumB_le M k
          rw [← HS.out] at hs
          rw [← HT.out] at ht
          rw [hj]
          by_cases hlt : j < 20
          · have hlt' : decide ((j : Int) < 20) = true := decide_eq_true (by omega)
            have hlt2 : decide (j < 20) = true := decide_eq_true hlt
            obtain ⟨c, hc1, hc2⟩ := bT.out j hlt
            obtain ⟨d, hd1, hd2⟩ := bU.out j hlt
            have HS' := Lib.hid (show s + c.toNat = sumB L (k + 1) by simp only [sumB]; rw [hj, hc1, HS.out]; rfl)
            have HT' := Lib.hid (show t + d.toNat = sumB M (k + 1) by simp only [sumB]; rw [hj, hd1, HT.out]; rfl)
            have hcl := c.toNat_lt
            have hdl := d.toNat_lt
            clear hc1 hd1 HS HT
            have Hj := Lib.hid hj
            clear hj
            go_wp2_with fail
            go_roundw
            case rel => exact ⟨trivial, k + 1, s + c.toNat, t + d.toNat, by have := Hj.out; congr 1; omega, by have := Hj.out; omega, rfl, rfl, HS', HT'⟩
            case measure => simp only [intOf]; omega
          · have hlt' : decide ((j : Int) < 20) = false := decide_eq_false (by omega)
            have hlt2 : decide (j < 20) = false := decide_eq_false hlt
            obtain rfl : k = 16 := by omega
            have e1 := HS.out.trans HS1.out
            have e2 := HT.out.trans HS2.out
            obtain ⟨x, hx⟩ : ∃ x, 2 ^ (n % 8) = x := ⟨_, rfl⟩
            obtain ⟨r, hrr⟩ : ∃ r, n % 8 = r := ⟨_, rfl⟩
            have hr8 : r < 8 := by omega
            have hx256 : x < 256 := by
              rw [← hx, hrr]
              exact Nat.lt_of_lt_of_le (Nat.pow_lt_pow_right (by decide) hr8) (by decide)
            have hxb : (UInt8.ofNat x).toNat = x := by simp; omega
            have hi1 : ∀ w, (Instr.index 9 (.string T) (.int .i64 (q : Int))).run Try.prog w = .ok (.int .u8 (x : Int)) w := by
              obtain ⟨c, h1, h2⟩ := bT.out q (by omega)
              rw [HA1.out, hx] at h1
              rw [← Option.some.inj h1, hxb] at h2
              exact h2
            obtain ⟨p, hp4⟩ : ∃ p, q + 4 = p := ⟨_, rfl⟩
            have hi2 : ∀ w, (Instr.index 9 (.string U) (.int .i64 (p : Int))).run Try.prog w = .ok (.int .u8 (x : Int)) w := by
              obtain ⟨c, h1, h2⟩ := bU.out p (by omega)
              rw [← hp4, HA2.out, hx] at h1
              rw [← Option.some.inj h1, hxb] at h2
              exact h2
            have ht8 : Int.tmod (n : Int) 8 = (r : Int) := by rw [← hrr]; rfl
            have hm8 : (n : Int) % 8 = (r : Int) := by rw [← hrr]; rfl
            have hw8 : IntKind.u8.wrap (2 ^ r) = (x : Int) := by
              have h : ((2 : Int) ^ r) = ((2 ^ r : Nat) : Int) := by simp
              rw [← hrr, show (2 : Int) ^ (n % 8) = ((2 ^ (n % 8) : Nat) : Int) by simp, hx, IntKind.wrap_u8']
              omega
            have hwq : IntKind.i64.wrap ((q : Int) + 4) = (p : Int) := by rw [IntKind.wrap_i64]; omega
            have hwx : IntKind.i64.wrap (x : Int) = (x : Int) := by rw [IntKind.wrap_i64]; omega
            rw [hx] at e1 e2
            clear HS HT
            subst s t
            clear bT bU HS1 HS2 HA1 HA2 HL HM hx hrr hxb hp4 hs ht hy hz hq hq2
            go_wp2_with fail
            refine region_lastqgL (S := fun W => Below w.heap.size w W) 37
              [(fun W v => v = .string T),
     (fun W v => v = .int .i64 (q : Int)),
     (fun W v => v = .int .u8 (x : Int)),
     (fun W v => v = .int .i64 (n : Int)),
     (fun W v => v = .int .i64 (r : Int)),
     (fun W v => v = .int .u8 (x : Int)),
     (fun W v => v = .bool true),
     (fun W v => v = .bool true),
     (fun W v => v = .string U),
     (fun W v => v = .int .i64 (q : Int)),
     (fun W v => v = .int .i64 (p : Int)),
     (fun W v => v = .int .u8 (x : Int)),
     (fun W v => v = .int .i64 (n : Int)),
     (fun W v => v = .int .i64 (r : Int)),
     (fun W v => v = .int .u8 (x : Int)),
     (fun W v => v = .bool true),
     (fun W v => v = .bool true),
     (fun W v => v = .bool true),
     (fun W v => v = .int .i64 (x : Int)),
     (fun W v => v = .string T),
     (fun W v => v = .int .i64 (q : Int)),
     (fun W v => v = .int .u8 (x : Int)),
     (fun W v => v = .int .i64 (x : Int)),
     (fun W v => v = .bool true),
     (fun W v => v = .bool true),
     (fun W v => v = .bool true),
     (fun W v => v = .int .i64 (x : Int)),
     (fun W v => v = .string U),
     (fun W v => v = .int .i64 (q : Int)),
     (fun W v => v = .int .i64 (p : Int)),
     (fun W v => v = .int .u8 (x : Int)),
     (fun W v => v = .int .i64 (x : Int)),
     (fun W v => v = .bool true),
     (fun W v => v = .bool true),
     (fun W v => v = .bool true),
     (fun W v => v = .bool true),
     (fun W v => v = .bool true)] (by rfl) (by kernel_rfl) (by kernel_rfl) (by kernel_rfl) (by kernel_rfl) (by rfl) (by kernel_rfl) ?hS ?hp ?hs ?he
            case hS => exact gr_drew hbl
            case hp => repeat' (first | exact trivial | refine ⟨fun _ _ _ _ h => h, ?_⟩)
            case hs =>
              simp only [List.take_succ_cons, List.take_zero]
              clear hbl
              refine ⟨?_, ?_, ?_, ?_, ?_, ?_, ?_, ?_, ?_, ?_, ?_, ?_, ?_, ?_, ?_, ?_, ?_, ?_, ?_, ?_, ?_, ?_, ?_, ?_, ?_, ?_, ?_, ?_, ?_, ?_, ?_, ?_, ?_, ?_, ?_, ?_, ?_, trivial⟩
              · refine ⟨met_none rfl, ?_⟩
                intro a W K hS hd hf hK
                have e8 : a.tmps.getD 8 undef = .string T := hf 8 (by kernel_rfl)
                clear hd hf
                go_simp
                exact hK _ _ (Below.refl _ _) hS rfl
              · refine ⟨met_none rfl, ?_⟩
                intro a W K hS hd hf hK
                have e10 : a.tmps.getD 10 undef = .int .i64 (q : Int) := hf 10 (by kernel_rfl)
                clear hd hf
                go_simp
                exact hK _ _ (Below.refl _ _) hS rfl
              · refine ⟨met_none rfl, ?_⟩
                intro a W K hS hd hf hK
                have e62 : a.tmps.getD 62 undef = .string T := hd ⟨0, .data⟩ (by simp) rfl
                have e63 : a.tmps.getD 63 undef = .int .i64 (q : Int) := hd ⟨1, .data⟩ (by simp) rfl
                clear hd hf
                go_simp
                exact hK _ _ (Below.refl _ _) hS rfl
              · refine ⟨met_none rfl, ?_⟩
                intro a W K hS hd hf hK
                have e5 : a.tmps.getD 5 undef = .int .i64 (n : Int) := hf 5 (by kernel_rfl)
                clear hd hf
                go_simp
                exact hK _ _ (Below.refl _ _) hS rfl
              · refine ⟨met_none rfl, ?_⟩
                intro a W K hS hd hf hK
                have e65 : a.tmps.getD 65 undef = .int .i64 (n : Int) := hd ⟨3, .data⟩ (by simp) rfl
                clear hd hf
                go_simp
                exact hK _ _ (Below.refl _ _) hS rfl
              · refine ⟨met_none rfl, ?_⟩
                intro a W K hS hd hf hK
                have e66 : a.tmps.getD 66 undef = .int .i64 (r : Int) := hd ⟨4, .data⟩ (by simp) rfl
                clear hd hf
                go_simp
                exact hK _ _ (Below.refl _ _) hS rfl
              · refine ⟨met_none rfl, ?_⟩
                intro a W K hS hd hf hK
                have e64 : a.tmps.getD 64 undef = .int .u8 (x : Int) := hd ⟨2, .data⟩ (by simp) rfl
                have e67 : a.tmps.getD 67 undef = .int .u8 (x : Int) := hd ⟨5, .data⟩ (by simp) rfl
                clear hd hf
                go_simp
                exact hK _ _ (Below.refl _ _) hS rfl
              · refine ⟨met_none rfl, ?_⟩
                intro a W K hS hd hf hK
                have e68 : a.tmps.getD 68 undef = .bool true := hd ⟨6, .data⟩ (by simp) rfl
                clear hd hf
                go_simp
                exact hK _ _ (Below.refl _ _) hS rfl
              · refine ⟨met_some 7 true rfl (fun w v h => h), ?_⟩
                intro a W K hS hd hf hK
                have e9 : a.tmps.getD 9 undef = .string U := hf 9 (by kernel_rfl)
                clear hd hf
                go_simp
                exact hK _ _ (Below.refl _ _) hS rfl
              · refine ⟨met_some 7 true rfl (fun w v h => h), ?_⟩
                intro a W K hS hd hf hK
                have e10 : a.tmps.getD 10 undef = .int .i64 (q : Int) := hf 10 (by kernel_rfl)
                clear hd hf
                go_simp
                exact hK _ _ (Below.refl _ _) hS rfl
              · refine ⟨met_some 7 true rfl (fun w v h => h), ?_⟩
                intro a W K hS hd hf hK
                have e71 : a.tmps.getD 71 undef = .int .i64 (q : Int) := hd ⟨9, .data⟩ (by simp) rfl
                clear hd hf
                go_simp
                exact hK _ _ (Below.refl _ _) hS rfl
              · refine ⟨met_some 7 true rfl (fun w v h => h), ?_⟩
                intro a W K hS hd hf hK
                have e70 : a.tmps.getD 70 undef = .string U := hd ⟨8, .data⟩ (by simp) rfl
                have e72 : a.tmps.getD 72 undef = .int .i64 (p : Int) := hd ⟨10, .data⟩ (by simp) rfl
                clear hd hf
                go_simp
                exact hK _ _ (Below.refl _ _) hS rfl
              · refine ⟨met_some 7 true rfl (fun w v h => h), ?_⟩
                intro a W K hS hd hf hK
                have e5 : a.tmps.getD 5 undef = .int .i64 (n : Int) := hf 5 (by kernel_rfl)
                clear hd hf
                go_simp
                exact hK _ _ (Below.refl _ _) hS rfl
              · refine ⟨met_some 7 true rfl (fun w v h => h), ?_⟩
                intro a W K hS hd hf hK
                have e74 : a.tmps.getD 74 undef = .int .i64 (n : Int) := hd ⟨12, .data⟩ (by simp) rfl
                clear hd hf
                go_simp
                exact hK _ _ (Below.refl _ _) hS rfl
              · refine ⟨met_some 7 true rfl (fun w v h => h), ?_⟩
                intro a W K hS hd hf hK
                have e75 : a.tmps.getD 75 undef = .int .i64 (r : Int) := hd ⟨13, .data⟩ (by simp) rfl
                clear hd hf
                go_simp
                exact hK _ _ (Below.refl _ _) hS rfl
              · refine ⟨met_some 7 true rfl (fun w v h => h), ?_⟩
                intro a W K hS hd hf hK
                have e73 : a.tmps.getD 73 undef = .int .u8 (x : Int) := hd ⟨11, .data⟩ (by simp) rfl
                have e76 : a.tmps.getD 76 undef = .int .u8 (x : Int) := hd ⟨14, .data⟩ (by simp) rfl
                clear hd hf
                go_simp
                exact hK _ _ (Below.refl _ _) hS rfl
              · refine ⟨met_none rfl, ?_⟩
                intro a W K hS hd hf hK
                have e69 : a.tmps.getD 69 undef = .bool true := hd ⟨7, .data⟩ (by simp) rfl
                have e77 : a.tmps.getD 77 undef = .bool true := hd ⟨15, .data⟩ (by simp) rfl
                clear hd hf
                go_simp
                exact hK _ _ (Below.refl _ _) hS rfl
              · refine ⟨met_none rfl, ?_⟩
                intro a W K hS hd hf hK
                have e78 : a.tmps.getD 78 undef = .bool true := hd ⟨16, .data⟩ (by simp) rfl
                clear hd hf
                go_simp
                exact hK _ _ (Below.refl _ _) hS rfl
              · refine ⟨met_some 17 true rfl (fun w v h => h), ?_⟩
                intro a W K hS hd hf hK
                have e11 : a.tmps.getD 11 undef = .int .i64 (x : Int) := hf 11 (by kernel_rfl)
                clear hd hf
                go_simp
                exact hK _ _ (Below.refl _ _) hS rfl
              · refine ⟨met_some 17 true rfl (fun w v h => h), ?_⟩
                intro a W K hS hd hf hK
                have e8 : a.tmps.getD 8 undef = .string T := hf 8 (by kernel_rfl)
                clear hd hf
                go_simp
                exact hK _ _ (Below.refl _ _) hS rfl
              · refine ⟨met_some 17 true rfl (fun w v h => h), ?_⟩
                intro a W K hS hd hf hK
                have e10 : a.tmps.getD 10 undef = .int .i64 (q : Int) := hf 10 (by kernel_rfl)
                clear hd hf
                go_simp
                exact hK _ _ (Below.refl _ _) hS rfl
              · refine ⟨met_some 17 true rfl (fun w v h => h), ?_⟩
                intro a W K hS hd hf hK
                have e81 : a.tmps.getD 81 undef = .string T := hd ⟨19, .data⟩ (by simp) rfl
                have e82 : a.tmps.getD 82 undef = .int .i64 (q : Int) := hd ⟨20, .data⟩ (by simp) rfl
                clear hd hf
                go_simp
                exact hK _ _ (Below.refl _ _) hS rfl
              · refine ⟨met_some 17 true rfl (fun w v h => h), ?_⟩
                intro a W K hS hd hf hK
                have e83 : a.tmps.getD 83 undef = .int .u8 (x : Int) := hd ⟨21, .data⟩ (by simp) rfl
                clear hd hf
                go_simp
                exact hK _ _ (Below.refl _ _) hS rfl
              · refine ⟨met_some 17 true rfl (fun w v h => h), ?_⟩
                intro a W K hS hd hf hK
                have e80 : a.tmps.getD 80 undef = .int .i64 (x : Int) := hd ⟨18, .data⟩ (by simp) rfl
                have e84 : a.tmps.getD 84 undef = .int .i64 (x : Int) := hd ⟨22, .data⟩ (by simp) rfl
                clear hd hf
                go_simp
                exact hK _ _ (Below.refl _ _) hS rfl
              · refine ⟨met_none rfl, ?_⟩
                intro a W K hS hd hf hK
                have e79 : a.tmps.getD 79 undef = .bool true := hd ⟨17, .data⟩ (by simp) rfl
                have e85 : a.tmps.getD 85 undef = .bool true := hd ⟨23, .data⟩ (by simp) rfl
                clear hd hf
                go_simp
                exact hK _ _ (Below.refl _ _) hS rfl
              · refine ⟨met_none rfl, ?_⟩
                intro a W K hS hd hf hK
                have e86 : a.tmps.getD 86 undef = .bool true := hd ⟨24, .data⟩ (by simp) rfl
                clear hd hf
                go_simp
                exact hK _ _ (Below.refl _ _) hS rfl
              · refine ⟨met_some 25 true rfl (fun w v h => h), ?_⟩
                intro a W K hS hd hf hK
                have e12 : a.tmps.getD 12 undef = .int .i64 (x : Int) := hf 12 (by kernel_rfl)
                clear hd hf
                go_simp
                exact hK _ _ (Below.refl _ _) hS rfl
              · refine ⟨met_some 25 true rfl (fun w v h => h), ?_⟩
                intro a W K hS hd hf hK
                have e9 : a.tmps.getD 9 undef = .string U := hf 9 (by kernel_rfl)
                clear hd hf
                go_simp
                exact hK _ _ (Below.refl _ _) hS rfl
              · refine ⟨met_some 25 true rfl (fun w v h => h), ?_⟩
                intro a W K hS hd hf hK
                have e10 : a.tmps.getD 10 undef = .int .i64 (q : Int) := hf 10 (by kernel_rfl)
                clear hd hf
                go_simp
                exact hK _ _ (Below.refl _ _) hS rfl
              · refine ⟨met_some 25 true rfl (fun w v h => h), ?_⟩
                intro a W K hS hd hf hK
                have e90 : a.tmps.getD 90 undef = .int .i64 (q : Int) := hd ⟨28, .data⟩ (by simp) rfl
                clear hd hf
                go_simp
                exact hK _ _ (Below.refl _ _) hS rfl
              · refine ⟨met_some 25 true rfl (fun w v h => h), ?_⟩
                intro a W K hS hd hf hK
                have e89 : a.tmps.getD 89 undef = .string U := hd ⟨27, .data⟩ (by simp) rfl
                have e91 : a.tmps.getD 91 undef = .int .i64 (p : Int) := hd ⟨29, .data⟩ (by simp) rfl
                clear hd hf
                go_simp
                exact hK _ _ (Below.refl _ _) hS rfl
              · refine ⟨met_some 25 true rfl (fun w v h => h), ?_⟩
                intro a W K hS hd hf hK
                have e92 : a.tmps.getD 92 undef = .int .u8 (x : Int) := hd ⟨30, .data⟩ (by simp) rfl
                clear hd hf
                go_simp
                exact hK _ _ (Below.refl _ _) hS rfl
              · refine ⟨met_some 25 true rfl (fun w v h => h), ?_⟩
                intro a W K hS hd hf hK
                have e88 : a.tmps.getD 88 undef = .int .i64 (x : Int) := hd ⟨26, .data⟩ (by simp) rfl
                have e93 : a.tmps.getD 93 undef = .int .i64 (x : Int) := hd ⟨31, .data⟩ (by simp) rfl
                clear hd hf
                go_simp
                exact hK _ _ (Below.refl _ _) hS rfl
              · refine ⟨met_none rfl, ?_⟩
                intro a W K hS hd hf hK
                have e87 : a.tmps.getD 87 undef = .bool true := hd ⟨25, .data⟩ (by simp) rfl
                have e94 : a.tmps.getD 94 undef = .bool true := hd ⟨32, .data⟩ (by simp) rfl
                clear hd hf
                go_simp
                exact hK _ _ (Below.refl _ _) hS rfl
              · refine ⟨met_none rfl, ?_⟩
                intro a W K hS hd hf hK
                have e95 : a.tmps.getD 95 undef = .bool true := hd ⟨33, .data⟩ (by simp) rfl
                clear hd hf
                go_simp
                exact hK _ _ (Below.refl _ _) hS rfl
              · refine ⟨met_some 34 true rfl (fun w v h => h), ?_⟩
                intro a W K hS hd hf hK
                clear hd hf
                go_simp
                go_at_call 7
                refine (awake_true _).mono ?_
                rintro e w1 ⟨rfl, hb⟩
                exact hK _ _ hb (gr_call hS hb) rfl
              · refine ⟨met_none rfl, ?_⟩
                intro a W K hS hd hf hK
                have e96 : a.tmps.getD 96 undef = .bool true := hd ⟨34, .data⟩ (by simp) rfl
                have e97 : a.tmps.getD 97 undef = .bool true := hd ⟨35, .data⟩ (by simp) rfl
                clear hd hf
                go_simp
                exact hK _ _ (Below.refl _ _) hS rfl
            case he =>
              intro vals w6 K hS6 hV hK
              have e98 := hV 36 (by omega)
              clear hV
              simp only [List.getD_cons_succ, List.getD_cons_zero] at e98
              clear hbl
              refine Later.mk ?_
              simp only [List.append_eq, List.cons_append, List.nil_append, setN, Nat.reduceAdd, List.setIfInBounds_toArray, List.set_cons_succ, List.set_cons_zero]
              rw [e98]
              go_simp
              refine hK _ _ ?_
              clear hK e98
              go_wp2_with fail
              go_ret
              exact ⟨rfl, hS6⟩


theorem capsBits_walk (a0 : Int) (a1 : Bool) (w : World) (w0 : (Lit.int .u8 a0).wf = true) :
    Calls Try.prog 5 #[.int .u8 a0, .bool a1] w fun e w' => e = .returned (.bool true) ∧ Below w.heap.size w w' := by
  have hr : 0 ≤ a0 ∧ a0 ≤ 255 := by simpa [Lit.wf, IntKind.min, IntKind.max, IntKind.bits, IntKind.signed] using w0
  obtain ⟨m, rfl⟩ : ∃ k : Nat, a0 = (k : Int) := ⟨a0.toNat, by omega⟩
  exact bits_case m (m % 64) a1 (by omega) rfl w
end Go.Proofs.Ytijagjahocjaaaa
