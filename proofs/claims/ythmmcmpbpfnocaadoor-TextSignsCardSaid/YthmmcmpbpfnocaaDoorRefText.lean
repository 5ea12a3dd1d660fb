/- Walks over the document's answer for texts: sign, Bad, Valid, Count. -/
import Derived.Test.YthmmcmpbpfnocaaDoorTextRead
namespace Go.Proofs.YthmmcmpbpfnocaaDoor
open Go.RowKit
open TextM
set_option linter.unusedVariables false

theorem and_u8 (n m k : Nat) (hn : n < 256) (hm : m < 256) (h : n &&& m = k) : bits .and .u8 (n : Int) (m : Int) = (k : Int) := by
  subst h
  have hx : n &&& m < 256 := Nat.lt_of_le_of_lt Nat.and_le_left hn
  show IntKind.u8.wrap ((BitVec.ofInt 8 (n : Int) &&& BitVec.ofInt 8 (m : Int)).toNat : Int) = _
  rw [BitVec.toNat_and, BitVec.ofInt_natCast, BitVec.ofInt_natCast, BitVec.toNat_ofNat, BitVec.toNat_ofNat, Nat.mod_eq_of_lt (by omega), Nat.mod_eq_of_lt (by omega), IntKind.wrap_u8]
  omega

set_option maxHeartbeats 3200000 in
theorem sign_any (S : ByteArray) (h0 : 0 < S.size) (hS : S.size ≤ 1000000) (w : World) :
    Calls Tryd.prog 16 #[.string S] w fun e w' => e = .returned (.int .i64 (sg S.data.toList : Int)) ∧ w' = w := by
  obtain ⟨c, hc, hidx⟩ := idx_at Tryd.underlying9 S 0 h0
  have hl : S.data.toList = c :: S.data.toList.drop 1 := by have := drop_at hc; simpa using this
  have hsg : sg S.data.toList = sg (c :: S.data.toList.drop 1) := by rw [← hl]
  rw [sg_cons] at hsg
  obtain ⟨sz, hsz⟩ : ∃ n, S.size = n := ⟨_, rfl⟩
  obtain ⟨x, hx⟩ : ∃ n, c.toNat = n := ⟨_, rfl⟩
  have hx2 : x < 256 := by have := c.toNat_lt; omega
  rw [hx] at hidx
  have hidx' : ∀ w, (Instr.index 9 (.string S) (.int .i64 0)).run Tryd.prog w = .ok (.int .u8 (x : Int)) w := hidx
  have hz1 : (0 : Int) < (sz : Int) := by omega
  obtain ⟨L, hL⟩ : ∃ L, S.data.toList = L := ⟨_, rfl⟩
  have HL := Lib.hid hL
  rw [hL] at hsg
  have hHL := Lib.hid (show (lenOf c = 1 ∧ x < 128) ∨ (lenOf c = 2 ∧ x / 32 = 6) ∨ (lenOf c = 3 ∧ x / 16 = 14) ∨ (lenOf c = 4 ∧ x / 8 = 30) ∨ (lenOf c = 0 ∧ ¬ x < 128 ∧ ¬ x / 32 = 6 ∧ ¬ x / 16 = 14 ∧ ¬ x / 8 = 30) by
    unfold lenOf
    rw [hx]
    split
    · omega
    · split
      · omega
      · split
        · omega
        · split <;> omega)
  obtain ⟨m, hm⟩ : ∃ m, lenOf c = m := ⟨_, rfl⟩
  have hle := lenOf_le c
  rw [hm] at hsg hHL hle
  rw [hL, hsg]
  rw [hx]
  clear hl hc hm hidx hL hx hsg
  rcases Classical.em (m = 1) with rfl | hm1
  · have hlt : (x : Int) < 128 := by rcases hHL.out with h | h | h | h | h <;> omega
    have hg : good 1 (x % 2 ^ bitsOf 1) = true := by
      have h7 : x % 2 ^ bitsOf 1 = x := Nat.mod_eq_of_lt (by show x < 128; omega)
      rw [h7]
      unfold good named
      simp only [leastOf, Bool.and_eq_true, Bool.or_eq_true, decide_eq_true_eq]
      omega
    have Hg := Lib.hid (show ((if 1 = 0 then some 0 else Option.map (fun n => if good 1 n = true then 1 else 0) (conts (1 - 1) (x % 2 ^ bitsOf 1) (L.drop 1))).getD 0 : Nat) = 1 by
      rw [if_neg (by decide)]
      simp [conts, hg])
    rw [Hg.out]
    clear Hg hg hHL
    obtain ⟨z, hz⟩ : ∃ z : Int, (x : Int) = z := ⟨_, rfl⟩
    rw [hz] at hlt hidx'
    clear hz hx2
    go_enter Tryd.func16, Tryd.ntmps16
    go_wp2_with fail
    go_ret
    exact ⟨rfl, rfl⟩
  have hge : ¬ (x : Int) < 128 := by rcases hHL.out with h | h | h | h | h <;> omega
  rcases Classical.em (m = 0) with rfl | hm0
  · have h1 : ((x : Int) / 32 == 6) = false := by rw [beq_eq_false_iff_ne]; rcases hHL.out with h | h | h | h | h <;> omega
    have h2 : ((x : Int) / 16 == 14) = false := by rw [beq_eq_false_iff_ne]; rcases hHL.out with h | h | h | h | h <;> omega
    have h3 : ((x : Int) / 8 == 30) = false := by rw [beq_eq_false_iff_ne]; rcases hHL.out with h | h | h | h | h <;> omega
    clear hHL
    go_enter Tryd.func16, Tryd.ntmps16
    go_wp2_with fail
    go_ret
    exact ⟨rfl, rfl⟩
  rw [if_neg hm0]
  obtain rfl | rfl | rfl : m = 2 ∨ m = 3 ∨ m = 4 := by omega
  · have hn0b : x % 32 < 128 := by omega
    have h1 : ((x : Int) / 32 == 6) = true := by rw [beq_iff_eq]; rcases hHL.out with h | h | h | h | h <;> omega
    clear hHL hm1
    have hand := and_u8 x 31 (x % 32) hx2 (by decide) (Nat.and_two_pow_sub_one_eq_mod x 5)
    rw [show bitsOf 2 = 5 from rfl, show (2 : Nat) ^ 5 = 32 from rfl]
    obtain ⟨n0, hn0⟩ : ∃ n0, x % 32 = n0 := ⟨_, rfl⟩
    rw [hn0] at hand hn0b ⊢
    have hn0' : (x : Int) % 32 = (n0 : Int) := by omega
    clear hn0
    obtain ⟨R, hR⟩ : ∃ R : Nat, ((conts (2 - 1) n0 (L.drop 1)).map fun n => if good 2 n = true then 2 else 0).getD 0 = R := ⟨_, rfl⟩
    rw [hR]
    have HR := Lib.hid hR.symm
    clear hR
    go_enter Tryd.func16, Tryd.ntmps16
    go_wp2_with fail
    clear hidx' hge hx2 hand hn0'
    go_loop [5, 7] (fun nv iv => ∃ i n : Nat, nv = .int .i64 (n : Int) ∧ iv = .int .i64 (i : Int) ∧ 1 ≤ i ∧ i ≤ 2 ∧ n < 128 * 64 ^ (i - 1) ∧ Hid (conts (2 - i) n (L.drop i) = conts (2 - 1) n0 (L.drop 1))) (fun _ iv => 2 - (intOf iv).toNat)
    case atStart => exact ⟨1, n0, by go_num, rfl, by omega, by omega, by simpa using hn0b, Lib.hid rfl⟩
    case round =>
      obtain ⟨i, n, rfl, rfl, hi1, him, hnb, Hn⟩ := hrel
      have hnb2 : n < 33554432 := by
        obtain rfl | rfl | rfl | rfl : i = 1 ∨ i = 2 ∨ i = 3 ∨ i = 4 := by omega
        all_goals exact Nat.lt_of_lt_of_le hnb (by decide)
      by_cases hlt : i < 2
      · have hlt' : (i : Int) < 2 := by omega
        have hst := conts_at L i (2 - (i + 1)) n
        rw [show 2 - (i + 1) + 1 = 2 - i by omega] at hst
        by_cases hin : i < sz
        · have hin' : ¬ (sz : Int) ≤ (i : Int) := by omega
          obtain ⟨y, hy, hidy⟩ := idx_at Tryd.underlying9 S i (by omega)
          rw [HL.out] at hy
          have hfy : furAt L i = if y.toNat / 64 = 2 then some (y.toNat % 64) else none := by unfold furAt; rw [hy, Option.bind_some]
          rw [hfy] at hst
          obtain ⟨v, hv⟩ : ∃ v, y.toNat = v := ⟨_, rfl⟩
          have hv2 : v < 256 := by have := y.toNat_lt; omega
          rw [hv] at hst hidy
          clear hy hfy hv hnb2
          by_cases h2 : v / 64 = 2
          · rw [if_pos h2] at hst
            have hq : ((v : Int) / 64 != 2) = false := by
              have : (v : Int) / 64 = 2 := by omega
              rw [this]; rfl
            have Hst := Lib.hid (hst.symm.trans Hn.out)
            have hand := and_u8 v 63 (v % 64) hv2 (by decide) (Nat.and_two_pow_sub_one_eq_mod v 6)
            obtain ⟨b, hb⟩ : ∃ b, v % 64 = b := ⟨_, rfl⟩
            have hb64 : b < 64 := by omega
            rw [hb] at hand Hst
            have hor := join64 n b (by
              obtain rfl | rfl | rfl | rfl : i = 1 ∨ i = 2 ∨ i = 3 ∨ i = 4 := by omega
              all_goals exact Nat.lt_of_lt_of_le hnb (by decide)) hb64
            have hmod : (v : Int) % 64 = (b : Int) := by omega
            have hnb3 : n * 64 + b < 128 * 64 ^ (i + 1 - 1) := by
              obtain rfl | rfl | rfl : i = 1 ∨ i = 2 ∨ i = 3 := by omega
              all_goals (simp at hnb ⊢; omega)
            have hnb4 : n < 33554432 := by
              obtain rfl | rfl | rfl | rfl : i = 1 ∨ i = 2 ∨ i = 3 ∨ i = 4 := by omega
              all_goals exact Nat.lt_of_lt_of_le hnb (by decide)
            clear hst hb h2 hnb Hn
            go_wp2_with fail
            go_round
            case rel => exact ⟨i + 1, n * 64 + b, by first | rfl | go_num, by first | rfl | go_num, by omega, by omega, hnb3, Hst⟩
            case measure => simp [intOf]; omega
          · rw [if_neg h2] at hst
            have hq : ((v : Int) / 64 != 2) = true := by
              rw [bne_iff_ne]
              intro h5; apply h2; omega
            have Hst := Lib.hid (hst.symm.trans Hn.out)
            clear hst h2 hnb Hn
            go_wp2_with fail
            go_ret
            refine ⟨ret_num ?_, rfl⟩
            rw [HR.out, ← Hst.out]
            rfl
        · have hin' : (sz : Int) ≤ (i : Int) := by omega
          have hf : furAt L i = none := by
            unfold furAt
            rw [List.getElem?_eq_none (by rw [← HL.out]; simp; omega)]
            rfl
          rw [hf] at hst
          have Hst := Lib.hid (hst.symm.trans Hn.out)
          clear hst hf hnb Hn
          go_wp2_with fail
          go_ret
          refine ⟨ret_num ?_, rfl⟩
          rw [HR.out, ← Hst.out]
          rfl
      · obtain rfl : i = 2 := by omega
        have hlt' : ¬ ((2 : Nat) : Int) < 2 := by omega
        have Hn := Lib.hid (show conts (2 - 1) n0 (L.drop 1) = some n from Hn.out.symm)
        have hgd : good 2 n = (decide (128 ≤ n) && (decide (n ≤ 1114111) && (decide (n < 55296) || decide (57343 < n)))) := rfl
        have Hgd := Lib.hid hgd
        clear hlt hnb hgd
        by_cases hg1 : (n : Int) < 128
        · go_wp2_with fail
          go_ret
          refine ⟨ret_num ?_, rfl⟩
          rw [HR.out, Hn.out, Option.map_some, if_neg (by rw [Hgd.out, decide_eq_false (by omega)]; simp)]
          rfl
        · by_cases hg2 : (1114111 : Int) < (n : Int)
          · go_wp2_with fail
            go_ret
            refine ⟨ret_num ?_, rfl⟩
            rw [HR.out, Hn.out, Option.map_some, if_neg (by rw [Hgd.out, decide_eq_false (show ¬ n ≤ 1114111 by omega)]; simp)]
            rfl
          · by_cases hg3 : (55296 : Int) ≤ (n : Int)
            · by_cases hg4 : (n : Int) ≤ 57343
              · go_wp2_with fail
                go_ret
                refine ⟨ret_num ?_, rfl⟩
                rw [HR.out, Hn.out, Option.map_some, if_neg (by rw [Hgd.out, decide_eq_false (show ¬ n < 55296 by omega), decide_eq_false (show ¬ 57343 < n by omega)]; simp)]
                rfl
              · go_wp2_with fail
                go_ret
                refine ⟨ret_num ?_, rfl⟩
                rw [HR.out, Hn.out, Option.map_some, if_pos (by rw [Hgd.out, decide_eq_true (show 128 ≤ n by omega), decide_eq_true (show n ≤ 1114111 by omega), decide_eq_true (show 57343 < n by omega)]; simp)]
                rfl
            · go_wp2_with fail
              go_ret
              refine ⟨ret_num ?_, rfl⟩
              rw [HR.out, Hn.out, Option.map_some, if_pos (by rw [Hgd.out, decide_eq_true (show 128 ≤ n by omega), decide_eq_true (show n ≤ 1114111 by omega), decide_eq_true (show n < 55296 by omega)]; simp)]
              rfl
  · have hn0b : x % 16 < 128 := by omega
    have h1 : ((x : Int) / 32 == 6) = false := by rw [beq_eq_false_iff_ne]; rcases hHL.out with h | h | h | h | h <;> omega
    have h2 : ((x : Int) / 16 == 14) = true := by rw [beq_iff_eq]; rcases hHL.out with h | h | h | h | h <;> omega
    clear hHL hm1
    have hand := and_u8 x 15 (x % 16) hx2 (by decide) (Nat.and_two_pow_sub_one_eq_mod x 4)
    rw [show bitsOf 3 = 4 from rfl, show (2 : Nat) ^ 4 = 16 from rfl]
    obtain ⟨n0, hn0⟩ : ∃ n0, x % 16 = n0 := ⟨_, rfl⟩
    rw [hn0] at hand hn0b ⊢
    have hn0' : (x : Int) % 16 = (n0 : Int) := by omega
    clear hn0
    obtain ⟨R, hR⟩ : ∃ R : Nat, ((conts (3 - 1) n0 (L.drop 1)).map fun n => if good 3 n = true then 3 else 0).getD 0 = R := ⟨_, rfl⟩
    rw [hR]
    have HR := Lib.hid hR.symm
    clear hR
    go_enter Tryd.func16, Tryd.ntmps16
    go_wp2_with fail
    clear hidx' hge hx2 hand hn0'
    go_loop [5, 7] (fun nv iv => ∃ i n : Nat, nv = .int .i64 (n : Int) ∧ iv = .int .i64 (i : Int) ∧ 1 ≤ i ∧ i ≤ 3 ∧ n < 128 * 64 ^ (i - 1) ∧ Hid (conts (3 - i) n (L.drop i) = conts (3 - 1) n0 (L.drop 1))) (fun _ iv => 3 - (intOf iv).toNat)
    case atStart => exact ⟨1, n0, by go_num, rfl, by omega, by omega, by simpa using hn0b, Lib.hid rfl⟩
    case round =>
      obtain ⟨i, n, rfl, rfl, hi1, him, hnb, Hn⟩ := hrel
      have hnb2 : n < 33554432 := by
        obtain rfl | rfl | rfl | rfl : i = 1 ∨ i = 2 ∨ i = 3 ∨ i = 4 := by omega
        all_goals exact Nat.lt_of_lt_of_le hnb (by decide)
      by_cases hlt : i < 3
      · have hlt' : (i : Int) < 3 := by omega
        have hst := conts_at L i (3 - (i + 1)) n
        rw [show 3 - (i + 1) + 1 = 3 - i by omega] at hst
        by_cases hin : i < sz
        · have hin' : ¬ (sz : Int) ≤ (i : Int) := by omega
          obtain ⟨y, hy, hidy⟩ := idx_at Tryd.underlying9 S i (by omega)
          rw [HL.out] at hy
          have hfy : furAt L i = if y.toNat / 64 = 2 then some (y.toNat % 64) else none := by unfold furAt; rw [hy, Option.bind_some]
          rw [hfy] at hst
          obtain ⟨v, hv⟩ : ∃ v, y.toNat = v := ⟨_, rfl⟩
          have hv2 : v < 256 := by have := y.toNat_lt; omega
          rw [hv] at hst hidy
          clear hy hfy hv hnb2
          by_cases h2 : v / 64 = 2
          · rw [if_pos h2] at hst
            have hq : ((v : Int) / 64 != 2) = false := by
              have : (v : Int) / 64 = 2 := by omega
              rw [this]; rfl
            have Hst := Lib.hid (hst.symm.trans Hn.out)
            have hand := and_u8 v 63 (v % 64) hv2 (by decide) (Nat.and_two_pow_sub_one_eq_mod v 6)
            obtain ⟨b, hb⟩ : ∃ b, v % 64 = b := ⟨_, rfl⟩
            have hb64 : b < 64 := by omega
            rw [hb] at hand Hst
            have hor := join64 n b (by
              obtain rfl | rfl | rfl | rfl : i = 1 ∨ i = 2 ∨ i = 3 ∨ i = 4 := by omega
              all_goals exact Nat.lt_of_lt_of_le hnb (by decide)) hb64
            have hmod : (v : Int) % 64 = (b : Int) := by omega
            have hnb3 : n * 64 + b < 128 * 64 ^ (i + 1 - 1) := by
              obtain rfl | rfl | rfl : i = 1 ∨ i = 2 ∨ i = 3 := by omega
              all_goals (simp at hnb ⊢; omega)
            have hnb4 : n < 33554432 := by
              obtain rfl | rfl | rfl | rfl : i = 1 ∨ i = 2 ∨ i = 3 ∨ i = 4 := by omega
              all_goals exact Nat.lt_of_lt_of_le hnb (by decide)
            clear hst hb h2 hnb Hn
            go_wp2_with fail
            go_round
            case rel => exact ⟨i + 1, n * 64 + b, by first | rfl | go_num, by first | rfl | go_num, by omega, by omega, hnb3, Hst⟩
            case measure => simp [intOf]; omega
          · rw [if_neg h2] at hst
            have hq : ((v : Int) / 64 != 2) = true := by
              rw [bne_iff_ne]
              intro h5; apply h2; omega
            have Hst := Lib.hid (hst.symm.trans Hn.out)
            clear hst h2 hnb Hn
            go_wp2_with fail
            go_ret
            refine ⟨ret_num ?_, rfl⟩
            rw [HR.out, ← Hst.out]
            rfl
        · have hin' : (sz : Int) ≤ (i : Int) := by omega
          have hf : furAt L i = none := by
            unfold furAt
            rw [List.getElem?_eq_none (by rw [← HL.out]; simp; omega)]
            rfl
          rw [hf] at hst
          have Hst := Lib.hid (hst.symm.trans Hn.out)
          clear hst hf hnb Hn
          go_wp2_with fail
          go_ret
          refine ⟨ret_num ?_, rfl⟩
          rw [HR.out, ← Hst.out]
          rfl
      · obtain rfl : i = 3 := by omega
        have hlt' : ¬ ((3 : Nat) : Int) < 3 := by omega
        have Hn := Lib.hid (show conts (3 - 1) n0 (L.drop 1) = some n from Hn.out.symm)
        have hgd : good 3 n = (decide (2048 ≤ n) && (decide (n ≤ 1114111) && (decide (n < 55296) || decide (57343 < n)))) := rfl
        have Hgd := Lib.hid hgd
        clear hlt hnb hgd
        by_cases hg1 : (n : Int) < 2048
        · go_wp2_with fail
          go_ret
          refine ⟨ret_num ?_, rfl⟩
          rw [HR.out, Hn.out, Option.map_some, if_neg (by rw [Hgd.out, decide_eq_false (by omega)]; simp)]
          rfl
        · by_cases hg2 : (1114111 : Int) < (n : Int)
          · go_wp2_with fail
            go_ret
            refine ⟨ret_num ?_, rfl⟩
            rw [HR.out, Hn.out, Option.map_some, if_neg (by rw [Hgd.out, decide_eq_false (show ¬ n ≤ 1114111 by omega)]; simp)]
            rfl
          · by_cases hg3 : (55296 : Int) ≤ (n : Int)
            · by_cases hg4 : (n : Int) ≤ 57343
              · go_wp2_with fail
                go_ret
                refine ⟨ret_num ?_, rfl⟩
                rw [HR.out, Hn.out, Option.map_some, if_neg (by rw [Hgd.out, decide_eq_false (show ¬ n < 55296 by omega), decide_eq_false (show ¬ 57343 < n by omega)]; simp)]
                rfl
              · go_wp2_with fail
                go_ret
                refine ⟨ret_num ?_, rfl⟩
                rw [HR.out, Hn.out, Option.map_some, if_pos (by rw [Hgd.out, decide_eq_true (show 2048 ≤ n by omega), decide_eq_true (show n ≤ 1114111 by omega), decide_eq_true (show 57343 < n by omega)]; simp)]
                rfl
            · go_wp2_with fail
              go_ret
              refine ⟨ret_num ?_, rfl⟩
              rw [HR.out, Hn.out, Option.map_some, if_pos (by rw [Hgd.out, decide_eq_true (show 2048 ≤ n by omega), decide_eq_true (show n ≤ 1114111 by omega), decide_eq_true (show n < 55296 by omega)]; simp)]
              rfl
  · have hn0b : x % 8 < 128 := by omega
    have h1 : ((x : Int) / 32 == 6) = false := by rw [beq_eq_false_iff_ne]; rcases hHL.out with h | h | h | h | h <;> omega
    have h2 : ((x : Int) / 16 == 14) = false := by rw [beq_eq_false_iff_ne]; rcases hHL.out with h | h | h | h | h <;> omega
    have h3 : ((x : Int) / 8 == 30) = true := by rw [beq_iff_eq]; rcases hHL.out with h | h | h | h | h <;> omega
    clear hHL hm1
    have hand := and_u8 x 7 (x % 8) hx2 (by decide) (Nat.and_two_pow_sub_one_eq_mod x 3)
    rw [show bitsOf 4 = 3 from rfl, show (2 : Nat) ^ 3 = 8 from rfl]
    obtain ⟨n0, hn0⟩ : ∃ n0, x % 8 = n0 := ⟨_, rfl⟩
    rw [hn0] at hand hn0b ⊢
    have hn0' : (x : Int) % 8 = (n0 : Int) := by omega
    clear hn0
    obtain ⟨R, hR⟩ : ∃ R : Nat, ((conts (4 - 1) n0 (L.drop 1)).map fun n => if good 4 n = true then 4 else 0).getD 0 = R := ⟨_, rfl⟩
    rw [hR]
    have HR := Lib.hid hR.symm
    clear hR
    go_enter Tryd.func16, Tryd.ntmps16
    go_wp2_with fail
    clear hidx' hge hx2 hand hn0'
    go_loop [5, 7] (fun nv iv => ∃ i n : Nat, nv = .int .i64 (n : Int) ∧ iv = .int .i64 (i : Int) ∧ 1 ≤ i ∧ i ≤ 4 ∧ n < 128 * 64 ^ (i - 1) ∧ Hid (conts (4 - i) n (L.drop i) = conts (4 - 1) n0 (L.drop 1))) (fun _ iv => 4 - (intOf iv).toNat)
    case atStart => exact ⟨1, n0, by go_num, rfl, by omega, by omega, by simpa using hn0b, Lib.hid rfl⟩
    case round =>
      obtain ⟨i, n, rfl, rfl, hi1, him, hnb, Hn⟩ := hrel
      have hnb2 : n < 33554432 := by
        obtain rfl | rfl | rfl | rfl : i = 1 ∨ i = 2 ∨ i = 3 ∨ i = 4 := by omega
        all_goals exact Nat.lt_of_lt_of_le hnb (by decide)
      by_cases hlt : i < 4
      · have hlt' : (i : Int) < 4 := by omega
        have hst := conts_at L i (4 - (i + 1)) n
        rw [show 4 - (i + 1) + 1 = 4 - i by omega] at hst
        by_cases hin : i < sz
        · have hin' : ¬ (sz : Int) ≤ (i : Int) := by omega
          obtain ⟨y, hy, hidy⟩ := idx_at Tryd.underlying9 S i (by omega)
          rw [HL.out] at hy
          have hfy : furAt L i = if y.toNat / 64 = 2 then some (y.toNat % 64) else none := by unfold furAt; rw [hy, Option.bind_some]
          rw [hfy] at hst
          obtain ⟨v, hv⟩ : ∃ v, y.toNat = v := ⟨_, rfl⟩
          have hv2 : v < 256 := by have := y.toNat_lt; omega
          rw [hv] at hst hidy
          clear hy hfy hv hnb2
          by_cases h2 : v / 64 = 2
          · rw [if_pos h2] at hst
            have hq : ((v : Int) / 64 != 2) = false := by
              have : (v : Int) / 64 = 2 := by omega
              rw [this]; rfl
            have Hst := Lib.hid (hst.symm.trans Hn.out)
            have hand := and_u8 v 63 (v % 64) hv2 (by decide) (Nat.and_two_pow_sub_one_eq_mod v 6)
            obtain ⟨b, hb⟩ : ∃ b, v % 64 = b := ⟨_, rfl⟩
            have hb64 : b < 64 := by omega
            rw [hb] at hand Hst
            have hor := join64 n b (by
              obtain rfl | rfl | rfl | rfl : i = 1 ∨ i = 2 ∨ i = 3 ∨ i = 4 := by omega
              all_goals exact Nat.lt_of_lt_of_le hnb (by decide)) hb64
            have hmod : (v : Int) % 64 = (b : Int) := by omega
            have hnb3 : n * 64 + b < 128 * 64 ^ (i + 1 - 1) := by
              obtain rfl | rfl | rfl : i = 1 ∨ i = 2 ∨ i = 3 := by omega
              all_goals (simp at hnb ⊢; omega)
            have hnb4 : n < 33554432 := by
              obtain rfl | rfl | rfl | rfl : i = 1 ∨ i = 2 ∨ i = 3 ∨ i = 4 := by omega
              all_goals exact Nat.lt_of_lt_of_le hnb (by decide)
            clear hst hb h2 hnb Hn
            go_wp2_with fail
            go_round
            case rel => exact ⟨i + 1, n * 64 + b, by first | rfl | go_num, by first | rfl | go_num, by omega, by omega, hnb3, Hst⟩
            case measure => simp [intOf]; omega
          · rw [if_neg h2] at hst
            have hq : ((v : Int) / 64 != 2) = true := by
              rw [bne_iff_ne]
              intro h5; apply h2; omega
            have Hst := Lib.hid (hst.symm.trans Hn.out)
            clear hst h2 hnb Hn
            go_wp2_with fail
            go_ret
            refine ⟨ret_num ?_, rfl⟩
            rw [HR.out, ← Hst.out]
            rfl
        · have hin' : (sz : Int) ≤ (i : Int) := by omega
          have hf : furAt L i = none := by
            unfold furAt
            rw [List.getElem?_eq_none (by rw [← HL.out]; simp; omega)]
            rfl
          rw [hf] at hst
          have Hst := Lib.hid (hst.symm.trans Hn.out)
          clear hst hf hnb Hn
          go_wp2_with fail
          go_ret
          refine ⟨ret_num ?_, rfl⟩
          rw [HR.out, ← Hst.out]
          rfl
      · obtain rfl : i = 4 := by omega
        have hlt' : ¬ ((4 : Nat) : Int) < 4 := by omega
        have Hn := Lib.hid (show conts (4 - 1) n0 (L.drop 1) = some n from Hn.out.symm)
        have hgd : good 4 n = (decide (65536 ≤ n) && (decide (n ≤ 1114111) && (decide (n < 55296) || decide (57343 < n)))) := rfl
        have Hgd := Lib.hid hgd
        clear hlt hnb hgd
        by_cases hg1 : (n : Int) < 65536
        · go_wp2_with fail
          go_ret
          refine ⟨ret_num ?_, rfl⟩
          rw [HR.out, Hn.out, Option.map_some, if_neg (by rw [Hgd.out, decide_eq_false (by omega)]; simp)]
          rfl
        · by_cases hg2 : (1114111 : Int) < (n : Int)
          · go_wp2_with fail
            go_ret
            refine ⟨ret_num ?_, rfl⟩
            rw [HR.out, Hn.out, Option.map_some, if_neg (by rw [Hgd.out, decide_eq_false (show ¬ n ≤ 1114111 by omega)]; simp)]
            rfl
          · by_cases hg3 : (55296 : Int) ≤ (n : Int)
            · by_cases hg4 : (n : Int) ≤ 57343
              · go_wp2_with fail
                go_ret
                refine ⟨ret_num ?_, rfl⟩
                rw [HR.out, Hn.out, Option.map_some, if_neg (by rw [Hgd.out, decide_eq_false (show ¬ n < 55296 by omega), decide_eq_false (show ¬ 57343 < n by omega)]; simp)]
                rfl
              · go_wp2_with fail
                go_ret
                refine ⟨ret_num ?_, rfl⟩
                rw [HR.out, Hn.out, Option.map_some, if_pos (by rw [Hgd.out, decide_eq_true (show 65536 ≤ n by omega), decide_eq_true (show n ≤ 1114111 by omega), decide_eq_true (show 57343 < n by omega)]; simp)]
                rfl
            · go_wp2_with fail
              go_ret
              refine ⟨ret_num ?_, rfl⟩
              rw [HR.out, Hn.out, Option.map_some, if_pos (by rw [Hgd.out, decide_eq_true (show 65536 ≤ n by omega), decide_eq_true (show n ≤ 1114111 by omega), decide_eq_true (show n < 55296 by omega)]; simp)]
              rfl
end Go.Proofs.YthmmcmpbpfnocaaDoor
