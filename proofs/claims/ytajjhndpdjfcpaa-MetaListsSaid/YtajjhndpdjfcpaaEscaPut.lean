/- Walks over package escape: plain, Put. -/
import Derived.Test.YtajjhndpdjfcpaaBuildPack
import Derived.Test.YtajjhndpdjfcpaaMathPack
namespace Go.Proofs.Ytajjhndpdjfcpaa.EscW
open Go.RowKit
open EscM
set_option linter.unusedVariables false

theorem plain_any (c : UInt8) (w : World) :
    Calls Try.prog 64 #[.int .u8 (c.toNat : Int)] w fun e w' => e = .returned (.bool (self c)) ∧ w' = w := by
  obtain ⟨n, hn⟩ : ∃ n, c.toNat = n := ⟨_, rfl⟩
  have hs : self c = (decide (33 ≤ n) && decide (n ≤ 126) && decide (n ≠ 37) && decide (n ≠ 61)) := by rw [← hn]; rfl
  rw [hs, hn]
  clear hs hn
  by_cases h1 : 33 ≤ n
  · have g1 : (33 : Int) ≤ (n : Int) := by omega
    by_cases h2 : n ≤ 126
    · have g2 : (n : Int) ≤ 126 := by omega
      by_cases h3 : n = 37
      · subst h3
        go_enter Try.func64, Try.ntmps64
        go_wp2_with fail
        go_ret
        exact ⟨rfl, rfl⟩
      · by_cases h4 : n = 61
        · subst h4
          go_enter Try.func64, Try.ntmps64
          go_wp2_with fail
          go_ret
          exact ⟨rfl, rfl⟩
        · have g3 : ((n : Int) != 37) = true := by simp; omega
          have g4 : ((n : Int) != 61) = true := by simp; omega
          have hr : (decide (33 ≤ n) && decide (n ≤ 126) && decide (n ≠ 37) && decide (n ≠ 61)) = true := by simp [h1, h2, h3, h4]
          rw [hr]
          clear hr h1 h2 h3 h4
          go_enter Try.func64, Try.ntmps64
          go_wp2_with fail
          go_ret
          exact ⟨rfl, rfl⟩
    · have g2 : ¬ (n : Int) ≤ 126 := by omega
      have hr : (decide (33 ≤ n) && decide (n ≤ 126) && decide (n ≠ 37) && decide (n ≠ 61)) = false := by simp [h2]
      rw [hr]
      clear hr h1 h2
      go_enter Try.func64, Try.ntmps64
      go_wp2_with fail
      go_ret
      exact ⟨rfl, rfl⟩
  · have g1 : ¬ (33 : Int) ≤ (n : Int) := by omega
    have hr : (decide (33 ≤ n) && decide (n ≤ 126) && decide (n ≠ 37) && decide (n ≠ 61)) = false := by simp [h1]
    rw [hr]
    clear hr h1
    go_enter Try.func64, Try.ntmps64
    go_wp2_with fail
    go_ret
    exact ⟨rfl, rfl⟩

theorem idxH0 (k : Nat) (kd : IntKind) (hk : k < 16) : ∀ w, (Instr.index 9 (.string ⟨digits.toArray⟩) (.int kd (k : Int))).run Try.prog w = .ok (.int .u8 ((H k).toNat : Int)) w := by
  intro w
  have h : k < digits.length := hk
  simp [go_sem, Try.underlying9, H, List.getD_eq_getElem?_getD, List.getElem?_eq_getElem h]
  rw [dif_pos h]
  rfl
theorem idxH (k : Nat) (x : Int) (kd : IntKind) (hx : x = (k : Int)) (hk : k < 16) : ∀ w, (Instr.index 9 (.string ⟨#[48, 49, 50, 51, 52, 53, 54, 55, 56, 57, 65, 66, 67, 68, 69, 70]⟩) (.int kd x)).run Try.prog w = .ok (.int .u8 ((H k).toNat : Int)) w := by
  subst hx
  exact idxH0 k kd hk
theorem and_u8 (a b : Nat) (ha : a < 256) (hb : b < 256) : bits .and .u8 (a : Int) (b : Int) = ((a &&& b : Nat) : Int) := by
  have hx : a &&& b < 2 ^ 8 := Nat.and_lt_two_pow _ (by omega)
  show IntKind.u8.wrap ((BitVec.ofInt 8 (a : Int) &&& BitVec.ofInt 8 (b : Int)).toNat : Int) = _
  rw [BitVec.toNat_and, BitVec.ofInt_natCast, BitVec.ofInt_natCast, BitVec.toNat_ofNat, BitVec.toNat_ofNat, Nat.mod_eq_of_lt (by omega), Nat.mod_eq_of_lt (by omega), IntKind.wrap_u8]
  omega
theorem or_u8 (a b : Nat) (ha : a < 256) (hb : b < 256) : bits .or .u8 (a : Int) (b : Int) = ((a ||| b : Nat) : Int) := by
  have hx : a ||| b < 2 ^ 8 := Nat.or_lt_two_pow (by omega) (by omega)
  show IntKind.u8.wrap ((BitVec.ofInt 8 (a : Int) ||| BitVec.ofInt 8 (b : Int)).toNat : Int) = _
  rw [BitVec.toNat_or, BitVec.ofInt_natCast, BitVec.ofInt_natCast, BitVec.toNat_ofNat, BitVec.toNat_ofNat, Nat.mod_eq_of_lt (by omega), Nat.mod_eq_of_lt (by omega), IntKind.wrap_u8]
  omega
set_option maxHeartbeats 1600000 in
theorem Put_any (s : ByteArray) (hs : s.size ≤ 30000) (w : World) :
    Calls Try.prog 56 #[.string s] w fun e w' => e = .returned (.string ⟨(put s.data.toList).toArray⟩) ∧ Below w.heap.size w w' := by
  obtain ⟨n, hn⟩ : ∃ n, s.size = n := ⟨_, rfl⟩
  rw [hn] at hs
  have hsl := Lib.hid (show s.data.toList.length = n by rw [← hn]; simp)
  go_enter Try.func56, Try.ntmps56
  go_wp2_with fail
  refine (grow_b n _ rfl w (by omega)).mono ?_
  rintro e w1 ⟨rfl, hB, hb1⟩
  go_wp2_with fail
  go_loopw [11] (fun iv wr => ∃ (i : Nat) (acc : List UInt8), iv = .int .i64 (i : Int) ∧ i ≤ n ∧ Bld w.heap.size acc wr ∧ Below w.heap.size w wr ∧ acc ++ put (s.data.toList.drop i) = put s.data.toList ∧ acc.length ≤ 3 * i) (fun iv _ => n - (intOf iv).toNat)
  case atStart => exact ⟨0, [], rfl, Nat.zero_le _, hB, hb1, by simp, by simp⟩
  case round =>
    clear hB hb1
    obtain ⟨i, acc, rfl, hi, hB, hbl, hacc, hal⟩ := hrel
    have Hacc := Lib.hid hacc
    clear hacc
    by_cases hlt : i < n
    · obtain ⟨c, hc, hidx⟩ := idx_at Try.underlying9 s i (by omega)
      have hlt' : (i : Int) < (n : Int) := by omega
      have Hdr := Lib.hid (drop_at hc)
      have hc256 := c.toNat_lt
      clear hc
      by_cases hp : self c = true
      · have H1 := plain_any c
        rw [hp] at H1
        have Hp := Lib.hid hp
        clear hp
        go_wp2_with fail
        refine (H1 _).mono ?_
        rintro e w4 ⟨rfl, rfl⟩
        go_wp2_with fail
        refine (writeByte_b _ acc c _ rfl _ hB (by omega) (bld_lt hB)).mono ?_
        rintro e w5 ⟨rfl, hB5, hb5⟩
        have hbl5 := hbl.trans hb5
        clear hB hbl hidx H1
        go_wp2_with fail
        go_roundw
        case rel =>
          refine ⟨i + 1, _, rfl, by omega, hB5, hbl5, ?_, by simp; omega⟩
          have h5 := Hacc.out
          rw [Hdr.out, put_cons, enc, if_pos Hp.out] at h5
          rw [← h5]; simp
        case measure => simp only [intOf]; omega
      · have H1 := plain_any c
        rw [Bool.not_eq_true] at hp
        rw [hp] at H1
        have Hp := Lib.hid hp
        clear hp
        have hx1 := idxH (c.toNat / 16) ((c.toNat : Int) / 16) .u8 (by omega) (by omega)
        have hx2 := idxH (c.toNat % 16) ((c.toNat : Int) % 16) .u8 (by omega) (by omega)
        generalize hd1 : H (c.toNat / 16) = d1 at hx1
        generalize hd2 : H (c.toNat % 16) = d2 at hx2
        have Hd1 := Lib.hid hd1
        have Hd2 := Lib.hid hd2
        clear hd1 hd2
        go_wp2_with fail
        refine (H1 _).mono ?_
        rintro e w4 ⟨rfl, rfl⟩
        go_wp2_with fail
        refine (writeByte_b _ acc 37 _ rfl _ hB (by omega) (bld_lt hB)).mono ?_
        rintro e w5 ⟨rfl, hB5, hb5⟩
        have hbl5 := hbl.trans hb5
        clear hB hbl hidx H1
        go_wp2_with fail
        refine (writeByte_b _ _ d1 _ rfl _ hB5 (by simp; omega) (bld_lt hB5)).mono ?_
        rintro e w6 ⟨rfl, hB6, hb6⟩
        have hbl6 := hbl5.trans hb6
        clear hB5 hbl5
        go_wp2_with fail
        refine (writeByte_b _ _ d2 _ rfl _ hB6 (by simp; omega) (bld_lt hB6)).mono ?_
        rintro e w7 ⟨rfl, hB7, hb7⟩
        have hbl7 := hbl6.trans hb7
        clear hB6 hbl6 hx1 hx2
        go_wp2_with fail
        go_roundw
        case rel =>
          refine ⟨i + 1, _, rfl, by omega, hB7, hbl7, ?_, by simp; omega⟩
          have h5 := Hacc.out
          rw [Hdr.out, put_cons, enc, if_neg (by rw [Hp.out]; simp), Hd1.out, Hd2.out] at h5
          rw [← h5]; simp
        case measure => simp only [intOf]; omega
    · have hlt' : ¬ (i : Int) < (n : Int) := by omega
      have h5 := Hacc.out
      rw [List.drop_eq_nil_of_le (by rw [hsl.out]; omega), put_nil, List.append_nil] at h5
      subst h5
      go_wp2_with fail
      refine (string_b _ _ _ hB).mono ?_
      rintro e w5 ⟨rfl, hb5⟩
      have hbl5 := hbl.trans hb5
      go_wp2_with fail
      go_ret
      exact ⟨rfl, hbl5⟩
end Go.Proofs.Ytajjhndpdjfcpaa.EscW
