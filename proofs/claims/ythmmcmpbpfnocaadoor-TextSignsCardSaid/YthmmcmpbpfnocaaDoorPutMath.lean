/- What a character's bytes say: the bytes that put makes. -/
import Derived.Test.YthmmcmpbpfnocaaDoorPutSign
namespace Go.Proofs.YthmmcmpbpfnocaaDoor
open Go.RowKit
open TextM

theorem nat_of (n : Nat) (h : n < 256) : (UInt8.ofNat n).toNat = n := by rw [UInt8.toNat_ofNat', Nat.mod_eq_of_lt h]
theorem len1 (a : Nat) (h : a < 128) : lenOf (UInt8.ofNat a) = 1 := by unfold lenOf; rw [nat_of _ (by omega), if_pos h]
theorem len2 (a : Nat) (h : a < 32) : lenOf (UInt8.ofNat (192 + a)) = 2 := by unfold lenOf; rw [nat_of _ (by omega), if_neg (by omega), if_pos (by omega)]
theorem len3 (a : Nat) (h : a < 16) : lenOf (UInt8.ofNat (224 + a)) = 3 := by unfold lenOf; rw [nat_of _ (by omega), if_neg (by omega), if_neg (by omega), if_pos (by omega)]
theorem len4 (a : Nat) (h : a < 8) : lenOf (UInt8.ofNat (240 + a)) = 4 := by unfold lenOf; rw [nat_of _ (by omega), if_neg (by omega), if_neg (by omega), if_neg (by omega), if_pos (by omega)]
theorem cont1 (k n b : Nat) (l : List UInt8) (h : b < 64) : conts (k + 1) n (UInt8.ofNat (128 + b) :: l) = conts k (n * 64 + b) l := by
  show (if (UInt8.ofNat (128 + b)).toNat / 64 = 2 then conts k (n * 64 + (UInt8.ofNat (128 + b)).toNat % 64) l else none) = _
  rw [nat_of _ (by omega), if_pos (by omega), show (128 + b) % 64 = b by omega]
theorem sg1 (a : Nat) (h : a < 128) (l : List UInt8) : sg (UInt8.ofNat a :: l) = 1 := by
  have hg : good 1 (a % 2 ^ bitsOf 1) = true := by
    rw [show a % 2 ^ bitsOf 1 = a from Nat.mod_eq_of_lt (by show a < 128; omega)]
    unfold good named
    simp only [leastOf, Bool.and_eq_true, Bool.or_eq_true, decide_eq_true_eq]
    omega
  rw [sg_cons, len1 a h, if_neg (by decide), nat_of _ (by omega)]
  show (Option.map _ (some _)).getD 0 = 1
  rw [Option.map_some, if_pos hg]
  rfl
theorem sg2 (a b : Nat) (ha : a < 32) (hb : b < 64) (l : List UInt8) : sg (UInt8.ofNat (192 + a) :: UInt8.ofNat (128 + b) :: l) = if good 2 (a * 64 + b) = true then 2 else 0 := by
  rw [sg_cons, len2 a ha, if_neg (by decide), nat_of _ (by omega), show (192 + a) % 2 ^ bitsOf 2 = a by show (192 + a) % 32 = a; omega]
  show (Option.map _ (conts (0 + 1) a _)).getD 0 = _
  rw [cont1 _ _ _ _ hb]
  rfl
theorem sg3 (a b c : Nat) (ha : a < 16) (hb : b < 64) (hc : c < 64) (l : List UInt8) : sg (UInt8.ofNat (224 + a) :: UInt8.ofNat (128 + b) :: UInt8.ofNat (128 + c) :: l) = if good 3 ((a * 64 + b) * 64 + c) = true then 3 else 0 := by
  rw [sg_cons, len3 a ha, if_neg (by decide), nat_of _ (by omega), show (224 + a) % 2 ^ bitsOf 3 = a by show (224 + a) % 16 = a; omega]
  show (Option.map _ (conts (1 + 1) a _)).getD 0 = _
  rw [cont1 _ _ _ _ hb, cont1 _ _ _ _ hc]
  rfl
theorem sg4 (a b c d : Nat) (ha : a < 8) (hb : b < 64) (hc : c < 64) (hd : d < 64) (l : List UInt8) : sg (UInt8.ofNat (240 + a) :: UInt8.ofNat (128 + b) :: UInt8.ofNat (128 + c) :: UInt8.ofNat (128 + d) :: l) = if good 4 (((a * 64 + b) * 64 + c) * 64 + d) = true then 4 else 0 := by
  rw [sg_cons, len4 a ha, if_neg (by decide), nat_of _ (by omega), show (240 + a) % 2 ^ bitsOf 4 = a by show (240 + a) % 8 = a; omega]
  show (Option.map _ (conts (2 + 1) a _)).getD 0 = _
  rw [cont1 _ _ _ _ hb, cont1 _ _ _ _ hc, cont1 _ _ _ _ hd]
  rfl
theorem good_ge (k n : Nat) (h : leastOf k ≤ n) : good k n = named n := by unfold good; rw [decide_eq_true h]; rfl
theorem good_lt (k n : Nat) (h : n < leastOf k) : good k n = false := by unfold good; rw [decide_eq_false (by omega)]; rfl

theorem putL_len (n : Nat) : 1 ≤ (putL n).length ∧ (putL n).length ≤ 4 := by
  unfold putL
  split
  · simp
  · split
    · simp
    · split <;> simp
theorem sg_put (n : Nat) (hn : n < 2097152) : sg (putL n) = if named n = true then (putL n).length else 0 := by
  unfold putL
  by_cases h1 : n < 128
  · rw [if_pos h1, sg1 n h1, if_pos (by unfold named; simp only [Bool.and_eq_true, Bool.or_eq_true, decide_eq_true_eq]; omega)]
    rfl
  · rw [if_neg h1]
    by_cases h2 : n < 2048
    · rw [if_pos h2, sg2 _ _ (by omega) (by omega), show n / 64 * 64 + n % 64 = n by omega, good_ge 2 n (by show 128 ≤ n; omega)]
      rfl
    · rw [if_neg h2]
      by_cases h3 : n < 65536
      · rw [if_pos h3, sg3 _ _ _ (by omega) (by omega) (by omega), show (n / 4096 * 64 + n / 64 % 64) * 64 + n % 64 = n by omega, good_ge 3 n (by show 2048 ≤ n; omega)]
        rfl
      · rw [if_neg h3, sg4 _ _ _ _ (by omega) (by omega) (by omega) (by omega), show ((n / 262144 * 64 + n / 4096 % 64) * 64 + n / 64 % 64) * 64 + n % 64 = n by omega, good_ge 4 n (by show 65536 ≤ n; omega)]
        rfl
theorem chars_put (n : Nat) (hn : n < 2097152) (h : named n = true) : Chars (putL n) 1 := by
  have hs := sg_put n hn
  rw [if_pos h] at hs
  have := (putL_len n).1
  exact chars_one (by omega) hs
theorem valid_put (n : Nat) (hn : n < 2097152) : validB (putL n) = named n := by
  cases h : named n with
  | true => unfold validB; rw [chars_put n hn h]
  | false =>
    have hs := sg_put n hn
    rw [h, if_neg (by decide)] at hs
    have := (putL_len n).1
    unfold validB
    rw [rd_bad hs (by intro he; rw [he] at this; simp at this)]
theorem count_put (n : Nat) (hn : n < 2097152) (h : named n = true) : cntN (putL n) = 1 := by unfold cntN; rw [chars_put n hn h]
theorem long_no (k : Nat) : validB [224, UInt8.ofNat (128 + k / 64 % 32), UInt8.ofNat (128 + k % 64)] = false := by
  have h := sg3 0 (k / 64 % 32) (k % 64) (by omega) (by omega) (by omega) []
  rw [good_lt 3 _ (by show _ < 2048; omega), if_neg (by decide)] at h
  unfold validB
  exact congrArg (fun x => x.2.2) (rd_bad h (by simp))
theorem two_no (k : Nat) : validB [UInt8.ofNat (192 + k / 64 % 2), UInt8.ofNat (128 + k % 64)] = false := by
  have h := sg2 (k / 64 % 2) (k % 64) (by omega) (by omega) []
  rw [good_lt 2 _ (by show _ < 128; omega), if_neg (by decide)] at h
  unfold validB
  rw [rd_bad h (by simp)]
theorem put_any (n : Nat) (h : n < 2097152) (w : World) :
    Calls Tryd.prog 14 #[.int .i64 (n : Int)] w fun e w' => e = .returned (.string ⟨(putL n).toArray⟩) ∧ Below w.heap.size w w' := by
  by_cases h1 : n < 128
  · exact put_1 n (by omega) h1 w
  · by_cases h2 : n < 2048
    · exact put_2 n (by omega) h2 w
    · by_cases h3 : n < 65536
      · exact put_3 n (by omega) h3 w
      · exact put_4 n (by omega) h w
end Go.Proofs.YthmmcmpbpfnocaaDoor
