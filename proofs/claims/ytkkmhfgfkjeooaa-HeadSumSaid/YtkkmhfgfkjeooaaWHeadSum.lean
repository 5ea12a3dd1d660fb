/- The law HeadSum, walked. -/
import Derived.Test.YtkkmhfgfkjeooaaWHeadBack
namespace Go.Proofs.Ytkkmhfgfkjeooaa
open Go.RowKit
open HeadM NumM
set_option linter.unusedVariables false

/-- What the law adds up, up to a place: blanks in the sum's own place. -/
def HeadM.addL (b : List UInt8) : Nat → Nat
  | 0 => 0
  | k + 1 => addL b k + if 148 ≤ k ∧ k < 156 then 32 else (b.getD k 0).toNat
theorem addL_le (b : List UInt8) (k : Nat) : addL b k ≤ 255 * k := by
  induction k with
  | zero => exact Nat.le_refl _
  | succ k ih =>
    have h := (b.getD k 0).toNat_lt
    unfold addL
    split <;> omega
theorem addL_low (b : List UInt8) (hb : b.length = 512) : ∀ k, k ≤ 148 → addL b k = sumL (b.take k) := by
  intro k
  induction k with
  | zero => intro _; simp [addL, sumL]
  | succ k ih =>
    intro hk
    have hx : b[k]? = some (b.getD k 0) := by rw [List.getD_eq_getElem?_getD]; simp [show k < b.length by omega]
    rw [addL, ih (by omega), if_neg (by omega), List.take_add_one, hx]
    simp [sumL]
theorem addL_mid (b : List UInt8) (hb : b.length = 512) : addL b 156 = sumL (b.take 148) + 256 := by
  rw [← addL_low b hb 148 (Nat.le_refl _)]
  simp [addL]
theorem addL_high (b : List UInt8) (hb : b.length = 512) : ∀ j, 156 + j ≤ 512 → addL b (156 + j) = sumL (b.take 148) + 256 + sumL ((b.drop 156).take j) := by
  intro j
  induction j with
  | zero => intro _; rw [Nat.add_zero, addL_mid b hb]; simp [sumL]
  | succ j ih =>
    intro hj
    have hx : (b.drop 156)[j]? = some (b.getD (156 + j) 0) := by
      rw [List.getElem?_drop, List.getD_eq_getElem?_getD]; simp [show 156 + j < b.length by omega]
    have ht : (b.drop 156).take (j + 1) = (b.drop 156).take j ++ [b.getD (156 + j) 0] := by rw [List.take_add_one, hx]; rfl
    rw [show 156 + (j + 1) = (156 + j) + 1 by omega, addL, ih (by omega), if_neg (by omega), ht, sumL_snoc]
    omega
theorem addL_all (b : List UInt8) (hb : b.length = 512) : addL b 512 = totL b := by
  have := addL_high b hb 356 (by omega)
  rw [show 156 + 356 = 512 from rfl] at this
  rw [this]
  unfold totL
  rw [List.take_of_length_le (l := b.drop 156) (by rw [List.length_drop]; omega)]
/-- The digits of the sum, up to a place. -/
def HeadM.dgL (b : List UInt8) : Nat → Int
  | 0 => 0
  | k + 1 => dgL b k * 8 + (((b.getD (148 + k) 0).toNat : Int) - 48)
theorem dgL_octV (b : List UInt8) : ∀ k (l : List UInt8), (∀ i, i < k → l[i]? = some (b.getD (148 + i) 0)) → dgL b k = octV (l.take k) := by
  intro k
  induction k with
  | zero => intro l _; simp [dgL, octV]
  | succ k ih =>
    intro l h
    rw [dgL, ih l (fun i hi => h i (by omega)), List.take_add_one, h k (by omega)]
    show _ = octV (l.take k ++ [b.getD (148 + k) 0])
    rw [octV_snoc]
    omega
theorem digs_get (m : Nat) : ∀ k i, i < k → ∃ d : Nat, d < 8 ∧ (digs k m)[i]? = some (UInt8.ofNat (48 + d)) := by
  intro k
  induction k with
  | zero => intro i h; omega
  | succ k ih =>
    intro i h
    rw [digs_cons]
    cases i with
    | zero => exact ⟨m / 8 ^ k % 8, by omega, by simp⟩
    | succ i =>
      obtain ⟨d, h1, h2⟩ := ih i (by omega)
      exact ⟨d, h1, by simpa using h2⟩

structure HeadM.SumIs (b : List UInt8) : Prop where
  dig : ∀ i, i < 6 → ∃ d : Nat, d < 8 ∧ b[148 + i]? = some (UInt8.ofNat (48 + d))
  tot : dgL b 6 = (addL b 512 : Int)
  nul : b[154]? = some 0
  bla : b[155]? = some 32
theorem sum_is {h : Hd} (H : mayH h = true) : SumIs (putL h) := by
  have hl := put_length H
  have S := stands H
  obtain ⟨b, hb⟩ : ∃ b, putL h = b := ⟨_, rfl⟩
  rw [hb] at hl S ⊢
  have ht := tot_of S
  have hlt := tot_lt hl
  have hch : ∀ i, i < 8 → b[148 + i]? = (chkL (totL b))[i]? := by
    intro i hi
    rw [← ht, ← cut_at (b := b) (i := 148) (j := 156) (k := 148 + i) (by omega) (by omega), show 148 + i - 148 = i by omega]
  have hd6 : ∀ i, i < 6 → b[148 + i]? = (digs 6 (totL b))[i]? := by
    intro i hi
    rw [hch i (by omega)]
    unfold chkL
    rw [List.getElem?_append_left (by rw [digs_length]; exact hi)]
  refine ⟨?_, ?_, ?_, ?_⟩
  · intro i hi
    obtain ⟨d, h1, h2⟩ := digs_get (totL b) 6 i hi
    exact ⟨d, h1, by rw [hd6 i hi]; exact h2⟩
  · refine Eq.trans ?_ (congrArg (fun n : Nat => (n : Int)) (addL_all b hl).symm)
    show dgL b 6 = (totL b : Int)
    rw [dgL_octV b 6 (digs 6 (totL b)) (fun i hi => by
      rw [← hd6 i hi, List.getD_eq_getElem?_getD]; simp [show 148 + i < b.length by omega])]
    rw [List.take_of_length_le (by rw [digs_length]; exact Nat.le_refl _), octV_digs]
    have : (8 : Nat) ^ 6 = 262144 := by decide
    rw [this, Nat.mod_eq_of_lt hlt]
  · rw [hch 6 (by omega)]
    unfold chkL
    rw [List.getElem?_append_right (by rw [digs_length]; omega), digs_length]
    rfl
  · rw [hch 7 (by omega)]
    unfold chkL
    rw [List.getElem?_append_right (by rw [digs_length]; omega), digs_length]
    rfl

theorem dgL_le {b : List UInt8} (h : SumIs b) : ∀ j, j ≤ 6 → 0 ≤ dgL b j ∧ dgL b j ≤ 8 ^ j - 1 := by
  intro j
  induction j with
  | zero => intro _; simp [dgL]
  | succ j ih =>
    intro hj
    obtain ⟨i1, i2⟩ := ih (by omega)
    obtain ⟨d, h1, h2⟩ := h.dig j (by omega)
    have e : ((b.getD (148 + j) 0).toNat : Int) = 48 + (d : Int) := by
      rw [List.getD_eq_getElem?_getD, h2]
      show ((UInt8.ofNat (48 + d)).toNat : Int) = _
      rw [UInt8.toNat_ofNat_of_lt' (by have : UInt8.size = 256 := rfl; omega)]
      omega
    rw [dgL, e, Int.pow_succ]
    generalize (8 : Int) ^ j = y at *
    omega
theorem u8_sub48 (d : Nat) (h : d < 8) : (UInt8.ofNat (48 + d)).toNat = 48 + d := by
  rw [UInt8.toNat_ofNat_of_lt' (by have : UInt8.size = 256 := rfl; omega)]
theorem buildPre (w : World) :
    (Instr.build 23 #[(12, .string ⟨#[97, 0]⟩)]).run Try.prog w =
      .ok (.agg #[.string ⟨#[]⟩, .int .i64 0, .int .i64 0, .int .i64 0, .int .i64 0, .int .i64 0, .int .u8 0, .string ⟨#[]⟩, .string ⟨#[]⟩, .string ⟨#[]⟩, .int .i64 0, .int .i64 0, .string ⟨#[97, 0]⟩]) w := run_build w _ _ _ (by kernel_rfl)

set_option maxHeartbeats 8000000 in
set_option maxRecDepth 100000 in
theorem sum_true (A B : ByteArray) (na : Option Addr) (len cap : Nat) (zs : List Int) (t q : Int) (ht : 0 ≤ t ∧ t ≤ 255) (hq : 0 ≤ q ∧ q ≤ 255) (w : World) (hrow : IsRow .u32 w na len cap zs) :
    Calls Try.prog 8 #[.string A, .string B, .slice na len cap, .int .u8 t, .int .u8 q] w fun e w' => e = .returned (.bool true) ∧ Below w.heap.size w w' := by
  have haw := awake_true
  by_cases hA : 300 < A.size
  · have h1 : (300 : Int) < (A.size : Int) := by omega
    clear hrow
    go_enter Try.func8, Try.ntmps8
    go_wp2_with fail
    refine (haw _).mono ?_
    rintro e w1 ⟨rfl, hbw1⟩
    have hzw1 := hbw1.size
    try simp at hzw1
    go_wp2_with fail
    go_ret
    exact ⟨rfl, hbw1⟩
  by_cases hB : 300 < B.size
  · have h1 : ¬ (300 : Int) < (A.size : Int) := by omega
    have h2 : (300 : Int) < (B.size : Int) := by omega
    clear hrow
    go_enter Try.func8, Try.ntmps8
    go_wp2_with fail
    refine (haw _).mono ?_
    rintro e w1 ⟨rfl, hbw1⟩
    have hzw1 := hbw1.size
    try simp at hzw1
    go_wp2_with fail
    go_ret
    exact ⟨rfl, hbw1⟩
  obtain ⟨c, rfl⟩ := u8_is ht
  have hnb := row_nth hrow
  have hmk := make_any A B (by omega) (by omega) na len cap zs w hrow c
  have hM1 := mk_may (L A) (L B) zs len c hnb
  have hM2 := mk_ints (L A) (L B) zs len c hnb
  obtain ⟨M, hM⟩ : ∃ M, mkH (L A) (L B) zs len c = M := ⟨_, rfl⟩
  rw [hM] at hmk hM1 hM2
  have hp := put_any M
  rw [put_may hM1] at hp
  have hpl := put_length hM1
  have SI := sum_is hM1
  obtain ⟨P, hP⟩ : ∃ P : ByteArray, strOf (putL M) = P := ⟨_, rfl⟩
  have hLP : L P = putL M := by rw [← hP, L_strOf]
  have zP : P.size = 512 := by rw [← size_L, hLP, hpl]
  rw [hP] at hp
  obtain ⟨d, hd8, hd⟩ := SI.dig 5 (by omega)
  have hd : (putL M)[153]? = some (UInt8.ofNat (48 + d)) := hd
  -- the digit that stands there, and the other one
  obtain ⟨r, hr⟩ : ∃ r : Int, q % 7 = r := ⟨_, rfl⟩
  have hqr : q.tmod 7 = r := by rw [Int.tmod_eq_emod_of_nonneg hq.1]; exact hr
  obtain ⟨f, hf⟩ : ∃ f : Nat, ((d : Int) + 1 + r) % 8 = (f : Int) := ⟨(((d : Int) + 1 + r) % 8).toNat, by omega⟩
  have hf8 : f < 8 := by omega
  have hfd : f ≠ d := by omega
  have hfm : ((d : Int) + 1 + r).tmod 8 = (f : Int) := by rw [Int.tmod_eq_emod_of_nonneg (by omega)]; exact hf
  have hne : UInt8.ofNat (48 + f) ≠ UInt8.ofNat (48 + d) := by
    intro e
    have := congrArg UInt8.toNat e
    rw [u8_sub48 f hf8, u8_sub48 d hd8] at this
    omega
  have htu := turned hM1 hd hne []
  rw [List.append_nil] at htu
  obtain ⟨Q, hQ⟩ : ∃ Q : ByteArray, strOf ((putL M).set 153 (UInt8.ofNat (48 + f))) = Q := ⟨_, rfl⟩
  obtain ⟨Z, hZ⟩ : ∃ Z, zeroH = Z := ⟨_, rfl⟩
  have hg := fun w => get_any Q (by rw [← hQ, strOf_sz, List.length_set]; omega) w
  rw [show L Q = (putL M).set 153 (UInt8.ofNat (48 + f)) by rw [← hQ, L_strOf], htu, hZ] at hg
  have hcv : ∀ W, (convert 9 43 (.string P)).run Try.prog W = .ok (.slice (some ⟨W.heap.size, 0, none⟩) 512 (grownCap W P.size 0 5)) (Lib.bytesWorld W 5 P) := fun W => by
    have := Lib.run_convert_string_bytes (P := Try.prog) W 9 43 5 P Try.underlying9 Try.underlying43 Try.underlying5
    rw [zP] at this ⊢
    exact this
  have h1 : ¬ (300 : Int) < (A.size : Int) := by omega
  have h2 : ¬ (300 : Int) < (B.size : Int) := by omega
  have hbad : mayH { name := ⟨#[]⟩, mode := 0, uid := 0, gid := 0, size := 0, mtime := 0, typ := 0, link := ⟨#[]⟩, uname := ⟨#[]⟩, gname := ⟨#[]⟩, major := 0, minor := 0, pre := ⟨#[97, 0]⟩ } = false := by kernel_rfl
  have hmy : ∀ w, Calls Try.prog 14 #[.agg #[.string ⟨#[]⟩, .int .i64 0, .int .i64 0, .int .i64 0, .int .i64 0, .int .i64 0, .int .u8 0, .string ⟨#[]⟩, .string ⟨#[]⟩, .string ⟨#[]⟩, .int .i64 0, .int .i64 0, .string ⟨#[97, 0]⟩]] w fun e w' => e = .returned (.bool false) ∧ Below w.heap.size w w' := fun w => by
    have h := may_any { name := ⟨#[]⟩, mode := 0, uid := 0, gid := 0, size := 0, mtime := 0, typ := 0, link := ⟨#[]⟩, uname := ⟨#[]⟩, gname := ⟨#[]⟩, major := 0, minor := 0, pre := ⟨#[97, 0]⟩ } w
    rw [hbad] at h
    exact h
  have hbp := buildPre
  have HI := Lib.hid (fun i (h : i < 512) => idxAt Try.underlying9 P i (by omega))
  have HD := Lib.hid SI
  have HB := Lib.hid (And.intro hLP (And.intro hpl (And.intro hd hQ)))
  have HDD := Lib.hid (And.intro hd8 hf8)
  replace hmk := Lib.hid hmk
  replace hp := Lib.hid hp
  replace hg := Lib.hid hg
  replace hmy := Lib.hid hmy
  replace hcv := Lib.hid hcv
  have hr0 : 0 ≤ r := by omega
  have hr6 : r ≤ 6 := by omega
  clear hA hB ht hM1 hM2 hM hrow hnb hP hLP hpl hZ hQ hf hfd hne htu hbad SI hd hr
  have hq0 := hq.1
  have hq1 := hq.2
  clear hq
  go_enter Try.func8, Try.ntmps8
  go_wp2_with fail
  refine hmk.out.mono ?_
  rintro e w1 ⟨rfl, hb1⟩
  go_wp2_with fail
  refine (hp.out _).mono ?_
  rintro e w2 ⟨rfl, hb2⟩
  have hB2 := gr_call hb1 hb2
  clear hb1 hb2 hmk hp
  go_wp2_with fail
  go_loopw [12, 13] (fun nv iv wx => ∃ k : Nat, iv = .int .i64 (k : Int) ∧ k ≤ 512 ∧ nv = .int .i64 (addL (putL M) k : Int) ∧ wx = w2) (fun _ iv _ => 512 - (intOf iv).toNat)
  case atStart => exact ⟨0, rfl, by omega, rfl, rfl⟩
  case round =>
    obtain ⟨k, rfl, hk, rfl, rfl⟩ := hrel
    have hle := addL_le (putL M) k
    by_cases hlt : k < 512
    · have hlt' : (k : Int) < 512 := by omega
      obtain ⟨x, hx, hidx⟩ := HI.out k hlt
      have hxg : (putL M).getD k 0 = x := by rw [List.getD_eq_getElem?_getD, ← HB.out.1, hx]; rfl
      have hxl := x.toNat_lt
      have hst : addL (putL M) (k + 1) = addL (putL M) k + if 148 ≤ k ∧ k < 156 then 32 else x.toNat := by rw [addL, hxg]
      obtain ⟨m, hm⟩ : ∃ m, addL (putL M) k = m := ⟨_, rfl⟩
      obtain ⟨m', hm'⟩ : ∃ m', addL (putL M) (k + 1) = m' := ⟨_, rfl⟩
      rw [hm] at hst hle ⊢
      rw [hm'] at hst
      have HM := Lib.hid hm'
      have hm9 : m ≤ 200000 := by omega
      by_cases hmid : 148 ≤ k ∧ k < 156
      · rw [if_pos hmid] at hst
        have HS := Lib.hid (show (m' : Int) = (m : Int) + 32 by omega)
        have g1 : (148 : Int) ≤ (k : Int) := by omega
        have g2 : (k : Int) < 156 := by omega
        clear hm hm' hst hmid hle hx hxg
        go_wp2
        go_roundw
        case rel => exact ⟨k + 1, by go_num, by omega, by rw [HM.out, HS.out], trivial⟩
        case measure => simp only [intOf]; omega
      · rw [if_neg hmid] at hst
        have HS := Lib.hid (show (m' : Int) = (m : Int) + (x.toNat : Int) by omega)
        have hcs : (k : Int) < 148 ∨ (148 ≤ (k : Int) ∧ 156 ≤ (k : Int)) := by omega
        clear hm hm' hst hmid hle hx hxg
        rcases hcs with g1 | ⟨g1, g2⟩
        · have g3 : ¬ (148 : Int) ≤ (k : Int) := by omega
          go_wp2
          go_roundw
          case rel => exact ⟨k + 1, by go_num, by omega, by rw [HM.out, HS.out], trivial⟩
          case measure => simp only [intOf]; omega
        · have g3 : ¬ (k : Int) < 156 := by omega
          go_wp2
          go_roundw
          case rel => exact ⟨k + 1, by go_num, by omega, by rw [HM.out, HS.out], trivial⟩
          case measure => simp only [intOf]; omega
    · obtain rfl : k = 512 := by omega
      obtain ⟨T, hT⟩ : ∃ T, (addL (putL M) 512 : Int) = T := ⟨_, rfl⟩
      rw [hT]
      have HT := Lib.hid hT
      clear hT hle hlt hk
      go_wp2_with fail
      have HKB := Lib.hid (dgL_le HD.out)
      go_loopw [14, 15] (fun kv iv wx => ∃ i : Nat, iv = .int .i64 (i : Int) ∧ 148 ≤ i ∧ i ≤ 154 ∧ kv = .int .i64 (dgL (putL M) (i - 148)) ∧ wx = wr) (fun _ iv _ => 154 - (intOf iv).toNat)
      case atStart => exact ⟨148, rfl, by omega, by omega, rfl, by trivial⟩
      case round =>
        obtain ⟨i, rfl, hi1, hi2, rfl, rfl⟩ := hrel
        by_cases hlt : i < 154
        · have hlt' : (i : Int) < 154 := by omega
          obtain ⟨x, hx, hidx⟩ := HI.out i (by omega)
          obtain ⟨g, hg8, hgx⟩ := HD.out.dig (i - 148) (by omega)
          rw [show 148 + (i - 148) = i by omega] at hgx
          have hxg : x = UInt8.ofNat (48 + g) := by rw [← HB.out.1, hx] at hgx; injection hgx
          have hxn : (x.toNat : Int) = 48 + (g : Int) := by rw [hxg, u8_sub48 g hg8]; omega
          have hb1 := HKB.out (i - 148) (by omega)
          have hp8 : (8 : Int) ^ (i - 148) ≤ 32768 := by
            have : i - 148 = 0 ∨ i - 148 = 1 ∨ i - 148 = 2 ∨ i - 148 = 3 ∨ i - 148 = 4 ∨ i - 148 = 5 := by omega
            rcases this with e | e | e | e | e | e <;> rw [e] <;> decide
          have hst : dgL (putL M) (i + 1 - 148) = dgL (putL M) (i - 148) * 8 + (g : Int) := by
            rw [show i + 1 - 148 = (i - 148) + 1 by omega, dgL, show 148 + (i - 148) = i by omega]
            have : (putL M).getD i 0 = x := by rw [List.getD_eq_getElem?_getD, ← HB.out.1, hx]; rfl
            rw [this]
            omega
          obtain ⟨K, hK⟩ : ∃ K, dgL (putL M) (i - 148) = K := ⟨_, rfl⟩
          rw [hK] at hb1 hst ⊢
          have HS := Lib.hid hst
          have hK0 : 0 ≤ K := hb1.1
          have hK9 : K ≤ 40000 := by omega
          obtain ⟨gi, hgi⟩ : ∃ gi : Int, (g : Int) = gi := ⟨_, rfl⟩
          rw [hgi] at hxn HS
          have hgi0 : 0 ≤ gi := by omega
          have hgi7 : gi ≤ 7 := by omega
          rw [hxn] at hidx
          have hw1 : IntKind.u8.wrap (48 + gi - 48) = gi := by rw [show 48 + gi - 48 = gi by omega]; simp [IntKind.wrap, IntKind.signed, IntKind.bits]; omega
          clear hx hgx hxg hxn hb1 hp8 hst hK hgi hg8
          go_wp2
          go_roundw
          case rel => exact ⟨i + 1, by go_num, by omega, by omega, by rw [HS.out], by trivial⟩
          case measure => simp only [intOf]; omega
        · obtain rfl : i = 154 := by omega
          have hk6 : dgL (putL M) (154 - 148) = T := by rw [← HT.out]; exact HD.out.tot
          rw [hk6]
          clear hk6 HKB hlt hi1 hi2
          have hR := RowIs.of wr 5 P
          rw [show P.data.toList = putL M from HB.out.1] at hR
          have hB6 := below_bytesWorld hB2 hB2.size 5 P
          have hcv5 := hcv.out wr
          have hle5 : w.heap.size ≤ wr.heap.size := hB2.size
          have hl6 : wr.heap.size < (Lib.bytesWorld wr 5 P).heap.size := hR.size
          clear hcv hB2
          generalize Lib.bytesWorld wr 5 P = w6 at *
          have hIl : 153 < (putL M).length := by rw [HB.out.2.1]; decide
          have hcell := hR.cell 153 hIl
          have hfr := hR.free 153 hIl
          have hbd : (putL M)[153] = UInt8.ofNat (48 + d) := (List.getElem?_eq_some_iff.1 HB.out.2.2.1).2
          rw [hbd, u8_sub48 d HDD.out.1] at hcell
          obtain ⟨di, hdi⟩ : ∃ di : Int, (d : Int) = di := ⟨_, rfl⟩
          have hcell2 : w6.cell? ⟨wr.heap.size, 153, none⟩ = some (.int .u8 (48 + di)) := by rw [hcell, ← hdi]; rfl
          have hput := hR.put 153 (UInt8.ofNat (48 + f))
          rw [u8_sub48 f HDD.out.2] at hput
          obtain ⟨fi, hfi⟩ : ∃ fi : Int, (f : Int) = fi := ⟨_, rfl⟩
          have hcst : (((48 + f : Nat) : Int)) = 48 + fi := by rw [← hfi]; rfl
          rw [hcst] at hput
          have hB7 := gr_set hB6 (p := ⟨wr.heap.size, 153, none⟩) hle5 (.int .u8 (48 + fi))
          have hback := fun cap => hput.back (P := Try.prog) (src := 43) (dst := 9) cap Try.underlying43 Try.underlying5 Try.underlying9
          simp only [List.length_set, HB.out.2.1] at hback
          have hQe : (⟨((putL M).set 153 (UInt8.ofNat (48 + f))).toArray⟩ : ByteArray) = Q := HB.out.2.2.2
          simp only [hQe] at hback
          obtain ⟨x154, hx1, hix1⟩ := HI.out 154 (by omega)
          obtain ⟨x155, hx2, hix2⟩ := HI.out 155 (by omega)
          have e154 : x154 = 0 := by rw [HB.out.1, HD.out.nul] at hx1; injection hx1 with h; exact h.symm
          have e155 : x155 = 32 := by rw [HB.out.1, HD.out.bla] at hx2; injection hx2 with h; exact h.symm
          have i154 : ∀ w, (Instr.index 9 (.string P) (.int .i64 154)).run Try.prog w = .ok (.int .u8 0) w := by subst e154; exact hix1
          have i155 : ∀ w, (Instr.index 9 (.string P) (.int .i64 155)).run Try.prog w = .ok (.int .u8 32) w := by subst e155; exact hix2
          have hd0 : 0 ≤ di := by omega
          have hd7 : di ≤ 7 := by have := HDD.out.1; omega
          have hf0 : 0 ≤ fi := by omega
          have hf7 : fi ≤ 7 := by have := HDD.out.2; omega
          rw [hdi, hfi] at hfm
          clear hR hput hB6 hQe hIl hcell hbd hdi hfi hcst hx1 hx2 hix1 hix2 e154 e155 HI HB HD HDD HT hd8 hf8 hd
          have hwa : IntKind.u8.wrap (48 + di - 48) = di := by rw [show 48 + di - 48 = di by omega]; simp [IntKind.wrap, IntKind.signed, IntKind.bits]; omega
          have hwb : IntKind.u8.wrap (di + 1) = di + 1 := by simp [IntKind.wrap, IntKind.signed, IntKind.bits]; omega
          have hwc : IntKind.u8.wrap (di + 1 + r) = di + 1 + r := by simp [IntKind.wrap, IntKind.signed, IntKind.bits]; omega
          have hwd : IntKind.u8.wrap (48 + fi) = 48 + fi := by simp [IntKind.wrap, IntKind.signed, IntKind.bits]; omega
          go_wp2_with fail
          refine (hg.out _).mono ?_
          rintro e w8 ⟨rfl, hb8⟩
          have hB8 := gr_call hB7 hb8
          clear hB7 hb8 hback hcell2 hfr hg hcv5
          have herr := err_any
          go_wp2_with (first | (go_at_call 18; refine (herr _ _).mono ?_; rintro e w9 ⟨rfl, rfl⟩))
          refine (hmy.out _).mono ?_
          rintro e w9 ⟨rfl, hb9⟩
          have hB9 := gr_call (gr_alloc hB8 _) hb9
          clear hB8 hb9
          go_wp2_with fail
          refine (haw _).mono ?_
          rintro e w10 ⟨rfl, hb10⟩
          have hB10 := gr_call hB9 hb10
          go_wp2_with fail
          go_ret
          exact ⟨rfl, hB10⟩
end Go.Proofs.Ytkkmhfgfkjeooaa
