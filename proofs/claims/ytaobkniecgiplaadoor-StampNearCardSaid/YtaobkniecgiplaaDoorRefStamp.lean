/- Walks over the document's answer for times: digits, texts. -/
import Derived.Test.YtaobkniecgiplaaDoorStampParse
import Derived.Deep.QuietTactic
import Derived.BigQuiet
namespace Go.Proofs.YtaobkniecgiplaaDoor
open Go.RowKit
open StampM
open DecM
open Go.Lib (decDigits itoa)

theorem dec_step (m : Nat) (h : 10 ≤ m) : decDigits m = decDigits (m / 10) ++ [UInt8.ofNat (48 + m % 10)] := by
  rw [decDigits, dif_neg (by omega)]
theorem refDigits_any (n : Nat) (w : World) (hn : n < 9223372036854775808) :
    Calls Tryd.prog 23 #[.int .i64 n] w fun e w' => e = .returned (.string ⟨(decDigits n).toArray⟩) ∧ Below w.heap.size w w' := by
  have hl : (decDigits n).length ≤ 19 := dec_len 18 n (by omega)
  have Hl := Lib.hid hl
  clear hl
  go_enter Tryd.func23, Tryd.ntmps23
  go_wp2_with fail
  go_loopw [0, 3] (fun nv sv wr => ∃ (m : Nat) (S : List UInt8), m ≤ n ∧ nv = .int .i64 m ∧ sv = .string ⟨S.toArray⟩ ∧ Hid (decDigits m ++ S = decDigits n) ∧ Below w.heap.size w wr) (fun nv _ _ => (intOf nv).toNat)
  case atStart => exact ⟨n, [], Nat.le_refl _, rfl, rfl, by simp [Hid], Below.refl _ _⟩
  case round =>
    obtain ⟨m, S, hm, rfl, rfl, HS, hbl⟩ := hrel
    have hS : S.length ≤ 19 := by
      have := congrArg List.length HS.out
      have h2 := Hl.out
      simp at this; omega
    by_cases hgo : 10 ≤ m
    · have hu : (48 + (m : Int) % 10) = ((UInt8.ofNat (48 + m % 10)).toNat : Int) := by simp; omega
      have HS' := Lib.hid (show decDigits (m / 10) ++ (UInt8.ofNat (48 + m % 10) :: S) = decDigits n by rw [← HS.out, dec_step m hgo]; simp)
      generalize UInt8.ofNat (48 + m % 10) = u at *
      have hcv := fun W => conv_one (P := Tryd.prog) (src := 41) (dst := 9) Tryd.underlying41 Tryd.underlying5 Tryd.underlying9 u (48 + (m : Int) % 10) hu W
      clear hu HS
      have hbl2 := gr_alloc hbl (.cells #[.int .u8 (48 + (m : Int) % 10)] 5)
      go_wp2
      all_goals
        go_roundw
        case rel => exact ⟨m / 10, u :: S, by omega, by go_num, by rw [one_more], HS', hbl2⟩
        case measure => simp [intOf]; omega
    · have hu : (48 + (m : Int)) = ((UInt8.ofNat (48 + m)).toNat : Int) := by simp; omega
      have Hd := Lib.hid (show decDigits n = UInt8.ofNat (48 + m) :: S by rw [← HS.out, decDigits, dif_pos (by omega)]; rfl)
      generalize UInt8.ofNat (48 + m) = u at *
      have hcv := fun W => conv_one (P := Tryd.prog) (src := 41) (dst := 9) Tryd.underlying41 Tryd.underlying5 Tryd.underlying9 u (48 + (m : Int)) hu W
      have hlt : decide ((10 : Int) ≤ (m : Int)) = false := by simp; omega
      clear hu HS
      go_wp2
      go_ret
      exact ⟨ret_bytes (by rw [Hd.out]; simp), by (repeat' (first | exact Below.refl _ _ | assumption | refine gr_drew ?_ | refine gr_drewN ?_ _ | refine gr_alloc ?_ _ | refine gr_set ?_ ?_ _ | refine gr_call ?_ (by assumption)) <;> (try (simp; done)) <;> (try (simp; omega)) <;> (try omega))⟩

theorem refMay_yes (s n : Int) (w : World) (h : mayF s n = true) :
    Calls Tryd.prog 14 #[.agg #[.int .i64 s, .int .i64 n]] w fun e w' => e = .returned (.bool true) ∧ Below w.heap.size w w' := by
  have hb := (may_iff s n).1 h
  have h1 : decide (-1099511627776 ≤ s) = true := by simpa using hb.1.1
  have h2 : decide (s ≤ 1099511627776) = true := by simpa using hb.1.2
  have h3 : decide (0 ≤ n) = true := by simpa using hb.2.1
  have h4 : decide (n ≤ 999999999) = true := by simp; omega
  clear h hb
  go_enter Tryd.func14, Tryd.ntmps14
  go_wp2
  go_ret
  exact ⟨rfl, by (repeat' (first | exact Below.refl _ _ | assumption | refine gr_drew ?_ | refine gr_drewN ?_ _ | refine gr_alloc ?_ _ | refine gr_set ?_ ?_ _ | refine gr_call ?_ (by assumption)) <;> (try (simp; done)) <;> (try (simp; omega)) <;> (try omega))⟩
theorem refMay_no (s n : Int) (w : World) (h : mayF s n = false) :
    Calls Tryd.prog 14 #[.agg #[.int .i64 s, .int .i64 n]] w fun e w' => e = .returned (.bool false) ∧ Below w.heap.size w w' := by
  have hb : ¬ ((-1099511627776 ≤ s ∧ s ≤ 1099511627776) ∧ 0 ≤ n ∧ n < 1000000000) := by rw [← may_iff, h]; simp
  by_cases h1 : -1099511627776 ≤ s
  · have h1' : decide (-1099511627776 ≤ s) = true := by simpa using h1
    by_cases h2 : s ≤ 1099511627776
    · have h2' : decide (s ≤ 1099511627776) = true := by simpa using h2
      by_cases h3 : 0 ≤ n
      · have h3' : decide (0 ≤ n) = true := by simpa using h3
        have h4' : decide (n ≤ 999999999) = false := by simp; omega
        clear h hb
        go_enter Tryd.func14, Tryd.ntmps14
        go_wp2
        go_ret
        exact ⟨rfl, by (repeat' (first | exact Below.refl _ _ | assumption | refine gr_drew ?_ | refine gr_drewN ?_ _ | refine gr_alloc ?_ _ | refine gr_set ?_ ?_ _ | refine gr_call ?_ (by assumption)) <;> (try (simp; done)) <;> (try (simp; omega)) <;> (try omega))⟩
      · have h3' : decide (0 ≤ n) = false := by simp; omega
        clear h hb
        go_enter Tryd.func14, Tryd.ntmps14
        go_wp2
        go_ret
        exact ⟨rfl, by (repeat' (first | exact Below.refl _ _ | assumption | refine gr_drew ?_ | refine gr_drewN ?_ _ | refine gr_alloc ?_ _ | refine gr_set ?_ ?_ _ | refine gr_call ?_ (by assumption)) <;> (try (simp; done)) <;> (try (simp; omega)) <;> (try omega))⟩
    · have h2' : decide (s ≤ 1099511627776) = false := by simp; omega
      clear h hb
      go_enter Tryd.func14, Tryd.ntmps14
      go_wp2
      go_ret
      exact ⟨rfl, by (repeat' (first | exact Below.refl _ _ | assumption | refine gr_drew ?_ | refine gr_drewN ?_ _ | refine gr_alloc ?_ _ | refine gr_set ?_ ?_ _ | refine gr_call ?_ (by assumption)) <;> (try (simp; done)) <;> (try (simp; omega)) <;> (try omega))⟩
  · have h1' : decide (-1099511627776 ≤ s) = false := by simp; omega
    clear h hb
    go_enter Tryd.func14, Tryd.ntmps14
    go_wp2
    go_ret
    exact ⟨rfl, by (repeat' (first | exact Below.refl _ _ | assumption | refine gr_drew ?_ | refine gr_drewN ?_ _ | refine gr_alloc ?_ _ | refine gr_set ?_ ?_ _ | refine gr_call ?_ (by assumption)) <;> (try (simp; done)) <;> (try (simp; omega)) <;> (try omega))⟩

theorem refDigits_int (x : Int) (w : World) (h0 : 0 ≤ x) (h1 : x < 9223372036854775808) :
    Calls Tryd.prog 23 #[.int .i64 x] w fun e w' => e = .returned (.string ⟨(itoa x).toArray⟩) ∧ Below w.heap.size w w' := by
  obtain ⟨n, rfl⟩ := Int.eq_ofNat_of_zero_le h0
  have hi : itoa (n : Int) = decDigits n := by unfold itoa; rw [if_neg (by omega)]; rfl
  rw [hi]
  exact refDigits_any n w (by omega)
def strLen : Value → Nat | .string s => s.size | _ => 0
/-- The last letter of a string that has one. -/
theorem idx_last {P : Program} {t : TypeId} (ht : P.underlying t = some .string) (S : ByteArray) (h : 1 ≤ S.size) : ∃ c : UInt8, S.data.toList.getLast? = some c ∧ ∀ w, (Instr.index t (.string S) (.int .i64 ((S.size : Int) - 1))).run P w = .ok (.int .u8 (c.toNat : Int)) w := by
  have h' : S.size - 1 < S.size := by omega
  refine ⟨S[S.size - 1], ?_, ?_⟩
  · rw [List.getLast?_eq_getElem?]
    have : S.data.toList.length = S.size := by simp
    rw [this, List.getElem?_eq_getElem (by omega)]; rfl
  · intro w
    have e : ((S.size : Int) - 1) = ((S.size - 1 : Nat) : Int) := by omega
    rw [e]
    simp [go_sem, ht, h']
theorem step_zero {L : List UInt8} {S : ByteArray} (h : ∃ k, L = S.data.toList ++ List.replicate k 48) (hc : S.data.toList.getLast? = some 48) (h0 : valN L ≠ 0) :
    1 ≤ (S.extract 0 (S.size - 1)).size ∧ (S.extract 0 (S.size - 1)).size + 1 = S.size ∧ ∃ k, L = (S.extract 0 (S.size - 1)).data.toList ++ List.replicate k 48 := by
  obtain ⟨k, hk⟩ := h
  obtain ⟨T, hT⟩ := List.getLast?_eq_some_iff.1 hc
  have hsz : S.size = T.length + 1 := by have : S.data.toList.length = S.size := by simp
                                         rw [hT] at this; simpa using this.symm
  have hx : (S.extract 0 (S.size - 1)).data.toList = T := by
    rw [Lib.extract_data, hT, hsz]; simp
  have hsz2 : (S.extract 0 (S.size - 1)).size = T.length := by
    have : (S.extract 0 (S.size - 1)).data.toList.length = (S.extract 0 (S.size - 1)).size := by simp
    rw [hx] at this; exact this.symm
  rw [hx, hsz2]
  have hL : L = T ++ List.replicate (k + 1) 48 := by rw [hk, hT, List.replicate_succ]; simp
  refine ⟨?_, hsz.symm, k + 1, hL⟩
  rcases T with _ | ⟨a, T⟩
  · exfalso; apply h0; rw [hL]; simp only [List.nil_append]; exact valN_zeros _
  · simp
theorem stop_zero {L : List UInt8} {S : ByteArray} {c : UInt8} (h : ∃ k, L = S.data.toList ++ List.replicate k 48) (hc : S.data.toList.getLast? = some c) (h0 : c ≠ 48) :
    Lib.trimRightB L 48 = S.data.toList := by
  obtain ⟨k, hk⟩ := h
  obtain ⟨T, hT⟩ := List.getLast?_eq_some_iff.1 hc
  rw [hk, hT]
  unfold Lib.trimRightB
  rw [List.reverse_append, List.reverse_replicate]
  have hd : ∀ k, List.dropWhile (· == 48) (List.replicate k 48 ++ (T ++ [c]).reverse) = (T ++ [c]).reverse := by
    intro k
    induction k with
    | zero => simp [List.dropWhile_cons, h0]
    | succ k ih => rw [List.replicate_succ, List.cons_append, List.dropWhile_cons_of_pos (by simp), ih]
  rw [hd]; simp
theorem frac_of (n : Nat) (h : n < 1000000000) (h0 : n ≠ 0) : fracF (n : Int) = 46 :: Lib.trimRightB (nine n) 48 := by
  obtain ⟨h1, _⟩ := nine_of n h
  have hi : itoa (1000000000 + (n : Int)) = 49 :: nine n := by
    rw [← h1]; unfold itoa; rw [if_neg (by omega)]; congr 1
  unfold fracF; rw [if_neg (by omega), hi]; rfl
/-- The document's answer's text of a time from nought on. -/
theorem refTextPos (s n : Nat) (w : World) (hs : s ≤ 1099511627776) (hn : n < 1000000000) :
    Calls Tryd.prog 16 #[.agg #[.int .i64 s, .int .i64 n]] w fun e w' => e = .returned (.string ⟨(itoa s ++ fracF n).toArray⟩) ∧ Below w.heap.size w w' := by
  have h1 : decide ((s : Int) < 0) = false := by simp
  have HD := Lib.hid (fun W => refDigits_int s W (by omega) (by omega))
  have hl := (itoa_len s (by omega) (by omega)).2
  by_cases h0 : n = 0
  · subst h0
    have Hf := Lib.hid (show fracF ((0 : Nat) : Int) = [] from rfl)
    generalize itoa (s : Int) = L at *
    go_enter Tryd.func16, Tryd.ntmps16
    go_wp2_with fail
    go_quiet (fail)
    go_wp2_with fail
    refine (HD.out _).mono ?_
    rintro e w1 ⟨rfl, hbw1⟩
    have hzw1 := hbw1.size
    try simp at hzw1
    go_wp2_with fail
    go_ret
    exact ⟨ret_bytes (by rw [Hf.out]; simp), by (repeat' (first | exact Below.refl _ _ | assumption | refine gr_drew ?_ | refine gr_drewN ?_ _ | refine gr_alloc ?_ _ | refine gr_set ?_ ?_ _ | refine gr_call ?_ (by assumption)) <;> (try (simp; done)) <;> (try (simp; omega)) <;> (try omega))⟩
  · have HN := Lib.hid (nine_of n hn)
    have H0 := Lib.hid h0
    have Hf := Lib.hid (frac_of n hn h0)
    have hq : ((n : Int) == 0) = false := by rw [beq_eq_false_iff_ne]; omega
    have HE := Lib.hid (fun W => refDigits_int (1000000000 + (n : Int)) W (by omega) (by omega))
    have hi : itoa (1000000000 + (n : Int)) = 49 :: nine n := by
      rw [← HN.out.1]; unfold itoa; rw [if_neg (by omega)]; congr 1
    rw [hi] at HE
    have hn9 : (nine n).length = 9 := HN.out.2.1
    have hn9' : (nine n).length ≤ 9 := by omega
    have hn9'' : 9 ≤ (nine n).length := by omega
    have hex : ∀ k : Nat, 10 ≤ k → ({ data := (49 :: nine n).toArray } : ByteArray).extract 1 k = ⟨(nine n).toArray⟩ := by
      intro k hk
      rw [Lib.extract_mk]; simp
      exact List.take_of_length_le (by omega)
    have Hex := Lib.hid hex
    clear h0 hi hn9 hex
    generalize itoa (s : Int) = L at *
    go_enter Tryd.func16, Tryd.ntmps16
    go_wp2_with fail
    go_quiet (fail)
    go_wp2_with fail
    refine (HD.out _).mono ?_
    rintro e w1 ⟨rfl, hbw1⟩
    have hzw1 := hbw1.size
    try simp at hzw1
    go_wp2_with fail
    refine (HE.out _).mono ?_
    rintro e w2 ⟨rfl, hbw2⟩
    have hzw2 := hbw2.size
    try simp at hzw2
    go_wp2_with fail
    rw [Hex.out _ (by omega)]
    go_loop [7] (fun fv => ∃ S : ByteArray, fv = .string S ∧ 1 ≤ S.size ∧ S.size ≤ 9 ∧ Hid (∃ k, nine n = S.data.toList ++ List.replicate k 48)) (fun fv => strLen fv)
    case atStart => exact ⟨⟨(nine n).toArray⟩, rfl, by rw [Lib.size_mk, HN.out.2.1]; decide, by rw [Lib.size_mk, HN.out.2.1]; decide, 0, by simp⟩
    case round =>
      obtain ⟨S, rfl, hS1, hS9, HS⟩ := hrel
      obtain ⟨c, hc, hidx⟩ := idx_last Tryd.underlying9 S hS1
      by_cases h48 : c = 48
      · subst h48
        have HT := Lib.hid (step_zero HS.out hc (by rw [HN.out.2.2.1]; exact H0.out))
        simp only [show ((48 : UInt8).toNat : Int) = 48 from rfl] at hidx
        clear HS hc
        go_wp2
        go_round
        case rel => exact ⟨_, rfl, HT.out.1, by have := HT.out.2.1; omega, HT.out.2.2⟩
        case measure => simp only [strLen]; have := HT.out.2.1; omega
      · have hne : ((c.toNat : Int) == 48) = false := by
          rw [beq_eq_false_iff_ne]; intro h; exact h48 (UInt8.toNat_inj.1 (by have : (48 : UInt8).toNat = 48 := rfl; omega))
        have HT := Lib.hid (stop_zero HS.out hc h48)
        clear HS hc h48
        go_wp2
        go_ret
        exact ⟨ret_bytes (by rw [Hf.out, HT.out]; simp), by (repeat' (first | exact Below.refl _ _ | assumption | refine gr_drew ?_ | refine gr_drewN ?_ _ | refine gr_alloc ?_ _ | refine gr_set ?_ ?_ _ | refine gr_call ?_ (by assumption)) <;> (try (simp; done)) <;> (try (simp; omega)) <;> (try omega))⟩

/-- The document's answer's text of a time below nought. -/
theorem refTextNeg (p n : Nat) (w : World) (hp : 1 ≤ p) (hs : p ≤ 1099511627776) (hn : n < 1000000000) :
    Calls Tryd.prog 16 #[.agg #[.int .i64 (-(p : Int)), .int .i64 n]] w fun e w' => e = .returned (.string ⟨(45 :: (itoa (oppS (-(p : Int)) n) ++ fracF (oppN n))).toArray⟩) ∧ Below w.heap.size w w' := by
  have h1 : decide (-(p : Int) < 0) = true := by simp; omega
  by_cases h0 : n = 0
  · subst h0
    have Ho := Lib.hid (show oppS (-(p : Int)) ((0 : Nat) : Int) = (p : Int) by unfold oppS; simp; rw [IntWalk.wrap64_in _ ⟨by omega, by omega⟩])
    have Hf := Lib.hid (show fracF (oppN ((0 : Nat) : Int)) = [] from rfl)
    have HD := Lib.hid (fun W => refDigits_int p W (by omega) (by omega))
    have hl := (itoa_len p (by omega) (by omega)).2
    rw [Ho.out]
    generalize itoa (p : Int) = L at *
    go_enter Tryd.func16, Tryd.ntmps16
    go_wp2_with fail
    go_quiet (fail)
    go_wp2_with fail
    refine (HD.out _).mono ?_
    rintro e w1 ⟨rfl, hbw1⟩
    have hzw1 := hbw1.size
    try simp at hzw1
    go_wp2_with fail
    go_ret
    exact ⟨ret_bytes (by rw [Hf.out]; simp), by (repeat' (first | exact Below.refl _ _ | assumption | refine gr_drew ?_ | refine gr_drewN ?_ _ | refine gr_alloc ?_ _ | refine gr_set ?_ ?_ _ | refine gr_call ?_ (by assumption)) <;> (try (simp; done)) <;> (try (simp; omega)) <;> (try omega))⟩
  · have Ho := Lib.hid (show oppS (-(p : Int)) n = (p : Int) - 1 by unfold oppS; rw [if_neg (by omega), Int.neg_neg, IntWalk.wrap64_in p ⟨by omega, by omega⟩, IntWalk.wrap64_in _ ⟨by omega, by omega⟩])
    obtain ⟨N, hN⟩ := Int.eq_ofNat_of_zero_le (show 0 ≤ 1000000000 - (n : Int) by omega)
    have Hp := Lib.hid (show oppN n = (N : Int) by unfold oppN; rw [if_neg (by omega), IntWalk.wrap64_in _ ⟨by omega, by omega⟩, hN])
    have HN := Lib.hid (nine_of N (by omega))
    have H0 := Lib.hid (show N ≠ 0 by omega)
    have Hf := Lib.hid (frac_of N (by omega) (by omega))
    have hq0 : 0 < n := by omega
    have hq : ((1000000000 - (n : Int)) == 0) = false := by rw [beq_eq_false_iff_ne]; omega
    have HD := Lib.hid (fun W => refDigits_int ((p : Int) - 1) W (by omega) (by omega))
    have hl := (itoa_len ((p : Int) - 1) (by omega) (by omega)).2
    have HE := Lib.hid (fun W => refDigits_int (1000000000 + (1000000000 - (n : Int))) W (by omega) (by omega))
    have hi : itoa (1000000000 + (1000000000 - (n : Int))) = 49 :: nine N := by
      rw [← HN.out.1, hN]; unfold itoa; rw [if_neg (by omega)]; congr 1
    rw [hi] at HE
    have hn9 : (nine N).length = 9 := HN.out.2.1
    have hn9' : (nine N).length ≤ 9 := by omega
    have hn9'' : 9 ≤ (nine N).length := by omega
    have hex : ∀ k : Nat, 10 ≤ k → ({ data := (49 :: nine N).toArray } : ByteArray).extract 1 k = ⟨(nine N).toArray⟩ := by
      intro k hk
      rw [Lib.extract_mk]; simp
      exact List.take_of_length_le (by omega)
    have Hex := Lib.hid hex
    rw [Ho.out, Hp.out]
    clear h0 hi hn9 hex hN
    generalize itoa ((p : Int) - 1) = L at *
    go_enter Tryd.func16, Tryd.ntmps16
    go_wp2_with fail
    go_quiet (fail)
    go_wp2_with fail
    refine (HD.out _).mono ?_
    rintro e w1 ⟨rfl, hbw1⟩
    have hzw1 := hbw1.size
    try simp at hzw1
    go_wp2_with fail
    refine (HE.out _).mono ?_
    rintro e w2 ⟨rfl, hbw2⟩
    have hzw2 := hbw2.size
    try simp at hzw2
    go_wp2_with fail
    rw [Hex.out _ (by omega)]
    go_loop [7] (fun fv => ∃ S : ByteArray, fv = .string S ∧ 1 ≤ S.size ∧ S.size ≤ 9 ∧ Hid (∃ k, nine N = S.data.toList ++ List.replicate k 48)) (fun fv => strLen fv)
    case atStart => exact ⟨⟨(nine N).toArray⟩, rfl, by rw [Lib.size_mk, HN.out.2.1]; decide, by rw [Lib.size_mk, HN.out.2.1]; decide, 0, by simp⟩
    case round =>
      obtain ⟨S, rfl, hS1, hS9, HS⟩ := hrel
      obtain ⟨c, hc, hidx⟩ := idx_last Tryd.underlying9 S hS1
      by_cases h48 : c = 48
      · subst h48
        have HT := Lib.hid (step_zero HS.out hc (by rw [HN.out.2.2.1]; exact H0.out))
        simp only [show ((48 : UInt8).toNat : Int) = 48 from rfl] at hidx
        clear HS hc
        go_wp2
        go_round
        case rel => exact ⟨_, rfl, HT.out.1, by have := HT.out.2.1; omega, HT.out.2.2⟩
        case measure => simp only [strLen]; have := HT.out.2.1; omega
      · have hne : ((c.toNat : Int) == 48) = false := by
          rw [beq_eq_false_iff_ne]; intro h; exact h48 (UInt8.toNat_inj.1 (by have : (48 : UInt8).toNat = 48 := rfl; omega))
        have HT := Lib.hid (stop_zero HS.out hc h48)
        clear HS hc h48
        go_wp2
        go_ret
        exact ⟨ret_bytes (by rw [Hf.out, HT.out]; simp), by (repeat' (first | exact Below.refl _ _ | assumption | refine gr_drew ?_ | refine gr_drewN ?_ _ | refine gr_alloc ?_ _ | refine gr_set ?_ ?_ _ | refine gr_call ?_ (by assumption)) <;> (try (simp; done)) <;> (try (simp; omega)) <;> (try omega))⟩
theorem refText_any (s n : Int) (w : World) (hm : mayF s n = true) :
    Calls Tryd.prog 16 #[.agg #[.int .i64 s, .int .i64 n]] w fun e w' => e = .returned (.string ⟨(textF s n).toArray⟩) ∧ Below w.heap.size w w' := by
  have hb := (may_iff s n).1 hm
  obtain ⟨N, rfl⟩ := Int.eq_ofNat_of_zero_le hb.2.1
  unfold textF
  split
  · obtain ⟨p, hp⟩ := Int.eq_ofNat_of_zero_le (show 0 ≤ -s by omega)
    obtain rfl : s = -(p : Int) := by omega
    exact refTextNeg p N w (by omega) (by omega) (by omega)
  · obtain ⟨S, rfl⟩ := Int.eq_ofNat_of_zero_le (show 0 ≤ s by omega)
    exact refTextPos S N w (by omega) (by omega)
end Go.Proofs.YtaobkniecgiplaaDoor
