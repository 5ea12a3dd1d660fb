/- Times as texts: what package stamp computes, as plain functions on bytes; a text is read again. -/
import Derived.Test.YtbhnhoenjoagbaaGreatDoorDec
import Derived.Shelf.Small.Wraps
namespace Go.Proofs.YtbhnhoenjoagbaaGreatDoor.StampW
open Go.RowKit
namespace StampM
open DecM
open Go.Lib (decDigits itoa trimRightB cut index hasPrefix trimPrefix)

def vstep (x : Int) (c : UInt8) : Int := wrap64 (wrap64 (wrap64 (x * 10) + (c.toNat : Int)) - 48)
def valF (l : List UInt8) : Int := l.foldl vstep 0
def tens : Nat → Int → Int
  | 0, n => n
  | k + 1, n => wrap64 (tens k n * 10)
def nanF (l : List UInt8) : Int := tens (9 - l.length) (valF l)
/-- The time on the other side of nought. -/
def oppS (s n : Int) : Int := if n = 0 then wrap64 (-s) else wrap64 (wrap64 (-s) - 1)
def oppN (n : Int) : Int := if n = 0 then 0 else wrap64 (1000000000 - n)
def fracF (n : Int) : List UInt8 := if n = 0 then [] else 46 :: trimRightB ((itoa (1000000000 + n)).drop 1) 48
def mayF (s n : Int) : Bool := decide (-1099511627776 ≤ s) && decide (s ≤ 1099511627776) && decide (0 ≤ n) && decide (n < 1000000000)
def textF (s n : Int) : List UInt8 := if s < 0 then 45 :: (itoa (oppS s n) ++ fracF (oppN n)) else itoa s ++ fracF n
/-- What stands behind the sign. -/
def gSize (l : List UInt8) : List UInt8 := trimPrefix l [45]
def gSec (l : List UInt8) : Int := valF (cut (gSize l) [46]).1
def gNan (l : List UInt8) : Int := nanF (cut (gSize l) [46]).2.1
def guessS (l : List UInt8) : Int := if hasPrefix l [45] = true then oppS (gSec l) (gNan l) else gSec l
def guessN (l : List UInt8) : Int := if hasPrefix l [45] = true then oppN (gNan l) else gNan l

theorem valF_snoc (l : List UInt8) (c : UInt8) : valF (l ++ [c]) = vstep (valF l) c := by simp [valF]
theorem valF_eq (l : List UInt8) (h : ∀ c ∈ l, isDig c = true) (hl : l.length ≤ 18) : valF l = (valN l : Int) := by
  revert h hl
  refine snoc_ind (P := fun l => (∀ c ∈ l, isDig c = true) → l.length ≤ 18 → valF l = (valN l : Int)) (fun _ _ => rfl) ?_ l
  · clear l
    intro l c ih h hl
    have h1 := ih (fun x hx => h x (List.mem_append_left _ hx)) (by simp at hl; omega)
    have h2 := h c (by simp)
    simp only [isDig, Bool.and_eq_true, decide_eq_true_eq] at h2
    have h3 := valN_lt l (fun x hx => h x (List.mem_append_left _ hx))
    have h4 : 10 ^ l.length ≤ 10 ^ 17 := Nat.pow_le_pow_right (by omega) (by simp at hl; omega)
    have h5 : (10 : Nat) ^ 17 = 100000000000000000 := by decide
    rw [valF_snoc, valN_snoc, h1]
    unfold vstep
    rw [IntWalk.wrap64_in ((valN l : Int) * 10) ⟨by omega, by omega⟩, IntWalk.wrap64_in ((valN l : Int) * 10 + (c.toNat : Int)) ⟨by omega, by omega⟩, IntWalk.wrap64_in _ ⟨by omega, by omega⟩]
    omega
theorem tens_eq (k : Nat) (n : Nat) (h : n * 10 ^ k < 9223372036854775808) : tens k (n : Int) = ((n * 10 ^ k : Nat) : Int) := by
  induction k with
  | zero => simp [tens]
  | succ k ih =>
    rw [Nat.pow_succ, ← Nat.mul_assoc] at h
    rw [tens, ih (by omega), IntWalk.wrap64_in _ ⟨by omega, by omega⟩, Nat.pow_succ, ← Nat.mul_assoc]
    omega

/-- Nine digits. -/
def nine (n : Nat) : List UInt8 := (decDigits (1000000000 + n)).drop 1
theorem nine_of (n : Nat) (h : n < 1000000000) : decDigits (1000000000 + n) = 49 :: nine n ∧ (nine n).length = 9 ∧ valN (nine n) = n ∧ ∀ c ∈ nine n, isDig c = true := by
  have hl := dec_len_eq 9 (1000000000 + n) (by omega) (by omega)
  have hv := dec_val (1000000000 + n)
  have hd := dec_dig (1000000000 + n)
  unfold nine
  cases hx : decDigits (1000000000 + n) with
  | nil => rw [hx] at hl; simp at hl
  | cons c r =>
    rw [hx] at hl hv hd
    have hr : r.length = 9 := by simpa using hl
    have hrd : ∀ x ∈ r, isDig x = true := fun x hx => hd x (List.mem_cons_of_mem _ hx)
    have h1 := valN_lt r hrd
    rw [hr] at h1
    have h2 := hd c (List.mem_cons_self ..)
    simp only [isDig, Bool.and_eq_true, decide_eq_true_eq] at h2
    rw [valN_cons, hr] at hv
    have h3 : c.toNat = 49 := by omega
    have h4 : c = 49 := UInt8.toNat_inj.1 (by rw [h3]; rfl)
    subst h4
    refine ⟨rfl, hr, ?_, hrd⟩
    simp only [List.drop_one, List.tail_cons]
    have h5 : (10 : Nat) ^ 9 = 1000000000 := by decide
    have h6 : (49 : UInt8).toNat = 49 := rfl
    rw [h6] at hv
    omega

/-- The zeros behind are those that were cut off. -/
theorem trim_zeros (l : List UInt8) (c : UInt8) : ∃ k, l = trimRightB l c ++ List.replicate k c := by
  unfold trimRightB
  have h : ∀ m : List UInt8, ∃ k, m = List.replicate k c ++ m.dropWhile (· == c) := by
    intro m
    induction m with
    | nil => exact ⟨0, rfl⟩
    | cons a m ih =>
      by_cases e : a = c
      · subst e
        obtain ⟨k, hk⟩ := ih
        refine ⟨k + 1, ?_⟩
        rw [List.dropWhile_cons_of_pos (by simp), List.replicate_succ, List.cons_append, ← hk]
      · exact ⟨0, by rw [List.dropWhile_cons_of_neg (by simpa using e)]; rfl⟩
  obtain ⟨k, hk⟩ := h l.reverse
  refine ⟨k, ?_⟩
  have := congrArg List.reverse hk
  rw [List.reverse_reverse, List.reverse_append, List.reverse_replicate] at this
  exact this
theorem frac_nan (n : Nat) (h : n < 1000000000) (h0 : n ≠ 0) : ∃ r, fracF n = 46 :: r ∧ nanF r = (n : Int) ∧ ∀ c ∈ r, isDig c = true := by
  obtain ⟨h1, h2, h3, h4⟩ := nine_of n h
  have hi : itoa (1000000000 + (n : Int)) = 49 :: nine n := by
    rw [← h1]; unfold itoa; rw [if_neg (by omega)]; congr 1
  refine ⟨trimRightB (nine n) 48, ?_, ?_, ?_⟩
  · unfold fracF; rw [if_neg (by omega), hi]; rfl
  · obtain ⟨k, hk⟩ := trim_zeros (nine n) 48
    have hd : ∀ c ∈ trimRightB (nine n) 48, isDig c = true := fun c hc => h4 c (by rw [hk]; exact List.mem_append_left _ hc)
    have hl : (trimRightB (nine n) 48).length + k = 9 := by rw [← h2]; conv => rhs; rw [hk]
                                                            simp
    have hv : valN (trimRightB (nine n) 48) * 10 ^ k = n := by rw [← valN_pad, ← hk, h3]
    unfold nanF
    rw [valF_eq _ hd (by omega), show 9 - (trimRightB (nine n) 48).length = k from by omega, tens_eq _ _ (by omega), hv]
  · obtain ⟨k, hk⟩ := trim_zeros (nine n) 48
    exact fun c hc => h4 c (by rw [hk]; exact List.mem_append_left _ hc)

theorem frac_len (n : Int) (h0 : 0 ≤ n) (h1 : n ≤ 999999999) : (fracF n).length ≤ 21 := by
  unfold fracF
  split
  · simp
  · have h2 := itoa_len (1000000000 + n) (by omega) (by omega)
    have h3 := trim_le ((itoa (1000000000 + n)).drop 1) 48
    simp only [List.length_drop] at h3
    simp only [List.length_cons]
    omega
theorem dig_ne (l : List UInt8) (h : ∀ c ∈ l, isDig c = true) (d : UInt8) (hd : isDig d = false) : d ∉ l := by
  intro hm; rw [h d hm] at hd; cases hd
theorem occ_one (l : List UInt8) (c : UInt8) (i : Nat) : Lib.occAt l [c] i = true ↔ l[i]? = some c := by
  unfold Lib.occAt
  cases hx : l.drop i with
  | nil =>
    have : l[i]? = none := by
      have := congrArg (·[0]?) hx
      simpa [List.getElem?_drop] using this
    rw [this]; simp
  | cons a r =>
    have : l[i]? = some a := by
      have := congrArg (·[0]?) hx
      simpa [List.getElem?_drop] using this
    rw [this]
    simp [List.isPrefixOf]
    exact eq_comm
theorem index_not (l : List UInt8) (c : UInt8) (h : c ∉ l) : index l [c] = -1 := by
  apply Lib.index_none
  intro j _
  cases hx : Lib.occAt l [c] j with
  | false => rfl
  | true => exact absurd (List.mem_of_getElem? ((occ_one l c j).1 hx)) h
theorem index_at (l r : List UInt8) (c : UInt8) (h : c ∉ l) : index (l ++ c :: r) [c] = (l.length : Int) := by
  apply Lib.index_first
  · simp
  · rw [occ_one]; simp
  · intro j hj
    cases hx : Lib.occAt (l ++ c :: r) [c] j with
    | false => rfl
    | true =>
      have := (occ_one _ c j).1 hx
      rw [List.getElem?_append_left hj] at this
      exact absurd (List.mem_of_getElem? this) h
theorem cut_not (l : List UInt8) (c : UInt8) (h : c ∉ l) : cut l [c] = (l, [], false) := by
  unfold cut; rw [index_not l c h]; rfl
theorem cut_at (l r : List UInt8) (c : UInt8) (h : c ∉ l) : cut (l ++ c :: r) [c] = (l, r, true) := by
  unfold cut; rw [index_at l r c h, if_pos (by omega)]; simp

theorem may_iff (s n : Int) : mayF s n = true ↔ (-1099511627776 ≤ s ∧ s ≤ 1099511627776) ∧ 0 ≤ n ∧ n < 1000000000 := by
  simp [mayF]; omega
/-- Of a size from nought on its own letters. -/
theorem size_of (s n : Nat) (hs : s ≤ 1099511627776) (hn : n < 1000000000) :
    valF (cut (itoa (s : Int) ++ fracF (n : Int)) [46]).1 = (s : Int) ∧ nanF (cut (itoa (s : Int) ++ fracF (n : Int)) [46]).2.1 = (n : Int) := by
  have hi : itoa (s : Int) = decDigits s := by unfold itoa; rw [if_neg (by omega)]; rfl
  rw [hi]
  have hd := dec_dig s
  have h46 : (46 : UInt8) ∉ decDigits s := dig_ne _ hd _ (by decide)
  have hl := dec_len 12 s (by omega)
  have hv : valF (decDigits s) = (s : Int) := by rw [valF_eq _ hd (by omega), dec_val]
  by_cases h0 : n = 0
  · subst h0
    have : fracF ((0 : Nat) : Int) = [] := rfl
    rw [this, List.append_nil, cut_not _ _ h46]
    exact ⟨hv, show nanF [] = 0 by simp [nanF, valF, tens, wrap64]⟩
  · obtain ⟨r, h1, h2, _⟩ := frac_nan n hn h0
    rw [h1, cut_at _ _ _ h46]
    exact ⟨hv, h2⟩
theorem opp_bounds (s n : Int) (h : mayF s n = true) (hs : s < 0) : 0 ≤ oppS s n ∧ oppS s n ≤ 1099511627776 ∧ 0 ≤ oppN n ∧ oppN n < 1000000000 ∧ oppS (oppS s n) (oppN n) = s ∧ oppN (oppN n) = n := by
  rw [may_iff] at h
  unfold oppS oppN
  by_cases h0 : n = 0
  · subst h0
    simp only [if_true]
    rw [IntWalk.wrap64_in (-s) ⟨by omega, by omega⟩, IntWalk.wrap64_in (- -s) ⟨by omega, by omega⟩]
    refine ⟨by omega, by omega, by omega, by omega, by omega, trivial⟩
  · simp only [if_neg h0]
    rw [IntWalk.wrap64_in (-s) ⟨by omega, by omega⟩, IntWalk.wrap64_in (-s - 1) ⟨by omega, by omega⟩, IntWalk.wrap64_in (1000000000 - n) ⟨by omega, by omega⟩, if_neg (by omega)]
    rw [IntWalk.wrap64_in (-(-s - 1)) ⟨by omega, by omega⟩, IntWalk.wrap64_in _ ⟨by omega, by omega⟩, if_neg (by omega), IntWalk.wrap64_in _ ⟨by omega, by omega⟩]
    omega
theorem guess_text (s n : Int) (h : mayF s n = true) : guessS (textF s n) = s ∧ guessN (textF s n) = n := by
  have hb := (may_iff s n).1 h
  by_cases hs : s < 0
  · obtain ⟨b1, b2, b3, b4, b5, b6⟩ := opp_bounds s n h hs
    have ht : textF s n = 45 :: (itoa (oppS s n) ++ fracF (oppN n)) := by unfold textF; rw [if_pos hs]
    have hp : hasPrefix (textF s n) [45] = true := by rw [ht]; simp [hasPrefix, List.isPrefixOf]
    have hg : gSize (textF s n) = itoa (oppS s n) ++ fracF (oppN n) := by unfold gSize trimPrefix; rw [hp, if_pos rfl, ht]; rfl
    obtain ⟨S, hS⟩ := Int.eq_ofNat_of_zero_le b1
    obtain ⟨N, hN⟩ := Int.eq_ofNat_of_zero_le b3
    have hz := size_of S N (by omega) (by omega)
    unfold guessS guessN gSec gNan
    rw [hp, if_pos rfl, if_pos rfl, hg, hS, hN, hz.1, hz.2, ← hS, ← hN]
    exact ⟨b5, b6⟩
  · obtain ⟨S, rfl⟩ := Int.eq_ofNat_of_zero_le (show 0 ≤ s by omega)
    obtain ⟨N, rfl⟩ := Int.eq_ofNat_of_zero_le hb.2.1
    have ht : textF S N = itoa S ++ fracF N := by unfold textF; rw [if_neg hs]
    have hp : hasPrefix (textF S N) [45] = false := by
      rw [ht]
      have hi : itoa (S : Int) = decDigits S := by unfold itoa; rw [if_neg (by omega)]; rfl
      rw [hi]
      cases hd : decDigits S with
      | nil => exact absurd hd (dec_ne S)
      | cons c r =>
        have := dec_dig S c (by rw [hd]; simp)
        have hc : (45 == c) = false := by
          rw [beq_eq_false_iff_ne]; intro e; subst e; exact absurd this (by decide)
        simp [hasPrefix, List.isPrefixOf, hc]
    have hg : gSize (textF S N) = itoa S ++ fracF N := by unfold gSize trimPrefix; rw [hp]; simp [ht]
    have hz := size_of S N (by omega) (by omega)
    unfold guessS guessN gSec gNan
    rw [hp, hg, hz.1, hz.2]
    exact ⟨rfl, rfl⟩
/-- What Parse answers: the guess, where it has the text; else none. -/
def parseOk (l : List UInt8) : Bool := mayF (guessS l) (guessN l) && decide (textF (guessS l) (guessN l) = l)
theorem parse_text (s n : Int) (h : mayF s n = true) : parseOk (textF s n) = true := by
  obtain ⟨h1, h2⟩ := guess_text s n h
  unfold parseOk; rw [h1, h2, h]; simp
theorem parse_of {l : List UInt8} (h : parseOk l = true) : mayF (guessS l) (guessN l) = true ∧ textF (guessS l) (guessN l) = l := by
  simpa [parseOk] using h
/-- Which of two times is the earlier one. -/
def orF (x y : Int) : Int := if x ≠ 0 then x else y
def cmpF (a b c d : Int) : Int := orF (Go.Lib.compareInt a c) (Go.Lib.compareInt b d)
/-- The document's answer's way of reading: digits as far as they go. -/
def scan : Int → List UInt8 → Int × List UInt8
  | x, [] => (x, [])
  | x, c :: l => if (isDig c && decide (x ≤ 1099511627776)) = true then scan (x * 10 + ((c.toNat : Int) - 48)) l else (x, c :: l)
def digO : Option UInt8 → Int
  | some c => if isDig c = true then (c.toNat : Int) - 48 else 0
  | none => 0
def digAt (l : List UInt8) (k : Nat) : Int := digO l[k]?
def nano9 (l : List UInt8) : Nat → Int
  | 0 => 0
  | k + 1 => nano9 l k * 10 + digAt l k
theorem scan_digits (l r : List UInt8) (x : Nat) (h : ∀ c ∈ l, isDig c = true) (hx : x * 10 ^ l.length + valN l ≤ 1099511627776) (hr : ∀ c, r.head? = some c → isDig c = false) :
    scan (x : Int) (l ++ r) = (((x * 10 ^ l.length + valN l : Nat) : Int), r) := by
  induction l generalizing x with
  | nil =>
    simp only [List.nil_append, List.length_nil, Nat.pow_zero, Nat.mul_one, valN_nil, Nat.add_zero]
    cases r with
    | nil => rfl
    | cons c r => rw [scan, hr c rfl]; simp
  | cons c l ih =>
    have hc := h c (List.mem_cons_self ..)
    have hc' := hc
    simp only [isDig, Bool.and_eq_true, decide_eq_true_eq] at hc'
    rw [valN_cons, List.length_cons, Nat.pow_succ, ← Nat.mul_assoc] at hx
    have e : (x * 10 + (c.toNat - 48)) * 10 ^ l.length + valN l = x * 10 ^ l.length * 10 + ((c.toNat - 48) * 10 ^ l.length + valN l) := by
      rw [Nat.add_mul, Nat.mul_assoc x 10, Nat.mul_comm 10, ← Nat.mul_assoc]; omega
    have hle : x ≤ x * 10 ^ l.length * 10 := by
      have : 1 ≤ 10 ^ l.length := Nat.pos_of_ne_zero (by simp)
      calc x = x * 1 := by simp
        _ ≤ x * 10 ^ l.length := Nat.mul_le_mul_left _ this
        _ ≤ _ := by omega
    have h2 := ih (x * 10 + (c.toNat - 48)) (fun y hy => h y (List.mem_cons_of_mem _ hy)) (by omega)
    rw [List.cons_append, scan, hc, if_pos (by simp; omega)]
    have e2 : (x : Int) * 10 + ((c.toNat : Int) - 48) = ((x * 10 + (c.toNat - 48) : Nat) : Int) := by omega
    rw [e2, h2, e, valN_cons, List.length_cons, Nat.pow_succ, ← Nat.mul_assoc]
theorem nano9_eq (l : List UInt8) (h : ∀ c ∈ l, isDig c = true) (hl : l.length ≤ 9) (k : Nat) (hk : k ≤ 9) :
    nano9 l k = ((valN (l.take k) * 10 ^ (k - l.length) : Nat) : Int) := by
  induction k with
  | zero => simp [nano9, valN]
  | succ k ih =>
    rw [nano9, ih (by omega), digAt]
    by_cases hk2 : k < l.length
    · have hc := h _ (List.getElem_mem hk2)
      rw [List.getElem?_eq_getElem hk2, digO]
      simp only [hc, if_true]
      simp only [isDig, Bool.and_eq_true, decide_eq_true_eq] at hc
      rw [List.take_succ_eq_append_getElem hk2, valN_snoc, show k - l.length = 0 by omega, show k + 1 - l.length = 0 by omega]
      simp only [Nat.pow_zero, Nat.mul_one]
      omega
    · rw [List.getElem?_eq_none (by omega), List.take_of_length_le (by omega), List.take_of_length_le (by omega), show k + 1 - l.length = (k - l.length) + 1 by omega, Nat.pow_succ, ← Nat.mul_assoc, digO]
      simp only [Int.add_zero]
      exact (Int.natCast_mul _ 10).symm
theorem digAt_bd (l : List UInt8) (k : Nat) : 0 ≤ digAt l k ∧ digAt l k ≤ 9 := by
  unfold digAt digO
  split
  · split
    · rename_i h
      simp only [isDig, Bool.and_eq_true, decide_eq_true_eq] at h
      omega
    · omega
  · omega
theorem nano9_bd (l : List UInt8) (k : Nat) (hk : k ≤ 9) : 0 ≤ nano9 l k ∧ nano9 l k < 10 ^ k := by
  induction k with
  | zero => simp [nano9]
  | succ k ih =>
    have := digAt_bd l k
    have h2 := ih (by omega)
    rw [nano9, Int.pow_succ]
    omega
/-- The document's answer's guess. -/
def rNeg (l : List UInt8) : Bool := decide (l.head? = some 45)
def rSize (l : List UInt8) : List UInt8 := if rNeg l = true then l.drop 1 else l
def rSec (l : List UInt8) : Int := (scan 0 (rSize l)).1
def rRest (l : List UInt8) : List UInt8 := (scan 0 (rSize l)).2
def rNan (l : List UInt8) : Int := if (rRest l).head? = some 46 then nano9 ((rRest l).drop 1) 9 else 0
def rS (l : List UInt8) : Int := if rNeg l = true then (if 0 < rNan l then -rSec l - 1 else -rSec l) else rSec l
def rN (l : List UInt8) : Int := if rNeg l = true ∧ 0 < rNan l then 1000000000 - rNan l else rNan l
theorem r_size (s n : Nat) (hs : s ≤ 1099511627776) (hn : n < 1000000000) :
    (scan 0 (itoa (s : Int) ++ fracF (n : Int))).1 = (s : Int) ∧ (if (scan 0 (itoa (s : Int) ++ fracF (n : Int))).2.head? = some 46 then nano9 ((scan 0 (itoa (s : Int) ++ fracF (n : Int))).2.drop 1) 9 else 0) = (n : Int) := by
  have hi : itoa (s : Int) = decDigits s := by unfold itoa; rw [if_neg (by omega)]; rfl
  rw [hi]
  have hd := dec_dig s
  have hv := dec_val s
  by_cases h0 : n = 0
  · subst h0
    have hf : fracF ((0 : Nat) : Int) = [] := rfl
    have := scan_digits (decDigits s) [] 0 hd (by rw [hv]; omega) (by simp)
    rw [hv] at this
    rw [hf]
    simp only [Nat.zero_mul, Nat.zero_add] at this
    rw [show ((0 : Nat) : Int) = 0 from rfl] at this
    rw [this]; simp
  · obtain ⟨h1, h2, h3, h4⟩ := nine_of n hn
    have hfr : fracF (n : Int) = 46 :: trimRightB (nine n) 48 := by
      have hi : itoa (1000000000 + (n : Int)) = 49 :: nine n := by
        rw [← h1]; unfold itoa; rw [if_neg (by omega)]; congr 1
      unfold fracF; rw [if_neg (by omega), hi]; rfl
    obtain ⟨k, hk⟩ := trim_zeros (nine n) 48
    have hdr : ∀ c ∈ trimRightB (nine n) 48, isDig c = true := fun c hc => h4 c (by rw [hk]; exact List.mem_append_left _ hc)
    have hl : (trimRightB (nine n) 48).length + k = 9 := by rw [← h2]; conv => rhs; rw [hk]
                                                            simp
    have hv2 : valN (trimRightB (nine n) 48) * 10 ^ k = n := by rw [← valN_pad, ← hk, h3]
    have := scan_digits (decDigits s) (46 :: trimRightB (nine n) 48) 0 hd (by rw [hv]; omega) (by intro c hc; simp at hc; subst hc; rfl)
    rw [hv] at this
    simp only [Nat.zero_mul, Nat.zero_add] at this
    rw [show ((0 : Nat) : Int) = 0 from rfl] at this
    rw [hfr, this]
    refine ⟨rfl, ?_⟩
    simp only [List.head?_cons, if_true, List.drop_one, List.tail_cons]
    rw [nano9_eq _ hdr (by omega) 9 (by omega), List.take_of_length_le (by omega), show 9 - (trimRightB (nine n) 48).length = k by omega, hv2]
theorem dec_head_ne (S : Nat) (r : List UInt8) : (decDigits S ++ r).head? ≠ some 45 := by
  cases hd : decDigits S with
  | nil => exact absurd hd (dec_ne S)
  | cons c t =>
    have := dec_dig S c (by rw [hd]; simp)
    intro e
    simp at e; subst e
    exact absurd this (by decide)
theorem rguess_text (s n : Int) (h : mayF s n = true) : rS (textF s n) = s ∧ rN (textF s n) = n := by
  have hb := (may_iff s n).1 h
  by_cases hs : s < 0
  · obtain ⟨b1, b2, b3, b4, b5, b6⟩ := opp_bounds s n h hs
    have ht : textF s n = 45 :: (itoa (oppS s n) ++ fracF (oppN n)) := by unfold textF; rw [if_pos hs]
    have hp : rNeg (textF s n) = true := by rw [ht]; simp [rNeg]
    have hg : rSize (textF s n) = itoa (oppS s n) ++ fracF (oppN n) := by unfold rSize; rw [if_pos hp, ht]; rfl
    obtain ⟨S, hS⟩ := Int.eq_ofNat_of_zero_le b1
    obtain ⟨N, hN⟩ := Int.eq_ofNat_of_zero_le b3
    have hz := r_size S N (by omega) (by omega)
    have e1 : rSec (textF s n) = oppS s n := by unfold rSec; rw [hg, hS, hN, hz.1]
    have e2 : rNan (textF s n) = oppN n := by unfold rNan rRest; rw [hg, hS, hN]; exact hz.2
    unfold rS rN
    rw [hp, e1, e2]
    unfold oppS oppN
    by_cases h0 : n = 0
    · subst h0
      simp only [if_true]
      rw [IntWalk.wrap64_in (-s) ⟨by omega, by omega⟩]
      simp
    · simp only [if_neg h0]
      rw [IntWalk.wrap64_in (-s) ⟨by omega, by omega⟩, IntWalk.wrap64_in (-s - 1) ⟨by omega, by omega⟩, IntWalk.wrap64_in (1000000000 - n) ⟨by omega, by omega⟩]
      rw [if_pos trivial, if_pos (by omega), if_pos ⟨trivial, by omega⟩]
      omega
  · obtain ⟨S, rfl⟩ := Int.eq_ofNat_of_zero_le (show 0 ≤ s by omega)
    obtain ⟨N, rfl⟩ := Int.eq_ofNat_of_zero_le hb.2.1
    have ht : textF S N = itoa S ++ fracF N := by unfold textF; rw [if_neg hs]
    have hi : itoa (S : Int) = decDigits S := by unfold itoa; rw [if_neg (by omega)]; rfl
    have hp : rNeg (textF S N) = false := by
      rw [ht, hi]; unfold rNeg; rw [decide_eq_false_iff_not]; exact dec_head_ne S _
    have hg : rSize (textF S N) = itoa S ++ fracF N := by unfold rSize; rw [hp]; simp [ht]
    have hz := r_size S N (by omega) (by omega)
    have e1 : rSec (textF S N) = S := by unfold rSec; rw [hg, hz.1]
    have e2 : rNan (textF S N) = N := by unfold rNan rRest; rw [hg]; exact hz.2
    unfold rS rN
    rw [hp, e1, e2]
    simp
theorem rNan_dot {l : List UInt8} {i : Nat} (h : l.drop i = rRest l) : rNan l = if l[i]? = some 46 then nano9 (l.drop (i + 1)) 9 else 0 := by
  unfold rNan
  rw [← h, List.head?_drop, List.drop_drop]
theorem rNan_bd (l : List UInt8) : 0 ≤ rNan l ∧ rNan l < 1000000000 := by
  unfold rNan
  split
  · have := nano9_bd ((rRest l).drop 1) 9 (by omega)
    have e : (10 : Int) ^ 9 = 1000000000 := by decide
    omega
  · omega
def rOk (l : List UInt8) : Bool := mayF (rS l) (rN l) && decide (textF (rS l) (rN l) = l)
theorem rOk_of {l : List UInt8} (h : parseOk l = true) : rOk l = true ∧ rS l = guessS l ∧ rN l = guessN l := by
  obtain ⟨hm, ht⟩ := parse_of h
  obtain ⟨h1, h2⟩ := rguess_text _ _ hm
  rw [ht] at h1 h2
  refine ⟨?_, h1, h2⟩
  unfold rOk; rw [h1, h2, hm, ht]; simp
theorem rOk_not {l : List UInt8} (h : parseOk l = false) : rOk l = false := by
  cases hr : rOk l with
  | false => rfl
  | true =>
    unfold rOk at hr
    simp only [Bool.and_eq_true, decide_eq_true_eq] at hr
    have := parse_text _ _ hr.1
    rw [hr.2, h] at this; cases this
theorem text_len (s n : Int) (h : mayF s n = true) : 1 ≤ (textF s n).length ∧ (textF s n).length ≤ 30 := by
  have hb := (may_iff s n).1 h
  have key : ∀ S N : Nat, S ≤ 1099511627776 → N < 1000000000 → 1 ≤ (itoa (S : Int) ++ fracF (N : Int)).length ∧ (itoa (S : Int) ++ fracF (N : Int)).length ≤ 23 := by
    intro S N hS hN
    have hi : itoa (S : Int) = decDigits S := by unfold itoa; rw [if_neg (by omega)]; rfl
    have h1 := dec_len 12 S (by omega)
    have h2 := dec_pos S
    rw [hi, List.length_append]
    by_cases h0 : N = 0
    · subst h0
      have hf : fracF ((0 : Nat) : Int) = [] := rfl
      rw [hf]; simp; omega
    · have hn := nine_of N hN
      have hfr : fracF (N : Int) = 46 :: trimRightB (nine N) 48 := by
        have hi : itoa (1000000000 + (N : Int)) = 49 :: nine N := by
          rw [← hn.1]; unfold itoa; rw [if_neg (by omega)]; congr 1
        unfold fracF; rw [if_neg (by omega), hi]; rfl
      have h3 := trim_le (nine N) 48
      rw [hfr]; simp only [List.length_cons]; have := hn.2.1; omega
  unfold textF
  split
  · obtain ⟨b1, b2, b3, b4, _⟩ := opp_bounds s n h (by assumption)
    obtain ⟨S, hS⟩ := Int.eq_ofNat_of_zero_le b1
    obtain ⟨N, hN⟩ := Int.eq_ofNat_of_zero_le b3
    have := key S N (by omega) (by omega)
    rw [hS, hN, List.length_cons]; omega
  · obtain ⟨S, rfl⟩ := Int.eq_ofNat_of_zero_le (show 0 ≤ s by omega)
    obtain ⟨N, rfl⟩ := Int.eq_ofNat_of_zero_le hb.2.1
    have := key S N (by omega) (by omega)
    omega
theorem parse_len {l : List UInt8} (h : l.length = 0 ∨ 30 < l.length) : parseOk l = false := by
  cases hr : parseOk l with
  | false => rfl
  | true =>
    obtain ⟨hm, ht⟩ := parse_of hr
    have := text_len _ _ hm
    rw [ht] at this; omega
/-- Every letter of a text is a digit, a point or a minus; it begins with no point, and does not end with one. -/
theorem size_shape (S N : Nat) (hN : N < 1000000000) : (∀ c ∈ itoa (S : Int) ++ fracF (N : Int), isDig c = true ∨ c = 46) ∧ (∃ c, (itoa (S : Int) ++ fracF (N : Int)).head? = some c ∧ isDig c = true) ∧ (∃ c, (itoa (S : Int) ++ fracF (N : Int)).getLast? = some c ∧ isDig c = true) ∧
    ((itoa (S : Int) ++ fracF (N : Int)).head? = some 48 → (itoa (S : Int) ++ fracF (N : Int)).drop 1 = fracF (N : Int)) := by
  have hi : itoa (S : Int) = decDigits S := by unfold itoa; rw [if_neg (by omega)]; rfl
  rw [hi]
  have hd := dec_dig S
  have hne := dec_ne S
  have h48 : decDigits S ≠ [] := hne
  obtain ⟨c, r, hcr⟩ : ∃ c r, decDigits S = c :: r := by
    cases h : decDigits S with
    | nil => exact absurd h hne
    | cons c r => exact ⟨c, r, rfl⟩
  have hc : isDig c = true := hd c (by rw [hcr]; simp)
  have h4 : (decDigits S ++ fracF (N : Int)).head? = some 48 → (decDigits S ++ fracF (N : Int)).drop 1 = fracF (N : Int) := by
    intro h
    have hS : S = 0 := by
      by_cases hS : S = 0
      · exact hS
      · have := dec_head S hS
        rw [hcr] at h this
        simp at h this
        exact absurd h this
    subst hS
    rw [Lib.decDigits_one (by omega)]; rfl
  by_cases h0 : N = 0
  · subst h0
    have hf : fracF ((0 : Nat) : Int) = [] := rfl
    rw [hf] at h4 ⊢
    simp only [List.append_nil] at h4 ⊢
    refine ⟨fun x hx => .inl (hd x hx), ⟨c, by rw [hcr]; rfl, hc⟩, ?_, h4⟩
    obtain ⟨x, hx⟩ : ∃ x, (decDigits S).getLast? = some x := by
      cases h : (decDigits S).getLast? with
      | none => exact absurd (List.getLast?_eq_none_iff.1 h) hne
      | some x => exact ⟨x, rfl⟩
    exact ⟨x, hx, hd x (List.mem_of_getLast? hx)⟩
  · obtain ⟨r2, h1, h2, h3⟩ := frac_nan N hN h0
    refine ⟨?_, ⟨c, by rw [hcr]; rfl, hc⟩, ?_, h4⟩
    · intro x hx
      rw [List.mem_append, h1, List.mem_cons] at hx
      rcases hx with hx | hx | hx
      · exact .inl (hd x hx)
      · exact .inr hx
      · exact .inl (h3 x hx)
    · have hr2 : r2 ≠ [] := by
        intro e; subst e
        have : nanF [] = 0 := by simp [nanF, valF, tens, wrap64]
        omega
      obtain ⟨x, hx⟩ : ∃ x, r2.getLast? = some x := by
        cases h : r2.getLast? with
        | none => exact absurd (List.getLast?_eq_none_iff.1 h) hr2
        | some x => exact ⟨x, rfl⟩
      refine ⟨x, ?_, h3 x (List.mem_of_getLast? hx)⟩
      rw [h1, List.getLast?_append, List.getLast?_cons, hx]; rfl
theorem text_shape (s n : Int) (h : mayF s n = true) : (∀ c ∈ textF s n, isDig c = true ∨ c = 46 ∨ c = 45) ∧ (∃ c, (textF s n).head? = some c ∧ (isDig c = true ∨ c = 45)) ∧ (∃ c, (textF s n).getLast? = some c ∧ isDig c = true) ∧
    ((textF s n).head? = some 48 → (textF s n).drop 1 = [] ∨ ((textF s n).drop 1).head? = some 46) := by
  have hb := (may_iff s n).1 h
  unfold textF
  split
  · obtain ⟨b1, b2, b3, b4, _⟩ := opp_bounds s n h (by assumption)
    obtain ⟨S, hS⟩ := Int.eq_ofNat_of_zero_le b1
    obtain ⟨N, hN⟩ := Int.eq_ofNat_of_zero_le b3
    rw [hS, hN]
    obtain ⟨p1, p2, ⟨x, p3, p5⟩, p4⟩ := size_shape S N (by omega)
    refine ⟨?_, ⟨45, rfl, .inr rfl⟩, ⟨x, by rw [List.getLast?_cons, p3]; rfl, p5⟩, by intro e; simp at e⟩
    intro c hc
    rw [List.mem_cons] at hc
    rcases hc with hc | hc
    · exact .inr (.inr hc)
    · rcases p1 c hc with h | h
      · exact .inl h
      · exact .inr (.inl h)
  · obtain ⟨S, rfl⟩ := Int.eq_ofNat_of_zero_le (show 0 ≤ s by omega)
    obtain ⟨N, rfl⟩ := Int.eq_ofNat_of_zero_le hb.2.1
    obtain ⟨p1, ⟨y, p2, p6⟩, p3, p4⟩ := size_shape S N (by omega)
    refine ⟨?_, ⟨y, p2, .inl p6⟩, p3, ?_⟩
    · intro c hc
      rcases p1 c hc with h | h
      · exact .inl h
      · exact .inr (.inl h)
    · intro e
      rw [p4 e]
      by_cases h0 : N = 0
      · left; subst h0; rfl
      · right
        obtain ⟨r2, h1, _⟩ := frac_nan N (by omega) h0
        rw [h1]; rfl
theorem not_parse {l : List UInt8} (h : ∀ s n, mayF s n = true → textF s n ≠ l) : parseOk l = false := by
  cases hr : parseOk l with
  | false => rfl
  | true =>
    obtain ⟨hm, ht⟩ := parse_of hr
    exact absurd ht (h _ _ hm)
theorem back_plus (s n : Int) (h : mayF s n = true) : parseOk (43 :: textF s n) = false := by
  apply not_parse
  intro x y hm e
  obtain ⟨_, ⟨c, h1, h2⟩, _, _⟩ := text_shape x y hm
  rw [e] at h1
  simp at h1; subst h1
  rcases h2 with h2 | h2
  · exact absurd h2 (by decide)
  · exact absurd h2 (by decide)
theorem back_end (s n : Int) (d : UInt8) (hd : isDig d = false) : parseOk (textF s n ++ [d]) = false := by
  apply not_parse
  intro x y hm e
  obtain ⟨_, _, ⟨c, h1, h2⟩, _⟩ := text_shape x y hm
  rw [e] at h1
  simp at h1; subst h1
  rw [hd] at h2; cases h2
theorem back_zero (s n : Int) (h : mayF s n = true) : parseOk (48 :: textF s n) = false := by
  apply not_parse
  intro x y hm e
  obtain ⟨_, _, _, h4⟩ := text_shape x y hm
  obtain ⟨_, ⟨c, h1, h2⟩, _, _⟩ := text_shape s n h
  rw [e] at h4
  have h5 := h4 rfl
  simp only [List.drop_one, List.tail_cons] at h5
  rcases h5 with h5 | h5
  · rw [h5] at h1; simp at h1
  · rw [h1] at h5
    injection h5 with h5
    subst h5
    rcases h2 with h2 | h2
    · exact absurd h2 (by decide)
    · exact absurd h2 (by decide)
end StampM
end Go.Proofs.YtbhnhoenjoagbaaGreatDoor.StampW
