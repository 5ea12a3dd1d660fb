/- Bundle of 4 texts. -/
import Derived.Test.YtbhnhoenjoagbaaGreatDoorDec
import Derived.Shelf.Small.Wraps
import Derived.Test.YtbhnhoenjoagbaaGreatDoorPk11
import Derived.Deep.RegionHeld3
import Derived.Outline
import Derived.Test.YtbhnhoenjoagbaaGreatDoorKit
import Derived.Test.YtbhnhoenjoagbaaGreatDoorRows
import Derived.Deep.QuietTactic
import Derived.BigQuiet
import Derived.Below
import Derived.OwnWalk
import Derived.Laws.OwnMore
import Derived.Laws.AppendOwnNone
import Derived.Maps.AppendAt
import Derived.Deep.AppendLies
import Derived.Lib.SmallJoins
/- Times as texts: what package stamp computes, as plain functions on bytes; a text is read again. -/
namespace Go.Proofs.YtbhnhoenjoagbaaGreatDoor.StampW
open Go.RowKit
namespace StampM
open DecM
open Go.Lib (decDigits itoa trimRightB cut index hasPrefix trimPrefix)

def vstep (x : Int) (c : UInt8) : Int := wrap64 (wrap64 (wrap64 (x * 10) + (c.toNat : Int)) - 48)
def valF (l : List UInt8) : Int := l.foldl vstep 0
def tens : Nat → Int → Int
  | 0, n => n
  | k + 1, n => wrap64 (tens k n * 10)
def nanF (l : List UInt8) : Int := tens (9 - l.length) (valF l)
def oppS (s n : Int) : Int := if n = 0 then wrap64 (-s) else wrap64 (wrap64 (-s) - 1)
def oppN (n : Int) : Int := if n = 0 then 0 else wrap64 (1000000000 - n)
def fracF (n : Int) : List UInt8 := if n = 0 then [] else 46 :: trimRightB ((itoa (1000000000 + n)).drop 1) 48
def mayF (s n : Int) : Bool := decide (-1099511627776 ≤ s) && decide (s ≤ 1099511627776) && decide (0 ≤ n) && decide (n < 1000000000)
def textF (s n : Int) : List UInt8 := if s < 0 then 45 :: (itoa (oppS s n) ++ fracF (oppN n)) else itoa s ++ fracF n
def gSize (l : List UInt8) : List UInt8 := trimPrefix l [45]
def gSec (l : List UInt8) : Int := valF (cut (gSize l) [46]).1
def gNan (l : List UInt8) : Int := nanF (cut (gSize l) [46]).2.1
def guessS (l : List UInt8) : Int := if hasPrefix l [45] = true then oppS (gSec l) (gNan l) else gSec l
def guessN (l : List UInt8) : Int := if hasPrefix l [45] = true then oppN (gNan l) else gNan l

def nine (n : Nat) : List UInt8 := (decDigits (1000000000 + n)).drop 1
theorem nine_of (n : Nat) (h : n < 1000000000) : decDigits (1000000000 + n) = 49 :: nine n ∧ (nine n).length = 9 ∧ valN (nine n) = n ∧ ∀ c ∈ nine n, isDig c = true := by
  have hl := dec_len_eq 9 (1000000000 + n) (by omega) (by omega)
  have hv := dec_val (1000000000 + n)
  have hd := dec_dig (1000000000 + n)
  unfold nine
  cases hx : decDigits (1000000000 + n) with
  | nil => rw [hx] at hl; simp at hl
  | cons c r =>
    rw [hx] at hl hv hd
    have hr : r.length = 9 := by simpa using hl
    have hrd : ∀ x ∈ r, isDig x = true := fun x hx => hd x (List.mem_cons_of_mem _ hx)
    have h1 := valN_lt r hrd
    rw [hr] at h1
    have h2 := hd c (List.mem_cons_self ..)
    simp only [isDig, Bool.and_eq_true, decide_eq_true_eq] at h2
    rw [valN_cons, hr] at hv
    have h3 : c.toNat = 49 := by omega
    have h4 : c = 49 := UInt8.toNat_inj.1 (by rw [h3]; rfl)
    subst h4
    refine ⟨rfl, hr, ?_, hrd⟩
    simp only [List.drop_one, List.tail_cons]
    have h5 : (10 : Nat) ^ 9 = 1000000000 := by decide
    have h6 : (49 : UInt8).toNat = 49 := rfl
    rw [h6] at hv
    omega

theorem frac_len (n : Int) (h0 : 0 ≤ n) (h1 : n ≤ 999999999) : (fracF n).length ≤ 21 := by
  unfold fracF
  split
  · simp
  · have h2 := itoa_len (1000000000 + n) (by omega) (by omega)
    have h3 := trim_le ((itoa (1000000000 + n)).drop 1) 48
    simp only [List.length_drop] at h3
    simp only [List.length_cons]
    omega
theorem may_iff (s n : Int) : mayF s n = true ↔ (-1099511627776 ≤ s ∧ s ≤ 1099511627776) ∧ 0 ≤ n ∧ n < 1000000000 := by
  simp [mayF]; omega
theorem opp_bounds (s n : Int) (h : mayF s n = true) (hs : s < 0) : 0 ≤ oppS s n ∧ oppS s n ≤ 1099511627776 ∧ 0 ≤ oppN n ∧ oppN n < 1000000000 ∧ oppS (oppS s n) (oppN n) = s ∧ oppN (oppN n) = n := by
  rw [may_iff] at h
  unfold oppS oppN
  by_cases h0 : n = 0
  · subst h0
    simp only [if_true]
    rw [IntWalk.wrap64_in (-s) ⟨by omega, by omega⟩, IntWalk.wrap64_in (- -s) ⟨by omega, by omega⟩]
    refine ⟨by omega, by omega, by omega, by omega, by omega, trivial⟩
  · simp only [if_neg h0]
    rw [IntWalk.wrap64_in (-s) ⟨by omega, by omega⟩, IntWalk.wrap64_in (-s - 1) ⟨by omega, by omega⟩, IntWalk.wrap64_in (1000000000 - n) ⟨by omega, by omega⟩, if_neg (by omega)]
    rw [IntWalk.wrap64_in (-(-s - 1)) ⟨by omega, by omega⟩, IntWalk.wrap64_in _ ⟨by omega, by omega⟩, if_neg (by omega), IntWalk.wrap64_in _ ⟨by omega, by omega⟩]
    omega
def parseOk (l : List UInt8) : Bool := mayF (guessS l) (guessN l) && decide (textF (guessS l) (guessN l) = l)
def orF (x y : Int) : Int := if x ≠ 0 then x else y
def cmpF (a b c d : Int) : Int := orF (Go.Lib.compareInt a c) (Go.Lib.compareInt b d)
def scan : Int → List UInt8 → Int × List UInt8
  | x, [] => (x, [])
  | x, c :: l => if (isDig c && decide (x ≤ 1099511627776)) = true then scan (x * 10 + ((c.toNat : Int) - 48)) l else (x, c :: l)
def digO : Option UInt8 → Int
  | some c => if isDig c = true then (c.toNat : Int) - 48 else 0
  | none => 0
def digAt (l : List UInt8) (k : Nat) : Int := digO l[k]?
def nano9 (l : List UInt8) : Nat → Int
  | 0 => 0
  | k + 1 => nano9 l k * 10 + digAt l k
def rNeg (l : List UInt8) : Bool := decide (l.head? = some 45)
def rSize (l : List UInt8) : List UInt8 := if rNeg l = true then l.drop 1 else l
def rSec (l : List UInt8) : Int := (scan 0 (rSize l)).1
def rRest (l : List UInt8) : List UInt8 := (scan 0 (rSize l)).2
def rNan (l : List UInt8) : Int := if (rRest l).head? = some 46 then nano9 ((rRest l).drop 1) 9 else 0
def rS (l : List UInt8) : Int := if rNeg l = true then (if 0 < rNan l then -rSec l - 1 else -rSec l) else rSec l
def rN (l : List UInt8) : Int := if rNeg l = true ∧ 0 < rNan l then 1000000000 - rNan l else rNan l
def rOk (l : List UInt8) : Bool := mayF (rS l) (rN l) && decide (textF (rS l) (rN l) = l)
theorem text_len (s n : Int) (h : mayF s n = true) : 1 ≤ (textF s n).length ∧ (textF s n).length ≤ 30 := by
  have hb := (may_iff s n).1 h
  have key : ∀ S N : Nat, S ≤ 1099511627776 → N < 1000000000 → 1 ≤ (itoa (S : Int) ++ fracF (N : Int)).length ∧ (itoa (S : Int) ++ fracF (N : Int)).length ≤ 23 := by
    intro S N hS hN
    have hi : itoa (S : Int) = decDigits S := by unfold itoa; rw [if_neg (by omega)]; rfl
    have h1 := dec_len 12 S (by omega)
    have h2 := dec_pos S
    rw [hi, List.length_append]
    by_cases h0 : N = 0
    · subst h0
      have hf : fracF ((0 : Nat) : Int) = [] := rfl
      rw [hf]; simp; omega
    · have hn := nine_of N hN
      have hfr : fracF (N : Int) = 46 :: trimRightB (nine N) 48 := by
        have hi : itoa (1000000000 + (N : Int)) = 49 :: nine N := by
          rw [← hn.1]; unfold itoa; rw [if_neg (by omega)]; congr 1
        unfold fracF; rw [if_neg (by omega), hi]; rfl
      have h3 := trim_le (nine N) 48
      rw [hfr]; simp only [List.length_cons]; have := hn.2.1; omega
  unfold textF
  split
  · obtain ⟨b1, b2, b3, b4, _⟩ := opp_bounds s n h (by assumption)
    obtain ⟨S, hS⟩ := Int.eq_ofNat_of_zero_le b1
    obtain ⟨N, hN⟩ := Int.eq_ofNat_of_zero_le b3
    have := key S N (by omega) (by omega)
    rw [hS, hN, List.length_cons]; omega
  · obtain ⟨S, rfl⟩ := Int.eq_ofNat_of_zero_le (show 0 ≤ s by omega)
    obtain ⟨N, rfl⟩ := Int.eq_ofNat_of_zero_le hb.2.1
    have := key S N (by omega) (by omega)
    omega
end StampM
end Go.Proofs.YtbhnhoenjoagbaaGreatDoor.StampW

/- Walks over package stamp: digits, the guess. -/
namespace Go.Proofs.YtbhnhoenjoagbaaGreatDoor.StampW
open Go.RowKit
open StampM

theorem opposite_any (s n : Int) (w : World) :
    Calls Tryz.prog 131 #[.agg #[.int .i64 s, .int .i64 n]] w fun e w' => e = .returned (.agg #[.int .i64 (oppS s n), .int .i64 (oppN n)]) ∧ Below w.heap.size w w' := by
  by_cases h0 : n = 0
  · have h1 : (n == 0) = true := by simpa using h0
    have hr : oppS s n = wrap64 (-s) ∧ oppN n = 0 := by unfold oppS oppN; simp [h0]
    have Hr := Lib.hid hr
    clear h0 hr
    go_enter Tryz.func131, Tryz.ntmps131
    go_wp2
    exact bodyPost_ret (v := .agg #[.int .i64 (wrap64 (-s)), .int .i64 0]) (by simp [results, Tryz.results131, go_sem, *]) rfl ⟨by rw [Hr.out.1, Hr.out.2], by (repeat' (first | exact Below.refl _ _ | assumption | refine gr_drew ?_ | refine gr_drewN ?_ _ | refine gr_alloc ?_ _ | refine gr_set ?_ ?_ _ | refine gr_call ?_ (by assumption)) <;> (try (simp; done)) <;> (try (simp; omega)) <;> (try omega))⟩
  · have h1 : (n == 0) = false := by simpa using h0
    have hr : oppS s n = wrap64 (wrap64 (-s) - 1) ∧ oppN n = wrap64 (1000000000 - n) := by unfold oppS oppN; simp [h0]
    have Hr := Lib.hid hr
    clear h0 hr
    go_enter Tryz.func131, Tryz.ntmps131
    go_wp2
    exact bodyPost_ret (v := .agg #[.int .i64 (wrap64 (wrap64 (-s) - 1)), .int .i64 (wrap64 (1000000000 - n))]) (by simp [results, Tryz.results131, go_sem, *]) rfl ⟨by rw [Hr.out.1, Hr.out.2], by (repeat' (first | exact Below.refl _ _ | assumption | refine gr_drew ?_ | refine gr_drewN ?_ _ | refine gr_alloc ?_ _ | refine gr_set ?_ ?_ _ | refine gr_call ?_ (by assumption)) <;> (try (simp; done)) <;> (try (simp; omega)) <;> (try omega))⟩

theorem fraction_any (n : Int) (w : World) (hA : AmbB w) (h0 : 0 ≤ n) (h1 : n ≤ 999999999) :
    Calls Tryz.prog 132 #[.int .i64 n] w fun e w' => e = .returned (.string ⟨(fracF n).toArray⟩) ∧ Below w.heap.size w w' := by
  by_cases hz : n = 0
  · have h1 : (n == 0) = true := by simpa using hz
    have hr : fracF n = [] := by simp [fracF, hz]
    have Hr := Lib.hid hr
    clear hz hr
    go_enter Tryz.func132, Tryz.ntmps132
    go_wp2
    go_ret
    exact ⟨by rw [Hr.out]; rfl, by (repeat' (first | exact Below.refl _ _ | assumption | refine gr_drew ?_ | refine gr_drewN ?_ _ | refine gr_alloc ?_ _ | refine gr_set ?_ ?_ _ | refine gr_call ?_ (by assumption)) <;> (try (simp; done)) <;> (try (simp; omega)) <;> (try omega))⟩
  · have hq : (n == 0) = false := by simpa using hz
    have hr : fracF n = 46 :: Lib.trimRightB ((Lib.itoa (1000000000 + n)).drop 1) 48 := by simp [fracF, hz]
    have Hr := Lib.hid hr
    clear hz hr
    have hlen := DecM.itoa_len (1000000000 + n) (by omega) (by omega)
    have HI := Lib.hid (itoa_any (1000000000 + n) w hA (by omega) (by omega))
    generalize Lib.itoa (1000000000 + n) = L at *
    have hL1 : 1 ≤ L.length := hlen.1
    have hL2 : L.length ≤ 20 := hlen.2
    have hT : (Lib.trimRightB L.tail 48).length ≤ 20 := by
      have := DecM.trim_le L.tail 48
      simp at this; omega
    clear hlen
    go_enter Tryz.func132, Tryz.ntmps132
    go_wp2_with fail
    refine HI.out.mono ?_
    rintro e w1 ⟨rfl, hb1⟩
    go_wp2_with fail
    have he : ({ data := L.toArray } : ByteArray).extract 1 L.length = ⟨(L.drop 1).toArray⟩ := by
      rw [Lib.extract_mk, List.take_of_length_le (by simp)]
    rw [he]
    refine (trimRight_any _ 48 (by decide) _ (by rw [Lib.size_mk]; simp; omega)).mono ?_
    rintro e w' ⟨rfl, rfl⟩
    go_wp2_with fail
    go_ret
    refine ⟨?_, by (repeat' (first | exact Below.refl _ _ | assumption | refine gr_drew ?_ | refine gr_drewN ?_ _ | refine gr_alloc ?_ _ | refine gr_set ?_ ?_ _ | refine gr_call ?_ (by assumption)) <;> (try (simp; done)) <;> (try (simp; omega)) <;> (try omega))⟩
    rw [Hr.out]; simp; rfl

theorem textPos_any (s n : Int) (w : World) (hA : AmbB w) (h0 : 0 ≤ s) (h1 : s ≤ 1099511627776) (h2 : 0 ≤ n) (h3 : n ≤ 999999999) :
    Calls Tryz.prog 67 #[.agg #[.int .i64 s, .int .i64 n]] w fun e w' => e = .returned (.string ⟨(Lib.itoa s ++ fracF n).toArray⟩) ∧ Below w.heap.size w w' := by
  have hs : decide (s < 0) = false := by simp; omega
  have hi := (DecM.itoa_len s (by omega) (by omega)).2
  have hf := frac_len n h2 h3
  have hi' : ¬ 9223372036854775807 < (Lib.itoa s).length := by omega
  have hf' : ¬ 9223372036854775807 < (Lib.itoa s).length + (fracF n).length := by omega
  go_enter Tryz.func67, Tryz.ntmps67
  go_wp2_with fail
  have hB0 : Below w.heap.size w (w.alloc (.cells #[.int .i64 s, .int .i64 n] 30)) := by (repeat' (first | exact Below.refl _ _ | assumption | refine gr_drew ?_ | refine gr_drewN ?_ _ | refine gr_alloc ?_ _ | refine gr_set ?_ ?_ _ | refine gr_call ?_ (by assumption)) <;> (try (simp; done)) <;> (try (simp; omega)) <;> (try omega))
  have hB1 := gr_drew hB0
  have hA1 := hA.on hB1
  clear hB0
  go_region_held3 (fun w' => AmbB w' ∧ Below w.heap.size w w' ∧ w'.cell? ⟨w.heap.size, 0, none⟩ = some (.int .i64 s) ∧ w'.cell? ⟨w.heap.size, 1, none⟩ = some (.int .i64 n))
    (first | (go_keep; done) | (go_split_ands; (repeat' apply And.intro) <;> (first | assumption | exact Amb.on (by assumption) hb1 | exact AmbB.on (by assumption) hb1 | exact gr_call (by assumption) hb1 | exact cell_kept hb1 (by assumption) | (show Below _ _ _; (repeat' (first | exact Below.refl _ _ | assumption | refine gr_drew ?_ | refine gr_drewN ?_ _ | refine gr_alloc ?_ _ | refine gr_set ?_ ?_ _ | refine gr_call ?_ (by assumption)) <;> (try (simp; done)) <;> (try (simp; omega)) <;> (try omega)); done) | (go_keep; done) | (simp [go_sem, *]; done))))
    (first
      | (go_at_call 65; go_split_ands; refine (itoa_any _ _ (by assumption) (by omega) (by omega)).mono ?_; rintro e w1 ⟨rfl, hb1⟩)
      | (go_at_call 132; go_split_ands; refine (fraction_any _ _ (by assumption) (by omega) (by omega)).mono ?_; rintro e w1 ⟨rfl, hb1⟩))
  all_goals
    go_wp2_with fail
    go_ret
    go_split_ands
    exact ⟨ret_bytes (by simp), by (repeat' (first | exact Below.refl _ _ | assumption | refine gr_drew ?_ | refine gr_drewN ?_ _ | refine gr_alloc ?_ _ | refine gr_set ?_ ?_ _ | refine gr_call ?_ (by assumption)) <;> (try (simp; done)) <;> (try (simp; omega)) <;> (try omega))⟩

theorem textNeg_any (s n : Int) (w : World) (hA : AmbB w) (hm : mayF s n = true) (h0 : s < 0) :
    Calls Tryz.prog 67 #[.agg #[.int .i64 s, .int .i64 n]] w fun e w' => e = .returned (.string ⟨(45 :: (Lib.itoa (oppS s n) ++ fracF (oppN n))).toArray⟩) ∧ Below w.heap.size w w' := by
  have hs : decide (s < 0) = true := by simpa using h0
  obtain ⟨b1, b2, b3, b4, _⟩ := opp_bounds s n hm h0
  have hop := fun W => opposite_any s n W
  clear hm
  generalize oppS s n = S at *
  generalize oppN n = N at *
  have hop := Lib.hid hop
  have hi := (DecM.itoa_len S (by omega) (by omega)).2
  have hf := frac_len N b3 (by omega)
  have hi' : ¬ 9223372036854775807 < 1 + (Lib.itoa S).length := by omega
  have hf' : ¬ 9223372036854775807 < 1 + (Lib.itoa S).length + (fracF N).length := by omega
  go_enter Tryz.func67, Tryz.ntmps67
  go_wp2_with fail
  refine (hop.out _).mono ?_
  rintro e w0 ⟨rfl, hbw0⟩
  have hzw0 := hbw0.size
  try simp at hzw0
  have : w.heap.size < w0.heap.size := by omega
  have : w.heap.size ≤ w0.heap.size := by omega
  have : w0.cell? ⟨w.heap.size, 0, none⟩ = some (.int .i64 s) := cell_kept hbw0 (by simp [go_sem, *])
  have : w0.frozen? ⟨w.heap.size, 0, none⟩ = false := free_kept hbw0 (v := .int .i64 s) (by simp [go_sem, *]) (by simp [go_sem, *])
  have : w.heap.size < w0.heap.size := by omega
  have : w.heap.size ≤ w0.heap.size := by omega
  have : w0.cell? ⟨w.heap.size, 1, none⟩ = some (.int .i64 n) := cell_kept hbw0 (by simp [go_sem, *])
  have : w0.frozen? ⟨w.heap.size, 1, none⟩ = false := free_kept hbw0 (v := .int .i64 n) (by simp [go_sem, *]) (by simp [go_sem, *])
  have hB0 : Below w.heap.size w ((w0.setCell ⟨w.heap.size, 0, none⟩ (.int .i64 S)).setCell ⟨w.heap.size, 1, none⟩ (.int .i64 N)) := by (repeat' (first | exact Below.refl _ _ | assumption | refine gr_drew ?_ | refine gr_drewN ?_ _ | refine gr_alloc ?_ _ | refine gr_set ?_ ?_ _ | refine gr_call ?_ (by assumption)) <;> (try (simp; done)) <;> (try (simp; omega)) <;> (try omega))
  have hB1 := gr_drew hB0
  have hA1 := hA.on hB1
  have hP := pair_set (.int .i64 S) (.int .i64 N) (show w0.cell? ⟨w.heap.size, 0, none⟩ = some (.int .i64 s) by assumption) (show w0.cell? ⟨w.heap.size, 1, none⟩ = some (.int .i64 n) by assumption)
  have hP1 := hP.1
  have hP2 := hP.2
  clear hB0 hP
  go_wp2_with fail
  go_region_held3 (fun w' => AmbB w' ∧ Below w.heap.size w w' ∧ w'.cell? ⟨w.heap.size, 0, none⟩ = some (.int .i64 S) ∧ w'.cell? ⟨w.heap.size, 1, none⟩ = some (.int .i64 N))
    (first | (go_keep; done) | (go_split_ands; (repeat' apply And.intro) <;> (first | assumption | exact Amb.on (by assumption) hb1 | exact AmbB.on (by assumption) hb1 | exact gr_call (by assumption) hb1 | exact cell_kept hb1 (by assumption) | (show Below _ _ _; (repeat' (first | exact Below.refl _ _ | assumption | refine gr_drew ?_ | refine gr_drewN ?_ _ | refine gr_alloc ?_ _ | refine gr_set ?_ ?_ _ | refine gr_call ?_ (by assumption)) <;> (try (simp; done)) <;> (try (simp; omega)) <;> (try omega)); done) | (go_keep; done) | (simp [go_sem, *]; done))))
    (first
      | (go_at_call 65; go_split_ands; refine (itoa_any _ _ (by assumption) (by omega) (by omega)).mono ?_; rintro e w1 ⟨rfl, hb1⟩)
      | (go_at_call 132; go_split_ands; refine (fraction_any _ _ (by assumption) (by omega) (by omega)).mono ?_; rintro e w1 ⟨rfl, hb1⟩))
  all_goals
    go_wp2_with fail
    go_ret
    go_split_ands
    exact ⟨ret_bytes (by simp), by (repeat' (first | exact Below.refl _ _ | assumption | refine gr_drew ?_ | refine gr_drewN ?_ _ | refine gr_alloc ?_ _ | refine gr_set ?_ ?_ _ | refine gr_call ?_ (by assumption)) <;> (try (simp; done)) <;> (try (simp; omega)) <;> (try omega))⟩
theorem text_any (s n : Int) (w : World) (hA : AmbB w) (hm : mayF s n = true) :
    Calls Tryz.prog 67 #[.agg #[.int .i64 s, .int .i64 n]] w fun e w' => e = .returned (.string ⟨(textF s n).toArray⟩) ∧ Below w.heap.size w w' := by
  unfold textF
  have hb := (may_iff s n).1 hm
  split
  · exact textNeg_any s n w hA hm (by assumption)
  · exact textPos_any s n w hA (by omega) hb.1.2 hb.2.1 (by omega)
end Go.Proofs.YtbhnhoenjoagbaaGreatDoor.StampW

/- Small facts for the walks over records. -/
namespace Go.Proofs.YtbhnhoenjoagbaaGreatDoor
open Go.RowKit
set_option linter.unusedVariables false

theorem idxAt {P : Program} {t : TypeId} (ht : P.underlying t = some .string) (S : ByteArray) (i : Nat) (h : i < S.size) : ∃ c : UInt8, S.data.toList[i]? = some c ∧ ∀ w, (Instr.index t (.string S) (.int .i64 (i : Int))).run P w = .ok (.int .u8 (c.toNat : Int)) w := by
  refine ⟨S[i], ?_, ?_⟩
  · rw [List.getElem?_eq_getElem (by simpa using h)]; rfl
  · intro w
    simp [go_sem, ht, h]
theorem dropAt {l : List UInt8} {i : Nat} {c : UInt8} (h : l[i]? = some c) : l.drop i = c :: l.drop (i + 1) := by
  obtain ⟨hi, rfl⟩ := List.getElem?_eq_some_iff.1 h
  exact List.drop_eq_getElem_cons hi
theorem len_list (S : ByteArray) : S.data.toList.length = S.size := by simp
def strOf (l : List UInt8) : ByteArray := ⟨l.toArray⟩
theorem strOf_list (l : List UInt8) : (strOf l).data.toList = l := by simp [strOf]
theorem strOf_size (l : List UInt8) : (strOf l).size = l.length := by rw [← len_list, strOf_list]
theorem strOf_self (S : ByteArray) : strOf S.data.toList = S := bytes_ext (by rw [strOf_list])
theorem strOf_eq {l m : List UInt8} (h : l = m) : strOf l = strOf m := by rw [h]
theorem str_eq {S : ByteArray} {l : List UInt8} (h : S.data.toList = l) : S = strOf l := by rw [← h, strOf_self]
theorem toNat_ne {a b : UInt8} (h : a ≠ b) : ((a.toNat : Int) == (b.toNat : Int)) = false := by
  rw [beq_eq_false_iff_ne]
  intro e
  exact h (UInt8.toNat_inj.1 (by omega))
end Go.Proofs.YtbhnhoenjoagbaaGreatDoor

/- Slices by what they hold, whatever an element is: one that a call makes by appending (Row); one that can be read (At). -/
namespace Go.Proofs.YtbhnhoenjoagbaaGreatDoor
open Go.RowKit
set_option linter.unusedVariables false

structure Elt (α : Type) where
  t : TypeId
  st : TypeId
  k : Nat
  z : Value
  bytes : Nat
  enc : α → List Value
  len : ∀ x, (enc x).length = k
  one : ∀ x, ∀ u ∈ enc x, u.oneCell' = true
  pos : 0 < k
  und : Tryz.prog.underlying st = some (.slice t)
  inf : (Tryz.prog.info? t).map (fun i => (i.zero, i.size, i.bytes)) = some (some z, k, bytes)
  zk : z.cells.size = k
  small : bytes ≤ 64

variable {α : Type} {E : Elt α}
def cellsE (E : Elt α) : List α → List Value
  | [] => []
  | x :: l => E.enc x ++ cellsE E l
theorem cellsE_append (a b : List α) : cellsE E (a ++ b) = cellsE E a ++ cellsE E b := by
  induction a with
  | nil => rfl
  | cons r a ih => simp [cellsE, ih]
theorem cellsE_length (l : List α) : (cellsE E l).length = l.length * E.k := by
  induction l with
  | nil => simp [cellsE]
  | cons r l ih => simp only [cellsE, List.length_append, List.length_cons, ih, E.len, Nat.add_mul]; omega
theorem cellsE_at (l : List α) : ∀ (j : Nat) (h : j < l.length) (i : Nat) (u : Value), (E.enc l[j])[i]? = some u → (cellsE E l)[j * E.k + i]? = some u := by
  induction l with
  | nil => intro j h; simp at h
  | cons r l ih =>
    intro j h i u hu
    have hi : i < E.k := by rw [← E.len]; exact (List.getElem?_eq_some_iff.1 hu).1
    cases j with
    | zero =>
      simp only [cellsE, Nat.zero_mul, Nat.zero_add]
      rw [List.getElem?_append_left (by rw [E.len]; exact hi)]
      exact hu
    | succ j =>
      have h2 := ih j (by simpa using h) i u (by simpa using hu)
      simp only [cellsE]
      rw [List.getElem?_append_right (by rw [E.len, Nat.add_mul]; omega), E.len, show (j + 1) * E.k + i - E.k = j * E.k + i by rw [Nat.add_mul]; omega]
      exact h2
theorem cellsE_back (l : List α) : ∀ (n : Nat) (u : Value), (cellsE E l)[n]? = some u → ∃ (j : Nat) (h : j < l.length) (i : Nat), n = j * E.k + i ∧ (E.enc l[j])[i]? = some u := by
  induction l with
  | nil => intro n u h; simp [cellsE] at h
  | cons r l ih =>
    intro n u hu
    simp only [cellsE] at hu
    by_cases hn : n < E.k
    · rw [List.getElem?_append_left (by rw [E.len]; exact hn)] at hu
      exact ⟨0, by simp, n, by simp, hu⟩
    · rw [List.getElem?_append_right (by rw [E.len]; omega), E.len] at hu
      obtain ⟨j, h, i, e, hi⟩ := ih _ _ hu
      exact ⟨j + 1, by simpa using h, i, by rw [Nat.add_mul]; omega, by simpa using hi⟩
theorem cellsE_one (l : List α) : ∀ u ∈ cellsE E l, u.oneCell' = true := by
  induction l with
  | nil => intro u h; simp [cellsE] at h
  | cons r l ih =>
    intro u h
    rcases List.mem_append.1 h with h | h
    · exact E.one r u h
    · exact ih u h

def Row (E : Elt α) (B : Nat) (v : Value) (l : List α) (w : World) : Prop := w.ownsRow B E.t E.k v l.length (cellsE E l)
theorem Row.nil (w : World) (B : Nat) : Row E B (.slice none 0 0) [] w := World.ownsRow_nil w B _ _
theorem Row.drew {B : Nat} {v : Value} {l : List α} {w : World} (h : Row E B v l w) : Row E B v l w.drew := World.ownsRow.drew h
theorem Row.alloc {B : Nat} {v : Value} {l : List α} {w : World} (h : Row E B v l w) (o : Obj) : Row E B v l (w.alloc o) := World.ownsRow.alloc h o
theorem Row.call {B : Nat} {v : Value} {l : List α} {w w1 : World} (h : Row E B v l w) (hb : Below w.heap.size w w1) : Row E B v l w1 := by
  refine World.ownsRow.kept h (row := none) ⟨hb.os, hb.tape, hb.output, hb.size, fun k hk _ => hb.block k hk⟩ ?_
  cases hv : v.ownBlock with
  | none => exact Or.inl rfl
  | some k => exact Or.inr (by simp)
theorem Row.lt {B : Nat} {v : Value} {l : List α} {w : World} (h : Row E B v l w) : ∀ k, v.ownBlock = some k → B ≤ k ∧ k < w.heap.size := World.ownsRow.lt h
theorem Row.mono {B B' : Nat} {v : Value} {l : List α} {w : World} (h : Row E B v l w) (hb : B' ≤ B) : Row E B' v l w := Go.Joins.ownsRow_le h hb
theorem Row.other {B : Nat} {v : Value} {l : List α} {w : World} (h : Row E B v l w) {a : Addr} (ha : v.ownBlock ≠ some a.block) (u : Value) : Row E B v l (w.setCell a u) := ownsRow_setCell_other h ha u

def At (E : Elt α) (v : Value) (l : List α) (w : World) : Prop :=
  (l = [] ∧ (v = .slice none 0 0 ∨ ∃ ad cap, v = .slice (some ad) 0 cap)) ∨
  ∃ g off cap, v = .slice (some ⟨g, off, none⟩) l.length cap ∧ l.length ≤ cap ∧ g < w.heap.size ∧ ∀ j (h : j < l.length) i u, (E.enc l[j])[i]? = some u → w.cell? ⟨g, off + (j * E.k + i), none⟩ = some u
theorem At.nil (w : World) : At E (.slice none 0 0) [] w := .inl ⟨rfl, .inl rfl⟩
theorem Row.at {B : Nat} {v : Value} {l : List α} {w : World} (h : Row E B v l w) : At E v l w := by
  have h' := h
  rcases h.2 with ⟨hv, h0⟩ | ⟨g, cap, cur, hv, hB, hg, hc1, hc2, hcs, ht⟩
  · exact .inl ⟨List.eq_nil_of_length_eq_zero h0, .inl hv⟩
  · subst hv
    refine .inr ⟨g, 0, cap, rfl, hc1, (Array.getElem?_eq_some_iff.1 hg).1, fun j hj i u hu => ?_⟩
    have e1 := World.ownsRow.cells h' rfl _ _ (cellsE_at l j hj i u hu)
    rw [addr_zero_add] at e1
    rw [Nat.zero_add]
    exact e1
theorem At.call {v : Value} {l : List α} {w w1 : World} (h : At E v l w) (hb : Below w.heap.size w w1) : At E v l w1 := by
  rcases h with h | ⟨g, off, cap, hv, hc, hg, hj⟩
  · exact .inl h
  · exact .inr ⟨g, off, cap, hv, hc, Nat.lt_of_lt_of_le hg hb.size, fun j h i u hu => cell_kept hb (hj j h i u hu)⟩
theorem At.drew {v : Value} {l : List α} {w : World} (h : At E v l w) : At E v l w.drew := h.call (gr_drew (Below.refl _ _))
theorem At.alloc {v : Value} {l : List α} {w : World} (h : At E v l w) (o : Obj) : At E v l (w.alloc o) := h.call (gr_alloc (Below.refl _ _) o)
theorem At.shape {v : Value} {l : List α} {w : World} (h : At E v l w) : ∃ p cap, v = .slice p l.length cap ∧ l.length ≤ cap := by
  rcases h with ⟨rfl, hv | ⟨ad, cap, hv⟩⟩ | ⟨g, off, cap, hv, hc, _⟩
  · exact ⟨_, _, hv, Nat.le_refl _⟩
  · exact ⟨_, _, hv, Nat.zero_le _⟩
  · exact ⟨_, _, hv, hc⟩
theorem At.open {v : Value} {l : List α} {w : World} (h : At E v l w) (hl : l ≠ []) :
    ∃ g off cap, v = .slice (some ⟨g, off, none⟩) l.length cap ∧ l.length ≤ cap ∧ g < w.heap.size ∧ ∀ j (h : j < l.length) i u, (E.enc l[j])[i]? = some u → w.cell? ⟨g, off + (j * E.k + i), none⟩ = some u := by
  rcases h with ⟨h, _⟩ | h
  · exact absurd h hl
  · exact h
theorem At.grown {v : Value} {l : List α} {w w1 : World} {row : Option Nat} (h : At E v l w) (hb : w.grownBy w1 row) (hne : ∀ k, v.ownBlock = some k → row ≠ some k) : At E v l w1 := by
  rcases h with h | ⟨g, off, cap, hv, hc, hg, hj⟩
  · exact .inl h
  · refine .inr ⟨g, off, cap, hv, hc, Nat.lt_of_lt_of_le hg hb.size, fun j h i u hu => ?_⟩
    rw [World.grownBy.cell_far hb ⟨g, _, none⟩ hg (by intro e; exact hne g (by rw [hv]; rfl) e.symm)]
    exact hj j h i u hu
theorem lit_row (w : World) (l : List α) (cs : Array Value) (B : Nat) (n : Nat) (hn : n = l.length) (hB : B ≤ w.heap.size) (hm : l.length ≤ 1000000) (h : cs.toList = cellsE E l) :
    Row E B (.slice (some ⟨w.heap.size, 0, none⟩) n n) l (w.alloc (.cells cs E.t)) := by
  subst hn
  have e : cs = (cellsE E l).toArray := by rw [← h]
  subst e
  have := World.ownsRow_lit (e := E.t) (size := E.k) w (cellsE E l).toArray l.length hB (by unfold maxLen; omega) (by simp [cellsE_length])
  simpa [Row] using this

theorem addr_off_add (g o j : Nat) : (⟨g, o, none⟩ : Addr).add j = ⟨g, o + j, none⟩ := by
  by_cases h : j = 0 <;> simp [Addr.add, h]
theorem run_append_at (E : Elt α) (ty : TypeId) (B : Nat) (v xv : Value) (l m : List α) (w : World) (hrow : Row E B v l w) (hat : At E xv m w) (hlen : l.length + m.length ≤ 1000000) (hB : B ≤ w.heap.size) :
    ∃ v' w', (Builtin.append_ #[E.st, E.st] ty #[v, xv]).run Tryz.prog w = .ok v' w' ∧ Row E B v' (l ++ m) w' ∧ Below B w w' ∧ w.grownBy w' v.ownBlock ∧ (v'.ownBlock = v.ownBlock ∨ v'.ownBlock = some w.heap.size) := by
  obtain ⟨i0, hi, hz0, hz1, hz2⟩ := info_parts E.inf
  have hsm := E.small
  have hby : ∀ n : Nat, n ≤ 1000000 → n * E.bytes ≤ 140737488355328 := by
    intro n hn
    have : n * E.bytes ≤ 1000000 * 64 := Nat.mul_le_mul hn hsm
    omega
  have fin : ∀ w', w.grownBy w' v.ownBlock → Below B w w' := fun w' h2 => (Below.refl B w).grown h2 hB (fun k hk => (World.ownsRow.lt hrow k hk).1)
  rcases hat with ⟨rfl, rfl | ⟨ad, cap, rfl⟩⟩ | ⟨g, off, cap, rfl, hc, hg, hj⟩
  · refine ⟨v, w, run_append_owned_none (P := Tryz.prog) (w := w) B E.st ty E.t i0 E.k E.und hi v l.length (cellsE E l) hrow, by rw [List.append_nil]; exact hrow, Below.refl _ _, ⟨rfl, rfl, rfl, Nat.le_refl _, fun _ _ _ => rfl⟩, .inl rfl⟩
  · obtain ⟨v', w', hr, h2, h3, _, h5⟩ := run_append_own_at (P := Tryz.prog) w B E.st ty E.t i0 E.z E.k E.bytes E.und hi hz0 hz1 hz2 E.zk E.pos v l.length (cellsE E l) hrow ad 0 cap [] (by simp) (by simp) (by simp) (by unfold maxLen; simp at hlen; omega) (hby _ (by simpa using hlen)) hB
    refine ⟨v', w', hr, ?_, fin _ h3, h3, h5⟩
    unfold Row
    simpa using h2
  · obtain ⟨v', w', hr, h2, h3, _, h5⟩ := run_append_own_at (P := Tryz.prog) w B E.st ty E.t i0 E.z E.k E.bytes E.und hi hz0 hz1 hz2 E.zk E.pos v l.length (cellsE E l) hrow ⟨g, off, none⟩ m.length cap (cellsE E m) (cellsE_length m) (by
      intro n u hu
      obtain ⟨j, hjl, i, e, hi'⟩ := cellsE_back m n u hu
      have := hj j hjl i u hi'
      rw [← e] at this
      rw [← this, addr_off_add]) (cellsE_one m) (by unfold maxLen; omega) (hby _ hlen) hB
    refine ⟨v', w', hr, ?_, fin _ h3, h3, h5⟩
    unfold Row
    rw [cellsE_append, List.length_append]
    exact h2
theorem wp_append_row {o : Oper} {a : Act} {K : Act → World → Prop} {Q : Exit → Act → World → Prop} (E : Elt α) (s x : Operand)
    (ho : o.op = .call { callee := .builtin .append, args := #[s, x], argTypes := #[E.st, E.st] })
    (B : Nat) (v xv : Value) (l m : List α) (w : World)
    (hs : a.eval s = v) (hrow : Row E B v l w) (hx : a.eval x = xv) (hat : At E xv m w)
    (hlen : l.length + m.length ≤ 1000000) (hB : B ≤ w.heap.size)
    (h : ∀ v' w', Row E B v' (l ++ m) w' → Below B w w' → w.grownBy w' v.ownBlock → (v'.ownBlock = v.ownBlock ∨ v'.ownBlock = some w.heap.size) → K (a.put o.dst v') w') :
    Oper.wp Tryz.prog o a w K Q := by
  obtain ⟨v', w', hr, h2, h3, h4, h5⟩ := run_append_at E o.type B v xv l m w hrow hat hlen hB
  unfold Oper.wp execOp
  simp only [ho, resolve, invoke, builtin, Sem.run_bind, Sem.run_pure, Result.andThen_ok, List.map_toArray, List.map_cons, List.map_nil, hs, hx, hr]
  exact h v' w' h2 h3 h4 h5
theorem wp_append_at {ops : Array Oper} {rest : List Oper} {o : Oper} {a : Act} {Q : Exit → Act → World → Prop} (E : Elt α) (hgd : o.guard = none) (s x : Operand)
    (ho : o.op = .call { callee := .builtin .append, args := #[s, x], argTypes := #[E.st, E.st] })
    (B : Nat) (v xv : Value) (l m : List α) (w : World)
    (hs : a.eval s = v) (hrow : Row E B v l w) (hx : a.eval x = xv) (hat : At E xv m w)
    (hlen : l.length + m.length ≤ 1000000) (hB : B ≤ w.heap.size)
    (h : ∀ v' w', Row E B v' (l ++ m) w' → Below B w w' → w.grownBy w' v.ownBlock → (v'.ownBlock = v.ownBlock ∨ v'.ownBlock = some w.heap.size) → wpList Tryz.prog ops Q rest (a.put o.dst v') w') :
    wpList Tryz.prog ops Q (o :: rest) a w :=
  wpList_plain hgd fun K hK => wp_append_row E s x ho B v xv l m w hs hrow hx hat hlen hB fun v' w' h1 h2 h3 h4 => hK _ _ (h v' w' h1 h2 h3 h4)
end Go.Proofs.YtbhnhoenjoagbaaGreatDoor
