/- Bundle of 4 texts. -/
import Derived.Test.YtbhnhoenjoagbaaGreatDoorPk09
import Derived.Below
import Derived.Deep.QuietTactic
import Derived.BigQuiet
import Derived.Recover
/- Characters in bytes: what package text computes, as plain functions; how characters join, and what a part of them is. -/
namespace Go.Proofs.YtbhnhoenjoagbaaGreatDoor.TextW
namespace TextM

def bitsOf : Nat → Nat
  | 1 => 7
  | 2 => 5
  | 3 => 4
  | 4 => 3
  | _ => 0
def leastOf : Nat → Nat
  | 2 => 128
  | 3 => 2048
  | 4 => 65536
  | _ => 0
def lenOf (c : UInt8) : Nat := if c.toNat < 128 then 1 else if c.toNat / 32 = 6 then 2 else if c.toNat / 16 = 14 then 3 else if c.toNat / 8 = 30 then 4 else 0
def conts : Nat → Nat → List UInt8 → Option Nat
  | 0, n, _ => some n
  | _ + 1, _, [] => none
  | k + 1, n, c :: r => if c.toNat / 64 = 2 then conts k (n * 64 + c.toNat % 64) r else none
def named (n : Nat) : Bool := decide (n ≤ 1114111) && (decide (n < 55296) || decide (57343 < n))
def good (k n : Nat) : Bool := decide (leastOf k ≤ n) && named n
def sgn : List UInt8 → Option Nat
  | [] => some 0
  | c :: r => if lenOf c = 0 then some 0 else (conts (lenOf c - 1) (c.toNat % 2 ^ bitsOf (lenOf c)) r).map fun n => if good (lenOf c) n then lenOf c else 0
def sg (l : List UInt8) : Nat := (sgn l).getD 0

theorem sg_cons (c : UInt8) (r : List UInt8) : sg (c :: r) = (if lenOf c = 0 then some 0 else (conts (lenOf c - 1) (c.toNat % 2 ^ bitsOf (lenOf c)) r).map fun n => if good (lenOf c) n then lenOf c else 0).getD 0 := rfl
theorem lenOf_le (c : UInt8) : lenOf c ≤ 4 := by unfold lenOf; split <;> (try split) <;> (try split) <;> (try split) <;> omega
theorem conts_len : ∀ (k n : Nat) (l : List UInt8) (m : Nat), conts k n l = some m → k ≤ l.length
  | 0, _, _, _, _ => Nat.zero_le _
  | k + 1, n, [], m, h => by simp [conts] at h
  | k + 1, n, c :: r, m, h => by
    unfold conts at h
    split at h
    · have := conts_len k _ r m h
      simp; omega
    · cases h
theorem sg_le (l : List UInt8) : sg l ≤ 4 := by
  cases l with
  | nil => decide
  | cons c r =>
    rw [sg_cons]
    by_cases h : lenOf c = 0
    · rw [if_pos h]; decide
    · rw [if_neg h]
      cases conts (lenOf c - 1) (c.toNat % 2 ^ bitsOf (lenOf c)) r with
      | none => exact Nat.zero_le _
      | some n =>
        simp only [Option.map_some, Option.getD_some]
        split
        · exact lenOf_le c
        · decide
theorem sg_pos {c : UInt8} {r : List UInt8} (h : sg (c :: r) ≠ 0) : sg (c :: r) = lenOf c ∧ lenOf c ≠ 0 ∧ ∃ n, conts (lenOf c - 1) (c.toNat % 2 ^ bitsOf (lenOf c)) r = some n ∧ good (lenOf c) n = true := by
  rw [sg_cons] at h ⊢
  by_cases h1 : lenOf c = 0
  · rw [if_pos h1] at h; exact absurd rfl h
  · rw [if_neg h1] at h ⊢
    cases hc : conts (lenOf c - 1) (c.toNat % 2 ^ bitsOf (lenOf c)) r with
    | none => rw [hc] at h; exact absurd rfl h
    | some n =>
      rw [hc] at h
      simp only [Option.map_some, Option.getD_some] at h ⊢
      split at h
      · rename_i h2
        rw [if_pos h2]
        exact ⟨rfl, h1, n, rfl, h2⟩
      · exact absurd rfl h
theorem sg_len (l : List UInt8) : sg l ≤ l.length := by
  cases l with
  | nil => decide
  | cons c r =>
    by_cases h : sg (c :: r) = 0
    · omega
    · obtain ⟨h1, _, n, hn, _⟩ := sg_pos h
      have := conts_len _ _ _ _ hn
      simp; omega
def rd (l : List UInt8) : Nat × Nat × Bool :=
  if _h : l = [] then (0, 0, true) else
  if _h2 : sg l = 0 then (0, 0, false) else
  let x := rd (l.drop (sg l))
  (x.1 + sg l, x.2.1 + 1, x.2.2)
termination_by l.length
decreasing_by
  have : 0 < l.length := List.length_pos_iff.2 _h
  simp; omega
theorem rd_nil : rd [] = (0, 0, true) := by rw [rd]; simp
theorem rd_bad {l : List UInt8} (h : sg l = 0) (hl : l ≠ []) : rd l = (0, 0, false) := by rw [rd, dif_neg hl, dif_pos h]
theorem rd_step {l : List UInt8} (h : sg l ≠ 0) : rd l = ((rd (l.drop (sg l))).1 + sg l, (rd (l.drop (sg l))).2.1 + 1, (rd (l.drop (sg l))).2.2) := by
  have hl : l ≠ [] := by rintro rfl; exact h rfl
  conv => lhs; rw [rd, dif_neg hl, dif_neg h]
def badI (l : List UInt8) : Int := if (rd l).2.2 then -1 else ((rd l).1 : Int)
def cntN (l : List UInt8) : Nat := (rd l).2.1
def Chars (l : List UInt8) (k : Nat) : Prop := rd l = (l.length, k, true)
end TextM
end Go.Proofs.YtbhnhoenjoagbaaGreatDoor.TextW

/- What the walks of this seat lean on in memory: package text's table of forms; it stays as it is whatever a call makes. -/
namespace Go.Proofs.YtbhnhoenjoagbaaGreatDoor.TextW
open Go.RowKit

def formCells : List Value := [.int .u8 0, .int .i64 7, .int .i64 0, .int .u8 6, .int .i64 5, .int .i64 128, .int .u8 14, .int .i64 4, .int .i64 2048, .int .u8 30, .int .i64 3, .int .i64 65536]
def Amb (w : World) : Prop := ∀ (i : Nat) v, formCells[i]? = some v → w.cell? ⟨1, i, none⟩ = some v
theorem Amb.on {w w' : World} (h : Amb w) (hb : Below w.heap.size w w') : Amb w' := fun i v hv => cell_kept hb (h i v hv)
theorem Amb.cells {w : World} (h : Amb w) :
    w.cell? ⟨1, 0, none⟩ = some (.int .u8 0) ∧ w.cell? ⟨1, 1, none⟩ = some (.int .i64 7) ∧ w.cell? ⟨1, 2, none⟩ = some (.int .i64 0) ∧
    w.cell? ⟨1, 3, none⟩ = some (.int .u8 6) ∧ w.cell? ⟨1, 4, none⟩ = some (.int .i64 5) ∧ w.cell? ⟨1, 5, none⟩ = some (.int .i64 128) ∧
    w.cell? ⟨1, 6, none⟩ = some (.int .u8 14) ∧ w.cell? ⟨1, 7, none⟩ = some (.int .i64 4) ∧ w.cell? ⟨1, 8, none⟩ = some (.int .i64 2048) ∧
    w.cell? ⟨1, 9, none⟩ = some (.int .u8 30) ∧ w.cell? ⟨1, 10, none⟩ = some (.int .i64 3) ∧ w.cell? ⟨1, 11, none⟩ = some (.int .i64 65536) :=
  ⟨h 0 _ rfl, h 1 _ rfl, h 2 _ rfl, h 3 _ rfl, h 4 _ rfl, h 5 _ rfl, h 6 _ rfl, h 7 _ rfl, h 8 _ rfl, h 9 _ rfl, h 10 _ rfl, h 11 _ rfl⟩
end Go.Proofs.YtbhnhoenjoagbaaGreatDoor.TextW

/- Walks over package text: low, length, further, named. -/
namespace Go.Proofs.YtbhnhoenjoagbaaGreatDoor.TextW
open Go.RowKit
open TextM
set_option linter.unusedVariables false

theorem low_any (c : UInt8) (b : Nat) (hb : b = 3 ∨ b = 4 ∨ b = 5 ∨ b = 6 ∨ b = 7) (x : Int) (hx : x = (b : Int)) (w : World) :
    Calls Tryz.prog 281 #[.int .u8 (c.toNat : Int), .int .i64 x] w fun e w' => e = .returned (.int .i64 ((c.toNat % 2 ^ b : Nat) : Int)) ∧ w' = w := by
  subst hx
  obtain ⟨n, hn⟩ : ∃ n, c.toNat = n := ⟨_, rfl⟩
  have hn2 : n < 256 := by have := c.toNat_lt; omega
  have ha : bits .and .i64 (n : Int) ((2 ^ b - 1 : Nat) : Int) = ((n % 2 ^ b : Nat) : Int) := by
    rw [and_i64 _ _ (by omega) (by rcases hb with rfl | rfl | rfl | rfl | rfl <;> decide), Nat.and_two_pow_sub_one_eq_mod]
  rw [hn]
  rcases hb with rfl | rfl | rfl | rfl | rfl
  all_goals
    have ha' := ha
    simp at ha'
    go_enter Tryz.func281, Tryz.ntmps281
    go_wp2_with fail
    go_ret
    exact ⟨ret_num (by simp), rfl⟩

theorem named_any (n : Nat) (hn : n < 4611686018427387904) (w : World) :
    Calls Tryz.prog 283 #[.int .i64 (n : Int)] w fun e w' => e = .returned (.bool (named n)) ∧ w' = w := by
  have hd : named n = (decide ((n : Int) ≤ 1114111) && (decide ((n : Int) < 55296) || decide (57343 < (n : Int)))) := by
    unfold named
    rw [Bool.eq_iff_iff]
    simp only [Bool.and_eq_true, Bool.or_eq_true, decide_eq_true_eq]
    omega
  have Hd := Lib.hid hd
  clear hd
  obtain ⟨x, hx⟩ : ∃ x : Int, (n : Int) = x := ⟨_, rfl⟩
  rw [hx] at Hd ⊢
  clear hx hn
  by_cases h1 : x ≤ 1114111
  · by_cases h2 : x < 55296
    · go_enter Tryz.func283, Tryz.ntmps283
      go_wp2_with fail
      go_ret
      exact ⟨ret_bool (by rw [Hd.out, Bool.eq_iff_iff]; simp; omega), rfl⟩
    · go_enter Tryz.func283, Tryz.ntmps283
      go_wp2_with fail
      go_ret
      exact ⟨ret_bool (by rw [Hd.out, Bool.eq_iff_iff]; simp; omega), rfl⟩
  · go_enter Tryz.func283, Tryz.ntmps283
    go_wp2_with fail
    go_ret
    exact ⟨ret_bool (by rw [Hd.out, Bool.eq_iff_iff]; simp; omega), rfl⟩

def endsEarly : List PanicEntry := [{ v := .iface 264 (.agg #[]), recovered := false }]
theorem idx_at {P : Program} {t : TypeId} (ht : P.underlying t = some .string) (S : ByteArray) (i : Nat) (h : i < S.size) : ∃ c : UInt8, S.data.toList[i]? = some c ∧ ∀ w, (Instr.index t (.string S) (.int .i64 (i : Int))).run P w = .ok (.int .u8 (c.toNat : Int)) w := by
  refine ⟨S[i], ?_, ?_⟩
  · rw [List.getElem?_eq_getElem (by simpa using h)]; rfl
  · intro w
    simp [go_sem, ht, h]
theorem drop_at {l : List UInt8} {i : Nat} {c : UInt8} (h : l[i]? = some c) : l.drop i = c :: l.drop (i + 1) := by
  obtain ⟨hi, rfl⟩ := List.getElem?_eq_some_iff.1 h
  exact List.drop_eq_getElem_cons hi
def furAt (l : List UInt8) (p : Nat) : Option Nat := (l[p]?).bind fun c => if c.toNat / 64 = 2 then some (c.toNat % 64) else none

theorem further_yes (S : ByteArray) (hS : S.size ≤ 1000000) (p : Nat) (k : Nat) (h : furAt S.data.toList p = some k) (x : Int) (hx : x = (p : Int)) (w : World) :
    Calls Tryz.prog 282 #[.string S, .int .i64 x] w fun e w' => e = .returned (.int .i64 (k : Int)) ∧ w' = w := by
  subst hx
  obtain ⟨c, hc, hk⟩ := Option.bind_eq_some_iff.1 h
  have hc2 : c.toNat / 64 = 2 ∧ c.toNat % 64 = k := by
    split at hk
    · exact ⟨by assumption, Option.some.inj hk⟩
    · cases hk
  obtain ⟨n, hn⟩ : ∃ n, S.size = n := ⟨_, rfl⟩
  have hp : p < S.size := by have := (List.getElem?_eq_some_iff.1 hc).1; simpa using this
  obtain ⟨c', hc', hidx⟩ := idx_at Tryz.underlying9 S p hp
  obtain rfl : c' = c := by rw [hc] at hc'; exact (Option.some.inj hc').symm
  have hlow := low_any c' 6 (by omega)
  rw [show c'.toNat % 2 ^ 6 = k from hc2.2] at hlow
  have h2 : ¬ (n : Int) ≤ (p : Int) := by omega
  have h3 := hc2.1
  have h4 : ((c'.toNat : Int) / 64 != 2) = false := by
    have : (c'.toNat : Int) / 64 = 2 := by omega
    rw [this]; rfl
  clear h hc hc' hk hc2 h3
  go_enter Tryz.func282, Tryz.ntmps282
  go_wp2_with fail
  refine (hlow _ rfl _).mono ?_
  rintro e w4 ⟨rfl, rfl⟩
  go_wp2_with fail
  go_ret
  exact ⟨rfl, rfl⟩
theorem further_no (S : ByteArray) (hS : S.size ≤ 1000000) (p : Nat) (h : furAt S.data.toList p = none) (x : Int) (hx : x = (p : Int)) (w : World) :
    Calls Tryz.prog 282 #[.string S, .int .i64 x] w fun e w' => e = .panicked endsEarly ∧ w' = w := by
  subst hx
  obtain ⟨n, hn⟩ : ∃ n, S.size = n := ⟨_, rfl⟩
  by_cases hp : p < S.size
  · obtain ⟨c, hc, hidx⟩ := idx_at Tryz.underlying9 S p hp
    have hk : ¬ c.toNat / 64 = 2 := by unfold furAt at h; rw [hc] at h; intro h2; rw [Option.bind_some, if_pos h2] at h; cases h
    have h4 : ((c.toNat : Int) / 64 != 2) = true := by
      rw [bne_iff_ne]
      intro h5; apply hk; omega
    have h2 : ¬ (n : Int) ≤ (p : Int) := by omega
    clear h hc hk
    go_enter Tryz.func282, Tryz.ntmps282
    go_wp2_with fail
    exact ⟨rfl, rfl, rfl⟩
  · have h2 : (n : Int) ≤ (p : Int) := by omega
    clear h hp
    go_enter Tryz.func282, Tryz.ntmps282
    go_wp2_with fail
    exact ⟨rfl, rfl, rfl⟩
end Go.Proofs.YtbhnhoenjoagbaaGreatDoor.TextW

/- Walks over package text: length. -/
namespace Go.Proofs.YtbhnhoenjoagbaaGreatDoor.TextW
open Go.RowKit
open TextM
set_option linter.unusedVariables false

set_option maxHeartbeats 1600000 in
theorem length_any (c : UInt8) (w : World) (hA : Amb w) :
    Calls Tryz.prog 280 #[.int .u8 (c.toNat : Int)] w fun e w' => e = .returned (.int .i64 (lenOf c : Int)) ∧ Below w.heap.size w w' := by
  obtain ⟨n, hn⟩ : ∃ n, c.toNat = n := ⟨_, rfl⟩
  have hn2 : n < 256 := by have := c.toNat_lt; omega
  have HL := Lib.hid (show (lenOf c = 1 ∧ n < 128) ∨ (lenOf c = 2 ∧ n / 32 = 6) ∨ (lenOf c = 3 ∧ n / 16 = 14) ∨ (lenOf c = 4 ∧ n / 8 = 30) ∨ (lenOf c = 0 ∧ ¬ n < 128 ∧ ¬ n / 32 = 6 ∧ ¬ n / 16 = 14 ∧ ¬ n / 8 = 30) by
    unfold lenOf
    rw [hn]
    split
    · omega
    · split
      · omega
      · split
        · omega
        · split <;> omega)
  generalize lenOf c = m at *
  rw [hn]
  clear hn
  go_enter Tryz.func280, Tryz.ntmps280
  go_wp2_with fail
  go_loopw [4] (fun iv wr => ∃ i : Nat, iv = .int .i64 (i : Int) ∧ i ≤ 4 ∧ Below w.heap.size w wr ∧ (m = 0 ∨ i + 1 ≤ m)) (fun iv _ => 4 - (intOf iv).toNat)
  case atStart => exact ⟨0, rfl, by omega, Below.refl _ _, by rcases HL.out with h | h | h | h | h <;> omega⟩
  case round =>
    obtain ⟨i, rfl, hi, hbl, him⟩ := hrel
    rename_i wr
    have hA' : Amb wr := hA.on hbl
    obtain ⟨c0, c1, c2, c3, c4, c5, c6, c7, c8, c9, c10, c11⟩ := hA'.cells
    obtain rfl | rfl | rfl | rfl | rfl : i = 0 ∨ i = 1 ∨ i = 2 ∨ i = 3 ∨ i = 4 := by omega
    · clear c2 c3 c4 c5 c6 c7 c8 c9 c10 c11
      have HL := HL.out
      by_cases ht : m = 1
      · have hq : ((n : Int) / 128 == 0) = true := by rcases HL with h | h | h | h | h <;> (rw [beq_iff_eq]; omega)
        clear HL
        go_wp2_with fail
        go_quiet (fail)
        go_wp2_with fail
        subst ht
        exact bodyPost_ret (v := .int .i64 (1 : Nat)) (by simp [results, Tryz.results280, go_sem, *]) rfl ⟨rfl, gr_drewN hbl _⟩
      · have hq : ((n : Int) / 128 == 0) = false := by
          rw [beq_eq_false_iff_ne]
          rcases HL with h | h | h | h | h <;> omega
        have him2 : m = 0 ∨ 1 + 1 ≤ m := by omega
        clear HL him
        go_wp2_with fail
        go_quiet (fail)
        go_wp2_with fail
        go_roundw
        case rel => exact ⟨1, rfl, by omega, gr_drewN hbl _, him2⟩
        case measure => simp only [intOf]; omega
    · clear c0 c1 c2 c5 c6 c7 c8 c9 c10 c11
      have HL := HL.out
      by_cases ht : m = 2
      · have hq : ((n : Int) / 32 == 6) = true := by rcases HL with h | h | h | h | h <;> (rw [beq_iff_eq]; omega)
        clear HL
        go_wp2_with fail
        go_quiet (fail)
        go_wp2_with fail
        subst ht
        exact bodyPost_ret (v := .int .i64 (2 : Nat)) (by simp [results, Tryz.results280, go_sem, *]) rfl ⟨rfl, gr_drewN hbl _⟩
      · have hq : ((n : Int) / 32 == 6) = false := by
          rw [beq_eq_false_iff_ne]
          rcases HL with h | h | h | h | h <;> omega
        have him2 : m = 0 ∨ 2 + 1 ≤ m := by omega
        clear HL him
        go_wp2_with fail
        go_quiet (fail)
        go_wp2_with fail
        go_roundw
        case rel => exact ⟨2, rfl, by omega, gr_drewN hbl _, him2⟩
        case measure => simp only [intOf]; omega
    · clear c0 c1 c2 c3 c4 c5 c8 c9 c10 c11
      have HL := HL.out
      by_cases ht : m = 3
      · have hq : ((n : Int) / 16 == 14) = true := by rcases HL with h | h | h | h | h <;> (rw [beq_iff_eq]; omega)
        clear HL
        go_wp2_with fail
        go_quiet (fail)
        go_wp2_with fail
        subst ht
        exact bodyPost_ret (v := .int .i64 (3 : Nat)) (by simp [results, Tryz.results280, go_sem, *]) rfl ⟨rfl, gr_drewN hbl _⟩
      · have hq : ((n : Int) / 16 == 14) = false := by
          rw [beq_eq_false_iff_ne]
          rcases HL with h | h | h | h | h <;> omega
        have him2 : m = 0 ∨ 3 + 1 ≤ m := by omega
        clear HL him
        go_wp2_with fail
        go_quiet (fail)
        go_wp2_with fail
        go_roundw
        case rel => exact ⟨3, rfl, by omega, gr_drewN hbl _, him2⟩
        case measure => simp only [intOf]; omega
    · clear c0 c1 c2 c3 c4 c5 c6 c7 c8 c11
      have HL := HL.out
      by_cases ht : m = 4
      · have hq : ((n : Int) / 8 == 30) = true := by rcases HL with h | h | h | h | h <;> (rw [beq_iff_eq]; omega)
        clear HL
        go_wp2_with fail
        go_quiet (fail)
        go_wp2_with fail
        subst ht
        exact bodyPost_ret (v := .int .i64 (4 : Nat)) (by simp [results, Tryz.results280, go_sem, *]) rfl ⟨rfl, gr_drewN hbl _⟩
      · have hq : ((n : Int) / 8 == 30) = false := by
          rw [beq_eq_false_iff_ne]
          rcases HL with h | h | h | h | h <;> omega
        have him2 : m = 0 ∨ 4 + 1 ≤ m := by omega
        clear HL him
        go_wp2_with fail
        go_quiet (fail)
        go_wp2_with fail
        go_roundw
        case rel => exact ⟨4, rfl, by omega, gr_drewN hbl _, him2⟩
        case measure => simp only [intOf]; omega
    · have h0 : m = 0 := by rcases HL.out with h | h | h | h | h <;> omega
      clear c0 c1 c2 c3 c4 c5 c6 c7 c8 c9 c10 c11
      go_wp2_with fail
      subst h0
      go_ret
      exact ⟨rfl, hbl⟩
end Go.Proofs.YtbhnhoenjoagbaaGreatDoor.TextW
