/- Bundle of 5 texts. -/
import Derived.Test.YtbhnhoenjoagbaaGreatDoorDec
import Derived.Lib.Atoi
import Derived.Lib.IndexLaws
import Derived.Lib.IndexMore
import Derived.Lib.Strings
import Derived.Test.YtbhnhoenjoagbaaGreatDoorKit
import Derived.Test.YtbhnhoenjoagbaaGreatDoorRows
import Derived.Deep.QuietTactic
import Derived.Deep.RegionHeld3
import Derived.BigQuiet
import Derived.Outline
import Derived.Below
import Derived.Lib.LaidTab
import Derived.Lib.AppendIntMem
import Derived.Lib.ItoaMem
import Derived.Test.YtbhnhoenjoagbaaGreatDoorShelf
/- Records in plain Lean: how long one is, its bytes, the one that some bytes begin with, all of some bytes. -/
namespace Go.Proofs.YtbhnhoenjoagbaaGreatDoor.RecW
namespace RecM
open Go.Lib (decDigits nDigits decDigits_length)

/-- The least number that is so many digits more than r. -/
def lenF (r : Nat) : Nat := if r ≤ 8 then r + 1 else if r ≤ 97 then r + 2 else if r ≤ 996 then r + 3 else if r ≤ 9995 then r + 4 else if r ≤ 99994 then r + 5 else r + 6
def digN (n : Nat) : Nat := if n < 10 then 1 else if n < 100 then 2 else if n < 1000 then 3 else if n < 10000 then 4 else if n < 100000 then 5 else 6
theorem dec_digN (n : Nat) (h : n < 1000000) : (decDigits n).length = digN n := by
  unfold digN
  split
  · rw [decDigits_length]; exact Lib.nDigits_small (by assumption)
  · split
    · exact DecM.dec_len_eq 1 n (by omega) (by omega)
    · split
      · exact DecM.dec_len_eq 2 n (by omega) (by omega)
      · split
        · exact DecM.dec_len_eq 3 n (by omega) (by omega)
        · split
          · exact DecM.dec_len_eq 4 n (by omega) (by omega)
          · exact DecM.dec_len_eq 5 n (by omega) (by omega)
theorem lenF_true (r : Nat) (h : r ≤ 900000) : r + digN (lenF r) = lenF r := by
  unfold lenF digN
  repeat' split
  all_goals omega
theorem lenF_least (r n : Nat) (h0 : r < n) (h : n < lenF r) : r + digN n ≠ n := by
  unfold lenF at h
  unfold digN
  repeat' split at h
  all_goals (repeat' split) <;> omega
theorem lenF_bounds (r : Nat) : r + 1 ≤ lenF r ∧ lenF r ≤ r + 6 := by
  unfold lenF
  repeat' split
  all_goals omega
theorem digN_bounds (n : Nat) : 1 ≤ digN n ∧ digN n ≤ 6 := by
  unfold digN
  repeat' split
  all_goals omega

/-- The bytes of a record. -/
def encF (k v : List UInt8) : List UInt8 := decDigits (lenF (3 + k.length + v.length)) ++ 32 :: (k ++ 61 :: (v ++ [10]))
theorem enc_length (k v : List UInt8) (h : 3 + k.length + v.length ≤ 900000) : (encF k v).length = lenF (3 + k.length + v.length) := by
  have h1 := lenF_true _ h
  have h2 := (lenF_bounds (3 + k.length + v.length)).2
  rw [← dec_digN _ (by omega)] at h1
  unfold encF
  simp only [List.length_append, List.length_cons, List.length_nil]
  omega

/-- May these bytes be a key? -/
def keyB (k : List UInt8) : Bool := decide (1 ≤ k.length) && decide (k.length ≤ 255) && !k.contains 0 && !k.contains 61
def mayB (k v : List UInt8) : Bool := keyB k && decide (lenF (3 + k.length + v.length) ≤ 65536)
theorem may_iff (k v : List UInt8) : mayB k v = true ↔ 1 ≤ k.length ∧ k.length ≤ 255 ∧ (0 : UInt8) ∉ k ∧ (61 : UInt8) ∉ k ∧ lenF (3 + k.length + v.length) ≤ 65536 := by
  simp [mayB, keyB, and_assoc]
def putF (k v : List UInt8) : List UInt8 := if mayB k v then encF k v else []
theorem enc_ne (k v : List UInt8) : encF k v ≠ [] := by
  intro h
  have := congrArg List.length h
  unfold encF at this
  simp at this
theorem put_some {k v X : List UInt8} (h : putF k v = X) (hX : X ≠ []) : mayB k v = true ∧ encF k v = X := by
  unfold putF at h
  split at h
  · exact ⟨by assumption, h⟩
  · exact absurd h.symm hX
theorem may_length {k v : List UInt8} (h : mayB k v = true) : 3 + k.length + v.length ≤ 65535 ∧ (encF k v).length = lenF (3 + k.length + v.length) ∧ (encF k v).length ≤ 65536 := by
  have h1 := (may_iff k v).1 h
  have h2 := lenF_bounds (3 + k.length + v.length)
  have h3 := enc_length k v (by omega)
  exact ⟨by omega, h3, by omega⟩

/-- The record that t begins with; what is behind it. -/
def getF (t : List UInt8) : Option (List UInt8 × List UInt8 × Nat) :=
  if Lib.indexByte (t.take 6) 32 < 0 then none else
  match Lib.atoi (t.take (Lib.indexByte (t.take 6) 32).toNat) with
  | none => none
  | some n =>
    if n < Lib.indexByte (t.take 6) 32 + 1 ∨ (t.length : Int) < n then none else
    let c := Lib.cut (Lib.trimSuffix ((t.take n.toNat).drop ((Lib.indexByte (t.take 6) 32).toNat + 1)) [10]) [61]
    if putF c.1 c.2.1 = t.take n.toNat then some (c.1, c.2.1, n.toNat) else none

/-- t begins with the bytes of the record (k, v), which are n. -/
def Begins (t k v : List UInt8) (n : Nat) : Prop := mayB k v = true ∧ ∃ r, t = encF k v ++ r ∧ n = (encF k v).length

theorem begins_of {t k v : List UInt8} {n : Nat} (h1 : 1 ≤ n) (h2 : n ≤ t.length) (h : putF k v = t.take n) : Begins t k v n := by
  have hne : t.take n ≠ [] := by
    intro e
    have := congrArg List.length e
    rw [List.length_take, List.length_nil] at this
    omega
  obtain ⟨hm, he⟩ := put_some h hne
  refine ⟨hm, t.drop n, by rw [he, List.take_append_drop], ?_⟩
  rw [he, List.length_take]
  omega

theorem index_app (a b : List UInt8) (c : UInt8) (h : c ∉ a) : Lib.indexByte (a ++ c :: b) c = a.length := by
  induction a with
  | nil => simp [Lib.indexByte]
  | cons x a ih =>
    have hx : ¬ x = c := fun e => h (by simp [e])
    have h2 := ih (fun e => h (List.mem_cons_of_mem _ e))
    rw [List.cons_append, Lib.indexByte, if_neg (by simpa using hx), h2, if_neg (by simp)]
    simp
theorem index_miss (a : List UInt8) (c : UInt8) (h : c ∉ a) : Lib.indexByte a c = -1 := by
  induction a with
  | nil => rfl
  | cons x a ih =>
    have hx : ¬ x = c := fun e => h (by simp [e])
    rw [Lib.indexByte, if_neg (by simpa using hx), ih (fun e => h (List.mem_cons_of_mem _ e))]
    rfl
theorem index_one (l : List UInt8) (c : UInt8) : Lib.index l [c] = Lib.indexByte l c := by
  induction l with
  | nil => rfl
  | cons b l ih =>
    rw [Lib.index, Lib.indexByte, ih]
    by_cases h : b = c
    · subst h; simp
    · have h' : ¬ c = b := fun e => h e.symm
      simp [h, h']
theorem index_iff (l : List UInt8) (c : UInt8) : Lib.indexByte l c < 0 ↔ c ∉ l := by
  constructor
  · intro h hm
    obtain ⟨a, b, rfl, hn⟩ : ∃ a b, l = a ++ c :: b ∧ c ∉ a := by
      obtain ⟨a, b, h1, h2⟩ := List.eq_append_cons_of_mem hm
      exact ⟨a, b, h1, h2⟩
    rw [index_app _ _ _ hn] at h
    omega
  · intro h
    rw [index_miss l c h]; decide
theorem digit_val {c : UInt8} (h : DecM.isDig c = true) : Lib.digitVal c = some (c.toNat - 48) := by
  simp only [DecM.isDig, Bool.and_eq_true, decide_eq_true_eq] at h
  unfold Lib.digitVal
  rw [if_pos ⟨by omega, by omega⟩]
theorem decFrom_dig (l : List UInt8) (h : ∀ c ∈ l, DecM.isDig c = true) : ∀ a, Lib.decFrom a l = some (a * 10 ^ l.length + DecM.valN l) := by
  induction l with
  | nil => intro a; simp [Lib.decFrom, DecM.valN]
  | cons c l ih =>
    intro a
    rw [Lib.decFrom, digit_val (h c (List.mem_cons_self ..))]
    simp only
    rw [ih (fun x hx => h x (List.mem_cons_of_mem _ hx)), DecM.valN_cons, List.length_cons, Nat.pow_succ, Nat.add_mul, Nat.add_assoc, Nat.mul_assoc, Nat.mul_comm 10]
theorem dig_ne {c : UInt8} (h : DecM.isDig c = true) : c ≠ 32 ∧ c ≠ 45 ∧ c ≠ 43 ∧ c ≠ 61 := by
  simp only [DecM.isDig, Bool.and_eq_true, decide_eq_true_eq] at h
  refine ⟨?_, ?_, ?_, ?_⟩ <;> (rintro rfl; revert h; decide)
theorem atoi_dec (m : Nat) : Lib.atoi (decDigits m) = some (m : Int) := by
  have h1 := DecM.dec_dig m
  have h2 := DecM.dec_val m
  have h3 := DecM.dec_ne m
  generalize decDigits m = l at *
  cases l with
  | nil => exact absurd rfl h3
  | cons c l =>
    have hc := dig_ne (h1 c (List.mem_cons_self ..))
    rw [Lib.atoi, if_neg (by simpa using hc.2.1), if_neg (by simpa using hc.2.2.1)]
    unfold Lib.decNat
    rw [if_neg (by simp), decFrom_dig _ h1, h2]
    simp
theorem dec_no32 (m : Nat) : (32 : UInt8) ∉ decDigits m := fun h => (dig_ne (DecM.dec_dig m _ h)).1 rfl
theorem trim_app (l : List UInt8) : Lib.trimSuffix (l ++ [10]) [10] = l := by
  unfold Lib.trimSuffix Lib.hasSuffix
  rw [if_pos (by rw [List.isSuffixOf_iff_suffix]; exact ⟨l, rfl⟩)]
  simp
theorem cut_app (a b : List UInt8) (h : (61 : UInt8) ∉ a) : Lib.cut (a ++ 61 :: b) [61] = (a, b, true) := by
  unfold Lib.cut
  rw [index_one, index_app _ _ _ h, if_pos (by omega)]
  simp

theorem get_of {t k v : List UInt8} {n : Nat} (h : Begins t k v n) : getF t = some (k, v, n) := by
  obtain ⟨hm, r, rfl, rfl⟩ := h
  obtain ⟨hl1, hl2, hl3⟩ := may_length hm
  obtain ⟨_, _, _, h61, _⟩ := (may_iff k v).1 hm
  obtain ⟨m, hmm⟩ : ∃ m, lenF (3 + k.length + v.length) = m := ⟨_, rfl⟩
  have hd := dec_digN m (by omega)
  have hD6 : (decDigits m).length ≤ 5 := by
    rw [hd]; unfold digN
    repeat' split
    all_goals omega
  have hD1 := DecM.dec_pos m
  have hi : Lib.indexByte ((encF k v ++ r).take 6) 32 = (decDigits m).length := by
    unfold encF
    rw [hmm, List.append_assoc, List.take_append, List.take_of_length_le (by omega), List.cons_append, List.take_cons (by omega)]
    exact index_app _ _ _ (dec_no32 m)
  have ht : (encF k v ++ r).take (decDigits m).length = decDigits m := by
    unfold encF
    rw [hmm, List.append_assoc, List.take_left']
    rfl
  have hall : (encF k v ++ r).take m = encF k v := by rw [List.take_left']; omega
  have hbody : (encF k v).drop ((decDigits m).length + 1) = (k ++ 61 :: v) ++ [10] := by
    unfold encF
    rw [hmm, ← List.drop_drop, List.drop_left']
    · simp
    · rfl
  have hlm : m = (decDigits m).length + (3 + k.length + v.length) := by have := lenF_true (3 + k.length + v.length) (by omega); rw [hmm] at this; omega
  unfold getF
  rw [hi, if_neg (by omega)]
  simp only [Int.toNat_natCast]
  rw [ht, atoi_dec]
  simp only [Int.toNat_natCast]
  rw [if_neg (by rw [List.length_append, hl2, hmm]; omega), hall, hbody, trim_app, cut_app _ _ h61]
  simp only
  rw [if_pos (by unfold putF; rw [if_pos hm]), hl2, hmm]
theorem get_begins {t k v : List UInt8} {n : Nat} (h : getF t = some (k, v, n)) : Begins t k v n := by
  unfold getF at h
  split at h
  · cases h
  · rename_i h0
    split at h
    · cases h
    · rename_i m hm
      split at h
      · cases h
      · rename_i hb
        simp only at h
        split at h
        · rename_i hp
          simp only [Option.some.injEq, Prod.mk.injEq] at h
          obtain ⟨rfl, rfl, rfl⟩ := h
          exact begins_of (by omega) (by omega) hp
        · cases h
theorem get_iff {t k v : List UInt8} {n : Nat} : getF t = some (k, v, n) ↔ Begins t k v n := ⟨get_begins, get_of⟩
theorem get_pos {t k v : List UInt8} {n : Nat} (h : getF t = some (k, v, n)) : 1 ≤ n ∧ n ≤ t.length := by
  obtain ⟨hm, r, rfl, rfl⟩ := get_begins h
  have := enc_ne k v
  exact ⟨List.length_pos_iff.2 this, by simp⟩

/-- All records of s. -/
def allF (s : List UInt8) : Option (List (List UInt8 × List UInt8)) :=
  if s = [] then some [] else
  match h : getF s with
  | none => none
  | some (k, v, n) => (allF (s.drop n)).map ((k, v) :: ·)
termination_by s.length
decreasing_by
  have := get_pos h
  rw [List.length_drop]
  omega
theorem all_nil : allF [] = some [] := by rw [allF]; rfl
theorem all_bad {s : List UInt8} (h : s ≠ []) (hg : getF s = none) : allF s = none := by
  rw [allF, if_neg h]
  split
  · rfl
  · rename_i h2
    rw [hg] at h2
    cases h2
theorem all_step {s k v : List UInt8} {n : Nat} (hg : getF s = some (k, v, n)) : allF s = (allF (s.drop n)).map ((k, v) :: ·) := by
  have hp := get_pos hg
  rw [allF, if_neg (by rintro rfl; simp at hp; omega)]
  split
  · rename_i h2
    rw [hg] at h2
    cases h2
  · rename_i k' v' n' h2
    rw [hg] at h2
    simp only [Option.some.injEq, Prod.mk.injEq] at h2
    obtain ⟨rfl, rfl, rfl⟩ := h2
    rfl
def joinF (l : List (List UInt8 × List UInt8)) : List UInt8 := (l.map fun r => putF r.1 r.2).flatten
def allMay (l : List (List UInt8 × List UInt8)) : Prop := ∀ r ∈ l, mayB r.1 r.2 = true
theorem put_may {k v : List UInt8} (h : mayB k v = true) : putF k v = encF k v := by unfold putF; rw [if_pos h]
theorem get_app {k v : List UInt8} (h : mayB k v = true) (r : List UInt8) : getF (putF k v ++ r) = some (k, v, (putF k v).length) :=
  get_of ⟨h, r, by rw [put_may h], by rw [put_may h]⟩
theorem all_app (l : List (List UInt8 × List UInt8)) (h : allMay l) (x : List UInt8) : allF (joinF l ++ x) = (allF x).map (l ++ ·) := by
  induction l with
  | nil =>
    show allF x = _
    cases allF x <;> rfl
  | cons r l ih =>
    have h1 := h r (List.mem_cons_self ..)
    have h2 := ih (fun y hy => h y (List.mem_cons_of_mem _ hy))
    have e : joinF (r :: l) ++ x = putF r.1 r.2 ++ (joinF l ++ x) := by simp [joinF]
    rw [e, all_step (get_app h1 _), List.drop_left' rfl, h2, Option.map_map]
    rfl
theorem all_join (l : List (List UInt8 × List UInt8)) (h : allMay l) : allF (joinF l) = some l := by
  have := all_app l h []
  rw [List.append_nil, all_nil] at this
  simpa using this
theorem join_all {s : List UInt8} : ∀ {l}, allF s = some l → joinF l = s ∧ allMay l := by
  obtain ⟨n, hn⟩ : ∃ n, s.length = n := ⟨_, rfl⟩
  induction n using Nat.strongRecOn generalizing s with
  | ind n ih =>
    intro l hl
    by_cases hs : s = []
    · subst hs
      rw [all_nil] at hl
      cases hl
      exact ⟨rfl, fun _ h => by cases h⟩
    · rcases hg : getF s with _ | ⟨k, v, m⟩
      · rw [all_bad hs hg] at hl; cases hl
      · have hp := get_pos hg
        have hb := get_begins hg
        rw [all_step hg] at hl
        rcases hr : allF (s.drop m) with _ | l'
        · rw [hr] at hl; cases hl
        · rw [hr] at hl
          simp only [Option.map_some, Option.some.injEq] at hl
          subst hl
          have h2 := ih (s.drop m).length (by rw [List.length_drop]; omega) rfl hr
          obtain ⟨hm, r, rfl, rfl⟩ := hb
          rw [List.drop_left' rfl] at h2
          refine ⟨?_, ?_⟩
          · show putF k v ++ joinF l' = _
            rw [h2.1, put_may hm]
          · intro y hy
            rcases List.mem_cons.1 hy with rfl | hy
            · exact hm
            · exact h2.2 y hy
end RecM
end Go.Proofs.YtbhnhoenjoagbaaGreatDoor.RecW

/- Records in plain Lean: the document's answer is the program's; what the statements without it ask. -/
namespace Go.Proofs.YtbhnhoenjoagbaaGreatDoor.RecW
namespace RecM
open Go.Lib (decDigits nDigits decDigits_length)

/-- The number that stands ahead, and how many digits were taken for it. -/
def scanF (n i : Nat) : List UInt8 → Nat × Nat
  | [] => (n, i)
  | c :: l => if DecM.isDig c = true ∧ n ≤ 65536 then scanF (n * 10 + (c.toNat - 48)) (i + 1) l else (n, i)
theorem scan_shift (l : List UInt8) : ∀ n a i, scanF n (a + i) l = ((scanF n i l).1, a + (scanF n i l).2) := by
  induction l with
  | nil => intro n a i; rfl
  | cons c l ih =>
    intro n a i
    unfold scanF
    split
    · rw [Nat.add_assoc, ih]
    · rfl
theorem scan_le (l : List UInt8) : ∀ n i, i ≤ (scanF n i l).2 ∧ (scanF n i l).2 ≤ i + l.length ∧ (n ≤ 655369 → (scanF n i l).1 ≤ 655369) := by
  induction l with
  | nil => intro n i; exact ⟨Nat.le_refl _, by simp [scanF], fun h => h⟩
  | cons c l ih =>
    intro n i
    unfold scanF
    split
    · rename_i h
      have h1 := ih (n * 10 + (c.toNat - 48)) (i + 1)
      have h2 := h.1
      simp only [DecM.isDig, Bool.and_eq_true, decide_eq_true_eq] at h2
      rw [List.length_cons]
      exact ⟨by omega, by omega, fun _ => h1.2.2 (by omega)⟩
    · rw [List.length_cons]
      exact ⟨Nat.le_refl _, by simp only; omega, fun h => h⟩
theorem scan_digits (D : List UInt8) (h : ∀ c ∈ D, DecM.isDig c = true) (x : List UInt8) : ∀ a i, a * 10 ^ D.length + DecM.valN D ≤ 65536 → scanF a i (D ++ 32 :: x) = (a * 10 ^ D.length + DecM.valN D, i + D.length) := by
  induction D with
  | nil =>
    intro a i _
    show scanF a i (32 :: x) = _
    unfold scanF
    rw [if_neg (fun h => by have := h.1; revert this; decide)]
    simp [DecM.valN]
  | cons c D ih =>
    intro a i hle
    rw [DecM.valN_cons, List.length_cons, Nat.pow_succ] at hle ⊢
    have e : a * (10 ^ D.length * 10) = (a * 10) * 10 ^ D.length := by rw [Nat.mul_comm (10 ^ D.length), Nat.mul_assoc]
    rw [e] at hle ⊢
    have hpos : 1 ≤ 10 ^ D.length := Nat.one_le_pow _ _ (by decide)
    have ha : a * 10 ≤ a * 10 * 10 ^ D.length := Nat.le_mul_of_pos_right _ hpos
    rw [List.cons_append, scanF, if_pos ⟨h c (List.mem_cons_self ..), by omega⟩, ih (fun y hy => h y (List.mem_cons_of_mem _ hy)) _ _ (by rw [Nat.add_mul]; omega), Nat.add_mul]
    simp only [Prod.mk.injEq]
    exact ⟨by omega, by omega⟩

def refMid (t : List UInt8) : List UInt8 := (t.take ((scanF 0 0 t).1 - 1)).drop ((scanF 0 0 t).2 + 1)
/-- The document's answer. -/
def refF (t : List UInt8) : Option (List UInt8 × List UInt8 × Nat) :=
  if t.length < (scanF 0 0 t).1 ∨ (scanF 0 0 t).1 < (scanF 0 0 t).2 + 3 then none else
  if Lib.indexByte (refMid t) 61 < 0 then none else
  if putF ((refMid t).take (Lib.indexByte (refMid t) 61).toNat) ((refMid t).drop ((Lib.indexByte (refMid t) 61).toNat + 1)) = t.take (scanF 0 0 t).1
  then some ((refMid t).take (Lib.indexByte (refMid t) 61).toNat, (refMid t).drop ((Lib.indexByte (refMid t) 61).toNat + 1), (scanF 0 0 t).1) else none
theorem ref_of {t k v : List UInt8} {n : Nat} (h : Begins t k v n) : refF t = some (k, v, n) := by
  obtain ⟨hm, r, rfl, rfl⟩ := h
  obtain ⟨hl1, hl2, hl3⟩ := may_length hm
  obtain ⟨_, _, _, h61, _⟩ := (may_iff k v).1 hm
  obtain ⟨m, hmm⟩ : ∃ m, lenF (3 + k.length + v.length) = m := ⟨_, rfl⟩
  have hd := dec_digN m (by omega)
  have hlm : m = (decDigits m).length + (3 + k.length + v.length) := by have := lenF_true (3 + k.length + v.length) (by omega); rw [hmm] at this; omega
  have hscan : scanF 0 0 (encF k v ++ r) = (m, (decDigits m).length) := by
    unfold encF
    rw [hmm, List.append_assoc, List.cons_append, scan_digits _ (DecM.dec_dig m) _ _ _ (by rw [DecM.dec_val]; omega), DecM.dec_val]
    simp
  have hall : (encF k v ++ r).take m = encF k v := by rw [List.take_left']; omega
  have hmid : refMid (encF k v ++ r) = k ++ 61 :: v := by
    unfold refMid
    rw [hscan]
    simp only
    have e1 : (encF k v ++ r).take (m - 1) = (encF k v).take (m - 1) := by rw [List.take_append_of_le_length (by omega)]
    have e2 : encF k v = (decDigits m ++ 32 :: (k ++ 61 :: v)) ++ [10] := by unfold encF; rw [hmm]; simp
    rw [e1, e2, List.take_left', ← List.drop_drop, List.drop_left' rfl]
    · simp
    · simp; omega
  unfold refF
  rw [hmid, hscan, index_app _ _ _ h61]
  simp only [Int.toNat_natCast]
  rw [if_neg (by rw [List.length_append, hl2, hmm]; omega), if_neg (by omega), List.take_left' rfl, ← List.drop_drop, List.drop_left' rfl, hall]
  simp only [List.drop_succ_cons, List.drop_zero]
  rw [if_pos (put_may hm), hl2, hmm]
theorem ref_begins {t k v : List UInt8} {n : Nat} (h : refF t = some (k, v, n)) : Begins t k v n := by
  unfold refF at h
  split at h
  · cases h
  · rename_i hb
    split at h
    · cases h
    · split at h
      · rename_i hp
        simp only [Option.some.injEq, Prod.mk.injEq] at h
        obtain ⟨rfl, rfl, rfl⟩ := h
        exact begins_of (by omega) (by omega) hp
      · cases h
/-- The document's answer is the program's. -/
theorem ref_get (t : List UInt8) : refF t = getF t := by
  rcases h1 : refF t with _ | ⟨k, v, n⟩
  · rcases h2 : getF t with _ | ⟨k, v, n⟩
    · rfl
    · rw [ref_of (get_begins h2)] at h1; cases h1
  · rw [get_of (ref_begins h1)]

theorem dec_inj {a b : Nat} (h : decDigits a = decDigits b) : a = b := by rw [← DecM.dec_val a, h, DecM.dec_val]
/-- Digits with a blank behind them: the digits are the same. -/
theorem head_inj {a b : Nat} {x y : List UInt8} (h : decDigits a ++ 32 :: x = decDigits b ++ 32 :: y) : a = b ∧ x = y := by
  have h1 := index_app (decDigits a) x 32 (dec_no32 a)
  have h2 := index_app (decDigits b) y 32 (dec_no32 b)
  rw [h, h2] at h1
  have h3 := List.append_inj h (by omega)
  exact ⟨dec_inj h3.1, by simpa using h3.2⟩
/-- Of two records that some bytes begin with: they are one. -/
theorem begins_inj {t k v k' v' : List UInt8} {n n' : Nat} (h : Begins t k v n) (h' : Begins t k' v' n') : k = k' ∧ v = v' ∧ n = n' := by
  have := get_of h
  rw [get_of h'] at this
  simp only [Option.some.injEq, Prod.mk.injEq] at this
  exact ⟨this.1.symm, this.2.1.symm, this.2.2.symm⟩
/-- Without its last byte it is none. -/
theorem get_cut {k v : List UInt8} (h : mayB k v = true) : getF (encF k v).dropLast = none := by
  rcases hg : getF (encF k v).dropLast with _ | ⟨k', v', n⟩
  · rfl
  · exfalso
    have hb := get_begins hg
    obtain ⟨hm, r, he, hn⟩ := hb
    have hne := enc_ne k v
    have e : encF k v = (encF k v).dropLast ++ [(encF k v).getLast hne] := (List.dropLast_concat_getLast hne).symm
    have hb2 : Begins (encF k v) k' v' n := ⟨hm, r ++ [(encF k v).getLast hne], by rw [← List.append_assoc, ← he]; exact e, hn⟩
    have hb3 : Begins (encF k v) k v (encF k v).length := ⟨h, [], by simp, rfl⟩
    have := begins_inj hb2 hb3
    have hl := congrArg List.length he
    rw [List.length_dropLast, List.length_append] at hl
    have : 0 < (encF k v).length := List.length_pos_iff.2 hne
    omega
theorem all_cut (l : List (List UInt8 × List UInt8)) (h : allMay l) (hne : l ≠ []) : allF (joinF l).dropLast = none ∧ joinF l ≠ [] := by
  obtain ⟨l', r, rfl⟩ : ∃ l' r, l = l' ++ [r] := ⟨_, _, (List.dropLast_concat_getLast hne).symm⟩
  have h1 := h r (by simp)
  have h2 : allMay l' := fun y hy => h y (by simp [hy])
  have e : joinF (l' ++ [r]) = joinF l' ++ encF r.1 r.2 := by simp [joinF, put_may h1]
  have hen := enc_ne r.1 r.2
  rw [e]
  refine ⟨?_, by simp [hen]⟩
  rw [List.dropLast_append_of_ne_nil hen, all_app l' h2]
  rw [all_bad ?_ (get_cut h1)]
  · rfl
  · intro e0
    have hl := congrArg List.length e0
    rw [List.length_dropLast] at hl
    obtain ⟨_, hl2, _⟩ := may_length h1
    have := (lenF_bounds (3 + r.1.length + r.2.length)).1
    simp at hl
    omega
/-- With a longer number ahead it is none. -/
theorem get_longer (k v : List UInt8) (h : mayB k v = true) : getF (decDigits ((encF k v).length + 1) ++ (encF k v).drop (decDigits (encF k v).length).length) = none := by
  obtain ⟨hl1, hl2, hl3⟩ := may_length h
  obtain ⟨m, hmm⟩ : ∃ m, lenF (3 + k.length + v.length) = m := ⟨_, rfl⟩
  rw [hmm] at hl2
  have hrest : (encF k v).drop (decDigits (encF k v).length).length = 32 :: (k ++ 61 :: (v ++ [10])) := by
    rw [hl2]
    unfold encF
    rw [hmm, List.drop_left' rfl]
  rw [hrest, hl2]
  rcases hg : getF (decDigits (m + 1) ++ 32 :: (k ++ 61 :: (v ++ [10]))) with _ | ⟨k', v', n⟩
  · rfl
  · exfalso
    obtain ⟨hm', r, he, hn⟩ := get_begins hg
    obtain ⟨hl1', hl2', hl3'⟩ := may_length hm'
    have he' := he
    unfold encF at he
    rw [List.append_assoc, List.cons_append] at he
    obtain ⟨h1, h2⟩ := head_inj he
    have hlen := congrArg List.length h2
    simp only [List.length_append, List.length_cons, List.length_nil] at hlen
    have t1 := lenF_true (3 + k'.length + v'.length) (by omega)
    have t2 := lenF_true (3 + k.length + v.length) (by omega)
    rw [hmm] at t2
    rw [← h1] at t1
    have hd : digN (m + 1) ≤ digN m + 1 := by
      unfold digN
      repeat' split
      all_goals omega
    have : 3 + k'.length + v'.length = 3 + k.length + v.length := by omega
    rw [this, hmm] at h1
    omega
/-- With a nought ahead it is none. -/
theorem get_zero (s : List UInt8) : getF (48 :: s) = none := by
  rcases hg : getF (48 :: s) with _ | ⟨k, v, n⟩
  · rfl
  · exfalso
    obtain ⟨hm, r, he, hn⟩ := get_begins hg
    have h1 := DecM.dec_head (lenF (3 + k.length + v.length)) (by have := (lenF_bounds (3 + k.length + v.length)).1; omega)
    have h2 := DecM.dec_ne (lenF (3 + k.length + v.length))
    unfold encF at he
    generalize decDigits (lenF (3 + k.length + v.length)) = D at *
    cases D with
    | nil => exact h2 rfl
    | cons c D =>
      simp only [List.cons_append, List.cons.injEq] at he
      exact h1 (by rw [← he.1]; rfl)
end RecM
end Go.Proofs.YtbhnhoenjoagbaaGreatDoor.RecW

/- Small facts for the walks over records. -/
namespace Go.Proofs.YtbhnhoenjoagbaaGreatDoor.RecW
open Go.RowKit
set_option linter.unusedVariables false

/-- The letter at a place of a string. -/
theorem idxAt {P : Program} {t : TypeId} (ht : P.underlying t = some .string) (S : ByteArray) (i : Nat) (h : i < S.size) : ∃ c : UInt8, S.data.toList[i]? = some c ∧ ∀ w, (Instr.index t (.string S) (.int .i64 (i : Int))).run P w = .ok (.int .u8 (c.toNat : Int)) w := by
  refine ⟨S[i], ?_, ?_⟩
  · rw [List.getElem?_eq_getElem (by simpa using h)]; rfl
  · intro w
    simp [go_sem, ht, h]
theorem dropAt {l : List UInt8} {i : Nat} {c : UInt8} (h : l[i]? = some c) : l.drop i = c :: l.drop (i + 1) := by
  obtain ⟨hi, rfl⟩ := List.getElem?_eq_some_iff.1 h
  exact List.drop_eq_getElem_cons hi
theorem len_list (S : ByteArray) : S.data.toList.length = S.size := by simp
/-- A string by its bytes. -/
def strOf (l : List UInt8) : ByteArray := ⟨l.toArray⟩
theorem strOf_list (l : List UInt8) : (strOf l).data.toList = l := by simp [strOf]
theorem strOf_size (l : List UInt8) : (strOf l).size = l.length := by rw [← len_list, strOf_list]
theorem strOf_self (S : ByteArray) : strOf S.data.toList = S := bytes_ext (by rw [strOf_list])
theorem strOf_eq {l m : List UInt8} (h : l = m) : strOf l = strOf m := by rw [h]
theorem str_eq {S : ByteArray} {l : List UInt8} (h : S.data.toList = l) : S = strOf l := by rw [← h, strOf_self]
theorem toNat_ne {a b : UInt8} (h : a ≠ b) : ((a.toNat : Int) == (b.toNat : Int)) = false := by
  rw [beq_eq_false_iff_ne]
  intro e
  exact h (UInt8.toNat_inj.1 (by omega))
theorem str_beq (A B : ByteArray) : (A.toList == B.toList) = decide (A.data.toList = B.data.toList) := by
  have e : ∀ X : ByteArray, X.toList = X.data.toList := fun X => Lib.toList_data X
  rw [e, e]
  by_cases h : A.data.toList = B.data.toList
  · rw [h, decide_eq_true rfl]; exact beq_self_eq_true _
  · rw [decide_eq_false h, beq_eq_false_iff_ne]; exact h
end Go.Proofs.YtbhnhoenjoagbaaGreatDoor.RecW

/- What strconv and strings lean on in memory; what numbers out of texts lean on beside it. -/
namespace Go.Proofs.YtbhnhoenjoagbaaGreatDoor
open Go.RowKit

/-- The table of tens reads as the library lays it; MaxLen holds some integer. -/
structure AmbB (w : World) : Prop where
  tab : Lib.TabIs Tryz.prog w "internal/strconv.uint64pow10" .u64 Lib.pow10Tab
  len : ∃ m, w.cell? ⟨3, 0, none⟩ = some (.int .i64 m)
theorem AmbB.on {w w' : World} (h : AmbB w) (hb : Below w.heap.size w w') : AmbB w' := by
  obtain ⟨m, hm⟩ := h.len
  exact ⟨Lib.tabBelow_of_tabIs h.tab w' hb, m, cell_kept hb hm⟩
/-- Beside these: ErrSyntax and ErrRange hold nil or a value. -/
structure AmbF (w : World) : Prop where
  b : AmbB w
  err : ∃ ev, w.cell? ⟨6, 0, none⟩ = some ev ∧ (ev = .nilIface ∨ ∃ te pe, ev = .iface te pe)
  rng : ∃ ev, w.cell? ⟨7, 0, none⟩ = some ev ∧ (ev = .nilIface ∨ ∃ te pe, ev = .iface te pe)
theorem AmbF.on {w w' : World} (h : AmbF w) (hb : Below w.heap.size w w') : AmbF w' := by
  obtain ⟨ev, hv, hev⟩ := h.err
  obtain ⟨rv, hr, hrv⟩ := h.rng
  exact ⟨h.b.on hb, ⟨ev, cell_kept hb hv, hev⟩, ⟨rv, cell_kept hb hr, hrv⟩⟩
instance (w : World) : Coe (AmbF w) (AmbB w) := ⟨fun h => h.b⟩
end Go.Proofs.YtbhnhoenjoagbaaGreatDoor

/- What the walks over records lean on in memory: three of the library's variables; they stay as they are whatever a call makes. -/
namespace Go.Proofs.YtbhnhoenjoagbaaGreatDoor.RecW
open Go.RowKit
open RecM
set_option linter.unusedVariables false

theorem below_drewN {B : Nat} {a w : World} (h : Below B a w) (n : Nat) : Below B a (w.drewN n) := ⟨h.os, h.tape, h.output, h.size, h.block⟩
theorem below_grown {B : Nat} {a w : World} (h : Below B a w) (hB : B ≤ w.heap.size) (k : Nat) (os : Array Obj) : Below B a (Go.Sort.grow (w.drewN k) os) := h.trans (Lib.below_grow B w hB k os)
theorem itoa_dec (n : Nat) : Lib.itoa (n : Int) = Lib.decDigits n := by unfold Lib.itoa; rw [if_neg (by omega)]; rfl
/-- The library's calls, up to what they make. -/
theorem itoa_any (n : Nat) (w : World) (hA : AmbB w) (h1 : n ≤ 9000000000) :
    Calls Tryz.prog 65 #[.int .i64 (n : Int)] w fun e w' => e = .returned (.string (strOf (Lib.decDigits n))) ∧ Below w.heap.size w w' :=
  (Tryz.strconv_Itoa (n : Int) (by omega) (by omega) w hA.tab).mono fun _ _ ⟨he, k, os, hw⟩ => ⟨by rw [he, itoa_dec]; rfl, by rw [hw]; exact below_grown (Below.refl _ _) (Nat.le_refl _) k os⟩
theorem cut_any (s : ByteArray) (w : World) (hA : AmbB w) (hs : s.size < 4294967281) :
    Calls Tryz.prog 269 #[.string s, .string ⟨#[61]⟩] w fun e w' => e = .returned (.tuple #[.string (strOf (Lib.cut s.data.toList [61]).1), .string (strOf (Lib.cut s.data.toList [61]).2.1), .bool (Lib.cut s.data.toList [61]).2.2]) ∧ Below w.heap.size w w' := by
  obtain ⟨m, hm⟩ := hA.len
  exact (Tryz.strings_Cut s ⟨#[61]⟩ m w hs hm).mono fun _ _ ⟨he, n, hw⟩ => ⟨he, by rw [hw]; exact below_drewN (Below.refl _ _) n⟩
theorem trim_any (s : ByteArray) (w : World) (hs : s.size ≤ 9223372036854775807) :
    Calls Tryz.prog 164 #[.string s, .string ⟨#[10]⟩] w fun e w' => e = .returned (.string (strOf (Lib.trimSuffix s.data.toList [10]))) ∧ w = w' :=
  (Tryz.strings_TrimSuffix s ⟨#[10]⟩ w hs).mono fun _ _ ⟨he, hw⟩ => ⟨he, hw.symm⟩
theorem indexByte_any (s : ByteArray) (c : UInt8) (x : Int) (hx : x = (c.toNat : Int)) (w : World) :
    Calls Tryz.prog 144 #[.string s, .int .u8 x] w fun e w' => e = .returned (.int .i64 (Lib.indexByte s.data.toList c)) ∧ w = w' := by
  subst hx
  refine (Tryz.strings_IndexByte s (c.toNat : Int) w).mono ?_
  rintro e w' ⟨rfl, rfl⟩
  refine ⟨?_, rfl⟩
  rw [show ((c.toNat : Int).toNat).toUInt8 = c by simp]
theorem below_bytesWorld0 (w : World) (t : TypeId) (s : ByteArray) : Below w.heap.size w (Lib.bytesWorld w t s) :=
  ⟨rfl, rfl, rfl, by rw [Lib.bytesWorld_size]; omega, fun k hk => Lib.bytesWorld_at_old w t s k (by omega)⟩
theorem clone_any (s : ByteArray) (w : World) (hs : s.size ≤ 281474976710656) :
    Calls Tryz.prog 63 #[.string s] w fun e w' => e = .returned (.string s) ∧ Below w.heap.size w w' := by
  have h := Tryz.stringslite_Clone s
  go_enter Tryz.func63, Tryz.ntmps63
  go_wp2_with fail
  refine (h _ hs).mono ?_
  rintro e w1 ⟨rfl, hb1⟩
  go_wp2_with fail
  go_ret
  exact ⟨rfl, hb1⟩
theorem digits_any (n : Nat) (w : World) (hA : AmbB w) (h1 : n < 1000000) :
    Calls Tryz.prog 235 #[.int .i64 (n : Int)] w fun e w' => e = .returned (.int .i64 (digN n : Int)) ∧ Below w.heap.size w w' := by
  have hc := itoa_any n
  have hs : (strOf (Lib.decDigits n)).size = digN n := by rw [strOf_size, dec_digN n h1]
  have h2 : n ≤ 9000000000 := by omega
  generalize strOf (Lib.decDigits n) = S at *
  go_enter Tryz.func235, Tryz.ntmps235
  go_wp2_with fail
  refine (hc _ hA h2).mono ?_
  rintro e w1 ⟨rfl, hb1⟩
  go_wp2_with fail
  go_ret
  exact ⟨rfl, hb1⟩
end Go.Proofs.YtbhnhoenjoagbaaGreatDoor.RecW
