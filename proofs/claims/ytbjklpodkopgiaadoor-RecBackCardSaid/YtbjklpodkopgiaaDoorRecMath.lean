/- Records in plain Lean: how long one is, its bytes, the one that some bytes begin with, all of some bytes. -/
import Derived.Test.YtbjklpodkopgiaaDoorDec
import Derived.Lib.Atoi
import Derived.Lib.IndexLaws
import Derived.Lib.IndexMore
import Derived.Lib.Strings
namespace Go.Proofs.YtbjklpodkopgiaaDoor
namespace RecM
open Go.Lib (decDigits nDigits decDigits_length)

/-- The least number that is so many digits more than r. -/
def lenF (r : Nat) : Nat := if r ≤ 8 then r + 1 else if r ≤ 97 then r + 2 else if r ≤ 996 then r + 3 else if r ≤ 9995 then r + 4 else if r ≤ 99994 then r + 5 else r + 6
def digN (n : Nat) : Nat := if n < 10 then 1 else if n < 100 then 2 else if n < 1000 then 3 else if n < 10000 then 4 else if n < 100000 then 5 else 6
theorem dec_digN (n : Nat) (h : n < 1000000) : (decDigits n).length = digN n := by
  unfold digN
  split
  · rw [decDigits_length]; exact Lib.nDigits_small (by assumption)
  · split
    · exact DecM.dec_len_eq 1 n (by omega) (by omega)
    · split
      · exact DecM.dec_len_eq 2 n (by omega) (by omega)
      · split
        · exact DecM.dec_len_eq 3 n (by omega) (by omega)
        · split
          · exact DecM.dec_len_eq 4 n (by omega) (by omega)
          · exact DecM.dec_len_eq 5 n (by omega) (by omega)
theorem lenF_true (r : Nat) (h : r ≤ 900000) : r + digN (lenF r) = lenF r := by
  unfold lenF digN
  repeat' split
  all_goals omega
theorem lenF_least (r n : Nat) (h0 : r < n) (h : n < lenF r) : r + digN n ≠ n := by
  unfold lenF at h
  unfold digN
  repeat' split at h
  all_goals (repeat' split) <;> omega
theorem lenF_bounds (r : Nat) : r + 1 ≤ lenF r ∧ lenF r ≤ r + 6 := by
  unfold lenF
  repeat' split
  all_goals omega
theorem digN_bounds (n : Nat) : 1 ≤ digN n ∧ digN n ≤ 6 := by
  unfold digN
  repeat' split
  all_goals omega

/-- The bytes of a record. -/
def encF (k v : List UInt8) : List UInt8 := decDigits (lenF (3 + k.length + v.length)) ++ 32 :: (k ++ 61 :: (v ++ [10]))
theorem enc_length (k v : List UInt8) (h : 3 + k.length + v.length ≤ 900000) : (encF k v).length = lenF (3 + k.length + v.length) := by
  have h1 := lenF_true _ h
  have h2 := (lenF_bounds (3 + k.length + v.length)).2
  rw [← dec_digN _ (by omega)] at h1
  unfold encF
  simp only [List.length_append, List.length_cons, List.length_nil]
  omega

/-- May these bytes be a key? -/
def keyB (k : List UInt8) : Bool := decide (1 ≤ k.length) && decide (k.length ≤ 255) && !k.contains 0 && !k.contains 61
def mayB (k v : List UInt8) : Bool := keyB k && decide (lenF (3 + k.length + v.length) ≤ 65536)
theorem may_iff (k v : List UInt8) : mayB k v = true ↔ 1 ≤ k.length ∧ k.length ≤ 255 ∧ (0 : UInt8) ∉ k ∧ (61 : UInt8) ∉ k ∧ lenF (3 + k.length + v.length) ≤ 65536 := by
  simp [mayB, keyB, and_assoc]
def putF (k v : List UInt8) : List UInt8 := if mayB k v then encF k v else []
theorem enc_ne (k v : List UInt8) : encF k v ≠ [] := by
  intro h
  have := congrArg List.length h
  unfold encF at this
  simp at this
theorem put_some {k v X : List UInt8} (h : putF k v = X) (hX : X ≠ []) : mayB k v = true ∧ encF k v = X := by
  unfold putF at h
  split at h
  · exact ⟨by assumption, h⟩
  · exact absurd h.symm hX
theorem may_length {k v : List UInt8} (h : mayB k v = true) : 3 + k.length + v.length ≤ 65535 ∧ (encF k v).length = lenF (3 + k.length + v.length) ∧ (encF k v).length ≤ 65536 := by
  have h1 := (may_iff k v).1 h
  have h2 := lenF_bounds (3 + k.length + v.length)
  have h3 := enc_length k v (by omega)
  exact ⟨by omega, h3, by omega⟩

/-- The record that t begins with; what is behind it. -/
def getF (t : List UInt8) : Option (List UInt8 × List UInt8 × Nat) :=
  if Lib.indexByte (t.take 6) 32 < 0 then none else
  match Lib.atoi (t.take (Lib.indexByte (t.take 6) 32).toNat) with
  | none => none
  | some n =>
    if n < Lib.indexByte (t.take 6) 32 + 1 ∨ (t.length : Int) < n then none else
    let c := Lib.cut (Lib.trimSuffix ((t.take n.toNat).drop ((Lib.indexByte (t.take 6) 32).toNat + 1)) [10]) [61]
    if putF c.1 c.2.1 = t.take n.toNat then some (c.1, c.2.1, n.toNat) else none

/-- t begins with the bytes of the record (k, v), which are n. -/
def Begins (t k v : List UInt8) (n : Nat) : Prop := mayB k v = true ∧ ∃ r, t = encF k v ++ r ∧ n = (encF k v).length

theorem begins_of {t k v : List UInt8} {n : Nat} (h1 : 1 ≤ n) (h2 : n ≤ t.length) (h : putF k v = t.take n) : Begins t k v n := by
  have hne : t.take n ≠ [] := by
    intro e
    have := congrArg List.length e
    rw [List.length_take, List.length_nil] at this
    omega
  obtain ⟨hm, he⟩ := put_some h hne
  refine ⟨hm, t.drop n, by rw [he, List.take_append_drop], ?_⟩
  rw [he, List.length_take]
  omega

theorem index_app (a b : List UInt8) (c : UInt8) (h : c ∉ a) : Lib.indexByte (a ++ c :: b) c = a.length := by
  induction a with
  | nil => simp [Lib.indexByte]
  | cons x a ih =>
    have hx : ¬ x = c := fun e => h (by simp [e])
    have h2 := ih (fun e => h (List.mem_cons_of_mem _ e))
    rw [List.cons_append, Lib.indexByte, if_neg (by simpa using hx), h2, if_neg (by simp)]
    simp
theorem index_miss (a : List UInt8) (c : UInt8) (h : c ∉ a) : Lib.indexByte a c = -1 := by
  induction a with
  | nil => rfl
  | cons x a ih =>
    have hx : ¬ x = c := fun e => h (by simp [e])
    rw [Lib.indexByte, if_neg (by simpa using hx), ih (fun e => h (List.mem_cons_of_mem _ e))]
    rfl
theorem index_one (l : List UInt8) (c : UInt8) : Lib.index l [c] = Lib.indexByte l c := by
  induction l with
  | nil => rfl
  | cons b l ih =>
    rw [Lib.index, Lib.indexByte, ih]
    by_cases h : b = c
    · subst h; simp
    · have h' : ¬ c = b := fun e => h e.symm
      simp [h, h']
theorem index_iff (l : List UInt8) (c : UInt8) : Lib.indexByte l c < 0 ↔ c ∉ l := by
  constructor
  · intro h hm
    obtain ⟨a, b, rfl, hn⟩ : ∃ a b, l = a ++ c :: b ∧ c ∉ a := by
      obtain ⟨a, b, h1, h2⟩ := List.eq_append_cons_of_mem hm
      exact ⟨a, b, h1, h2⟩
    rw [index_app _ _ _ hn] at h
    omega
  · intro h
    rw [index_miss l c h]; decide
theorem digit_val {c : UInt8} (h : DecM.isDig c = true) : Lib.digitVal c = some (c.toNat - 48) := by
  simp only [DecM.isDig, Bool.and_eq_true, decide_eq_true_eq] at h
  unfold Lib.digitVal
  rw [if_pos ⟨by omega, by omega⟩]
theorem decFrom_dig (l : List UInt8) (h : ∀ c ∈ l, DecM.isDig c = true) : ∀ a, Lib.decFrom a l = some (a * 10 ^ l.length + DecM.valN l) := by
  induction l with
  | nil => intro a; simp [Lib.decFrom, DecM.valN]
  | cons c l ih =>
    intro a
    rw [Lib.decFrom, digit_val (h c (List.mem_cons_self ..))]
    simp only
    rw [ih (fun x hx => h x (List.mem_cons_of_mem _ hx)), DecM.valN_cons, List.length_cons, Nat.pow_succ, Nat.add_mul, Nat.add_assoc, Nat.mul_assoc, Nat.mul_comm 10]
theorem dig_ne {c : UInt8} (h : DecM.isDig c = true) : c ≠ 32 ∧ c ≠ 45 ∧ c ≠ 43 ∧ c ≠ 61 := by
  simp only [DecM.isDig, Bool.and_eq_true, decide_eq_true_eq] at h
  refine ⟨?_, ?_, ?_, ?_⟩ <;> (rintro rfl; revert h; decide)
theorem atoi_dec (m : Nat) : Lib.atoi (decDigits m) = some (m : Int) := by
  have h1 := DecM.dec_dig m
  have h2 := DecM.dec_val m
  have h3 := DecM.dec_ne m
  generalize decDigits m = l at *
  cases l with
  | nil => exact absurd rfl h3
  | cons c l =>
    have hc := dig_ne (h1 c (List.mem_cons_self ..))
    rw [Lib.atoi, if_neg (by simpa using hc.2.1), if_neg (by simpa using hc.2.2.1)]
    unfold Lib.decNat
    rw [if_neg (by simp), decFrom_dig _ h1, h2]
    simp
theorem dec_no32 (m : Nat) : (32 : UInt8) ∉ decDigits m := fun h => (dig_ne (DecM.dec_dig m _ h)).1 rfl
theorem trim_app (l : List UInt8) : Lib.trimSuffix (l ++ [10]) [10] = l := by
  unfold Lib.trimSuffix Lib.hasSuffix
  rw [if_pos (by rw [List.isSuffixOf_iff_suffix]; exact ⟨l, rfl⟩)]
  simp
theorem cut_app (a b : List UInt8) (h : (61 : UInt8) ∉ a) : Lib.cut (a ++ 61 :: b) [61] = (a, b, true) := by
  unfold Lib.cut
  rw [index_one, index_app _ _ _ h, if_pos (by omega)]
  simp

theorem get_of {t k v : List UInt8} {n : Nat} (h : Begins t k v n) : getF t = some (k, v, n) := by
  obtain ⟨hm, r, rfl, rfl⟩ := h
  obtain ⟨hl1, hl2, hl3⟩ := may_length hm
  obtain ⟨_, _, _, h61, _⟩ := (may_iff k v).1 hm
  obtain ⟨m, hmm⟩ : ∃ m, lenF (3 + k.length + v.length) = m := ⟨_, rfl⟩
  have hd := dec_digN m (by omega)
  have hD6 : (decDigits m).length ≤ 5 := by
    rw [hd]; unfold digN
    repeat' split
    all_goals omega
  have hD1 := DecM.dec_pos m
  have hi : Lib.indexByte ((encF k v ++ r).take 6) 32 = (decDigits m).length := by
    unfold encF
    rw [hmm, List.append_assoc, List.take_append, List.take_of_length_le (by omega), List.cons_append, List.take_cons (by omega)]
    exact index_app _ _ _ (dec_no32 m)
  have ht : (encF k v ++ r).take (decDigits m).length = decDigits m := by
    unfold encF
    rw [hmm, List.append_assoc, List.take_left']
    rfl
  have hall : (encF k v ++ r).take m = encF k v := by rw [List.take_left']; omega
  have hbody : (encF k v).drop ((decDigits m).length + 1) = (k ++ 61 :: v) ++ [10] := by
    unfold encF
    rw [hmm, ← List.drop_drop, List.drop_left']
    · simp
    · rfl
  have hlm : m = (decDigits m).length + (3 + k.length + v.length) := by have := lenF_true (3 + k.length + v.length) (by omega); rw [hmm] at this; omega
  unfold getF
  rw [hi, if_neg (by omega)]
  simp only [Int.toNat_natCast]
  rw [ht, atoi_dec]
  simp only [Int.toNat_natCast]
  rw [if_neg (by rw [List.length_append, hl2, hmm]; omega), hall, hbody, trim_app, cut_app _ _ h61]
  simp only
  rw [if_pos (by unfold putF; rw [if_pos hm]), hl2, hmm]
theorem get_begins {t k v : List UInt8} {n : Nat} (h : getF t = some (k, v, n)) : Begins t k v n := by
  unfold getF at h
  split at h
  · cases h
  · rename_i h0
    split at h
    · cases h
    · rename_i m hm
      split at h
      · cases h
      · rename_i hb
        simp only at h
        split at h
        · rename_i hp
          simp only [Option.some.injEq, Prod.mk.injEq] at h
          obtain ⟨rfl, rfl, rfl⟩ := h
          exact begins_of (by omega) (by omega) hp
        · cases h
theorem get_iff {t k v : List UInt8} {n : Nat} : getF t = some (k, v, n) ↔ Begins t k v n := ⟨get_begins, get_of⟩
theorem get_pos {t k v : List UInt8} {n : Nat} (h : getF t = some (k, v, n)) : 1 ≤ n ∧ n ≤ t.length := by
  obtain ⟨hm, r, rfl, rfl⟩ := get_begins h
  have := enc_ne k v
  exact ⟨List.length_pos_iff.2 this, by simp⟩

/-- All records of s. -/
def allF (s : List UInt8) : Option (List (List UInt8 × List UInt8)) :=
  if s = [] then some [] else
  match h : getF s with
  | none => none
  | some (k, v, n) => (allF (s.drop n)).map ((k, v) :: ·)
termination_by s.length
decreasing_by
  have := get_pos h
  rw [List.length_drop]
  omega
theorem all_nil : allF [] = some [] := by rw [allF]; rfl
theorem all_bad {s : List UInt8} (h : s ≠ []) (hg : getF s = none) : allF s = none := by
  rw [allF, if_neg h]
  split
  · rfl
  · rename_i h2
    rw [hg] at h2
    cases h2
theorem all_step {s k v : List UInt8} {n : Nat} (hg : getF s = some (k, v, n)) : allF s = (allF (s.drop n)).map ((k, v) :: ·) := by
  have hp := get_pos hg
  rw [allF, if_neg (by rintro rfl; simp at hp; omega)]
  split
  · rename_i h2
    rw [hg] at h2
    cases h2
  · rename_i k' v' n' h2
    rw [hg] at h2
    simp only [Option.some.injEq, Prod.mk.injEq] at h2
    obtain ⟨rfl, rfl, rfl⟩ := h2
    rfl
def joinF (l : List (List UInt8 × List UInt8)) : List UInt8 := (l.map fun r => putF r.1 r.2).flatten
def allMay (l : List (List UInt8 × List UInt8)) : Prop := ∀ r ∈ l, mayB r.1 r.2 = true
theorem put_may {k v : List UInt8} (h : mayB k v = true) : putF k v = encF k v := by unfold putF; rw [if_pos h]
theorem get_app {k v : List UInt8} (h : mayB k v = true) (r : List UInt8) : getF (putF k v ++ r) = some (k, v, (putF k v).length) :=
  get_of ⟨h, r, by rw [put_may h], by rw [put_may h]⟩
theorem all_app (l : List (List UInt8 × List UInt8)) (h : allMay l) (x : List UInt8) : allF (joinF l ++ x) = (allF x).map (l ++ ·) := by
  induction l with
  | nil =>
    show allF x = _
    cases allF x <;> rfl
  | cons r l ih =>
    have h1 := h r (List.mem_cons_self ..)
    have h2 := ih (fun y hy => h y (List.mem_cons_of_mem _ hy))
    have e : joinF (r :: l) ++ x = putF r.1 r.2 ++ (joinF l ++ x) := by simp [joinF]
    rw [e, all_step (get_app h1 _), List.drop_left' rfl, h2, Option.map_map]
    rfl
theorem all_join (l : List (List UInt8 × List UInt8)) (h : allMay l) : allF (joinF l) = some l := by
  have := all_app l h []
  rw [List.append_nil, all_nil] at this
  simpa using this
theorem join_all {s : List UInt8} : ∀ {l}, allF s = some l → joinF l = s ∧ allMay l := by
  obtain ⟨n, hn⟩ : ∃ n, s.length = n := ⟨_, rfl⟩
  induction n using Nat.strongRecOn generalizing s with
  | ind n ih =>
    intro l hl
    by_cases hs : s = []
    · subst hs
      rw [all_nil] at hl
      cases hl
      exact ⟨rfl, fun _ h => by cases h⟩
    · rcases hg : getF s with _ | ⟨k, v, m⟩
      · rw [all_bad hs hg] at hl; cases hl
      · have hp := get_pos hg
        have hb := get_begins hg
        rw [all_step hg] at hl
        rcases hr : allF (s.drop m) with _ | l'
        · rw [hr] at hl; cases hl
        · rw [hr] at hl
          simp only [Option.map_some, Option.some.injEq] at hl
          subst hl
          have h2 := ih (s.drop m).length (by rw [List.length_drop]; omega) rfl hr
          obtain ⟨hm, r, rfl, rfl⟩ := hb
          rw [List.drop_left' rfl] at h2
          refine ⟨?_, ?_⟩
          · show putF k v ++ joinF l' = _
            rw [h2.1, put_may hm]
          · intro y hy
            rcases List.mem_cons.1 hy with rfl | hy
            · exact hm
            · exact h2.2 y hy
end RecM
end Go.Proofs.YtbjklpodkopgiaaDoor
