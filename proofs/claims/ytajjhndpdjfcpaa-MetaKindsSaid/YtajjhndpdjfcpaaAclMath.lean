/- Access lists: what is valid, its text, its mode, what a text says. -/
import Derived.Test.YtajjhndpdjfcpaaAclKit
import Derived.Test.YtajjhndpdjfcpaaDec
import Derived.Lib.AtoiAllCases
import Derived.Lib.IndexBytes
import Derived.Lib.CountLaws
import Derived.Lib.Split
namespace Go.Proofs.Ytajjhndpdjfcpaa
open Go.RowKit
set_option linter.unusedVariables false
set_option linter.unusedSimpArgs false
namespace AclM
open DecM

/-- Tag, Id, Perm. -/
abbrev Ace := Int × Int × Int
def hasId (t : Int) : Bool := decide (t = 2) || decide (t = 4)
def okPart (a : Ace) : Bool := decide (1 ≤ a.1) && decide (a.1 ≤ 6) && decide (0 ≤ a.2.2) && decide (a.2.2 ≤ 7) && (if hasId a.1 = true then decide (0 ≤ a.2.1) && decide (a.2.1 ≤ 2147483647) else decide (a.2.1 = 0))
def ltA (a b : Ace) : Bool := decide (a.1 < b.1) || (decide (a.1 = b.1) && decide (a.2.1 < b.2.1))
def order : List Ace → Bool
  | a :: b :: l => ltA a b && order (b :: l)
  | _ => true
/-- The place of the first part of a tag, from i on. -/
def findN (t : Int) : List Ace → Nat → Int
  | [], _ => -1
  | a :: l, i => if a.1 = t then (i : Int) else findN t l (i + 1)
def has (l : List Ace) (t : Int) : Bool := decide (0 ≤ findN t l 0)
def tags (l : List Ace) : Bool := has l 1 && has l 3 && has l 6 && (has l 5 == (has l 2 || has l 4))
def may (l : List Ace) : Bool := decide (l.length ≤ 32) && l.all okPart && order l && tags l

def letter (t : Int) : UInt8 := if t = 1 ∨ t = 2 then 117 else if t = 3 ∨ t = 4 then 103 else if t = 5 then 109 else 111
def rwx (p : Int) : List UInt8 := [if p.toNat &&& 4 = 0 then 45 else 114, if p.toNat &&& 2 = 0 then 45 else 119, if p.toNat &&& 1 = 0 then 45 else 120]
def idText (a : Ace) : List UInt8 := if hasId a.1 = true then Lib.itoa a.2.1 else []
def partText (a : Ace) : List UInt8 := letter a.1 :: 58 :: (idText a ++ 58 :: rwx a.2.2)
def joinC : List (List UInt8) → List UInt8
  | [] => []
  | [p] => p
  | p :: q :: r => p ++ 44 :: joinC (q :: r)
def textL (l : List Ace) : List UInt8 := joinC (l.map partText)

/-- What lies between the bytes c. -/
def cutAt (c : UInt8) : List UInt8 → List (List UInt8)
  | [] => [[]]
  | x :: r => if x = c then [] :: cutAt c r else match cutAt c r with
    | p :: ps => (x :: p) :: ps
    | [] => [[x]]

/-- The perm that three letters say. -/
def permOf : List UInt8 → Option Int
  | [a, b, c] => some ((if a = 114 then 4 else 0) + (if b = 119 then 2 else 0) + (if c = 120 then 1 else 0))
  | _ => none
/-- The tag that a letter says, where an Id stands or none. -/
def tagOf (l id : List UInt8) : Option Int :=
  if l = [117] then some (if id = [] then 1 else 2) else
  if l = [103] then some (if id = [] then 3 else 4) else
  if l = [109] then (if id = [] then some 5 else none) else
  if l = [111] then (if id = [] then some 6 else none) else none
def idOf (id : List UInt8) : Option Int := if id = [] then some 0 else match Lib.atoiAll id with
  | .ok n => some n
  | _ => none
/-- What stands ahead of the first byte c, and behind it. -/
def cutA (c : UInt8) (s : List UInt8) : List UInt8 × List UInt8 := ((Lib.cut s [c]).1, (Lib.cut s [c]).2.1)
def guess (s : List UInt8) : Option Ace :=
  match tagOf (cutA 58 s).1 (cutA 58 (cutA 58 s).2).1 with
  | none => none
  | some t => match idOf (cutA 58 (cutA 58 s).2).1 with
    | none => none
    | some i => match permOf (cutA 58 (cutA 58 s).2).2 with
      | none => none
      | some p => some (t, i, p)
def partOf (s : List UInt8) : Option Ace := match guess s with
  | some a => if partText a = s then some a else none
  | none => none
def partsOf : List (List UInt8) → Option (List Ace)
  | [] => some []
  | p :: ps => match partOf p with
    | none => none
    | some a => (partsOf ps).map (a :: ·)
def getL (s : List UInt8) : Option (List Ace) := match partsOf (cutAt 44 s) with
  | some l => if may l = true then some l else none
  | none => none

/-! ### Cuts -/
theorem cutAt_ne (c : UInt8) (s : List UInt8) : cutAt c s ≠ [] := by
  cases s with
  | nil => simp [cutAt]
  | cons x r =>
    unfold cutAt
    split
    · simp
    · split <;> simp
theorem cutAt_cons (c x : UInt8) (r : List UInt8) : cutAt c (x :: r) = if x = c then [] :: cutAt c r else match cutAt c r with
    | p :: ps => (x :: p) :: ps
    | [] => [[x]] := rfl
theorem mem_cut {c : UInt8} : ∀ {s : List UInt8}, c ∈ s → ∃ p r, s = p ++ c :: r ∧ c ∉ p
  | [], h => by cases h
  | x :: s, h => by
    by_cases hx : x = c
    · exact ⟨[], s, by rw [hx]; rfl, by simp⟩
    · rcases List.mem_cons.1 h with h1 | h1
      · exact absurd h1.symm hx
      · obtain ⟨p, r, e, hp⟩ := mem_cut h1
        exact ⟨x :: p, r, by rw [e]; rfl, by simp; exact ⟨fun e => hx e.symm, hp⟩⟩
theorem cutAt_none {c : UInt8} : ∀ {s : List UInt8}, c ∉ s → cutAt c s = [s]
  | [], _ => rfl
  | x :: r, h => by
    rw [List.mem_cons] at h
    have h1 : ¬ x = c := fun e => h (.inl e.symm)
    unfold cutAt
    rw [if_neg h1, cutAt_none (fun e => h (.inr e))]
theorem cutAt_one {c : UInt8} : ∀ {p : List UInt8} (r : List UInt8), c ∉ p → cutAt c (p ++ c :: r) = p :: cutAt c r
  | [], r, _ => by simp [cutAt]
  | x :: p, r, h => by
    rw [List.mem_cons] at h
    have h1 : ¬ x = c := fun e => h (.inl e.symm)
    rw [List.cons_append, cutAt_cons, if_neg h1, cutAt_one r (fun e => h (.inr e))]
theorem joinC_cut : ∀ (s : List UInt8), joinC (cutAt 44 s) = s
  | [] => rfl
  | x :: r => by
    have ih := joinC_cut r
    unfold cutAt
    by_cases h : x = 44
    · subst h
      rw [if_pos rfl]
      rcases hc : cutAt 44 r with _ | ⟨p, ps⟩
      · exact absurd hc (cutAt_ne _ _)
      · rw [hc] at ih
        rw [← ih]
        rfl
    · rw [if_neg h]
      rcases hc : cutAt 44 r with _ | ⟨p, ps⟩
      · exact absurd hc (cutAt_ne _ _)
      · rw [hc] at ih
        rw [← ih]
        cases ps <;> rfl
theorem cut_joinC : ∀ {ps : List (List UInt8)}, ps ≠ [] → (∀ p ∈ ps, (44 : UInt8) ∉ p) → cutAt 44 (joinC ps) = ps
  | [], h, _ => absurd rfl h
  | [p], _, h => cutAt_none (h p (by simp))
  | p :: q :: r, _, h => by
    show cutAt 44 (p ++ 44 :: joinC (q :: r)) = _
    rw [cutAt_one _ (h p (by simp)), cut_joinC (ps := q :: r) (by simp) (fun x hx => h x (by simp at hx ⊢; exact .inr hx))]
theorem joinC_snoc : ∀ (ps : List (List UInt8)) (p : List UInt8), joinC (ps ++ [p]) = if ps = [] then p else joinC ps ++ 44 :: p
  | [], p => rfl
  | [q], p => rfl
  | q :: q' :: r, p => by
    have ih := joinC_snoc (q' :: r) p
    rw [if_neg (by simp)] at ih ⊢
    show q ++ 44 :: joinC (q' :: r ++ [p]) = (q ++ 44 :: joinC (q' :: r)) ++ 44 :: p
    rw [ih]
    simp
theorem textL_snoc (l : List Ace) (a : Ace) : textL (l ++ [a]) = (if l = [] then [] else textL l ++ [44]) ++ partText a := by
  unfold textL
  rw [List.map_append, List.map_singleton, joinC_snoc]
  cases l <;> simp

/-! ### A part's text -/
theorem letter_ne (t : Int) : letter t ≠ 58 ∧ letter t ≠ 44 := by
  unfold letter
  split
  · decide
  · split
    · decide
    · split <;> decide
theorem rwx_mem {p : Int} {c : UInt8} (h : c ∈ rwx p) : c = 45 ∨ c = 114 ∨ c = 119 ∨ c = 120 := by
  unfold rwx at h
  simp only [List.mem_cons, List.not_mem_nil, or_false] at h
  rcases h with h | h | h <;> (rw [h]; split <;> simp)
theorem isDig_of {c : UInt8} (h : isDig c = true) : 48 ≤ c.toNat ∧ c.toNat ≤ 57 := by simpa [isDig] using h
theorem itoa_mem {n : Int} {c : UInt8} (h : c ∈ Lib.itoa n) : c = 45 ∨ (48 ≤ c.toNat ∧ c.toNat ≤ 57) := by
  unfold Lib.itoa at h
  split at h
  · rcases List.mem_cons.1 h with rfl | h
    · exact .inl rfl
    · exact .inr (isDig_of (dec_dig _ _ h))
  · exact .inr (isDig_of (dec_dig _ _ h))
theorem itoa_not {n : Int} : (58 : UInt8) ∉ Lib.itoa n ∧ (44 : UInt8) ∉ Lib.itoa n := by
  constructor <;>
  · intro h
    rcases itoa_mem h with h | h
    · exact absurd h (by decide)
    · have e1 : (58 : UInt8).toNat = 58 := rfl
      have e2 : (44 : UInt8).toNat = 44 := rfl
      omega
theorem idText_not (a : Ace) : (58 : UInt8) ∉ idText a ∧ (44 : UInt8) ∉ idText a := by
  unfold idText
  split
  · exact itoa_not
  · simp
theorem partText_comma (a : Ace) : (44 : UInt8) ∉ partText a := by
  unfold partText
  intro h
  rcases List.mem_cons.1 h with h | h
  · exact (letter_ne a.1).2 h.symm
  · rcases List.mem_cons.1 h with h | h
    · exact absurd h (by decide)
    · rcases List.mem_append.1 h with h | h
      · exact (idText_not a).2 h
      · rcases List.mem_cons.1 h with h | h
        · exact absurd h (by decide)
        · rcases rwx_mem h with h | h | h | h <;> exact absurd h (by decide)
theorem itoa_ne (n : Int) : Lib.itoa n ≠ [] := by
  unfold Lib.itoa
  split
  · simp
  · exact dec_ne _

/-! ### Numbers -/
theorem uint10 (l : List UInt8) : ∀ (acc : Nat), (∀ c ∈ l, isDig c = true) → acc * 10 ^ l.length + valN l < 9223372036854775808 → Lib.parseUint10 acc l = .ok (acc * 10 ^ l.length + valN l) := by
  induction l with
  | nil => intro acc _ _; simp [Lib.parseUint10, valN]
  | cons c r ih =>
    intro acc hd hb
    have hc := isDig_of (hd c (by simp))
    have e : acc * 10 ^ (c :: r).length + valN (c :: r) = (acc * 10 + (c.toNat - 48)) * 10 ^ r.length + valN r := by
      rw [valN_cons, List.length_cons, Nat.pow_succ, Nat.add_mul, ← Nat.add_assoc]
      congr 2
      rw [Nat.mul_comm (10 ^ r.length) 10, Nat.mul_assoc]
    have hp : 1 ≤ 10 ^ r.length := Nat.one_le_pow _ _ (by decide)
    have hm : acc * 10 + (c.toNat - 48) ≤ (acc * 10 + (c.toNat - 48)) * 10 ^ r.length := Nat.le_mul_of_pos_right _ hp
    rw [e] at hb ⊢
    unfold Lib.parseUint10
    rw [if_pos hc, if_neg (by omega), if_neg (by omega)]
    exact ih _ (fun x hx => hd x (by simp [hx])) hb
theorem atoi_dec (n : Nat) (h : n < 9223372036854775808) : Lib.atoiAll (Lib.decDigits n) = .ok (n : Int) := by
  rcases hd : Lib.decDigits n with _ | ⟨c, r⟩
  · exact absurd hd (dec_ne n)
  · have hdig := dec_dig n
    rw [hd] at hdig
    have hc := isDig_of (hdig c (by simp))
    rw [Lib.atoiAll_plain c r (by omega) (by omega)]
    have hv := dec_val n
    rw [hd] at hv
    have hm : Lib.parseMag (c :: r) = .ok n := by
      unfold Lib.parseMag
      rw [if_neg (by simp), uint10 _ 0 hdig (by rw [hv]; omega), hv]
      simp
    rw [hm]
    unfold Lib.signless
    simp
    omega
theorem itoa_nat (n : Nat) : Lib.itoa (n : Int) = Lib.decDigits n := by unfold Lib.itoa; rw [if_neg (by omega)]; rfl
theorem idOf_itoa {i : Int} (h0 : 0 ≤ i) (h1 : i ≤ 2147483647) : idOf (Lib.itoa i) = some i := by
  obtain ⟨n, rfl⟩ : ∃ n : Nat, i = (n : Int) := ⟨i.toNat, by omega⟩
  unfold idOf
  rw [if_neg (itoa_ne _), itoa_nat, atoi_dec n (by omega)]

/-! ### A part, again -/
theorem indexByte_app {c : UInt8} : ∀ {p : List UInt8} (r : List UInt8), c ∉ p → Lib.indexByte (p ++ c :: r) c = (p.length : Int)
  | [], r, _ => by simp [Lib.indexByte]
  | x :: p, r, h => by
    rw [List.mem_cons] at h
    have h1 : (x == c) = false := by rw [beq_eq_false_iff_ne]; exact fun e => h (.inl e.symm)
    rw [List.cons_append]
    unfold Lib.indexByte
    rw [h1, indexByte_app r (fun e => h (.inr e))]
    have : ¬ ((p.length : Int) == -1) = true := by rw [beq_iff_eq]; omega
    simp [this]
theorem cutA_app {c : UInt8} {p : List UInt8} (r : List UInt8) (h : c ∉ p) : cutA c (p ++ c :: r) = (p, r) := by
  unfold cutA Lib.cut
  rw [Lib.index_one, indexByte_app r h, if_pos (by omega)]
  simp
theorem permOf_rwx {p : Int} (h0 : 0 ≤ p) (h1 : p ≤ 7) : permOf (rwx p) = some p := by
  have : p = 0 ∨ p = 1 ∨ p = 2 ∨ p = 3 ∨ p = 4 ∨ p = 5 ∨ p = 6 ∨ p = 7 := by omega
  rcases this with rfl | rfl | rfl | rfl | rfl | rfl | rfl | rfl <;> decide
theorem okPart_iff {a : Ace} (h : okPart a = true) : 1 ≤ a.1 ∧ a.1 ≤ 6 ∧ 0 ≤ a.2.2 ∧ a.2.2 ≤ 7 ∧ 0 ≤ a.2.1 ∧ a.2.1 ≤ 2147483647 ∧ (hasId a.1 = false → a.2.1 = 0) := by
  unfold okPart at h
  simp only [Bool.and_eq_true, decide_eq_true_eq] at h
  obtain ⟨⟨⟨⟨h1, h2⟩, h3⟩, h4⟩, h5⟩ := h
  by_cases hh : hasId a.1 = true
  · rw [if_pos hh] at h5
    simp at h5
    exact ⟨h1, h2, h3, h4, h5.1, h5.2, fun e => by rw [hh] at e; cases e⟩
  · rw [if_neg hh] at h5
    simp at h5
    exact ⟨h1, h2, h3, h4, by omega, by omega, fun _ => h5⟩
theorem guess_text {a : Ace} (h : okPart a = true) : guess (partText a) = some a := by
  obtain ⟨h1, h2, h3, h4, h5, h6, h7⟩ := okPart_iff h
  have e1 : cutA 58 (partText a) = ([letter a.1], idText a ++ 58 :: rwx a.2.2) := cutA_app (p := [letter a.1]) _ (by simp; exact (letter_ne a.1).1.symm)
  have e2 : cutA 58 (idText a ++ 58 :: rwx a.2.2) = (idText a, rwx a.2.2) := cutA_app _ (idText_not a).1
  have e3 : idOf (idText a) = some a.2.1 := by
    unfold idText
    by_cases hh : hasId a.1 = true
    · rw [if_pos hh]; exact idOf_itoa h5 h6
    · rw [if_neg hh, h7 (by simpa using hh)]; rfl
  have e4 : tagOf [letter a.1] (idText a) = some a.1 := by
    have hn := itoa_ne a.2.1
    obtain ⟨t, i, p⟩ := a
    simp only at h1 h2 hn ⊢
    have : t = 1 ∨ t = 2 ∨ t = 3 ∨ t = 4 ∨ t = 5 ∨ t = 6 := by omega
    rcases this with rfl | rfl | rfl | rfl | rfl | rfl <;> simp [letter, tagOf, idText, hasId, hn]
  unfold guess
  rw [e1]
  simp only
  rw [e2]
  simp only
  rw [e4, e3, permOf_rwx h3 h4]
theorem partOf_text {a : Ace} (h : okPart a = true) : partOf (partText a) = some a := by
  unfold partOf
  rw [guess_text h]
  simp
theorem partOf_some {s : List UInt8} {a : Ace} (h : partOf s = some a) : partText a = s := by
  unfold partOf at h
  split at h
  · split at h
    · cases h; assumption
    · cases h
  · cases h
theorem partsOf_some : ∀ {ps : List (List UInt8)} {l : List Ace}, partsOf ps = some l → ps = l.map partText
  | [], l, h => by cases h; rfl
  | p :: ps, l, h => by
    unfold partsOf at h
    rcases hp : partOf p with _ | a
    · rw [hp] at h; cases h
    · rw [hp] at h
      rcases hq : partsOf ps with _ | m
      · rw [hq] at h; cases h
      · rw [hq] at h
        cases h
        rw [List.map_cons, ← partsOf_some hq, partOf_some hp]
theorem partsOf_text : ∀ {l : List Ace}, (∀ a ∈ l, okPart a = true) → partsOf (l.map partText) = some l
  | [], _ => rfl
  | a :: l, h => by
    rw [List.map_cons]
    unfold partsOf
    rw [partOf_text (h a (by simp)), partsOf_text (fun x hx => h x (by simp [hx]))]
    rfl
theorem may_parts {l : List Ace} (h : may l = true) : (∀ a ∈ l, okPart a = true) ∧ l.length ≤ 32 ∧ order l = true ∧ tags l = true := by
  unfold may at h
  simp only [Bool.and_eq_true, decide_eq_true_eq, List.all_eq_true] at h
  exact ⟨h.1.1.2, h.1.1.1, h.1.2, h.2⟩
theorem may_ne {l : List Ace} (h : may l = true) : l ≠ [] := by rintro rfl; exact absurd h (by decide)
theorem get_iff (s : List UInt8) (l : List Ace) : getL s = some l ↔ may l = true ∧ textL l = s := by
  constructor
  · intro h
    unfold getL at h
    rcases hp : partsOf (cutAt 44 s) with _ | m
    · rw [hp] at h; cases h
    · rw [hp] at h
      simp only at h
      split at h
      · cases h
        refine ⟨by assumption, ?_⟩
        unfold textL
        rw [← partsOf_some hp, joinC_cut]
      · cases h
  · rintro ⟨h, rfl⟩
    obtain ⟨h1, h2, h3, h4⟩ := may_parts h
    unfold getL textL
    rw [cut_joinC (by simpa using may_ne h) (by intro p hp; obtain ⟨a, _, rfl⟩ := List.mem_map.1 hp; exact partText_comma a), partsOf_text h1]
    simp [h]
theorem get_text {l : List Ace} (h : may l = true) : getL (textL l) = some l := (get_iff _ _).2 ⟨h, rfl⟩
theorem part_len {a : Ace} (h : okPart a = true) : (partText a).length ≤ 16 := by
  obtain ⟨h1, h2, h3, h4, h5, h6, h7⟩ := okPart_iff h
  have : (idText a).length ≤ 10 := by
    unfold idText
    split
    · obtain ⟨n, hn⟩ : ∃ n : Nat, a.2.1 = (n : Int) := ⟨a.2.1.toNat, by omega⟩
      rw [hn, itoa_nat]
      exact dec_len 9 n (by omega)
    · simp
  simp [partText, rwx]
  omega
theorem joinC_len : ∀ (ps : List (List UInt8)), (∀ p ∈ ps, p.length ≤ 16) → (joinC ps).length ≤ 17 * ps.length
  | [], _ => by simp [joinC]
  | [p], h => by have := h p (by simp); simp [joinC]; omega
  | p :: q :: r, h => by
    have h1 := h p (by simp)
    have h2 := joinC_len (q :: r) (fun x hx => h x (by simp at hx ⊢; exact .inr hx))
    simp only [joinC, List.length_append, List.length_cons] at h2 ⊢
    omega
theorem text_len {l : List Ace} (h : may l = true) : (textL l).length ≤ 544 := by
  obtain ⟨h1, h2, h3, h4⟩ := may_parts h
  have := joinC_len (l.map partText) (by intro p hp; obtain ⟨a, ha, rfl⟩ := List.mem_map.1 hp; exact part_len (h1 a ha))
  rw [List.length_map] at this
  unfold textL
  omega
theorem get_long {s : List UInt8} (h : 544 < s.length) : getL s = none := by
  rcases hg : getL s with _ | l
  · rfl
  · obtain ⟨h1, h2⟩ := (get_iff s l).1 hg
    have := text_len h1
    rw [h2] at this
    omega

/-! ### What the library splits -/
theorem lib_split (c : UInt8) : ∀ (n : Nat) (s : List UInt8), s.length ≤ n → Lib.splitK [c] 0 (Lib.count s [c]) s = cutAt c s := by
  intro n
  induction n with
  | zero =>
    intro s h
    have : s = [] := List.eq_nil_of_length_eq_zero (by omega)
    subst this
    rfl
  | succ n ih =>
    intro s h
    by_cases hm : c ∈ s
    · obtain ⟨p, r, rfl, hp⟩ := mem_cut hm
      have hi : Lib.index (p ++ c :: r) [c] = (p.length : Int) := by rw [Lib.index_one, indexByte_app r hp]
      have hd : (p ++ c :: r).drop (p.length + [c].length) = r := by simp
      rw [Lib.count_hit (by simp) hi, hd, cutAt_one r hp, Nat.add_comm]
      unfold Lib.splitK
      rw [hi, if_neg (by rw [beq_iff_eq]; omega)]
      simp only [Int.toNat_natCast, Nat.add_zero, hd, List.take_left]
      rw [ih r (by simp at h; omega)]
    · have hi : Lib.index s [c] = -1 := by
        rw [Lib.index_one]
        have : ∀ s : List UInt8, c ∉ s → Lib.indexByte s c = -1 := by
          intro s
          induction s with
          | nil => intro _; rfl
          | cons x s ihs =>
            intro hn
            rw [List.mem_cons] at hn
            have h1 : (x == c) = false := by rw [beq_eq_false_iff_ne]; exact fun e => hn (.inl e.symm)
            unfold Lib.indexByte
            rw [h1, ihs (fun e => hn (.inr e))]
            simp
        exact this s hm
      rw [Lib.count_miss hi, cutAt_none hm]
      rfl
end AclM
end Go.Proofs.Ytajjhndpdjfcpaa
