/- Wide access lists: what is valid, its text, what a text says, what a list allows. -/
import Derived.Test.YtikdpoekjfbpaaaDoorAclMath
namespace Go.Proofs.YtikdpoekjfbpaaaDoor
open Go.RowKit
set_option linter.unusedVariables false
set_option linter.unusedSimpArgs false
namespace WideM
open AclM (joinC cutAt cutAt_cons cutAt_ne cutAt_none cutAt_one joinC_cut cut_joinC joinC_snoc indexByte_app)

structure Wid where
  ty : Int
  fl : Int
  ms : Int
  who : ByteArray

def flL : List UInt8 := [102, 100, 110, 112, 83, 70, 103]
def msL : List UInt8 := [114, 119, 97, 120, 100, 68, 116, 84, 110, 78, 99, 67, 111, 121]
def noL : List UInt8 := [0, 58, 44, 10]
/-- The letters of the bits of a number. -/
def lets : Nat → List UInt8 → List UInt8
  | _, [] => []
  | n, c :: r => if n % 2 = 1 then c :: lets (n / 2) r else lets (n / 2) r
def anyOf (l m : List UInt8) : Bool := l.any fun b => m.contains b
def okBits (n m : Int) : Bool := decide (0 ≤ n) && decide (n < m)
def okType (t : Int) : Bool := decide (t = 1) || decide (t = 2)
def okWho (l : List UInt8) : Bool := decide (l ≠ []) && decide (l.length ≤ 255) && !anyOf l noL
def okPart (a : Wid) : Bool := okType a.ty && okBits a.fl 128 && okBits a.ms 16384 && okWho a.who.data.toList
def may (l : List Wid) : Bool := decide (l.length ≤ 32) && l.all okPart
def letter (t : Int) : UInt8 := if t = 1 then 65 else 68
def partText (a : Wid) : List UInt8 := letter a.ty :: 58 :: (lets a.fl.toNat flL ++ 58 :: (a.who.data.toList ++ 58 :: lets a.ms.toNat msL))
def textL (l : List Wid) : List UInt8 := joinC (l.map partText)

/-- The bits that letters say, put to those of n; none where one is no letter. -/
def bitsOf (ls : List UInt8) : List UInt8 → Nat → Option Nat
  | [], n => some n
  | c :: r, n => if Lib.indexByte ls c < 0 then none else bitsOf ls r (n ||| 2 ^ (Lib.indexByte ls c).toNat)
def typeOf (s : List UInt8) : Option Int := if s = [65] then some 1 else if s = [68] then some 2 else none
def guess (s : List UInt8) : Option Wid := match cutAt 58 s with
  | [x, y, z, u] => match typeOf x with
    | none => none
    | some t => match bitsOf flL y 0 with
      | none => none
      | some f => match bitsOf msL u 0 with
        | none => none
        | some m => some ⟨t, (f : Int), (m : Int), strOf z⟩
  | _ => none
def partOf (s : List UInt8) : Option Wid := match guess s with
  | some a => if partText a = s then some a else none
  | none => none
def partsOf : List (List UInt8) → Option (List Wid)
  | [] => some []
  | p :: ps => match partOf p with
    | none => none
    | some a => (partsOf ps).map (a :: ·)
def getL (s : List UInt8) : Option (List Wid) := if s = [] then some [] else match partsOf (cutAt 44 s) with
  | some l => if may l = true then some l else none
  | none => none

/-! ### Letters -/
theorem lets_snoc : ∀ (a : List UInt8) (n : Nat) (c : UInt8), lets n (a ++ [c]) = lets n a ++ (if n / 2 ^ a.length % 2 = 1 then [c] else [])
  | [], n, c => by simp [lets]
  | x :: a, n, c => by
    have ih := lets_snoc a (n / 2) c
    have e : n / 2 / 2 ^ a.length = n / 2 ^ (a.length + 1) := by rw [Nat.div_div_eq_div_mul, Nat.pow_succ, Nat.mul_comm]
    rw [e] at ih
    simp only [List.cons_append, lets, List.length_cons]
    split <;> simp [ih]
theorem lets_mem : ∀ {ls : List UInt8} {n : Nat} {c : UInt8}, c ∈ lets n ls → c ∈ ls
  | [], _, _, h => by simp [lets] at h
  | x :: ls, n, c, h => by
    unfold lets at h
    split at h
    · rcases List.mem_cons.1 h with rfl | h
      · simp
      · exact List.mem_cons_of_mem _ (lets_mem h)
    · exact List.mem_cons_of_mem _ (lets_mem h)
theorem lets_len : ∀ (ls : List UInt8) (n : Nat), (lets n ls).length ≤ ls.length
  | [], _ => by simp [lets]
  | x :: ls, n => by
    have := lets_len ls (n / 2)
    unfold lets
    split <;> simp <;> omega
theorem mod_step (n k : Nat) : n % 2 ^ (k + 1) = n % 2 + 2 * (n / 2 % 2 ^ k) := by
  rw [Nat.pow_succ, Nat.mul_comm, Nat.mod_mul]
theorem or_step {acc p : Nat} (h : acc < 2 ^ p) : acc ||| 2 ^ p = acc + 2 ^ p := by
  have := Nat.two_pow_add_eq_or_of_lt h 1
  rw [Nat.mul_one] at this
  rw [Nat.or_comm, ← this, Nat.add_comm]
theorem bits_lets : ∀ (suf pre : List UInt8) (n acc : Nat), (pre ++ suf).Nodup → acc < 2 ^ pre.length → bitsOf (pre ++ suf) (lets n suf) acc = some (acc + 2 ^ pre.length * (n % 2 ^ suf.length))
  | [], pre, n, acc, _, _ => by simp [lets, bitsOf, Nat.mod_one]
  | c :: r, pre, n, acc, hn, ha => by
    have e1 : pre ++ c :: r = (pre ++ [c]) ++ r := by simp
    have hc : c ∉ pre := by
      rw [List.nodup_append] at hn
      exact fun h => hn.2.2 c h c (by simp) rfl
    have hi : Lib.indexByte (pre ++ c :: r) c = (pre.length : Int) := indexByte_app r hc
    have hp : 2 ^ (pre ++ [c]).length = 2 * 2 ^ pre.length := by rw [List.length_append, List.length_singleton, Nat.pow_succ, Nat.mul_comm]
    rw [List.length_cons, mod_step]
    unfold lets
    split
    · rename_i h2
      rw [h2]
      unfold bitsOf
      rw [hi, if_neg (by omega), Int.toNat_natCast, or_step ha, e1, bits_lets r (pre ++ [c]) (n / 2) _ (by rw [← e1]; exact hn) (by rw [hp]; omega), hp]
      congr 1
      rw [Nat.mul_add, Nat.mul_one, Nat.mul_comm 2 (2 ^ pre.length), Nat.mul_assoc, ← Nat.add_assoc]
    · rename_i h2
      have h0 : n % 2 = 0 := by omega
      rw [h0, e1, bits_lets r (pre ++ [c]) (n / 2) _ (by rw [← e1]; exact hn) (by rw [hp]; omega), hp]
      congr 1
      rw [Nat.zero_add, Nat.mul_comm 2 (2 ^ pre.length), Nat.mul_assoc]
theorem bits_fl {n : Nat} (h : n < 128) : bitsOf flL (lets n flL) 0 = some n := by
  have := bits_lets flL [] n 0 (by decide) (by decide)
  rw [List.nil_append] at this
  rw [this, show flL.length = 7 from rfl, Nat.mod_eq_of_lt (by omega)]
  simp
theorem bits_ms {n : Nat} (h : n < 16384) : bitsOf msL (lets n msL) 0 = some n := by
  have := bits_lets msL [] n 0 (by decide) (by decide)
  rw [List.nil_append] at this
  rw [this, show msL.length = 14 from rfl, Nat.mod_eq_of_lt (by omega)]
  simp
theorem index_lt : ∀ (ls : List UInt8) (c : UInt8), 0 ≤ Lib.indexByte ls c → Lib.indexByte ls c < ls.length
  | [], c, h => by simp [Lib.indexByte] at h
  | x :: ls, c, h => by
    have ih := index_lt ls c
    unfold Lib.indexByte at h ⊢
    split
    · simp
    · rename_i hx
      rw [if_neg hx] at h
      split
      · rename_i h1
        rw [if_pos h1] at h
        omega
      · rename_i h1
        rw [if_neg h1] at h
        have hge := Lib.indexByte_ge ls c
        have h1' : ¬ Lib.indexByte ls c = -1 := by simpa using h1
        rw [List.length_cons]
        omega
theorem bits_bound {ls : List UInt8} {k : Nat} (hk : ls.length ≤ k) : ∀ {s : List UInt8} {n m : Nat}, bitsOf ls s n = some m → n < 2 ^ k → m < 2 ^ k
  | [], n, m, h, hn => by cases h; exact hn
  | c :: r, n, m, h, hn => by
    unfold bitsOf at h
    split at h
    · cases h
    · rename_i h1
      have hl := index_lt ls c (by omega)
      refine bits_bound hk h (Nat.or_lt_two_pow hn ?_)
      exact Nat.pow_lt_pow_right (by decide) (by omega)

/-! ### A part's text -/
theorem okPart_iff {a : Wid} (h : okPart a = true) : (a.ty = 1 ∨ a.ty = 2) ∧ 0 ≤ a.fl ∧ a.fl < 128 ∧ 0 ≤ a.ms ∧ a.ms < 16384 ∧ a.who.data.toList ≠ [] ∧ a.who.data.toList.length ≤ 255 ∧ anyOf a.who.data.toList noL = false := by
  unfold okPart okType okBits okWho at h
  simp only [Bool.and_eq_true, Bool.or_eq_true, decide_eq_true_eq, Bool.not_eq_true'] at h
  obtain ⟨⟨⟨h1, h2⟩, h3⟩, ⟨h4, h5⟩, h6⟩ := h
  exact ⟨h1, h2.1, h2.2, h3.1, h3.2, h4, h5, h6⟩
theorem letter_ne (t : Int) : letter t ≠ 58 ∧ letter t ≠ 44 := by
  unfold letter
  split <;> decide
theorem any_not {l : List UInt8} (h : anyOf l noL = false) : (58 : UInt8) ∉ l ∧ (44 : UInt8) ∉ l := by
  unfold anyOf at h
  rw [List.any_eq_false] at h
  exact ⟨fun hm => h _ hm (by decide), fun hm => h _ hm (by decide)⟩
theorem lets_fl (n : Nat) : (58 : UInt8) ∉ lets n flL ∧ (44 : UInt8) ∉ lets n flL := ⟨fun h => absurd (lets_mem h) (by decide), fun h => absurd (lets_mem h) (by decide)⟩
theorem lets_ms (n : Nat) : (58 : UInt8) ∉ lets n msL ∧ (44 : UInt8) ∉ lets n msL := ⟨fun h => absurd (lets_mem h) (by decide), fun h => absurd (lets_mem h) (by decide)⟩
theorem partText_comma {a : Wid} (h : anyOf a.who.data.toList noL = false) : (44 : UInt8) ∉ partText a := by
  unfold partText
  intro hm
  rcases List.mem_cons.1 hm with h1 | h1
  · exact (letter_ne a.ty).2 h1.symm
  rcases List.mem_cons.1 h1 with h1 | h1
  · exact absurd h1 (by decide)
  rcases List.mem_append.1 h1 with h1 | h1
  · exact (lets_fl _).2 h1
  rcases List.mem_cons.1 h1 with h1 | h1
  · exact absurd h1 (by decide)
  rcases List.mem_append.1 h1 with h1 | h1
  · exact (any_not h).2 h1
  rcases List.mem_cons.1 h1 with h1 | h1
  · exact absurd h1 (by decide)
  · exact (lets_ms _).2 h1
theorem cut_part {a : Wid} (h : anyOf a.who.data.toList noL = false) : cutAt 58 (partText a) = [[letter a.ty], lets a.fl.toNat flL, a.who.data.toList, lets a.ms.toNat msL] := by
  unfold partText
  rw [show letter a.ty :: 58 :: (lets a.fl.toNat flL ++ 58 :: (a.who.data.toList ++ 58 :: lets a.ms.toNat msL)) = [letter a.ty] ++ 58 :: (lets a.fl.toNat flL ++ 58 :: (a.who.data.toList ++ 58 :: lets a.ms.toNat msL)) from rfl]
  rw [cutAt_one _ (by simp; exact (letter_ne a.ty).1.symm), cutAt_one _ (lets_fl _).1, cutAt_one _ (any_not h).1, cutAt_none (lets_ms _).1]
theorem partText_ne (a : Wid) : partText a ≠ [] := by simp [partText]
theorem guess_text {a : Wid} (h : okPart a = true) : guess (partText a) = some a := by
  obtain ⟨h1, h2, h3, h4, h5, h6, h7, h8⟩ := okPart_iff h
  have e1 : typeOf [letter a.ty] = some a.ty := by rcases h1 with e | e <;> rw [e] <;> rfl
  unfold guess
  rw [cut_part h8]
  simp only
  rw [e1]
  simp only
  rw [bits_fl (by omega)]
  simp only
  rw [bits_ms (by omega)]
  simp only [strOf_self]
  obtain ⟨t, f, m, w⟩ := a
  simp only at h2 h4 ⊢
  rw [Int.toNat_of_nonneg h2, Int.toNat_of_nonneg h4]
theorem partOf_text {a : Wid} (h : okPart a = true) : partOf (partText a) = some a := by
  unfold partOf
  rw [guess_text h]
  simp
theorem partOf_some {s : List UInt8} {a : Wid} (h : partOf s = some a) : partText a = s := by
  unfold partOf at h
  split at h
  · split at h
    · cases h; assumption
    · cases h
  · cases h
theorem partsOf_some : ∀ {ps : List (List UInt8)} {l : List Wid}, partsOf ps = some l → ps = l.map partText
  | [], l, h => by cases h; rfl
  | p :: ps, l, h => by
    unfold partsOf at h
    rcases hp : partOf p with _ | a
    · rw [hp] at h; cases h
    · rw [hp] at h
      rcases hq : partsOf ps with _ | m
      · rw [hq] at h; cases h
      · rw [hq] at h
        cases h
        rw [List.map_cons, ← partsOf_some hq, partOf_some hp]
theorem partsOf_text : ∀ {l : List Wid}, (∀ a ∈ l, okPart a = true) → partsOf (l.map partText) = some l
  | [], _ => rfl
  | a :: l, h => by
    rw [List.map_cons]
    unfold partsOf
    rw [partOf_text (h a (by simp)), partsOf_text (fun x hx => h x (by simp [hx]))]
    rfl
theorem may_parts {l : List Wid} (h : may l = true) : (∀ a ∈ l, okPart a = true) ∧ l.length ≤ 32 := by
  unfold may at h
  simp only [Bool.and_eq_true, decide_eq_true_eq, List.all_eq_true] at h
  exact ⟨h.2, h.1⟩
theorem joinC_ne : ∀ {ps : List (List UInt8)}, ps ≠ [] → (∀ p ∈ ps, p ≠ []) → joinC ps ≠ []
  | [], h, _ => absurd rfl h
  | [p], _, h => h p (by simp)
  | p :: q :: r, _, h => by simp [joinC]
theorem textL_nil {l : List Wid} : textL l = [] ↔ l = [] := by
  constructor
  · intro h
    cases l with
    | nil => rfl
    | cons a l =>
      exfalso
      refine joinC_ne (ps := (a :: l).map partText) (by simp) ?_ h
      intro p hp
      obtain ⟨b, _, rfl⟩ := List.mem_map.1 hp
      exact partText_ne b
  · rintro rfl; rfl
theorem cut_text {l : List Wid} (h : may l = true) (hl : l ≠ []) : cutAt 44 (textL l) = l.map partText := by
  unfold textL
  exact cut_joinC (by simpa using hl) (by intro p hp; obtain ⟨a, ha, rfl⟩ := List.mem_map.1 hp; exact partText_comma (okPart_iff ((may_parts h).1 a ha)).2.2.2.2.2.2.2)
theorem get_iff (s : List UInt8) (l : List Wid) : getL s = some l ↔ may l = true ∧ textL l = s := by
  unfold getL
  by_cases hs : s = []
  · subst hs
    rw [if_pos rfl, textL_nil]
    constructor
    · intro h; cases h; exact ⟨rfl, rfl⟩
    · rintro ⟨_, rfl⟩; rfl
  rw [if_neg hs]
  constructor
  · intro h
    rcases hp : partsOf (cutAt 44 s) with _ | m
    · rw [hp] at h; cases h
    · rw [hp] at h
      simp only at h
      split at h
      · cases h
        refine ⟨by assumption, ?_⟩
        unfold textL
        rw [← partsOf_some hp, joinC_cut]
      · cases h
  · rintro ⟨h, rfl⟩
    have hl : l ≠ [] := fun e => hs (textL_nil.2 e)
    rw [cut_text h hl, partsOf_text (may_parts h).1]
    simp [h]
theorem get_text {l : List Wid} (h : may l = true) : getL (textL l) = some l := (get_iff _ _).2 ⟨h, rfl⟩
theorem text_inj {l m : List Wid} (h1 : may l = true) (h2 : may m = true) (h : textL l = textL m) : l = m := by
  have e1 := get_text h1
  have e2 := get_text h2
  rw [h, e2] at e1
  exact (Option.some.inj e1).symm
theorem part_len {a : Wid} (h : okPart a = true) : (partText a).length ≤ 280 := by
  obtain ⟨h1, h2, h3, h4, h5, h6, h7, h8⟩ := okPart_iff h
  have a1 := lets_len flL a.fl.toNat
  have a2 := lets_len msL a.ms.toNat
  have e1 : flL.length = 7 := rfl
  have e2 : msL.length = 14 := rfl
  simp only [partText, List.length_cons, List.length_append]
  omega
theorem joinC_len : ∀ (ps : List (List UInt8)), (∀ p ∈ ps, p.length ≤ 280) → (joinC ps).length ≤ 281 * ps.length
  | [], _ => by simp [joinC]
  | [p], h => by have := h p (by simp); simp [joinC]; omega
  | p :: q :: r, h => by
    have h1 := h p (by simp)
    have h2 := joinC_len (q :: r) (fun x hx => h x (by simp at hx ⊢; exact .inr hx))
    simp only [joinC, List.length_append, List.length_cons] at h2 ⊢
    omega
theorem text_len {l : List Wid} (h : may l = true) : (textL l).length ≤ 8992 := by
  obtain ⟨h1, h2⟩ := may_parts h
  have := joinC_len (l.map partText) (by intro p hp; obtain ⟨a, ha, rfl⟩ := List.mem_map.1 hp; exact part_len (h1 a ha))
  rw [List.length_map] at this
  unfold textL
  omega
theorem get_long {s : List UInt8} (h : 8992 < s.length) : getL s = none := by
  rcases hg : getL s with _ | l
  · rfl
  · obtain ⟨h1, h2⟩ := (get_iff s l).1 hg
    have := text_len h1
    rw [h2] at this
    omega
theorem textL_snoc (l : List Wid) (a : Wid) : textL (l ++ [a]) = (if l = [] then [] else textL l ++ [44]) ++ partText a := by
  unfold textL
  rw [List.map_append, List.map_singleton, joinC_snoc]
  cases l <;> simp

/-! ### What a list allows -/
def hasBit (m : Int) (b : Nat) : Bool := decide (m.toNat / 2 ^ b % 2 = 1)
def allowsL : List Wid → List (List UInt8) → Nat → Bool
  | [], _, _ => false
  | a :: l, w, b => if hasBit a.ms b = true ∧ w.contains a.who.data.toList = true then decide (a.ty = 1) else allowsL l w b
def allows (l : List Wid) (w : List (List UInt8)) (b : Int) : Bool := if 0 ≤ b ∧ b < 14 then allowsL l w b.toNat else false
end WideM
end Go.Proofs.YtikdpoekjfbpaaaDoor
