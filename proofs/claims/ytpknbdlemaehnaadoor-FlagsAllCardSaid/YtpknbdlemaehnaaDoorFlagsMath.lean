/- Flags as text: the names of the bits with commas between; what a text says. -/
import Derived.Test.YtpknbdlemaehnaaDoorAclKit
namespace Go.Proofs.YtpknbdlemaehnaaDoor
namespace FlagsM

/-- The name of a bit. -/
def nm : Nat → List UInt8
  | 0 => [117, 99, 104, 103]
  | 1 => [117, 97, 112, 112, 110, 100]
  | 2 => [110, 111, 100, 117, 109, 112]
  | 3 => [111, 112, 97, 113, 117, 101]
  | _ => []
/-- Is a bit set? -/
def isBit (n i : Nat) : Bool := decide (n / 2 ^ i % 2 = 1)
/-- One more name. -/
def addN (l : List UInt8) (i : Nat) : List UInt8 := if l = [] then nm i else l ++ 44 :: nm i
/-- The names of the first bits. -/
def upTo (n : Nat) : Nat → List UInt8
  | 0 => []
  | i + 1 => if isBit n i then addN (upTo n i) i else upTo n i
def textL (n : Nat) : List UInt8 := upTo n 4
/-- The text of any integer. -/
def textI (n : Int) : List UInt8 := if 0 ≤ n ∧ n ≤ 15 then textL n.toNat else []
def mayI (n : Int) : Bool := decide (0 ≤ n) && decide (n ≤ 15)
/-- The place of a name. -/
def place (s : List UInt8) : Option Nat := if s = nm 0 then some 0 else if s = nm 1 then some 1 else if s = nm 2 then some 2 else if s = nm 3 then some 3 else none
/-- What stands ahead of the first comma, what stands behind it, is there one? -/
def cutC : List UInt8 → List UInt8 × List UInt8 × Bool
  | [] => ([], [], false)
  | x :: r => if x = 44 then ([], r, true) else (x :: (cutC r).1, (cutC r).2.1, (cutC r).2.2)
/-- What stands between the commas. -/
def pieces : List UInt8 → List (List UInt8)
  | [] => [[]]
  | x :: r => if x = 44 then [] :: pieces r else match pieces r with
    | p :: ps => (x :: p) :: ps
    | [] => [[x]]
/-- What names say, beyond what others said. -/
def saysP (n : Nat) : List (List UInt8) → Option Nat
  | [] => some n
  | p :: ps => match place p with
    | none => none
    | some i => if 2 ^ i ≤ n then none else saysP (n ||| 2 ^ i) ps
def getL (s : List UInt8) : Option Nat := if s = [] then some 0 else saysP 0 (pieces s)

theorem pieces_cons (x : UInt8) (r : List UInt8) : pieces (x :: r) = if x = 44 then [] :: pieces r else match pieces r with
    | p :: ps => (x :: p) :: ps
    | [] => [[x]] := rfl
theorem pieces_ne : ∀ s, pieces s ≠ []
  | [] => by simp [pieces]
  | x :: r => by
    unfold pieces
    split
    · simp
    · split <;> simp
theorem pieces_cut : ∀ s, pieces s = (cutC s).1 :: (if (cutC s).2.2 then pieces (cutC s).2.1 else [])
  | [] => rfl
  | x :: r => by
    rw [pieces_cons]
    by_cases hx : x = 44
    · rw [if_pos hx, show cutC (x :: r) = ([], r, true) from if_pos hx]
      rfl
    · rw [if_neg hx, show cutC (x :: r) = (x :: (cutC r).1, (cutC r).2.1, (cutC r).2.2) from if_neg hx, pieces_cut r]
theorem cut_less : ∀ s, (cutC s).2.2 = true → (cutC s).2.1.length < s.length
  | [] => by simp [cutC]
  | x :: r => by
    unfold cutC
    by_cases hx : x = 44
    · simp [hx]
    · rw [if_neg hx]
      intro h
      have := cut_less r h
      simp only [List.length_cons]
      omega
theorem cut_le : ∀ s, (cutC s).1.length ≤ s.length
  | [] => by simp [cutC]
  | x :: r => by
    unfold cutC
    by_cases hx : x = 44
    · simp [hx]
    · rw [if_neg hx]
      have := cut_le r
      simp only [List.length_cons]
      omega
/-- All of it with its commas again. -/
def joinP : List (List UInt8) → List UInt8
  | [] => []
  | [p] => p
  | p :: ps => p ++ 44 :: joinP ps
theorem join_pieces : ∀ s, joinP (pieces s) = s
  | [] => rfl
  | x :: r => by
    have ih := join_pieces r
    rw [pieces_cons]
    by_cases hx : x = 44
    · rw [if_pos hx]
      rcases hp : pieces r with _ | ⟨q, qs⟩
      · exact absurd hp (pieces_ne r)
      · rw [hp] at ih
        show [] ++ 44 :: joinP (q :: qs) = _
        rw [ih, hx]; rfl
    · rw [if_neg hx]
      rcases hp : pieces r with _ | ⟨q, qs⟩
      · exact absurd hp (pieces_ne r)
      · rw [hp] at ih
        rcases qs with _ | ⟨y, ys⟩
        · show x :: q = _
          rw [← ih]; rfl
        · show x :: q ++ 44 :: joinP (y :: ys) = _
          rw [← ih]; rfl

theorem place_nm {s : List UInt8} {i : Nat} (h : place s = some i) : i < 4 ∧ s = nm i := by
  unfold place at h
  split at h
  · obtain rfl := Option.some.inj h; exact ⟨by decide, by assumption⟩
  · split at h
    · obtain rfl := Option.some.inj h; exact ⟨by decide, by assumption⟩
    · split at h
      · obtain rfl := Option.some.inj h; exact ⟨by decide, by assumption⟩
      · split at h
        · obtain rfl := Option.some.inj h; exact ⟨by decide, by assumption⟩
        · cases h
/-- How many bits a number under 16 has. -/
def top (n : Nat) : Nat := if n = 0 then 0 else if n < 2 then 1 else if n < 4 then 2 else if n < 8 then 3 else 4
/-- The names of the bits from one on. -/
def fromP (i n : Nat) : List (List UInt8) := ((List.range 4).filter fun j => decide (i ≤ j) && isBit n j).map nm
theorem step_tab : ∀ (a : Fin 16) (i : Fin 4) (n : Fin 16), ¬ 2 ^ i.val ≤ a.val → n.val % 2 ^ top (a.val ||| 2 ^ i.val) = a.val ||| 2 ^ i.val →
    nm i.val :: fromP (top (a.val ||| 2 ^ i.val)) n.val = fromP (top a.val) n.val ∧ n.val % 2 ^ top a.val = a.val := by decide +kernel
theorem end_tab : ∀ a : Fin 16, fromP (top a.val) a.val = [] ∧ a.val % 2 ^ top a.val = a.val := by decide +kernel
theorem or_16 {a i : Nat} (ha : a < 16) (hi : i < 4) : a ||| 2 ^ i < 16 := Nat.or_lt_two_pow (n := 4) ha (Nat.pow_lt_pow_right (by decide) hi)
theorem says_from : ∀ (ps : List (List UInt8)) (a n : Nat), a < 16 → saysP a ps = some n → n < 16 ∧ ps = fromP (top a) n ∧ n % 2 ^ top a = a
  | [], a, n, ha, h => by
    obtain rfl := Option.some.inj h
    have := end_tab ⟨a, ha⟩
    exact ⟨ha, this.1.symm, this.2⟩
  | p :: ps, a, n, ha, h => by
    unfold saysP at h
    rcases hp : place p with _ | i
    · rw [hp] at h; cases h
    · rw [hp] at h
      simp only at h
      split at h
      · cases h
      · rename_i hlt
        obtain ⟨hi, rfl⟩ := place_nm hp
        obtain ⟨hn, h1, h2⟩ := says_from ps _ n (or_16 ha hi) h
        obtain ⟨h3, h4⟩ := step_tab ⟨a, ha⟩ ⟨i, hi⟩ ⟨n, hn⟩ hlt h2
        simp only at h3 h4
        exact ⟨hn, by rw [h1, h3], h4⟩
theorem join_tab : ∀ n : Fin 16, joinP (fromP 0 n.val) = textL n.val := by decide +kernel
theorem text_tab : ∀ n : Fin 16, getL (textL n.val) = some n.val := by decide +kernel
theorem get_iff (s : List UInt8) (n : Nat) : getL s = some n ↔ n < 16 ∧ textL n = s := by
  constructor
  · intro h
    unfold getL at h
    split at h
    · rename_i hs
      obtain rfl := Option.some.inj h
      exact ⟨by decide, by rw [hs]; rfl⟩
    · obtain ⟨hn, h1, _⟩ := says_from _ 0 n (by decide) h
      refine ⟨hn, ?_⟩
      rw [← join_tab ⟨n, hn⟩, ← join_pieces s, h1]
      rfl
  · rintro ⟨hn, rfl⟩
    exact text_tab ⟨n, hn⟩
theorem get_lt {s : List UInt8} {n : Nat} (h : getL s = some n) : n < 16 := ((get_iff s n).1 h).1
theorem text_inj {n m : Nat} (hn : n < 16) (hm : m < 16) (h : textL n = textL m) : n = m := by
  have h1 := (get_iff (textL n) n).2 ⟨hn, rfl⟩
  rw [h] at h1
  have h2 := (get_iff (textL m) m).2 ⟨hm, rfl⟩
  exact Option.some.inj (h1.symm.trans h2)
theorem text_tab2 : ∀ n : Fin 16, (textL n.val).length ≤ 25 := by decide +kernel
theorem text_len {n : Nat} (h : n < 16) : (textL n).length ≤ 25 := text_tab2 ⟨n, h⟩
theorem up_tab : ∀ (n : Fin 16) (i : Fin 5), (upTo n.val i.val).length ≤ 25 := by decide +kernel
theorem up_len {n i : Nat} (h : n < 16) (hi : i ≤ 4) : (upTo n i).length ≤ 25 := up_tab ⟨n, h⟩ ⟨i, by omega⟩
end FlagsM
end Go.Proofs.YtpknbdlemaehnaaDoor
