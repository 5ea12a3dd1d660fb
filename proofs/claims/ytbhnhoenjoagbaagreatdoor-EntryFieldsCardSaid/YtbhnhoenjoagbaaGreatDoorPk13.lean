/- Bundle of 4 texts. -/
import Derived.Test.YtbhnhoenjoagbaaGreatDoorPk12
import Derived.Test.YtbhnhoenjoagbaaGreatDoorDec
import Derived.Lib.AtoiAllCases
import Derived.Lib.IndexBytes
import Derived.Lib.CountLaws
import Derived.Lib.Split
import Derived.Shelf.RegionOpenPlain
import Derived.Deep.RegionHeld3
/- Access lists: what is valid, its text, its mode, what a text says. -/
namespace Go.Proofs.YtbhnhoenjoagbaaGreatDoor
open Go.RowKit
set_option linter.unusedVariables false
set_option linter.unusedSimpArgs false
namespace AclM
open DecM

abbrev Ace := Int × Int × Int
def hasId (t : Int) : Bool := decide (t = 2) || decide (t = 4)
def okPart (a : Ace) : Bool := decide (1 ≤ a.1) && decide (a.1 ≤ 6) && decide (0 ≤ a.2.2) && decide (a.2.2 ≤ 7) && (if hasId a.1 = true then decide (0 ≤ a.2.1) && decide (a.2.1 ≤ 2147483647) else decide (a.2.1 = 0))
def ltA (a b : Ace) : Bool := decide (a.1 < b.1) || (decide (a.1 = b.1) && decide (a.2.1 < b.2.1))
def order : List Ace → Bool
  | a :: b :: l => ltA a b && order (b :: l)
  | _ => true
def findN (t : Int) : List Ace → Nat → Int
  | [], _ => -1
  | a :: l, i => if a.1 = t then (i : Int) else findN t l (i + 1)
def has (l : List Ace) (t : Int) : Bool := decide (0 ≤ findN t l 0)
def tags (l : List Ace) : Bool := has l 1 && has l 3 && has l 6 && (has l 5 == (has l 2 || has l 4))
def may (l : List Ace) : Bool := decide (l.length ≤ 32) && l.all okPart && order l && tags l

def letter (t : Int) : UInt8 := if t = 1 ∨ t = 2 then 117 else if t = 3 ∨ t = 4 then 103 else if t = 5 then 109 else 111
def rwx (p : Int) : List UInt8 := [if p.toNat &&& 4 = 0 then 45 else 114, if p.toNat &&& 2 = 0 then 45 else 119, if p.toNat &&& 1 = 0 then 45 else 120]
def idText (a : Ace) : List UInt8 := if hasId a.1 = true then Lib.itoa a.2.1 else []
def partText (a : Ace) : List UInt8 := letter a.1 :: 58 :: (idText a ++ 58 :: rwx a.2.2)
def joinC : List (List UInt8) → List UInt8
  | [] => []
  | [p] => p
  | p :: q :: r => p ++ 44 :: joinC (q :: r)
def textL (l : List Ace) : List UInt8 := joinC (l.map partText)

def cutAt (c : UInt8) : List UInt8 → List (List UInt8)
  | [] => [[]]
  | x :: r => if x = c then [] :: cutAt c r else match cutAt c r with
    | p :: ps => (x :: p) :: ps
    | [] => [[x]]

def permOf : List UInt8 → Option Int
  | [a, b, c] => some ((if a = 114 then 4 else 0) + (if b = 119 then 2 else 0) + (if c = 120 then 1 else 0))
  | _ => none
def tagOf (l id : List UInt8) : Option Int :=
  if l = [117] then some (if id = [] then 1 else 2) else
  if l = [103] then some (if id = [] then 3 else 4) else
  if l = [109] then (if id = [] then some 5 else none) else
  if l = [111] then (if id = [] then some 6 else none) else none
def idOf (id : List UInt8) : Option Int := if id = [] then some 0 else match Lib.atoiAll id with
  | .ok n => some n
  | _ => none
def cutA (c : UInt8) (s : List UInt8) : List UInt8 × List UInt8 := ((Lib.cut s [c]).1, (Lib.cut s [c]).2.1)
def guess (s : List UInt8) : Option Ace :=
  match tagOf (cutA 58 s).1 (cutA 58 (cutA 58 s).2).1 with
  | none => none
  | some t => match idOf (cutA 58 (cutA 58 s).2).1 with
    | none => none
    | some i => match permOf (cutA 58 (cutA 58 s).2).2 with
      | none => none
      | some p => some (t, i, p)
def partOf (s : List UInt8) : Option Ace := match guess s with
  | some a => if partText a = s then some a else none
  | none => none
def partsOf : List (List UInt8) → Option (List Ace)
  | [] => some []
  | p :: ps => match partOf p with
    | none => none
    | some a => (partsOf ps).map (a :: ·)
def getL (s : List UInt8) : Option (List Ace) := match partsOf (cutAt 44 s) with
  | some l => if may l = true then some l else none
  | none => none

/-! ### Cuts -/
theorem cutAt_ne (c : UInt8) (s : List UInt8) : cutAt c s ≠ [] := by
  cases s with
  | nil => simp [cutAt]
  | cons x r =>
    unfold cutAt
    split
    · simp
    · split <;> simp
theorem cutAt_cons (c x : UInt8) (r : List UInt8) : cutAt c (x :: r) = if x = c then [] :: cutAt c r else match cutAt c r with
    | p :: ps => (x :: p) :: ps
    | [] => [[x]] := rfl
theorem mem_cut {c : UInt8} : ∀ {s : List UInt8}, c ∈ s → ∃ p r, s = p ++ c :: r ∧ c ∉ p
  | [], h => by cases h
  | x :: s, h => by
    by_cases hx : x = c
    · exact ⟨[], s, by rw [hx]; rfl, by simp⟩
    · rcases List.mem_cons.1 h with h1 | h1
      · exact absurd h1.symm hx
      · obtain ⟨p, r, e, hp⟩ := mem_cut h1
        exact ⟨x :: p, r, by rw [e]; rfl, by simp; exact ⟨fun e => hx e.symm, hp⟩⟩
theorem cutAt_none {c : UInt8} : ∀ {s : List UInt8}, c ∉ s → cutAt c s = [s]
  | [], _ => rfl
  | x :: r, h => by
    rw [List.mem_cons] at h
    have h1 : ¬ x = c := fun e => h (.inl e.symm)
    unfold cutAt
    rw [if_neg h1, cutAt_none (fun e => h (.inr e))]
theorem cutAt_one {c : UInt8} : ∀ {p : List UInt8} (r : List UInt8), c ∉ p → cutAt c (p ++ c :: r) = p :: cutAt c r
  | [], r, _ => by simp [cutAt]
  | x :: p, r, h => by
    rw [List.mem_cons] at h
    have h1 : ¬ x = c := fun e => h (.inl e.symm)
    rw [List.cons_append, cutAt_cons, if_neg h1, cutAt_one r (fun e => h (.inr e))]
theorem joinC_snoc : ∀ (ps : List (List UInt8)) (p : List UInt8), joinC (ps ++ [p]) = if ps = [] then p else joinC ps ++ 44 :: p
  | [], p => rfl
  | [q], p => rfl
  | q :: q' :: r, p => by
    have ih := joinC_snoc (q' :: r) p
    rw [if_neg (by simp)] at ih ⊢
    show q ++ 44 :: joinC (q' :: r ++ [p]) = (q ++ 44 :: joinC (q' :: r)) ++ 44 :: p
    rw [ih]
    simp
theorem textL_snoc (l : List Ace) (a : Ace) : textL (l ++ [a]) = (if l = [] then [] else textL l ++ [44]) ++ partText a := by
  unfold textL
  rw [List.map_append, List.map_singleton, joinC_snoc]
  cases l <;> simp

/-! ### A part's text -/
theorem itoa_nat (n : Nat) : Lib.itoa (n : Int) = Lib.decDigits n := by unfold Lib.itoa; rw [if_neg (by omega)]; rfl
theorem indexByte_app {c : UInt8} : ∀ {p : List UInt8} (r : List UInt8), c ∉ p → Lib.indexByte (p ++ c :: r) c = (p.length : Int)
  | [], r, _ => by simp [Lib.indexByte]
  | x :: p, r, h => by
    rw [List.mem_cons] at h
    have h1 : (x == c) = false := by rw [beq_eq_false_iff_ne]; exact fun e => h (.inl e.symm)
    rw [List.cons_append]
    unfold Lib.indexByte
    rw [h1, indexByte_app r (fun e => h (.inr e))]
    have : ¬ ((p.length : Int) == -1) = true := by rw [beq_iff_eq]; omega
    simp [this]
theorem okPart_iff {a : Ace} (h : okPart a = true) : 1 ≤ a.1 ∧ a.1 ≤ 6 ∧ 0 ≤ a.2.2 ∧ a.2.2 ≤ 7 ∧ 0 ≤ a.2.1 ∧ a.2.1 ≤ 2147483647 ∧ (hasId a.1 = false → a.2.1 = 0) := by
  unfold okPart at h
  simp only [Bool.and_eq_true, decide_eq_true_eq] at h
  obtain ⟨⟨⟨⟨h1, h2⟩, h3⟩, h4⟩, h5⟩ := h
  by_cases hh : hasId a.1 = true
  · rw [if_pos hh] at h5
    simp at h5
    exact ⟨h1, h2, h3, h4, h5.1, h5.2, fun e => by rw [hh] at e; cases e⟩
  · rw [if_neg hh] at h5
    simp at h5
    exact ⟨h1, h2, h3, h4, by omega, by omega, fun _ => h5⟩
theorem may_parts {l : List Ace} (h : may l = true) : (∀ a ∈ l, okPart a = true) ∧ l.length ≤ 32 ∧ order l = true ∧ tags l = true := by
  unfold may at h
  simp only [Bool.and_eq_true, decide_eq_true_eq, List.all_eq_true] at h
  exact ⟨h.1.1.2, h.1.1.1, h.1.2, h.2⟩
theorem part_len {a : Ace} (h : okPart a = true) : (partText a).length ≤ 16 := by
  obtain ⟨h1, h2, h3, h4, h5, h6, h7⟩ := okPart_iff h
  have : (idText a).length ≤ 10 := by
    unfold idText
    split
    · obtain ⟨n, hn⟩ : ∃ n : Nat, a.2.1 = (n : Int) := ⟨a.2.1.toNat, by omega⟩
      rw [hn, itoa_nat]
      exact dec_len 9 n (by omega)
    · simp
  simp [partText, rwx]
  omega
theorem joinC_len : ∀ (ps : List (List UInt8)), (∀ p ∈ ps, p.length ≤ 16) → (joinC ps).length ≤ 17 * ps.length
  | [], _ => by simp [joinC]
  | [p], h => by have := h p (by simp); simp [joinC]; omega
  | p :: q :: r, h => by
    have h1 := h p (by simp)
    have h2 := joinC_len (q :: r) (fun x hx => h x (by simp at hx ⊢; exact .inr hx))
    simp only [joinC, List.length_append, List.length_cons] at h2 ⊢
    omega
theorem text_len {l : List Ace} (h : may l = true) : (textL l).length ≤ 544 := by
  obtain ⟨h1, h2, h3, h4⟩ := may_parts h
  have := joinC_len (l.map partText) (by intro p hp; obtain ⟨a, ha, rfl⟩ := List.mem_map.1 hp; exact part_len (h1 a ha))
  rw [List.length_map] at this
  unfold textL
  omega
theorem lib_split (c : UInt8) : ∀ (n : Nat) (s : List UInt8), s.length ≤ n → Lib.splitK [c] 0 (Lib.count s [c]) s = cutAt c s := by
  intro n
  induction n with
  | zero =>
    intro s h
    have : s = [] := List.eq_nil_of_length_eq_zero (by omega)
    subst this
    rfl
  | succ n ih =>
    intro s h
    by_cases hm : c ∈ s
    · obtain ⟨p, r, rfl, hp⟩ := mem_cut hm
      have hi : Lib.index (p ++ c :: r) [c] = (p.length : Int) := by rw [Lib.index_one, indexByte_app r hp]
      have hd : (p ++ c :: r).drop (p.length + [c].length) = r := by simp
      rw [Lib.count_hit (by simp) hi, hd, cutAt_one r hp, Nat.add_comm]
      unfold Lib.splitK
      rw [hi, if_neg (by rw [beq_iff_eq]; omega)]
      simp only [Int.toNat_natCast, Nat.add_zero, hd, List.take_left]
      rw [ih r (by simp at h; omega)]
    · have hi : Lib.index s [c] = -1 := by
        rw [Lib.index_one]
        have : ∀ s : List UInt8, c ∉ s → Lib.indexByte s c = -1 := by
          intro s
          induction s with
          | nil => intro _; rfl
          | cons x s ihs =>
            intro hn
            rw [List.mem_cons] at hn
            have h1 : (x == c) = false := by rw [beq_eq_false_iff_ne]; exact fun e => hn (.inl e.symm)
            unfold Lib.indexByte
            rw [h1, ihs (fun e => hn (.inr e))]
            simp
        exact this s hm
      rw [Lib.count_miss hi, cutAt_none hm]
      rfl
end AclM
end Go.Proofs.YtbhnhoenjoagbaaGreatDoor

/- Access lists in memory. -/
namespace Go.Proofs.YtbhnhoenjoagbaaGreatDoor.AclW
open Go.RowKit
open AclM
set_option linter.unusedVariables false

def aceE : Elt Ace where
  t := 115
  st := 31
  k := 3
  z := .agg #[.int .i64 0, .int .i64 0, .int .i64 0]
  bytes := 24
  enc a := [.int .i64 a.1, .int .i64 a.2.1, .int .i64 a.2.2]
  len _ := rfl
  one _ u h := by simp at h; rcases h with rfl | rfl | rfl <;> rfl
  pos := by decide
  und := Tryz.underlying31
  inf := by kernel_rfl
  zk := rfl
  small := by decide
theorem ace_open {v : Value} {l : List Ace} {w : World} (h : At aceE v l w) (hl : l ≠ []) :
    ∃ g off cap, v = .slice (some ⟨g, off, none⟩) l.length cap ∧ l.length ≤ cap ∧ g < w.heap.size ∧ ∀ j (h : j < l.length), w.cell? ⟨g, off + j * 3, none⟩ = some (.int .i64 l[j].1) ∧ w.cell? ⟨g, off + j * 3 + 1, none⟩ = some (.int .i64 l[j].2.1) ∧ w.cell? ⟨g, off + j * 3 + 2, none⟩ = some (.int .i64 l[j].2.2) := by
  obtain ⟨g, off, cap, h1, h2, h3, h4⟩ := h.open hl
  refine ⟨g, off, cap, h1, h2, h3, fun j hj => ?_⟩
  have e : ∀ i, off + (j * aceE.k + i) = off + j * 3 + i := by intro i; show off + (j * 3 + i) = _; omega
  have a0 := h4 j hj 0 _ rfl
  have a1 := h4 j hj 1 _ rfl
  have a2 := h4 j hj 2 _ rfl
  rw [e] at a0 a1 a2
  exact ⟨a0, a1, a2⟩
def Ints (l : List Ace) : Prop := ∀ a ∈ l, -9223372036854775808 ≤ a.1 ∧ a.1 ≤ 9223372036854775807 ∧ -9223372036854775808 ≤ a.2.1 ∧ a.2.1 ≤ 9223372036854775807 ∧ -9223372036854775808 ≤ a.2.2 ∧ a.2.2 ≤ 9223372036854775807
end Go.Proofs.YtbhnhoenjoagbaaGreatDoor.AclW

/- Walks over package acl: whether a list is valid. -/
namespace Go.Proofs.YtbhnhoenjoagbaaGreatDoor.AclW
open Go.RowKit
open AclM
set_option linter.unusedVariables false

def aceV (a : Ace) : Value := .agg #[.int .i64 a.1, .int .i64 a.2.1, .int .i64 a.2.2]

theorem hasId_any (t : Int) (w : World) : Calls Tryz.prog 196 #[.int .i64 t] w fun e w' => e = .returned (.bool (hasId t)) ∧ w = w' := by
  unfold hasId
  by_cases h2 : t = 2
  · subst h2
    go_enter Tryz.func196, Tryz.ntmps196
    go_wp2_with fail
    go_ret
    exact ⟨rfl, rfl⟩
  · have e2 : (t == 2) = false := beq_eq_false_iff_ne.2 h2
    have e2' : decide (t = 2) = false := decide_eq_false h2
    have e4 : (t == 4) = decide (t = 4) := by by_cases h : t = 4 <;> simp [h]
    generalize hd : decide (t = 4) = d at e4 ⊢
    clear hd h2
    go_enter Tryz.func196, Tryz.ntmps196
    go_wp2_with fail
    go_ret
    exact ⟨by simp [e2'], rfl⟩
theorem mayPart_any (a : Ace) (w : World) : Calls Tryz.prog 246 #[aceV a] w fun e w' => e = .returned (.bool (okPart a)) ∧ Below w.heap.size w w' := by
  have hh := hasId_any a.1
  obtain ⟨t, i, p⟩ := a
  unfold okPart aceV
  simp only at hh ⊢
  by_cases h1 : 1 ≤ t
  · by_cases h2 : t ≤ 6
    · by_cases h3 : 0 ≤ p
      · by_cases h4 : p ≤ 7
        · have f1 : decide (t < 1) = false := decide_eq_false (by omega)
          have f2 : decide (6 < t) = false := decide_eq_false (by omega)
          have f3 : decide (p < 0) = false := decide_eq_false (by omega)
          have f4 : decide (7 < p) = false := decide_eq_false (by omega)
          rw [decide_eq_true h1, decide_eq_true h2, decide_eq_true h3, decide_eq_true h4]
          rcases hb : hasId t with _ | _
          · rw [hb] at hh
            have e0 : (i == 0) = decide (i = 0) := by by_cases h : i = 0 <;> simp [h]
            generalize hd : decide (i = 0) = d at e0 ⊢
            clear hd h1 h2 h3 h4
            go_enter Tryz.func246, Tryz.ntmps246
            go_wp2_with fail
            refine (hh _).mono ?_
            rintro e w1 ⟨rfl, rfl⟩
            go_wp2_with fail
            go_ret
            exact ⟨by simp, by (repeat' (first | exact Below.refl _ _ | assumption | refine gr_drew ?_ | refine gr_drewN ?_ _ | refine gr_alloc ?_ _ | refine gr_set ?_ ?_ _ | refine gr_call ?_ (by assumption)) <;> (try (simp; done)) <;> (try (simp; omega)) <;> (try omega))⟩
          · rw [hb] at hh
            by_cases h5 : 0 ≤ i
            · have f5 : decide (0 ≤ i) = true := decide_eq_true h5
              generalize hd : decide (i ≤ 2147483647) = d at ⊢
              clear h1 h2 h3 h4 h5
              go_enter Tryz.func246, Tryz.ntmps246
              go_wp2_with fail
              refine (hh _).mono ?_
              rintro e w1 ⟨rfl, rfl⟩
              go_wp2_with fail
              go_ret
              exact ⟨by simp [f5], by (repeat' (first | exact Below.refl _ _ | assumption | refine gr_drew ?_ | refine gr_drewN ?_ _ | refine gr_alloc ?_ _ | refine gr_set ?_ ?_ _ | refine gr_call ?_ (by assumption)) <;> (try (simp; done)) <;> (try (simp; omega)) <;> (try omega))⟩
            · have f5 : decide (0 ≤ i) = false := decide_eq_false h5
              clear h1 h2 h3 h4 h5
              go_enter Tryz.func246, Tryz.ntmps246
              go_wp2_with fail
              refine (hh _).mono ?_
              rintro e w1 ⟨rfl, rfl⟩
              go_wp2_with fail
              go_ret
              exact ⟨by simp [f5], by (repeat' (first | exact Below.refl _ _ | assumption | refine gr_drew ?_ | refine gr_drewN ?_ _ | refine gr_alloc ?_ _ | refine gr_set ?_ ?_ _ | refine gr_call ?_ (by assumption)) <;> (try (simp; done)) <;> (try (simp; omega)) <;> (try omega))⟩
        · have f1 : decide (t < 1) = false := decide_eq_false (by omega)
          have f2 : decide (6 < t) = false := decide_eq_false (by omega)
          have f3 : decide (p < 0) = false := decide_eq_false (by omega)
          have f4 : decide (7 < p) = true := decide_eq_true (by omega)
          rw [decide_eq_false h4]
          simp only [Bool.and_false, Bool.false_and]
          clear h1 h2 h3 h4 hh
          go_enter Tryz.func246, Tryz.ntmps246
          go_wp2_with fail
          go_ret
          exact ⟨by simp, by (repeat' (first | exact Below.refl _ _ | assumption | refine gr_drew ?_ | refine gr_drewN ?_ _ | refine gr_alloc ?_ _ | refine gr_set ?_ ?_ _ | refine gr_call ?_ (by assumption)) <;> (try (simp; done)) <;> (try (simp; omega)) <;> (try omega))⟩
      · have f1 : decide (t < 1) = false := decide_eq_false (by omega)
        have f2 : decide (6 < t) = false := decide_eq_false (by omega)
        have f3 : decide (p < 0) = true := decide_eq_true (by omega)
        rw [decide_eq_false h3]
        simp only [Bool.and_false, Bool.false_and]
        clear h1 h2 h3 hh
        go_enter Tryz.func246, Tryz.ntmps246
        go_wp2_with fail
        go_ret
        exact ⟨by simp, by (repeat' (first | exact Below.refl _ _ | assumption | refine gr_drew ?_ | refine gr_drewN ?_ _ | refine gr_alloc ?_ _ | refine gr_set ?_ ?_ _ | refine gr_call ?_ (by assumption)) <;> (try (simp; done)) <;> (try (simp; omega)) <;> (try omega))⟩
    · have f1 : decide (t < 1) = false := decide_eq_false (by omega)
      have f2 : decide (6 < t) = true := decide_eq_true (by omega)
      rw [decide_eq_false h2]
      simp only [Bool.and_false, Bool.false_and]
      clear h1 h2 hh
      go_enter Tryz.func246, Tryz.ntmps246
      go_wp2_with fail
      go_ret
      exact ⟨by simp, by (repeat' (first | exact Below.refl _ _ | assumption | refine gr_drew ?_ | refine gr_drewN ?_ _ | refine gr_alloc ?_ _ | refine gr_set ?_ ?_ _ | refine gr_call ?_ (by assumption)) <;> (try (simp; done)) <;> (try (simp; omega)) <;> (try omega))⟩
  · have f1 : decide (t < 1) = true := decide_eq_true (by omega)
    rw [decide_eq_false h1]
    simp only [Bool.and_false, Bool.false_and]
    clear h1 hh
    go_enter Tryz.func246, Tryz.ntmps246
    go_wp2_with fail
    go_ret
    exact ⟨by simp, by (repeat' (first | exact Below.refl _ _ | assumption | refine gr_drew ?_ | refine gr_drewN ?_ _ | refine gr_alloc ?_ _ | refine gr_set ?_ ?_ _ | refine gr_call ?_ (by assumption)) <;> (try (simp; done)) <;> (try (simp; omega)) <;> (try omega))⟩

theorem drop_cons {β : Type} {l : List β} {i : Nat} (h : i < l.length) : l.drop i = l[i] :: l.drop (i + 1) := List.drop_eq_getElem_cons h
theorem mayParts_any (v : Value) (l : List Ace) (w : World) (hat : At aceE v l w) (hl : l.length ≤ 1000000) :
    Calls Tryz.prog 192 #[v] w fun e w' => e = .returned (.bool (l.all okPart)) ∧ Below w.heap.size w w' := by
  have hpart := Lib.hid mayPart_any
  obtain ⟨z, hz⟩ : ∃ z, l.length = z := ⟨_, rfl⟩
  rw [hz] at hl
  rcases List.eq_nil_or_concat l with rfl | ⟨_, _, hne⟩
  · obtain ⟨p, cap, rfl, hcap⟩ := hat.shape
    simp only [List.length_nil]
    go_enter Tryz.func192, Tryz.ntmps192
    go_wp2_with fail
    go_loopw [7] (fun iv wr => iv = .int .i64 0 ∧ wr = w) (fun _ _ => 0)
    case atStart => exact ⟨rfl, rfl⟩
    case round =>
      obtain ⟨rfl, rfl⟩ := hrel
      go_wp2_with fail
      go_ret
      exact ⟨rfl, Below.refl _ _⟩
  · have hne' : l ≠ [] := by rw [hne]; simp
    clear hne
    obtain ⟨g, off, cap, rfl, hcap, hg, hcell⟩ := ace_open hat hne'
    rw [hz] at hcap ⊢
    have Hcell := Lib.hid hcell
    have Hz := Lib.hid hz
    clear hcell hat hne' hz
    go_enter Tryz.func192, Tryz.ntmps192
    go_wp2_with fail
    go_loopw [7] (fun iv wr => ∃ i : Nat, iv = .int .i64 (i : Int) ∧ i ≤ z ∧ Below w.heap.size w wr ∧ Hid (l.all okPart = (l.drop i).all okPart)) (fun iv _ => z - (intOf iv).toNat)
    case atStart => exact ⟨0, rfl, by omega, Below.refl _ _, Lib.hid (by simp)⟩
    case round =>
      obtain ⟨i, rfl, hi, hbl, HR⟩ := hrel
      rename_i wr
      by_cases hlt : i < z
      · have hlt' : decide ((i : Int) < (z : Int)) = true := decide_eq_true (by omega)
        have hlt2 : decide (i < z) = true := decide_eq_true hlt
        have hi' : i < l.length := by rw [Hz.out]; exact hlt
        obtain ⟨c0, c1, c2⟩ := Hcell.out i hi'
        replace c0 := cell_kept hbl c0
        replace c1 := cell_kept hbl c1
        replace c2 := cell_kept hbl c2
        have hp := Lib.hid (hpart.out l[i])
        have HS : Hid ((l.drop i).all okPart = (okPart l[i] && (l.drop (i + 1)).all okPart)) := Lib.hid (by rw [drop_cons hi']; rfl)
        generalize l[i] = a at *
        obtain ⟨t, d, p⟩ := a
        simp only at c0 c1 c2
        rcases hb : okPart (t, d, p) with _ | _
        · rw [hb] at hp HS
          go_wp2_with fail
          refine (hp.out _).mono ?_
          rintro e w1 ⟨rfl, hb1⟩
          have HE := Lib.hid (show l.all okPart = false by rw [HR.out, HS.out]; rfl)
          clear HS HR hb hp
          go_wp2_with fail
          go_ret
          exact ⟨by rw [HE.out]; rfl, by (repeat' (first | exact Below.refl _ _ | assumption | refine gr_drew ?_ | refine gr_drewN ?_ _ | refine gr_alloc ?_ _ | refine gr_set ?_ ?_ _ | refine gr_call ?_ (by assumption)) <;> (try (simp; done)) <;> (try (simp; omega)) <;> (try omega))⟩
        · rw [hb] at hp HS
          go_wp2_with fail
          refine (hp.out _).mono ?_
          rintro e w1 ⟨rfl, hb1⟩
          have HE := Lib.hid (show l.all okPart = (l.drop (i + 1)).all okPart by rw [HR.out, HS.out]; simp)
          clear HS HR hb hp
          go_wp2_with fail
          go_roundw
          case rel => exact ⟨i + 1, rfl, by omega, by (repeat' (first | exact Below.refl _ _ | assumption | refine gr_drew ?_ | refine gr_drewN ?_ _ | refine gr_alloc ?_ _ | refine gr_set ?_ ?_ _ | refine gr_call ?_ (by assumption)) <;> (try (simp; done)) <;> (try (simp; omega)) <;> (try omega)), HE⟩
          case measure => simp only [intOf]; omega
      · have hlt' : decide ((i : Int) < (z : Int)) = false := decide_eq_false (by omega)
        have hlt2 : decide (i < z) = false := decide_eq_false hlt
        have HE := Lib.hid (show l.all okPart = true by rw [HR.out, List.drop_eq_nil_of_le (by rw [Hz.out]; omega)]; rfl)
        clear HR
        go_wp2_with fail
        go_ret
        exact ⟨by rw [HE.out]; rfl, by (repeat' (first | exact Below.refl _ _ | assumption | refine gr_drew ?_ | refine gr_drewN ?_ _ | refine gr_alloc ?_ _ | refine gr_set ?_ ?_ _ | refine gr_call ?_ (by assumption)) <;> (try (simp; done)) <;> (try (simp; omega)) <;> (try omega))⟩
end Go.Proofs.YtbhnhoenjoagbaaGreatDoor.AclW

/- Walks over package acl: whether parts are in order. -/
namespace Go.Proofs.YtbhnhoenjoagbaaGreatDoor.AclW
open Go.RowKit
open AclM
set_option linter.unusedVariables false

theorem ace_look {v : Value} {l : List Ace} {w : World} (h : At aceE v l w) :
    ∃ p cap, v = .slice p l.length cap ∧ l.length ≤ cap ∧ ∀ j (h : j < l.length), ∃ g off, p = some ⟨g, off, none⟩ ∧ g < w.heap.size ∧ w.cell? ⟨g, off + j * 3, none⟩ = some (.int .i64 l[j].1) ∧ w.cell? ⟨g, off + j * 3 + 1, none⟩ = some (.int .i64 l[j].2.1) ∧ w.cell? ⟨g, off + j * 3 + 2, none⟩ = some (.int .i64 l[j].2.2) := by
  by_cases hl : l = []
  · obtain ⟨p, cap, h1, h2⟩ := h.shape
    exact ⟨p, cap, h1, h2, fun j hj => by subst hl; simp at hj⟩
  · obtain ⟨g, off, cap, h1, h2, h3, h4⟩ := ace_open h hl
    exact ⟨_, cap, h1, h2, fun j hj => ⟨g, off, rfl, h3, h4 j hj⟩⟩
theorem order_drop {l : List Ace} {i : Nat} (h1 : 1 ≤ i) (h : i < l.length) : order (l.drop (i - 1)) = (ltA (l[i - 1]'(by omega)) l[i] && order (l.drop i)) := by
  obtain ⟨k, rfl⟩ : ∃ k, i = k + 1 := ⟨i - 1, by omega⟩
  simp only [Nat.add_sub_cancel]
  rw [drop_cons (by omega : k < l.length), drop_cons h]
  rfl
theorem order_end {l : List Ace} {i : Nat} (h : l.length ≤ i) : order (l.drop (i - 1)) = true := by
  rcases hd : l.drop (i - 1) with _ | ⟨a, _ | ⟨b, r⟩⟩
  · rfl
  · rfl
  · have := congrArg List.length hd
    rw [List.length_drop] at this
    simp at this
    omega

set_option maxHeartbeats 1600000 in
theorem mayOrder_any (v : Value) (l : List Ace) (w : World) (hat : At aceE v l w) (hl : l.length ≤ 1000000) :
    Calls Tryz.prog 193 #[v] w fun e w' => e = .returned (.bool (order l)) ∧ Below w.heap.size w w' := by
  obtain ⟨z, hz⟩ : ∃ z, l.length = z := ⟨_, rfl⟩
  obtain ⟨p, cap, rfl, hcap, hcell⟩ := ace_look hat
  rw [hz] at hl hcap ⊢
  have Hcell := Lib.hid hcell
  have Hz := Lib.hid hz
  clear hcell hat hz
  go_enter Tryz.func193, Tryz.ntmps193
  go_wp2_with fail
  go_loopw [3] (fun iv wr => ∃ i : Nat, iv = .int .i64 (i : Int) ∧ 1 ≤ i ∧ i ≤ z + 1 ∧ Below w.heap.size w wr ∧ Hid (order l = order (l.drop (i - 1)))) (fun iv _ => z + 1 - (intOf iv).toNat)
  case atStart => exact ⟨1, rfl, by omega, by omega, Below.refl _ _, Lib.hid (by simp)⟩
  case round =>
    obtain ⟨i, rfl, hi1, hi, hbl, HR⟩ := hrel
    rename_i wr
    by_cases hlt : i < z
    · have hlt' : decide ((i : Int) < (z : Int)) = true := decide_eq_true (by omega)
      have hlt2 : decide (i < z) = true := decide_eq_true hlt
      have hi' : i < l.length := by rw [Hz.out]; exact hlt
      obtain ⟨g, off, rfl, hg, c0, c1, c2⟩ := Hcell.out i hi'
      obtain ⟨g', off', ho, _, d0, d1, d2⟩ := Hcell.out (i - 1) (by omega)
      cases ho
      replace c0 := cell_kept hbl c0
      replace c1 := cell_kept hbl c1
      replace c2 := cell_kept hbl c2
      replace d0 := cell_kept hbl d0
      replace d1 := cell_kept hbl d1
      replace d2 := cell_kept hbl d2
      have HS := Lib.hid (order_drop hi1 hi')
      generalize l[i] = b at *
      generalize l[i - 1] = a at *
      obtain ⟨t, d, q⟩ := a
      obtain ⟨t', d', q'⟩ := b
      simp only at c0 c1 c2 d0 d1 d2
      have hn0 : (1 : Int) ≤ (i : Int) := by omega
      have hn1 : (i : Int) - 1 < (z : Int) := by omega
      have hwr : IntKind.i64.wrap ((i : Int) - 1) = (i : Int) - 1 := by rw [IntKind.wrap_i64]; omega
      have hgs := hbl.size
      go_wp2_with fail
      go_region_held3 (fun w' => Below w.heap.size w w' ∧ w'.cell? ⟨g, off + i * 3, none⟩ = some (.int .i64 t') ∧ w'.cell? ⟨g, off + i * 3 + 1, none⟩ = some (.int .i64 d') ∧ w'.cell? ⟨g, off + i * 3 + 2, none⟩ = some (.int .i64 q') ∧ w'.cell? ⟨g, off + (i - 1) * 3, none⟩ = some (.int .i64 t) ∧ w'.cell? ⟨g, off + (i - 1) * 3 + 1, none⟩ = some (.int .i64 d) ∧ w'.cell? ⟨g, off + (i - 1) * 3 + 2, none⟩ = some (.int .i64 q))
        (first | (go_keep; done) | (go_split_ands; (repeat' apply And.intro) <;> (first | assumption | exact Amb.on (by assumption) hb1 | exact AmbB.on (by assumption) hb1 | exact gr_call (by assumption) hb1 | exact cell_kept hb1 (by assumption) | exact free_kept hb1 (by assumption) (by assumption) | (show Below _ _ _; (repeat' (first | exact Below.refl _ _ | assumption | refine gr_drew ?_ | refine gr_drewN ?_ _ | refine gr_alloc ?_ _ | refine gr_set ?_ ?_ _ | refine gr_call ?_ (by assumption)) <;> (try (simp; done)) <;> (try (simp; omega)) <;> (try omega)); done) | (go_keep; done) | (simp [go_sem, *]; done)))) (fail)
      all_goals
        clear c0 c1 c2 d0 d1 d2
        by_cases ha : t' < t
        · have f1 : decide (t' < t) = true := decide_eq_true ha
          have HE := Lib.hid (show order l = false by
            rw [HR.out, HS.out]
            have : ltA (t, d, q) (t', d', q') = false := by simp [ltA]; omega
            rw [this]; rfl)
          clear HR HS ha
          go_wp2_with fail
          go_ret
          exact ⟨by rw [HE.out]; rfl, by (repeat' (first | exact Below.refl _ _ | assumption | refine gr_drew ?_ | refine gr_drewN ?_ _ | refine gr_alloc ?_ _ | refine gr_set ?_ ?_ _ | refine gr_call ?_ (by assumption)) <;> (try (simp; done)) <;> (try (simp; omega)) <;> (try omega))⟩
        · have f1 : decide (t' < t) = false := decide_eq_false ha
          by_cases hb : t = t'
          · subst hb
            have f2 : (t == t) = true := beq_self_eq_true t
            by_cases hc : d' ≤ d
            · have f3 : decide (d' ≤ d) = true := decide_eq_true hc
              have HE := Lib.hid (show order l = false by
                rw [HR.out, HS.out]
                have : ltA (t, d, q) (t, d', q') = false := by simp [ltA]; omega
                rw [this]; rfl)
              clear HR HS ha hc
              go_wp2_with fail
              go_ret
              exact ⟨by rw [HE.out]; rfl, by (repeat' (first | exact Below.refl _ _ | assumption | refine gr_drew ?_ | refine gr_drewN ?_ _ | refine gr_alloc ?_ _ | refine gr_set ?_ ?_ _ | refine gr_call ?_ (by assumption)) <;> (try (simp; done)) <;> (try (simp; omega)) <;> (try omega))⟩
            · have f3 : decide (d' ≤ d) = false := decide_eq_false hc
              have HE := Lib.hid (show order l = order (l.drop (i + 1 - 1)) by
                rw [HR.out, HS.out]
                have : ltA (t, d, q) (t, d', q') = true := by simp [ltA]; omega
                rw [this]; rfl)
              clear HR HS ha hc
              go_wp2_with fail
              go_roundw
              case rel => exact ⟨i + 1, rfl, by omega, by omega, by (repeat' (first | exact Below.refl _ _ | assumption | refine gr_drew ?_ | refine gr_drewN ?_ _ | refine gr_alloc ?_ _ | refine gr_set ?_ ?_ _ | refine gr_call ?_ (by assumption)) <;> (try (simp; done)) <;> (try (simp; omega)) <;> (try omega)), HE⟩
              case measure => simp only [intOf]; omega
          · have f2 : (t == t') = false := beq_eq_false_iff_ne.2 hb
            have HE := Lib.hid (show order l = order (l.drop (i + 1 - 1)) by
              rw [HR.out, HS.out]
              have : ltA (t, d, q) (t', d', q') = true := by simp [ltA]; omega
              rw [this]; rfl)
            clear HR HS ha hb
            go_wp2_with fail
            go_roundw
            case rel => exact ⟨i + 1, rfl, by omega, by omega, by (repeat' (first | exact Below.refl _ _ | assumption | refine gr_drew ?_ | refine gr_drewN ?_ _ | refine gr_alloc ?_ _ | refine gr_set ?_ ?_ _ | refine gr_call ?_ (by assumption)) <;> (try (simp; done)) <;> (try (simp; omega)) <;> (try omega)), HE⟩
            case measure => simp only [intOf]; omega
    · have hlt' : decide ((i : Int) < (z : Int)) = false := decide_eq_false (by omega)
      have hlt2 : decide (i < z) = false := decide_eq_false hlt
      have HE := Lib.hid (show order l = true by rw [HR.out, order_end (by rw [Hz.out]; omega)])
      clear HR
      go_wp2_with fail
      go_ret
      exact ⟨by rw [HE.out]; rfl, by (repeat' (first | exact Below.refl _ _ | assumption | refine gr_drew ?_ | refine gr_drewN ?_ _ | refine gr_alloc ?_ _ | refine gr_set ?_ ?_ _ | refine gr_call ?_ (by assumption)) <;> (try (simp; done)) <;> (try (simp; omega)) <;> (try omega))⟩

/-! ### The first part of a tag -/
theorem isTag_any (a : Ace) (t : Int) (b : Nat) (w : World) (hc : w.cell? ⟨b, 0, none⟩ = some (.int .i64 t)) :
    Calls Tryz.prog 322 #[aceV a, .pointer (some ⟨b, 0, none⟩)] w fun e w' => e = .returned (.bool (decide (a.1 = t))) ∧ Below w.heap.size w w' := by
  obtain ⟨u, d, p⟩ := a
  have hb : b < w.heap.size := block_lt hc
  have hbne : b ≠ w.heap.size := Nat.ne_of_lt hb
  have e0 : (u == t) = decide (u = t) := by by_cases h : u = t <;> simp [h]
  unfold aceV
  simp only
  generalize hd : decide (u = t) = x at e0 ⊢
  have hc2 : (w.alloc (.cells #[.int .i64 u, .int .i64 d, .int .i64 p] 115)).cell? ⟨b, 0, none⟩ = some (.int .i64 t) := cell_kept (gr_alloc (Below.refl _ _) _) hc
  go_enter Tryz.func322, Tryz.ntmps322
  go_wp2_with fail
  go_ret
  exact ⟨rfl, by (repeat' (first | exact Below.refl _ _ | assumption | refine gr_drew ?_ | refine gr_drewN ?_ _ | refine gr_alloc ?_ _ | refine gr_set ?_ ?_ _ | refine gr_call ?_ (by assumption)) <;> (try (simp; done)) <;> (try (simp; omega)) <;> (try omega))⟩
end Go.Proofs.YtbhnhoenjoagbaaGreatDoor.AclW
