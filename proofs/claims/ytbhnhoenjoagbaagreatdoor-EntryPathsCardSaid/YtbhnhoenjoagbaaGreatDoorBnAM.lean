/- Bundle of 2 texts. -/
import Derived.Test.YtbhnhoenjoagbaaGreatDoorBnAL
import Derived.OwnWalk
import Derived.Laws.OwnMore
import Derived.Laws.AppendOwnNone
import Derived.Maps.AppendAt
import Derived.Deep.AppendLies
import Derived.Lib.SmallJoins
import Derived.Test.YtbhnhoenjoagbaaGreatDoorDec
import Derived.Lib.AtoiAllCases
import Derived.Lib.IndexBytes
import Derived.Lib.CountLaws
import Derived.Lib.Split
/- Slices by what they hold, whatever an element is: one that a call makes by appending (Row); one that can be read (At). -/
namespace Go.Proofs.YtbhnhoenjoagbaaGreatDoor
open Go.RowKit
set_option linter.unusedVariables false

/-- How an element lies in memory. -/
structure Elt (α : Type) where
  t : TypeId
  st : TypeId
  k : Nat
  z : Value
  bytes : Nat
  enc : α → List Value
  len : ∀ x, (enc x).length = k
  one : ∀ x, ∀ u ∈ enc x, u.oneCell' = true
  pos : 0 < k
  und : Tryz.prog.underlying st = some (.slice t)
  inf : (Tryz.prog.info? t).map (fun i => (i.zero, i.size, i.bytes)) = some (some z, k, bytes)
  zk : z.cells.size = k
  small : bytes ≤ 64

variable {α : Type} {E : Elt α}
def cellsE (E : Elt α) : List α → List Value
  | [] => []
  | x :: l => E.enc x ++ cellsE E l
theorem cellsE_append (a b : List α) : cellsE E (a ++ b) = cellsE E a ++ cellsE E b := by
  induction a with
  | nil => rfl
  | cons r a ih => simp [cellsE, ih]
theorem cellsE_length (l : List α) : (cellsE E l).length = l.length * E.k := by
  induction l with
  | nil => simp [cellsE]
  | cons r l ih => simp only [cellsE, List.length_append, List.length_cons, ih, E.len, Nat.add_mul]; omega
theorem cellsE_at (l : List α) : ∀ (j : Nat) (h : j < l.length) (i : Nat) (u : Value), (E.enc l[j])[i]? = some u → (cellsE E l)[j * E.k + i]? = some u := by
  induction l with
  | nil => intro j h; simp at h
  | cons r l ih =>
    intro j h i u hu
    have hi : i < E.k := by rw [← E.len]; exact (List.getElem?_eq_some_iff.1 hu).1
    cases j with
    | zero =>
      simp only [cellsE, Nat.zero_mul, Nat.zero_add]
      rw [List.getElem?_append_left (by rw [E.len]; exact hi)]
      exact hu
    | succ j =>
      have h2 := ih j (by simpa using h) i u (by simpa using hu)
      simp only [cellsE]
      rw [List.getElem?_append_right (by rw [E.len, Nat.add_mul]; omega), E.len, show (j + 1) * E.k + i - E.k = j * E.k + i by rw [Nat.add_mul]; omega]
      exact h2
theorem cellsE_back (l : List α) : ∀ (n : Nat) (u : Value), (cellsE E l)[n]? = some u → ∃ (j : Nat) (h : j < l.length) (i : Nat), n = j * E.k + i ∧ (E.enc l[j])[i]? = some u := by
  induction l with
  | nil => intro n u h; simp [cellsE] at h
  | cons r l ih =>
    intro n u hu
    simp only [cellsE] at hu
    by_cases hn : n < E.k
    · rw [List.getElem?_append_left (by rw [E.len]; exact hn)] at hu
      exact ⟨0, by simp, n, by simp, hu⟩
    · rw [List.getElem?_append_right (by rw [E.len]; omega), E.len] at hu
      obtain ⟨j, h, i, e, hi⟩ := ih _ _ hu
      exact ⟨j + 1, by simpa using h, i, by rw [Nat.add_mul]; omega, by simpa using hi⟩
theorem cellsE_one (l : List α) : ∀ u ∈ cellsE E l, u.oneCell' = true := by
  induction l with
  | nil => intro u h; simp [cellsE] at h
  | cons r l ih =>
    intro u h
    rcases List.mem_append.1 h with h | h
    · exact E.one r u h
    · exact ih u h

/-- v is a slice of the call's own (its block lies from B on), or nil, that holds l. -/
def Row (E : Elt α) (B : Nat) (v : Value) (l : List α) (w : World) : Prop := w.ownsRow B E.t E.k v l.length (cellsE E l)
theorem Row.nil (w : World) (B : Nat) : Row E B (.slice none 0 0) [] w := World.ownsRow_nil w B _ _
theorem Row.drew {B : Nat} {v : Value} {l : List α} {w : World} (h : Row E B v l w) : Row E B v l w.drew := World.ownsRow.drew h
theorem Row.alloc {B : Nat} {v : Value} {l : List α} {w : World} (h : Row E B v l w) (o : Obj) : Row E B v l (w.alloc o) := World.ownsRow.alloc h o
theorem Row.call {B : Nat} {v : Value} {l : List α} {w w1 : World} (h : Row E B v l w) (hb : Below w.heap.size w w1) : Row E B v l w1 := by
  refine World.ownsRow.kept h (row := none) ⟨hb.os, hb.tape, hb.output, hb.size, fun k hk _ => hb.block k hk⟩ ?_
  cases hv : v.ownBlock with
  | none => exact Or.inl rfl
  | some k => exact Or.inr (by simp)
theorem Row.lt {B : Nat} {v : Value} {l : List α} {w : World} (h : Row E B v l w) : ∀ k, v.ownBlock = some k → B ≤ k ∧ k < w.heap.size := World.ownsRow.lt h
theorem Row.mono {B B' : Nat} {v : Value} {l : List α} {w : World} (h : Row E B v l w) (hb : B' ≤ B) : Row E B' v l w := Go.Joins.ownsRow_le h hb
theorem Row.other {B : Nat} {v : Value} {l : List α} {w : World} (h : Row E B v l w) {a : Addr} (ha : v.ownBlock ≠ some a.block) (u : Value) : Row E B v l (w.setCell a u) := ownsRow_setCell_other h ha u

/-- v is a slice that reads as l. -/
def At (E : Elt α) (v : Value) (l : List α) (w : World) : Prop :=
  (l = [] ∧ (v = .slice none 0 0 ∨ ∃ ad cap, v = .slice (some ad) 0 cap)) ∨
  ∃ g off cap, v = .slice (some ⟨g, off, none⟩) l.length cap ∧ l.length ≤ cap ∧ g < w.heap.size ∧ ∀ j (h : j < l.length) i u, (E.enc l[j])[i]? = some u → w.cell? ⟨g, off + (j * E.k + i), none⟩ = some u
theorem At.nil (w : World) : At E (.slice none 0 0) [] w := .inl ⟨rfl, .inl rfl⟩
theorem Row.at {B : Nat} {v : Value} {l : List α} {w : World} (h : Row E B v l w) : At E v l w := by
  have h' := h
  rcases h.2 with ⟨hv, h0⟩ | ⟨g, cap, cur, hv, hB, hg, hc1, hc2, hcs, ht⟩
  · exact .inl ⟨List.eq_nil_of_length_eq_zero h0, .inl hv⟩
  · subst hv
    refine .inr ⟨g, 0, cap, rfl, hc1, (Array.getElem?_eq_some_iff.1 hg).1, fun j hj i u hu => ?_⟩
    have e1 := World.ownsRow.cells h' rfl _ _ (cellsE_at l j hj i u hu)
    rw [addr_zero_add] at e1
    rw [Nat.zero_add]
    exact e1
theorem At.call {v : Value} {l : List α} {w w1 : World} (h : At E v l w) (hb : Below w.heap.size w w1) : At E v l w1 := by
  rcases h with h | ⟨g, off, cap, hv, hc, hg, hj⟩
  · exact .inl h
  · exact .inr ⟨g, off, cap, hv, hc, Nat.lt_of_lt_of_le hg hb.size, fun j h i u hu => cell_kept hb (hj j h i u hu)⟩
theorem At.drew {v : Value} {l : List α} {w : World} (h : At E v l w) : At E v l w.drew := h.call (gr_drew (Below.refl _ _))
theorem At.alloc {v : Value} {l : List α} {w : World} (h : At E v l w) (o : Obj) : At E v l (w.alloc o) := h.call (gr_alloc (Below.refl _ _) o)
theorem At.shape {v : Value} {l : List α} {w : World} (h : At E v l w) : ∃ p cap, v = .slice p l.length cap ∧ l.length ≤ cap := by
  rcases h with ⟨rfl, hv | ⟨ad, cap, hv⟩⟩ | ⟨g, off, cap, hv, hc, _⟩
  · exact ⟨_, _, hv, Nat.le_refl _⟩
  · exact ⟨_, _, hv, Nat.zero_le _⟩
  · exact ⟨_, _, hv, hc⟩
/-- Where it holds something: its cells, at every place. -/
theorem At.open {v : Value} {l : List α} {w : World} (h : At E v l w) (hl : l ≠ []) :
    ∃ g off cap, v = .slice (some ⟨g, off, none⟩) l.length cap ∧ l.length ≤ cap ∧ g < w.heap.size ∧ ∀ j (h : j < l.length) i u, (E.enc l[j])[i]? = some u → w.cell? ⟨g, off + (j * E.k + i), none⟩ = some u := by
  rcases h with ⟨h, _⟩ | h
  · exact absurd h hl
  · exact h
/-- Where nothing but another block grew. -/
theorem At.grown {v : Value} {l : List α} {w w1 : World} {row : Option Nat} (h : At E v l w) (hb : w.grownBy w1 row) (hne : ∀ k, v.ownBlock = some k → row ≠ some k) : At E v l w1 := by
  rcases h with h | ⟨g, off, cap, hv, hc, hg, hj⟩
  · exact .inl h
  · refine .inr ⟨g, off, cap, hv, hc, Nat.lt_of_lt_of_le hg hb.size, fun j h i u hu => ?_⟩
    rw [World.grownBy.cell_far hb ⟨g, _, none⟩ hg (by intro e; exact hne g (by rw [hv]; rfl) e.symm)]
    exact hj j h i u hu
/-- A slice of known elements, just laid. -/
theorem lit_row (w : World) (l : List α) (cs : Array Value) (B : Nat) (n : Nat) (hn : n = l.length) (hB : B ≤ w.heap.size) (hm : l.length ≤ 1000000) (h : cs.toList = cellsE E l) :
    Row E B (.slice (some ⟨w.heap.size, 0, none⟩) n n) l (w.alloc (.cells cs E.t)) := by
  subst hn
  have e : cs = (cellsE E l).toArray := by rw [← h]
  subst e
  have := World.ownsRow_lit (e := E.t) (size := E.k) w (cellsE E l).toArray l.length hB (by unfold maxLen; omega) (by simp [cellsE_length])
  simpa [Row] using this

theorem addr_off_add (g o j : Nat) : (⟨g, o, none⟩ : Addr).add j = ⟨g, o + j, none⟩ := by
  by_cases h : j = 0 <;> simp [Addr.add, h]
/-- append(v, x...), as it runs. -/
theorem run_append_at (E : Elt α) (ty : TypeId) (B : Nat) (v xv : Value) (l m : List α) (w : World) (hrow : Row E B v l w) (hat : At E xv m w) (hlen : l.length + m.length ≤ 1000000) (hB : B ≤ w.heap.size) :
    ∃ v' w', (Builtin.append_ #[E.st, E.st] ty #[v, xv]).run Tryz.prog w = .ok v' w' ∧ Row E B v' (l ++ m) w' ∧ Below B w w' ∧ w.grownBy w' v.ownBlock ∧ (v'.ownBlock = v.ownBlock ∨ v'.ownBlock = some w.heap.size) := by
  obtain ⟨i0, hi, hz0, hz1, hz2⟩ := info_parts E.inf
  have hsm := E.small
  have hby : ∀ n : Nat, n ≤ 1000000 → n * E.bytes ≤ 140737488355328 := by
    intro n hn
    have : n * E.bytes ≤ 1000000 * 64 := Nat.mul_le_mul hn hsm
    omega
  have fin : ∀ w', w.grownBy w' v.ownBlock → Below B w w' := fun w' h2 => (Below.refl B w).grown h2 hB (fun k hk => (World.ownsRow.lt hrow k hk).1)
  rcases hat with ⟨rfl, rfl | ⟨ad, cap, rfl⟩⟩ | ⟨g, off, cap, rfl, hc, hg, hj⟩
  · refine ⟨v, w, run_append_owned_none (P := Tryz.prog) (w := w) B E.st ty E.t i0 E.k E.und hi v l.length (cellsE E l) hrow, by rw [List.append_nil]; exact hrow, Below.refl _ _, ⟨rfl, rfl, rfl, Nat.le_refl _, fun _ _ _ => rfl⟩, .inl rfl⟩
  · obtain ⟨v', w', hr, h2, h3, _, h5⟩ := run_append_own_at (P := Tryz.prog) w B E.st ty E.t i0 E.z E.k E.bytes E.und hi hz0 hz1 hz2 E.zk E.pos v l.length (cellsE E l) hrow ad 0 cap [] (by simp) (by simp) (by simp) (by unfold maxLen; simp at hlen; omega) (hby _ (by simpa using hlen)) hB
    refine ⟨v', w', hr, ?_, fin _ h3, h3, h5⟩
    unfold Row
    simpa using h2
  · obtain ⟨v', w', hr, h2, h3, _, h5⟩ := run_append_own_at (P := Tryz.prog) w B E.st ty E.t i0 E.z E.k E.bytes E.und hi hz0 hz1 hz2 E.zk E.pos v l.length (cellsE E l) hrow ⟨g, off, none⟩ m.length cap (cellsE E m) (cellsE_length m) (by
      intro n u hu
      obtain ⟨j, hjl, i, e, hi'⟩ := cellsE_back m n u hu
      have := hj j hjl i u hi'
      rw [← e] at this
      rw [← this, addr_off_add]) (cellsE_one m) (by unfold maxLen; omega) (hby _ hlen) hB
    refine ⟨v', w', hr, ?_, fin _ h3, h3, h5⟩
    unfold Row
    rw [cellsE_append, List.length_append]
    exact h2
/-- append(v, x...). -/
theorem wp_append_row {o : Oper} {a : Act} {K : Act → World → Prop} {Q : Exit → Act → World → Prop} (E : Elt α) (s x : Operand)
    (ho : o.op = .call { callee := .builtin .append, args := #[s, x], argTypes := #[E.st, E.st] })
    (B : Nat) (v xv : Value) (l m : List α) (w : World)
    (hs : a.eval s = v) (hrow : Row E B v l w) (hx : a.eval x = xv) (hat : At E xv m w)
    (hlen : l.length + m.length ≤ 1000000) (hB : B ≤ w.heap.size)
    (h : ∀ v' w', Row E B v' (l ++ m) w' → Below B w w' → w.grownBy w' v.ownBlock → (v'.ownBlock = v.ownBlock ∨ v'.ownBlock = some w.heap.size) → K (a.put o.dst v') w') :
    Oper.wp Tryz.prog o a w K Q := by
  obtain ⟨v', w', hr, h2, h3, h4, h5⟩ := run_append_at E o.type B v xv l m w hrow hat hlen hB
  unfold Oper.wp execOp
  simp only [ho, resolve, invoke, builtin, Sem.run_bind, Sem.run_pure, Result.andThen_ok, List.map_toArray, List.map_cons, List.map_nil, hs, hx, hr]
  exact h v' w' h2 h3 h4 h5
theorem wp_append_at {ops : Array Oper} {rest : List Oper} {o : Oper} {a : Act} {Q : Exit → Act → World → Prop} (E : Elt α) (hgd : o.guard = none) (s x : Operand)
    (ho : o.op = .call { callee := .builtin .append, args := #[s, x], argTypes := #[E.st, E.st] })
    (B : Nat) (v xv : Value) (l m : List α) (w : World)
    (hs : a.eval s = v) (hrow : Row E B v l w) (hx : a.eval x = xv) (hat : At E xv m w)
    (hlen : l.length + m.length ≤ 1000000) (hB : B ≤ w.heap.size)
    (h : ∀ v' w', Row E B v' (l ++ m) w' → Below B w w' → w.grownBy w' v.ownBlock → (v'.ownBlock = v.ownBlock ∨ v'.ownBlock = some w.heap.size) → wpList Tryz.prog ops Q rest (a.put o.dst v') w') :
    wpList Tryz.prog ops Q (o :: rest) a w :=
  wpList_plain hgd fun K hK => wp_append_row E s x ho B v xv l m w hs hrow hx hat hlen hB fun v' w' h1 h2 h3 h4 => hK _ _ (h v' w' h1 h2 h3 h4)
/-- The same as a step of a region that draws its order. -/
theorem step_append_at {ops : Array Oper} {o : Oper} {a : Act} {w : World} {K : Act → World → Prop} {Q : Exit → Act → World → Prop} {X : Prop} (E : Elt α) (hgd : o.guard = none) (s x : Operand)
    (ho : o.op = .call { callee := .builtin .append, args := #[s, x], argTypes := #[E.st, E.st] })
    (B : Nat) (v xv : Value) (l m : List α)
    (hs : a.eval s = v) (hrow : Row E B v l w) (hx : a.eval x = xv) (hat : At E xv m w)
    (hlen : l.length + m.length ≤ 1000000) (hB : B ≤ w.heap.size)
    (h : ∀ v' w', Row E B v' (l ++ m) w' → Below B w w' → w.grownBy w' v.ownBlock → (v'.ownBlock = v.ownBlock ∨ v'.ownBlock = some w.heap.size) → K (a.put o.dst v') w') :
    if Region.wanted o (yielded ops a.tmps) = true then Oper.wp Tryz.prog o a w K Q else X := by
  have hw : Region.wanted o (yielded ops a.tmps) = true := by simp [Region.wanted, hgd]
  rw [if_pos hw]
  exact wp_append_row E s x ho B v xv l m w hs hrow hx hat hlen hB h
end Go.Proofs.YtbhnhoenjoagbaaGreatDoor

/- Access lists: what is valid, its text, its mode, what a text says. -/
namespace Go.Proofs.YtbhnhoenjoagbaaGreatDoor
open Go.RowKit
set_option linter.unusedVariables false
set_option linter.unusedSimpArgs false
namespace AclM
open DecM

/-- Tag, Id, Perm. -/
abbrev Ace := Int × Int × Int
def hasId (t : Int) : Bool := decide (t = 2) || decide (t = 4)
def okPart (a : Ace) : Bool := decide (1 ≤ a.1) && decide (a.1 ≤ 6) && decide (0 ≤ a.2.2) && decide (a.2.2 ≤ 7) && (if hasId a.1 = true then decide (0 ≤ a.2.1) && decide (a.2.1 ≤ 2147483647) else decide (a.2.1 = 0))
def ltA (a b : Ace) : Bool := decide (a.1 < b.1) || (decide (a.1 = b.1) && decide (a.2.1 < b.2.1))
def order : List Ace → Bool
  | a :: b :: l => ltA a b && order (b :: l)
  | _ => true
/-- The place of the first part of a tag, from i on. -/
def findN (t : Int) : List Ace → Nat → Int
  | [], _ => -1
  | a :: l, i => if a.1 = t then (i : Int) else findN t l (i + 1)
def has (l : List Ace) (t : Int) : Bool := decide (0 ≤ findN t l 0)
def tags (l : List Ace) : Bool := has l 1 && has l 3 && has l 6 && (has l 5 == (has l 2 || has l 4))
def may (l : List Ace) : Bool := decide (l.length ≤ 32) && l.all okPart && order l && tags l

def letter (t : Int) : UInt8 := if t = 1 ∨ t = 2 then 117 else if t = 3 ∨ t = 4 then 103 else if t = 5 then 109 else 111
def rwx (p : Int) : List UInt8 := [if p.toNat &&& 4 = 0 then 45 else 114, if p.toNat &&& 2 = 0 then 45 else 119, if p.toNat &&& 1 = 0 then 45 else 120]
def idText (a : Ace) : List UInt8 := if hasId a.1 = true then Lib.itoa a.2.1 else []
def partText (a : Ace) : List UInt8 := letter a.1 :: 58 :: (idText a ++ 58 :: rwx a.2.2)
def joinC : List (List UInt8) → List UInt8
  | [] => []
  | [p] => p
  | p :: q :: r => p ++ 44 :: joinC (q :: r)
def textL (l : List Ace) : List UInt8 := joinC (l.map partText)

/-- What lies between the bytes c. -/
def cutAt (c : UInt8) : List UInt8 → List (List UInt8)
  | [] => [[]]
  | x :: r => if x = c then [] :: cutAt c r else match cutAt c r with
    | p :: ps => (x :: p) :: ps
    | [] => [[x]]

/-- The perm that three letters say. -/
def permOf : List UInt8 → Option Int
  | [a, b, c] => some ((if a = 114 then 4 else 0) + (if b = 119 then 2 else 0) + (if c = 120 then 1 else 0))
  | _ => none
/-- The tag that a letter says, where an Id stands or none. -/
def tagOf (l id : List UInt8) : Option Int :=
  if l = [117] then some (if id = [] then 1 else 2) else
  if l = [103] then some (if id = [] then 3 else 4) else
  if l = [109] then (if id = [] then some 5 else none) else
  if l = [111] then (if id = [] then some 6 else none) else none
def idOf (id : List UInt8) : Option Int := if id = [] then some 0 else match Lib.atoiAll id with
  | .ok n => some n
  | _ => none
/-- What stands ahead of the first byte c, and behind it. -/
def cutA (c : UInt8) (s : List UInt8) : List UInt8 × List UInt8 := ((Lib.cut s [c]).1, (Lib.cut s [c]).2.1)
def guess (s : List UInt8) : Option Ace :=
  match tagOf (cutA 58 s).1 (cutA 58 (cutA 58 s).2).1 with
  | none => none
  | some t => match idOf (cutA 58 (cutA 58 s).2).1 with
    | none => none
    | some i => match permOf (cutA 58 (cutA 58 s).2).2 with
      | none => none
      | some p => some (t, i, p)
def partOf (s : List UInt8) : Option Ace := match guess s with
  | some a => if partText a = s then some a else none
  | none => none
def partsOf : List (List UInt8) → Option (List Ace)
  | [] => some []
  | p :: ps => match partOf p with
    | none => none
    | some a => (partsOf ps).map (a :: ·)
def getL (s : List UInt8) : Option (List Ace) := match partsOf (cutAt 44 s) with
  | some l => if may l = true then some l else none
  | none => none

/-! ### Cuts -/
theorem cutAt_ne (c : UInt8) (s : List UInt8) : cutAt c s ≠ [] := by
  cases s with
  | nil => simp [cutAt]
  | cons x r =>
    unfold cutAt
    split
    · simp
    · split <;> simp
theorem cutAt_cons (c x : UInt8) (r : List UInt8) : cutAt c (x :: r) = if x = c then [] :: cutAt c r else match cutAt c r with
    | p :: ps => (x :: p) :: ps
    | [] => [[x]] := rfl
theorem mem_cut {c : UInt8} : ∀ {s : List UInt8}, c ∈ s → ∃ p r, s = p ++ c :: r ∧ c ∉ p
  | [], h => by cases h
  | x :: s, h => by
    by_cases hx : x = c
    · exact ⟨[], s, by rw [hx]; rfl, by simp⟩
    · rcases List.mem_cons.1 h with h1 | h1
      · exact absurd h1.symm hx
      · obtain ⟨p, r, e, hp⟩ := mem_cut h1
        exact ⟨x :: p, r, by rw [e]; rfl, by simp; exact ⟨fun e => hx e.symm, hp⟩⟩
theorem cutAt_none {c : UInt8} : ∀ {s : List UInt8}, c ∉ s → cutAt c s = [s]
  | [], _ => rfl
  | x :: r, h => by
    rw [List.mem_cons] at h
    have h1 : ¬ x = c := fun e => h (.inl e.symm)
    unfold cutAt
    rw [if_neg h1, cutAt_none (fun e => h (.inr e))]
theorem cutAt_one {c : UInt8} : ∀ {p : List UInt8} (r : List UInt8), c ∉ p → cutAt c (p ++ c :: r) = p :: cutAt c r
  | [], r, _ => by simp [cutAt]
  | x :: p, r, h => by
    rw [List.mem_cons] at h
    have h1 : ¬ x = c := fun e => h (.inl e.symm)
    rw [List.cons_append, cutAt_cons, if_neg h1, cutAt_one r (fun e => h (.inr e))]
theorem joinC_cut : ∀ (s : List UInt8), joinC (cutAt 44 s) = s
  | [] => rfl
  | x :: r => by
    have ih := joinC_cut r
    unfold cutAt
    by_cases h : x = 44
    · subst h
      rw [if_pos rfl]
      rcases hc : cutAt 44 r with _ | ⟨p, ps⟩
      · exact absurd hc (cutAt_ne _ _)
      · rw [hc] at ih
        rw [← ih]
        rfl
    · rw [if_neg h]
      rcases hc : cutAt 44 r with _ | ⟨p, ps⟩
      · exact absurd hc (cutAt_ne _ _)
      · rw [hc] at ih
        rw [← ih]
        cases ps <;> rfl
theorem cut_joinC : ∀ {ps : List (List UInt8)}, ps ≠ [] → (∀ p ∈ ps, (44 : UInt8) ∉ p) → cutAt 44 (joinC ps) = ps
  | [], h, _ => absurd rfl h
  | [p], _, h => cutAt_none (h p (by simp))
  | p :: q :: r, _, h => by
    show cutAt 44 (p ++ 44 :: joinC (q :: r)) = _
    rw [cutAt_one _ (h p (by simp)), cut_joinC (ps := q :: r) (by simp) (fun x hx => h x (by simp at hx ⊢; exact .inr hx))]
theorem joinC_snoc : ∀ (ps : List (List UInt8)) (p : List UInt8), joinC (ps ++ [p]) = if ps = [] then p else joinC ps ++ 44 :: p
  | [], p => rfl
  | [q], p => rfl
  | q :: q' :: r, p => by
    have ih := joinC_snoc (q' :: r) p
    rw [if_neg (by simp)] at ih ⊢
    show q ++ 44 :: joinC (q' :: r ++ [p]) = (q ++ 44 :: joinC (q' :: r)) ++ 44 :: p
    rw [ih]
    simp
theorem textL_snoc (l : List Ace) (a : Ace) : textL (l ++ [a]) = (if l = [] then [] else textL l ++ [44]) ++ partText a := by
  unfold textL
  rw [List.map_append, List.map_singleton, joinC_snoc]
  cases l <;> simp

/-! ### A part's text -/
theorem letter_ne (t : Int) : letter t ≠ 58 ∧ letter t ≠ 44 := by
  unfold letter
  split
  · decide
  · split
    · decide
    · split <;> decide
theorem rwx_mem {p : Int} {c : UInt8} (h : c ∈ rwx p) : c = 45 ∨ c = 114 ∨ c = 119 ∨ c = 120 := by
  unfold rwx at h
  simp only [List.mem_cons, List.not_mem_nil, or_false] at h
  rcases h with h | h | h <;> (rw [h]; split <;> simp)
theorem isDig_of {c : UInt8} (h : isDig c = true) : 48 ≤ c.toNat ∧ c.toNat ≤ 57 := by simpa [isDig] using h
theorem itoa_mem {n : Int} {c : UInt8} (h : c ∈ Lib.itoa n) : c = 45 ∨ (48 ≤ c.toNat ∧ c.toNat ≤ 57) := by
  unfold Lib.itoa at h
  split at h
  · rcases List.mem_cons.1 h with rfl | h
    · exact .inl rfl
    · exact .inr (isDig_of (dec_dig _ _ h))
  · exact .inr (isDig_of (dec_dig _ _ h))
theorem itoa_not {n : Int} : (58 : UInt8) ∉ Lib.itoa n ∧ (44 : UInt8) ∉ Lib.itoa n := by
  constructor <;>
  · intro h
    rcases itoa_mem h with h | h
    · exact absurd h (by decide)
    · have e1 : (58 : UInt8).toNat = 58 := rfl
      have e2 : (44 : UInt8).toNat = 44 := rfl
      omega
theorem idText_not (a : Ace) : (58 : UInt8) ∉ idText a ∧ (44 : UInt8) ∉ idText a := by
  unfold idText
  split
  · exact itoa_not
  · simp
theorem partText_comma (a : Ace) : (44 : UInt8) ∉ partText a := by
  unfold partText
  intro h
  rcases List.mem_cons.1 h with h | h
  · exact (letter_ne a.1).2 h.symm
  · rcases List.mem_cons.1 h with h | h
    · exact absurd h (by decide)
    · rcases List.mem_append.1 h with h | h
      · exact (idText_not a).2 h
      · rcases List.mem_cons.1 h with h | h
        · exact absurd h (by decide)
        · rcases rwx_mem h with h | h | h | h <;> exact absurd h (by decide)
theorem itoa_ne (n : Int) : Lib.itoa n ≠ [] := by
  unfold Lib.itoa
  split
  · simp
  · exact dec_ne _

/-! ### Numbers -/
theorem uint10 (l : List UInt8) : ∀ (acc : Nat), (∀ c ∈ l, isDig c = true) → acc * 10 ^ l.length + valN l < 9223372036854775808 → Lib.parseUint10 acc l = .ok (acc * 10 ^ l.length + valN l) := by
  induction l with
  | nil => intro acc _ _; simp [Lib.parseUint10, valN]
  | cons c r ih =>
    intro acc hd hb
    have hc := isDig_of (hd c (by simp))
    have e : acc * 10 ^ (c :: r).length + valN (c :: r) = (acc * 10 + (c.toNat - 48)) * 10 ^ r.length + valN r := by
      rw [valN_cons, List.length_cons, Nat.pow_succ, Nat.add_mul, ← Nat.add_assoc]
      congr 2
      rw [Nat.mul_comm (10 ^ r.length) 10, Nat.mul_assoc]
    have hp : 1 ≤ 10 ^ r.length := Nat.one_le_pow _ _ (by decide)
    have hm : acc * 10 + (c.toNat - 48) ≤ (acc * 10 + (c.toNat - 48)) * 10 ^ r.length := Nat.le_mul_of_pos_right _ hp
    rw [e] at hb ⊢
    unfold Lib.parseUint10
    rw [if_pos hc, if_neg (by omega), if_neg (by omega)]
    exact ih _ (fun x hx => hd x (by simp [hx])) hb
theorem atoi_dec (n : Nat) (h : n < 9223372036854775808) : Lib.atoiAll (Lib.decDigits n) = .ok (n : Int) := by
  rcases hd : Lib.decDigits n with _ | ⟨c, r⟩
  · exact absurd hd (dec_ne n)
  · have hdig := dec_dig n
    rw [hd] at hdig
    have hc := isDig_of (hdig c (by simp))
    rw [Lib.atoiAll_plain c r (by omega) (by omega)]
    have hv := dec_val n
    rw [hd] at hv
    have hm : Lib.parseMag (c :: r) = .ok n := by
      unfold Lib.parseMag
      rw [if_neg (by simp), uint10 _ 0 hdig (by rw [hv]; omega), hv]
      simp
    rw [hm]
    unfold Lib.signless
    simp
    omega
theorem itoa_nat (n : Nat) : Lib.itoa (n : Int) = Lib.decDigits n := by unfold Lib.itoa; rw [if_neg (by omega)]; rfl
theorem idOf_itoa {i : Int} (h0 : 0 ≤ i) (h1 : i ≤ 2147483647) : idOf (Lib.itoa i) = some i := by
  obtain ⟨n, rfl⟩ : ∃ n : Nat, i = (n : Int) := ⟨i.toNat, by omega⟩
  unfold idOf
  rw [if_neg (itoa_ne _), itoa_nat, atoi_dec n (by omega)]

/-! ### A part, again -/
theorem indexByte_app {c : UInt8} : ∀ {p : List UInt8} (r : List UInt8), c ∉ p → Lib.indexByte (p ++ c :: r) c = (p.length : Int)
  | [], r, _ => by simp [Lib.indexByte]
  | x :: p, r, h => by
    rw [List.mem_cons] at h
    have h1 : (x == c) = false := by rw [beq_eq_false_iff_ne]; exact fun e => h (.inl e.symm)
    rw [List.cons_append]
    unfold Lib.indexByte
    rw [h1, indexByte_app r (fun e => h (.inr e))]
    have : ¬ ((p.length : Int) == -1) = true := by rw [beq_iff_eq]; omega
    simp [this]
theorem cutA_app {c : UInt8} {p : List UInt8} (r : List UInt8) (h : c ∉ p) : cutA c (p ++ c :: r) = (p, r) := by
  unfold cutA Lib.cut
  rw [Lib.index_one, indexByte_app r h, if_pos (by omega)]
  simp
theorem permOf_rwx {p : Int} (h0 : 0 ≤ p) (h1 : p ≤ 7) : permOf (rwx p) = some p := by
  have : p = 0 ∨ p = 1 ∨ p = 2 ∨ p = 3 ∨ p = 4 ∨ p = 5 ∨ p = 6 ∨ p = 7 := by omega
  rcases this with rfl | rfl | rfl | rfl | rfl | rfl | rfl | rfl <;> decide
theorem okPart_iff {a : Ace} (h : okPart a = true) : 1 ≤ a.1 ∧ a.1 ≤ 6 ∧ 0 ≤ a.2.2 ∧ a.2.2 ≤ 7 ∧ 0 ≤ a.2.1 ∧ a.2.1 ≤ 2147483647 ∧ (hasId a.1 = false → a.2.1 = 0) := by
  unfold okPart at h
  simp only [Bool.and_eq_true, decide_eq_true_eq] at h
  obtain ⟨⟨⟨⟨h1, h2⟩, h3⟩, h4⟩, h5⟩ := h
  by_cases hh : hasId a.1 = true
  · rw [if_pos hh] at h5
    simp at h5
    exact ⟨h1, h2, h3, h4, h5.1, h5.2, fun e => by rw [hh] at e; cases e⟩
  · rw [if_neg hh] at h5
    simp at h5
    exact ⟨h1, h2, h3, h4, by omega, by omega, fun _ => h5⟩
theorem guess_text {a : Ace} (h : okPart a = true) : guess (partText a) = some a := by
  obtain ⟨h1, h2, h3, h4, h5, h6, h7⟩ := okPart_iff h
  have e1 : cutA 58 (partText a) = ([letter a.1], idText a ++ 58 :: rwx a.2.2) := cutA_app (p := [letter a.1]) _ (by simp; exact (letter_ne a.1).1.symm)
  have e2 : cutA 58 (idText a ++ 58 :: rwx a.2.2) = (idText a, rwx a.2.2) := cutA_app _ (idText_not a).1
  have e3 : idOf (idText a) = some a.2.1 := by
    unfold idText
    by_cases hh : hasId a.1 = true
    · rw [if_pos hh]; exact idOf_itoa h5 h6
    · rw [if_neg hh, h7 (by simpa using hh)]; rfl
  have e4 : tagOf [letter a.1] (idText a) = some a.1 := by
    have hn := itoa_ne a.2.1
    obtain ⟨t, i, p⟩ := a
    simp only at h1 h2 hn ⊢
    have : t = 1 ∨ t = 2 ∨ t = 3 ∨ t = 4 ∨ t = 5 ∨ t = 6 := by omega
    rcases this with rfl | rfl | rfl | rfl | rfl | rfl <;> simp [letter, tagOf, idText, hasId, hn]
  unfold guess
  rw [e1]
  simp only
  rw [e2]
  simp only
  rw [e4, e3, permOf_rwx h3 h4]
theorem partOf_text {a : Ace} (h : okPart a = true) : partOf (partText a) = some a := by
  unfold partOf
  rw [guess_text h]
  simp
theorem partOf_some {s : List UInt8} {a : Ace} (h : partOf s = some a) : partText a = s := by
  unfold partOf at h
  split at h
  · split at h
    · cases h; assumption
    · cases h
  · cases h
theorem partsOf_some : ∀ {ps : List (List UInt8)} {l : List Ace}, partsOf ps = some l → ps = l.map partText
  | [], l, h => by cases h; rfl
  | p :: ps, l, h => by
    unfold partsOf at h
    rcases hp : partOf p with _ | a
    · rw [hp] at h; cases h
    · rw [hp] at h
      rcases hq : partsOf ps with _ | m
      · rw [hq] at h; cases h
      · rw [hq] at h
        cases h
        rw [List.map_cons, ← partsOf_some hq, partOf_some hp]
theorem partsOf_text : ∀ {l : List Ace}, (∀ a ∈ l, okPart a = true) → partsOf (l.map partText) = some l
  | [], _ => rfl
  | a :: l, h => by
    rw [List.map_cons]
    unfold partsOf
    rw [partOf_text (h a (by simp)), partsOf_text (fun x hx => h x (by simp [hx]))]
    rfl
theorem may_parts {l : List Ace} (h : may l = true) : (∀ a ∈ l, okPart a = true) ∧ l.length ≤ 32 ∧ order l = true ∧ tags l = true := by
  unfold may at h
  simp only [Bool.and_eq_true, decide_eq_true_eq, List.all_eq_true] at h
  exact ⟨h.1.1.2, h.1.1.1, h.1.2, h.2⟩
theorem may_ne {l : List Ace} (h : may l = true) : l ≠ [] := by rintro rfl; exact absurd h (by decide)
theorem get_iff (s : List UInt8) (l : List Ace) : getL s = some l ↔ may l = true ∧ textL l = s := by
  constructor
  · intro h
    unfold getL at h
    rcases hp : partsOf (cutAt 44 s) with _ | m
    · rw [hp] at h; cases h
    · rw [hp] at h
      simp only at h
      split at h
      · cases h
        refine ⟨by assumption, ?_⟩
        unfold textL
        rw [← partsOf_some hp, joinC_cut]
      · cases h
  · rintro ⟨h, rfl⟩
    obtain ⟨h1, h2, h3, h4⟩ := may_parts h
    unfold getL textL
    rw [cut_joinC (by simpa using may_ne h) (by intro p hp; obtain ⟨a, _, rfl⟩ := List.mem_map.1 hp; exact partText_comma a), partsOf_text h1]
    simp [h]
theorem get_text {l : List Ace} (h : may l = true) : getL (textL l) = some l := (get_iff _ _).2 ⟨h, rfl⟩
theorem part_len {a : Ace} (h : okPart a = true) : (partText a).length ≤ 16 := by
  obtain ⟨h1, h2, h3, h4, h5, h6, h7⟩ := okPart_iff h
  have : (idText a).length ≤ 10 := by
    unfold idText
    split
    · obtain ⟨n, hn⟩ : ∃ n : Nat, a.2.1 = (n : Int) := ⟨a.2.1.toNat, by omega⟩
      rw [hn, itoa_nat]
      exact dec_len 9 n (by omega)
    · simp
  simp [partText, rwx]
  omega
theorem joinC_len : ∀ (ps : List (List UInt8)), (∀ p ∈ ps, p.length ≤ 16) → (joinC ps).length ≤ 17 * ps.length
  | [], _ => by simp [joinC]
  | [p], h => by have := h p (by simp); simp [joinC]; omega
  | p :: q :: r, h => by
    have h1 := h p (by simp)
    have h2 := joinC_len (q :: r) (fun x hx => h x (by simp at hx ⊢; exact .inr hx))
    simp only [joinC, List.length_append, List.length_cons] at h2 ⊢
    omega
theorem text_len {l : List Ace} (h : may l = true) : (textL l).length ≤ 544 := by
  obtain ⟨h1, h2, h3, h4⟩ := may_parts h
  have := joinC_len (l.map partText) (by intro p hp; obtain ⟨a, ha, rfl⟩ := List.mem_map.1 hp; exact part_len (h1 a ha))
  rw [List.length_map] at this
  unfold textL
  omega
theorem get_long {s : List UInt8} (h : 544 < s.length) : getL s = none := by
  rcases hg : getL s with _ | l
  · rfl
  · obtain ⟨h1, h2⟩ := (get_iff s l).1 hg
    have := text_len h1
    rw [h2] at this
    omega

/-! ### What the library splits -/
theorem lib_split (c : UInt8) : ∀ (n : Nat) (s : List UInt8), s.length ≤ n → Lib.splitK [c] 0 (Lib.count s [c]) s = cutAt c s := by
  intro n
  induction n with
  | zero =>
    intro s h
    have : s = [] := List.eq_nil_of_length_eq_zero (by omega)
    subst this
    rfl
  | succ n ih =>
    intro s h
    by_cases hm : c ∈ s
    · obtain ⟨p, r, rfl, hp⟩ := mem_cut hm
      have hi : Lib.index (p ++ c :: r) [c] = (p.length : Int) := by rw [Lib.index_one, indexByte_app r hp]
      have hd : (p ++ c :: r).drop (p.length + [c].length) = r := by simp
      rw [Lib.count_hit (by simp) hi, hd, cutAt_one r hp, Nat.add_comm]
      unfold Lib.splitK
      rw [hi, if_neg (by rw [beq_iff_eq]; omega)]
      simp only [Int.toNat_natCast, Nat.add_zero, hd, List.take_left]
      rw [ih r (by simp at h; omega)]
    · have hi : Lib.index s [c] = -1 := by
        rw [Lib.index_one]
        have : ∀ s : List UInt8, c ∉ s → Lib.indexByte s c = -1 := by
          intro s
          induction s with
          | nil => intro _; rfl
          | cons x s ihs =>
            intro hn
            rw [List.mem_cons] at hn
            have h1 : (x == c) = false := by rw [beq_eq_false_iff_ne]; exact fun e => hn (.inl e.symm)
            unfold Lib.indexByte
            rw [h1, ihs (fun e => hn (.inr e))]
            simp
        exact this s hm
      rw [Lib.count_miss hi, cutAt_none hm]
      rfl
end AclM
end Go.Proofs.YtbhnhoenjoagbaaGreatDoor
