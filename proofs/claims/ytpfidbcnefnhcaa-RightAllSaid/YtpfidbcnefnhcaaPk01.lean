/- Bundle of 13 texts. -/
import Derived.Test.YtpfidbcnefnhcaaDec
import Derived.Test.YtpfidbcnefnhcaaKit
import Derived.Test.YtpfidbcnefnhcaaRows
import Derived.Deep.QuietTactic
import Derived.Deep.RegionHeld3
import Derived.BigQuiet
import Derived.Outline
import Derived.Below
import Derived.OwnWalk
import Derived.Laws.OwnMore
import Derived.Laws.AppendOwnNone
import Derived.Maps.AppendAt
import Derived.Deep.AppendLies
import Derived.Lib.SmallJoins
import Derived.Lib.AtoiAllCases
import Derived.Lib.IndexBytes
import Derived.Lib.CountLaws
import Derived.Lib.Split
import Derived.Shelf.RegionOpenPlain
import Derived.Lib.Bytealg
import Derived.Lib.Strings
/- Small facts for the walks over records. -/
namespace Go.Proofs.Ytpfidbcnefnhcaa
open Go.RowKit
set_option linter.unusedVariables false

def strOf (l : List UInt8) : ByteArray := ⟨l.toArray⟩
theorem strOf_list (l : List UInt8) : (strOf l).data.toList = l := by simp [strOf]
theorem strOf_self (S : ByteArray) : strOf S.data.toList = S := bytes_ext (by rw [strOf_list])
end Go.Proofs.Ytpfidbcnefnhcaa

/- Slices by what they hold, whatever an element is: one that a call makes by appending (Row); one that can be read (At). -/
namespace Go.Proofs.Ytpfidbcnefnhcaa
open Go.RowKit
set_option linter.unusedVariables false

structure Elt (α : Type) where
  t : TypeId
  st : TypeId
  k : Nat
  z : Value
  bytes : Nat
  enc : α → List Value
  len : ∀ x, (enc x).length = k
  one : ∀ x, ∀ u ∈ enc x, u.oneCell' = true
  pos : 0 < k
  und : Try.prog.underlying st = some (.slice t)
  inf : (Try.prog.info? t).map (fun i => (i.zero, i.size, i.bytes)) = some (some z, k, bytes)
  zk : z.cells.size = k
  small : bytes ≤ 4096

variable {α : Type} {E : Elt α}
def cellsE (E : Elt α) : List α → List Value
  | [] => []
  | x :: l => E.enc x ++ cellsE E l
theorem cellsE_append (a b : List α) : cellsE E (a ++ b) = cellsE E a ++ cellsE E b := by
  induction a with
  | nil => rfl
  | cons r a ih => simp [cellsE, ih]
theorem cellsE_length (l : List α) : (cellsE E l).length = l.length * E.k := by
  induction l with
  | nil => simp [cellsE]
  | cons r l ih => simp only [cellsE, List.length_append, List.length_cons, ih, E.len, Nat.add_mul]; omega
theorem cellsE_at (l : List α) : ∀ (j : Nat) (h : j < l.length) (i : Nat) (u : Value), (E.enc l[j])[i]? = some u → (cellsE E l)[j * E.k + i]? = some u := by
  induction l with
  | nil => intro j h; simp at h
  | cons r l ih =>
    intro j h i u hu
    have hi : i < E.k := by rw [← E.len]; exact (List.getElem?_eq_some_iff.1 hu).1
    cases j with
    | zero =>
      simp only [cellsE, Nat.zero_mul, Nat.zero_add]
      rw [List.getElem?_append_left (by rw [E.len]; exact hi)]
      exact hu
    | succ j =>
      have h2 := ih j (by simpa using h) i u (by simpa using hu)
      simp only [cellsE]
      rw [List.getElem?_append_right (by rw [E.len, Nat.add_mul]; omega), E.len, show (j + 1) * E.k + i - E.k = j * E.k + i by rw [Nat.add_mul]; omega]
      exact h2
theorem cellsE_back (l : List α) : ∀ (n : Nat) (u : Value), (cellsE E l)[n]? = some u → ∃ (j : Nat) (h : j < l.length) (i : Nat), n = j * E.k + i ∧ (E.enc l[j])[i]? = some u := by
  induction l with
  | nil => intro n u h; simp [cellsE] at h
  | cons r l ih =>
    intro n u hu
    simp only [cellsE] at hu
    by_cases hn : n < E.k
    · rw [List.getElem?_append_left (by rw [E.len]; exact hn)] at hu
      exact ⟨0, by simp, n, by simp, hu⟩
    · rw [List.getElem?_append_right (by rw [E.len]; omega), E.len] at hu
      obtain ⟨j, h, i, e, hi⟩ := ih _ _ hu
      exact ⟨j + 1, by simpa using h, i, by rw [Nat.add_mul]; omega, by simpa using hi⟩
theorem cellsE_one (l : List α) : ∀ u ∈ cellsE E l, u.oneCell' = true := by
  induction l with
  | nil => intro u h; simp [cellsE] at h
  | cons r l ih =>
    intro u h
    rcases List.mem_append.1 h with h | h
    · exact E.one r u h
    · exact ih u h

def Row (E : Elt α) (B : Nat) (v : Value) (l : List α) (w : World) : Prop := w.ownsRow B E.t E.k v l.length (cellsE E l)
theorem Row.nil (w : World) (B : Nat) : Row E B (.slice none 0 0) [] w := World.ownsRow_nil w B _ _
theorem Row.drew {B : Nat} {v : Value} {l : List α} {w : World} (h : Row E B v l w) : Row E B v l w.drew := World.ownsRow.drew h
theorem Row.alloc {B : Nat} {v : Value} {l : List α} {w : World} (h : Row E B v l w) (o : Obj) : Row E B v l (w.alloc o) := World.ownsRow.alloc h o
theorem Row.call {B : Nat} {v : Value} {l : List α} {w w1 : World} (h : Row E B v l w) (hb : Below w.heap.size w w1) : Row E B v l w1 := by
  refine World.ownsRow.kept h (row := none) ⟨hb.os, hb.tape, hb.output, hb.size, fun k hk _ => hb.block k hk⟩ ?_
  cases hv : v.ownBlock with
  | none => exact Or.inl rfl
  | some k => exact Or.inr (by simp)
theorem Row.lt {B : Nat} {v : Value} {l : List α} {w : World} (h : Row E B v l w) : ∀ k, v.ownBlock = some k → B ≤ k ∧ k < w.heap.size := World.ownsRow.lt h
theorem Row.mono {B B' : Nat} {v : Value} {l : List α} {w : World} (h : Row E B v l w) (hb : B' ≤ B) : Row E B' v l w := Go.Joins.ownsRow_le h hb
def At (E : Elt α) (v : Value) (l : List α) (w : World) : Prop :=
  (l = [] ∧ (v = .slice none 0 0 ∨ ∃ ad cap, v = .slice (some ad) 0 cap)) ∨
  ∃ g off cap, v = .slice (some ⟨g, off, none⟩) l.length cap ∧ l.length ≤ cap ∧ g < w.heap.size ∧ ∀ j (h : j < l.length) i u, (E.enc l[j])[i]? = some u → w.cell? ⟨g, off + (j * E.k + i), none⟩ = some u
theorem At.nil (w : World) : At E (.slice none 0 0) [] w := .inl ⟨rfl, .inl rfl⟩
theorem Row.at {B : Nat} {v : Value} {l : List α} {w : World} (h : Row E B v l w) : At E v l w := by
  have h' := h
  rcases h.2 with ⟨hv, h0⟩ | ⟨g, cap, cur, hv, hB, hg, hc1, hc2, hcs, ht⟩
  · exact .inl ⟨List.eq_nil_of_length_eq_zero h0, .inl hv⟩
  · subst hv
    refine .inr ⟨g, 0, cap, rfl, hc1, (Array.getElem?_eq_some_iff.1 hg).1, fun j hj i u hu => ?_⟩
    have e1 := World.ownsRow.cells h' rfl _ _ (cellsE_at l j hj i u hu)
    rw [addr_zero_add] at e1
    rw [Nat.zero_add]
    exact e1
theorem At.call {v : Value} {l : List α} {w w1 : World} (h : At E v l w) (hb : Below w.heap.size w w1) : At E v l w1 := by
  rcases h with h | ⟨g, off, cap, hv, hc, hg, hj⟩
  · exact .inl h
  · exact .inr ⟨g, off, cap, hv, hc, Nat.lt_of_lt_of_le hg hb.size, fun j h i u hu => cell_kept hb (hj j h i u hu)⟩
theorem At.drew {v : Value} {l : List α} {w : World} (h : At E v l w) : At E v l w.drew := h.call (gr_drew (Below.refl _ _))
theorem At.alloc {v : Value} {l : List α} {w : World} (h : At E v l w) (o : Obj) : At E v l (w.alloc o) := h.call (gr_alloc (Below.refl _ _) o)
theorem At.shape {v : Value} {l : List α} {w : World} (h : At E v l w) : ∃ p cap, v = .slice p l.length cap ∧ l.length ≤ cap := by
  rcases h with ⟨rfl, hv | ⟨ad, cap, hv⟩⟩ | ⟨g, off, cap, hv, hc, _⟩
  · exact ⟨_, _, hv, Nat.le_refl _⟩
  · exact ⟨_, _, hv, Nat.zero_le _⟩
  · exact ⟨_, _, hv, hc⟩
theorem At.open {v : Value} {l : List α} {w : World} (h : At E v l w) (hl : l ≠ []) :
    ∃ g off cap, v = .slice (some ⟨g, off, none⟩) l.length cap ∧ l.length ≤ cap ∧ g < w.heap.size ∧ ∀ j (h : j < l.length) i u, (E.enc l[j])[i]? = some u → w.cell? ⟨g, off + (j * E.k + i), none⟩ = some u := by
  rcases h with ⟨h, _⟩ | h
  · exact absurd h hl
  · exact h
theorem At.grown {v : Value} {l : List α} {w w1 : World} {row : Option Nat} (h : At E v l w) (hb : w.grownBy w1 row) (hne : ∀ k, v.ownBlock = some k → row ≠ some k) : At E v l w1 := by
  rcases h with h | ⟨g, off, cap, hv, hc, hg, hj⟩
  · exact .inl h
  · refine .inr ⟨g, off, cap, hv, hc, Nat.lt_of_lt_of_le hg hb.size, fun j h i u hu => ?_⟩
    rw [World.grownBy.cell_far hb ⟨g, _, none⟩ hg (by intro e; exact hne g (by rw [hv]; rfl) e.symm)]
    exact hj j h i u hu
theorem lit_row (w : World) (l : List α) (cs : Array Value) (B : Nat) (n : Nat) (hn : n = l.length) (hB : B ≤ w.heap.size) (hm : l.length ≤ 1000000) (h : cs.toList = cellsE E l) :
    Row E B (.slice (some ⟨w.heap.size, 0, none⟩) n n) l (w.alloc (.cells cs E.t)) := by
  subst hn
  have e : cs = (cellsE E l).toArray := by rw [← h]
  subst e
  have := World.ownsRow_lit (e := E.t) (size := E.k) w (cellsE E l).toArray l.length hB (by unfold maxLen; omega) (by simp [cellsE_length])
  simpa [Row] using this

theorem addr_off_add (g o j : Nat) : (⟨g, o, none⟩ : Addr).add j = ⟨g, o + j, none⟩ := by
  by_cases h : j = 0 <;> simp [Addr.add, h]
theorem run_append_at (E : Elt α) (ty : TypeId) (B : Nat) (v xv : Value) (l m : List α) (w : World) (hrow : Row E B v l w) (hat : At E xv m w) (hlen : l.length + m.length ≤ 1000000) (hB : B ≤ w.heap.size) :
    ∃ v' w', (Builtin.append_ #[E.st, E.st] ty #[v, xv]).run Try.prog w = .ok v' w' ∧ Row E B v' (l ++ m) w' ∧ Below B w w' ∧ w.grownBy w' v.ownBlock ∧ (v'.ownBlock = v.ownBlock ∨ v'.ownBlock = some w.heap.size) := by
  obtain ⟨i0, hi, hz0, hz1, hz2⟩ := info_parts E.inf
  have hsm := E.small
  have hby : ∀ n : Nat, n ≤ 1000000 → n * E.bytes ≤ 140737488355328 := by
    intro n hn
    have : n * E.bytes ≤ 1000000 * 4096 := Nat.mul_le_mul hn hsm
    omega
  have fin : ∀ w', w.grownBy w' v.ownBlock → Below B w w' := fun w' h2 => (Below.refl B w).grown h2 hB (fun k hk => (World.ownsRow.lt hrow k hk).1)
  rcases hat with ⟨rfl, rfl | ⟨ad, cap, rfl⟩⟩ | ⟨g, off, cap, rfl, hc, hg, hj⟩
  · refine ⟨v, w, run_append_owned_none (P := Try.prog) (w := w) B E.st ty E.t i0 E.k E.und hi v l.length (cellsE E l) hrow, by rw [List.append_nil]; exact hrow, Below.refl _ _, ⟨rfl, rfl, rfl, Nat.le_refl _, fun _ _ _ => rfl⟩, .inl rfl⟩
  · obtain ⟨v', w', hr, h2, h3, _, h5⟩ := run_append_own_at (P := Try.prog) w B E.st ty E.t i0 E.z E.k E.bytes E.und hi hz0 hz1 hz2 E.zk E.pos v l.length (cellsE E l) hrow ad 0 cap [] (by simp) (by simp) (by simp) (by unfold maxLen; simp at hlen; omega) (hby _ (by simpa using hlen)) hB
    refine ⟨v', w', hr, ?_, fin _ h3, h3, h5⟩
    unfold Row
    simpa using h2
  · obtain ⟨v', w', hr, h2, h3, _, h5⟩ := run_append_own_at (P := Try.prog) w B E.st ty E.t i0 E.z E.k E.bytes E.und hi hz0 hz1 hz2 E.zk E.pos v l.length (cellsE E l) hrow ⟨g, off, none⟩ m.length cap (cellsE E m) (cellsE_length m) (by
      intro n u hu
      obtain ⟨j, hjl, i, e, hi'⟩ := cellsE_back m n u hu
      have := hj j hjl i u hi'
      rw [← e] at this
      rw [← this, addr_off_add]) (cellsE_one m) (by unfold maxLen; omega) (hby _ hlen) hB
    refine ⟨v', w', hr, ?_, fin _ h3, h3, h5⟩
    unfold Row
    rw [cellsE_append, List.length_append]
    exact h2
theorem wp_append_row {o : Oper} {a : Act} {K : Act → World → Prop} {Q : Exit → Act → World → Prop} (E : Elt α) (s x : Operand)
    (ho : o.op = .call { callee := .builtin .append, args := #[s, x], argTypes := #[E.st, E.st] })
    (B : Nat) (v xv : Value) (l m : List α) (w : World)
    (hs : a.eval s = v) (hrow : Row E B v l w) (hx : a.eval x = xv) (hat : At E xv m w)
    (hlen : l.length + m.length ≤ 1000000) (hB : B ≤ w.heap.size)
    (h : ∀ v' w', Row E B v' (l ++ m) w' → Below B w w' → w.grownBy w' v.ownBlock → (v'.ownBlock = v.ownBlock ∨ v'.ownBlock = some w.heap.size) → K (a.put o.dst v') w') :
    Oper.wp Try.prog o a w K Q := by
  obtain ⟨v', w', hr, h2, h3, h4, h5⟩ := run_append_at E o.type B v xv l m w hrow hat hlen hB
  unfold Oper.wp execOp
  simp only [ho, resolve, invoke, builtin, Sem.run_bind, Sem.run_pure, Result.andThen_ok, List.map_toArray, List.map_cons, List.map_nil, hs, hx, hr]
  exact h v' w' h2 h3 h4 h5
theorem wp_append_at {ops : Array Oper} {rest : List Oper} {o : Oper} {a : Act} {Q : Exit → Act → World → Prop} (E : Elt α) (hgd : o.guard = none) (s x : Operand)
    (ho : o.op = .call { callee := .builtin .append, args := #[s, x], argTypes := #[E.st, E.st] })
    (B : Nat) (v xv : Value) (l m : List α) (w : World)
    (hs : a.eval s = v) (hrow : Row E B v l w) (hx : a.eval x = xv) (hat : At E xv m w)
    (hlen : l.length + m.length ≤ 1000000) (hB : B ≤ w.heap.size)
    (h : ∀ v' w', Row E B v' (l ++ m) w' → Below B w w' → w.grownBy w' v.ownBlock → (v'.ownBlock = v.ownBlock ∨ v'.ownBlock = some w.heap.size) → wpList Try.prog ops Q rest (a.put o.dst v') w') :
    wpList Try.prog ops Q (o :: rest) a w :=
  wpList_plain hgd fun K hK => wp_append_row E s x ho B v xv l m w hs hrow hx hat hlen hB fun v' w' h1 h2 h3 h4 => hK _ _ (h v' w' h1 h2 h3 h4)
end Go.Proofs.Ytpfidbcnefnhcaa

/- Access lists: what is valid, its text, its mode, what a text says. -/
namespace Go.Proofs.Ytpfidbcnefnhcaa
open Go.RowKit
set_option linter.unusedVariables false
set_option linter.unusedSimpArgs false
namespace AclM
open DecM

abbrev Ace := Int × Int × Int
def hasId (t : Int) : Bool := decide (t = 2) || decide (t = 4)
def okPart (a : Ace) : Bool := decide (1 ≤ a.1) && decide (a.1 ≤ 6) && decide (0 ≤ a.2.2) && decide (a.2.2 ≤ 7) && (if hasId a.1 = true then decide (0 ≤ a.2.1) && decide (a.2.1 ≤ 2147483647) else decide (a.2.1 = 0))
def ltA (a b : Ace) : Bool := decide (a.1 < b.1) || (decide (a.1 = b.1) && decide (a.2.1 < b.2.1))
def order : List Ace → Bool
  | a :: b :: l => ltA a b && order (b :: l)
  | _ => true
def findN (t : Int) : List Ace → Nat → Int
  | [], _ => -1
  | a :: l, i => if a.1 = t then (i : Int) else findN t l (i + 1)
def has (l : List Ace) (t : Int) : Bool := decide (0 ≤ findN t l 0)
def tags (l : List Ace) : Bool := has l 1 && has l 3 && has l 6 && (has l 5 == (has l 2 || has l 4))
def may (l : List Ace) : Bool := decide (l.length ≤ 32) && l.all okPart && order l && tags l

def letter (t : Int) : UInt8 := if t = 1 ∨ t = 2 then 117 else if t = 3 ∨ t = 4 then 103 else if t = 5 then 109 else 111
def rwx (p : Int) : List UInt8 := [if p.toNat &&& 4 = 0 then 45 else 114, if p.toNat &&& 2 = 0 then 45 else 119, if p.toNat &&& 1 = 0 then 45 else 120]
def idText (a : Ace) : List UInt8 := if hasId a.1 = true then Lib.itoa a.2.1 else []
def partText (a : Ace) : List UInt8 := letter a.1 :: 58 :: (idText a ++ 58 :: rwx a.2.2)
def joinC : List (List UInt8) → List UInt8
  | [] => []
  | [p] => p
  | p :: q :: r => p ++ 44 :: joinC (q :: r)
def textL (l : List Ace) : List UInt8 := joinC (l.map partText)

def cutAt (c : UInt8) : List UInt8 → List (List UInt8)
  | [] => [[]]
  | x :: r => if x = c then [] :: cutAt c r else match cutAt c r with
    | p :: ps => (x :: p) :: ps
    | [] => [[x]]

def permOf : List UInt8 → Option Int
  | [a, b, c] => some ((if a = 114 then 4 else 0) + (if b = 119 then 2 else 0) + (if c = 120 then 1 else 0))
  | _ => none
def tagOf (l id : List UInt8) : Option Int :=
  if l = [117] then some (if id = [] then 1 else 2) else
  if l = [103] then some (if id = [] then 3 else 4) else
  if l = [109] then (if id = [] then some 5 else none) else
  if l = [111] then (if id = [] then some 6 else none) else none
def idOf (id : List UInt8) : Option Int := if id = [] then some 0 else match Lib.atoiAll id with
  | .ok n => some n
  | _ => none
def cutA (c : UInt8) (s : List UInt8) : List UInt8 × List UInt8 := ((Lib.cut s [c]).1, (Lib.cut s [c]).2.1)
def guess (s : List UInt8) : Option Ace :=
  match tagOf (cutA 58 s).1 (cutA 58 (cutA 58 s).2).1 with
  | none => none
  | some t => match idOf (cutA 58 (cutA 58 s).2).1 with
    | none => none
    | some i => match permOf (cutA 58 (cutA 58 s).2).2 with
      | none => none
      | some p => some (t, i, p)
def partOf (s : List UInt8) : Option Ace := match guess s with
  | some a => if partText a = s then some a else none
  | none => none
def partsOf : List (List UInt8) → Option (List Ace)
  | [] => some []
  | p :: ps => match partOf p with
    | none => none
    | some a => (partsOf ps).map (a :: ·)
def getL (s : List UInt8) : Option (List Ace) := match partsOf (cutAt 44 s) with
  | some l => if may l = true then some l else none
  | none => none

/-! ### Cuts -/
theorem okPart_iff {a : Ace} (h : okPart a = true) : 1 ≤ a.1 ∧ a.1 ≤ 6 ∧ 0 ≤ a.2.2 ∧ a.2.2 ≤ 7 ∧ 0 ≤ a.2.1 ∧ a.2.1 ≤ 2147483647 ∧ (hasId a.1 = false → a.2.1 = 0) := by
  unfold okPart at h
  simp only [Bool.and_eq_true, decide_eq_true_eq] at h
  obtain ⟨⟨⟨⟨h1, h2⟩, h3⟩, h4⟩, h5⟩ := h
  by_cases hh : hasId a.1 = true
  · rw [if_pos hh] at h5
    simp at h5
    exact ⟨h1, h2, h3, h4, h5.1, h5.2, fun e => by rw [hh] at e; cases e⟩
  · rw [if_neg hh] at h5
    simp at h5
    exact ⟨h1, h2, h3, h4, by omega, by omega, fun _ => h5⟩
theorem may_parts {l : List Ace} (h : may l = true) : (∀ a ∈ l, okPart a = true) ∧ l.length ≤ 32 ∧ order l = true ∧ tags l = true := by
  unfold may at h
  simp only [Bool.and_eq_true, decide_eq_true_eq, List.all_eq_true] at h
  exact ⟨h.1.1.2, h.1.1.1, h.1.2, h.2⟩
theorem may_ne {l : List Ace} (h : may l = true) : l ≠ [] := by rintro rfl; exact absurd h (by decide)
end AclM
end Go.Proofs.Ytpfidbcnefnhcaa

/- Access lists in memory. -/
namespace Go.Proofs.Ytpfidbcnefnhcaa.AclW
open Go.RowKit
open AclM
set_option linter.unusedVariables false

def aceE : Elt Ace where
  t := 51
  st := 24
  k := 3
  z := .agg #[.int .i64 0, .int .i64 0, .int .i64 0]
  bytes := 24
  enc a := [.int .i64 a.1, .int .i64 a.2.1, .int .i64 a.2.2]
  len _ := rfl
  one _ u h := by simp at h; rcases h with rfl | rfl | rfl <;> rfl
  pos := by decide
  und := Try.underlying24
  inf := by kernel_rfl
  zk := rfl
  small := by decide
theorem ace_open {v : Value} {l : List Ace} {w : World} (h : At aceE v l w) (hl : l ≠ []) :
    ∃ g off cap, v = .slice (some ⟨g, off, none⟩) l.length cap ∧ l.length ≤ cap ∧ g < w.heap.size ∧ ∀ j (h : j < l.length), w.cell? ⟨g, off + j * 3, none⟩ = some (.int .i64 l[j].1) ∧ w.cell? ⟨g, off + j * 3 + 1, none⟩ = some (.int .i64 l[j].2.1) ∧ w.cell? ⟨g, off + j * 3 + 2, none⟩ = some (.int .i64 l[j].2.2) := by
  obtain ⟨g, off, cap, h1, h2, h3, h4⟩ := h.open hl
  refine ⟨g, off, cap, h1, h2, h3, fun j hj => ?_⟩
  have e : ∀ i, off + (j * aceE.k + i) = off + j * 3 + i := by intro i; show off + (j * 3 + i) = _; omega
  have a0 := h4 j hj 0 _ rfl
  have a1 := h4 j hj 1 _ rfl
  have a2 := h4 j hj 2 _ rfl
  rw [e] at a0 a1 a2
  exact ⟨a0, a1, a2⟩
theorem ace_at {w : World} {g off cap n : Nat} {l : List Ace} (hn : n = l.length) (hc : l.length ≤ cap) (hg : g < w.heap.size)
    (h : ∀ j (h : j < l.length), w.cell? ⟨g, off + j * 3, none⟩ = some (.int .i64 l[j].1) ∧ w.cell? ⟨g, off + j * 3 + 1, none⟩ = some (.int .i64 l[j].2.1) ∧ w.cell? ⟨g, off + j * 3 + 2, none⟩ = some (.int .i64 l[j].2.2)) : At aceE (.slice (some ⟨g, off, none⟩) n cap) l w := by
  subst hn
  refine .inr ⟨g, off, cap, rfl, hc, hg, fun j hj i u hu => ?_⟩
  have e : off + (j * aceE.k + i) = off + j * 3 + i := by show off + (j * 3 + i) = _; omega
  rw [e]
  obtain ⟨a0, a1, a2⟩ := h j hj
  have hi : i < 3 := (List.getElem?_eq_some_iff.1 hu).1
  have : i = 0 ∨ i = 1 ∨ i = 2 := by omega
  rcases this with rfl | rfl | rfl <;> (cases hu; assumption)
def Ints (l : List Ace) : Prop := ∀ a ∈ l, -9223372036854775808 ≤ a.1 ∧ a.1 ≤ 9223372036854775807 ∧ -9223372036854775808 ≤ a.2.1 ∧ a.2.1 ≤ 9223372036854775807 ∧ -9223372036854775808 ≤ a.2.2 ∧ a.2.2 ≤ 9223372036854775807
end Go.Proofs.Ytpfidbcnefnhcaa.AclW

/- Walks over package acl: whether a list is valid. -/
namespace Go.Proofs.Ytpfidbcnefnhcaa.AclW
open Go.RowKit
open AclM
set_option linter.unusedVariables false

def aceV (a : Ace) : Value := .agg #[.int .i64 a.1, .int .i64 a.2.1, .int .i64 a.2.2]

theorem drop_cons {β : Type} {l : List β} {i : Nat} (h : i < l.length) : l.drop i = l[i] :: l.drop (i + 1) := List.drop_eq_getElem_cons h
end Go.Proofs.Ytpfidbcnefnhcaa.AclW

/- Walks over package acl: whether parts are in order. -/
namespace Go.Proofs.Ytpfidbcnefnhcaa.AclW
open Go.RowKit
open AclM
set_option linter.unusedVariables false

theorem ace_look {v : Value} {l : List Ace} {w : World} (h : At aceE v l w) :
    ∃ p cap, v = .slice p l.length cap ∧ l.length ≤ cap ∧ ∀ j (h : j < l.length), ∃ g off, p = some ⟨g, off, none⟩ ∧ g < w.heap.size ∧ w.cell? ⟨g, off + j * 3, none⟩ = some (.int .i64 l[j].1) ∧ w.cell? ⟨g, off + j * 3 + 1, none⟩ = some (.int .i64 l[j].2.1) ∧ w.cell? ⟨g, off + j * 3 + 2, none⟩ = some (.int .i64 l[j].2.2) := by
  by_cases hl : l = []
  · obtain ⟨p, cap, h1, h2⟩ := h.shape
    exact ⟨p, cap, h1, h2, fun j hj => by subst hl; simp at hj⟩
  · obtain ⟨g, off, cap, h1, h2, h3, h4⟩ := ace_open h hl
    exact ⟨_, cap, h1, h2, fun j hj => ⟨g, off, rfl, h3, h4 j hj⟩⟩
end Go.Proofs.Ytpfidbcnefnhcaa.AclW

/- Walks over package acl: the first part of a tag; whether a list is valid. -/
namespace Go.Proofs.Ytpfidbcnefnhcaa.AclW
open Go.RowKit
open AclM
set_option linter.unusedVariables false

theorem find_drop {t : Int} {l : List Ace} {i : Nat} (h : i < l.length) : findN t (l.drop i) i = if l[i].1 = t then (i : Int) else findN t (l.drop (i + 1)) (i + 1) := by
  rw [drop_cons h]
  rfl
theorem find_end {t : Int} {l : List Ace} {i : Nat} (h : l.length ≤ i) : findN t (l.drop i) i = -1 := by
  rw [List.drop_eq_nil_of_le h]
  rfl
end Go.Proofs.Ytpfidbcnefnhcaa.AclW

/- Walks over package acl: May, Mode, From, Same. -/
namespace Go.Proofs.Ytpfidbcnefnhcaa.AclW
open Go.RowKit
open AclM
set_option linter.unusedVariables false

def permN (l : List Ace) (t : Int) : Int := if findN t l 0 < 0 then 0 else (l.getD (findN t l 0).toNat (0, 0, 0)).2.2
theorem findN_in (t : Int) : ∀ (l : List Ace) (i : Nat), findN t l i = -1 ∨ ∃ k, k < l.length ∧ findN t l i = ((i + k : Nat) : Int)
  | [], i => .inl rfl
  | a :: l, i => by
    unfold findN
    by_cases h : a.1 = t
    · rw [if_pos h]; exact .inr ⟨0, by simp, by simp⟩
    · rw [if_neg h]
      rcases findN_in t l (i + 1) with h1 | ⟨k, h1, h2⟩
      · exact .inl h1
      · exact .inr ⟨k + 1, by simpa using h1, by rw [h2]; congr 1; omega⟩
def modeL (l : List Ace) : Int := 64 * permN l 1 + 8 * permN l (if has l 5 = true then 5 else 3) + permN l 6
theorem permN_in {l : List Ace} (h : ∀ a ∈ l, okPart a = true) (t : Int) : 0 ≤ permN l t ∧ permN l t ≤ 7 := by
  unfold permN
  rcases findN_in t l 0 with h1 | ⟨k, h1, h2⟩
  · rw [h1, if_pos (by decide)]; decide
  · rw [h2, if_neg (by omega)]
    have := okPart_iff (h l[k] (List.getElem_mem h1))
    simp only [Nat.zero_add, Int.toNat_natCast, List.getD, List.getElem?_eq_getElem h1, Option.getD_some]
    omega
theorem and7 (n : Int) : bits .and .i64 n 7 = n % 8 := by
  have key : (BitVec.ofInt 64 n &&& BitVec.ofInt 64 7).toNat = (n % ((2 ^ 64 : Nat) : Int)).toNat % 2 ^ 3 := by
    rw [BitVec.toNat_and, BitVec.toNat_ofInt, show (BitVec.ofInt 64 7).toNat = 2 ^ 3 - 1 by decide, Nat.and_two_pow_sub_one_eq_mod]
  show IntKind.i64.wrap ((BitVec.ofInt 64 n &&& BitVec.ofInt 64 7).toNat : Int) = _
  rw [key, IntKind.wrap_i64]
  omega
end Go.Proofs.Ytpfidbcnefnhcaa.AclW

/- A file's capabilities as the document has them, in plain Lean: which may be, their bytes, what any bytes say. -/
namespace Go.Proofs.Ytpfidbcnefnhcaa.CapsM
set_option linter.unusedVariables false

structure Cap where
  v : Int
  p : Nat
  i : Nat
  e : Bool
  r : Int

def Fits (c : Cap) : Prop := c.p < 18446744073709551616 ∧ c.i < 18446744073709551616
def none0 : Cap := ⟨0, 0, 0, false, 0⟩
def may (c : Cap) : Bool :=
  if c.v = 0 then decide (c.p = 0 ∧ c.i = 0 ∧ c.e = false ∧ c.r = 0)
  else if c.v = 2 then decide (c.r = 0)
  else if c.v = 3 then decide (0 ≤ c.r ∧ c.r ≤ 2147483647) else false
def four (n : Nat) : List UInt8 := [UInt8.ofNat n, UInt8.ofNat (n / 256), UInt8.ofNat (n / 65536), UInt8.ofNat (n / 16777216)]
def first (c : Cap) : Nat := c.v.toNat * 16777216 + if c.e then 1 else 0
def nums (c : Cap) : List Nat := first c :: c.p % 4294967296 :: c.i % 4294967296 :: c.p / 4294967296 :: c.i / 4294967296 :: if c.v = 3 then [c.r.toNat] else []
def bytesOf (l : List Nat) : List UInt8 := l.flatMap four
def putL (c : Cap) : List UInt8 := if may c = true ∧ c.v ≠ 0 then bytesOf (nums c) else []
def le4 : List UInt8 → Nat
  | a :: b :: c :: d :: _ => a.toNat + b.toNat * 256 + c.toNat * 65536 + d.toNat * 16777216
  | _ => 0
def guess (l : List UInt8) (r : Nat) : Cap :=
  ⟨(le4 l / 16777216 : Nat), le4 (l.drop 4) + le4 (l.drop 12) * 4294967296, le4 (l.drop 8) + le4 (l.drop 16) * 4294967296, decide (le4 l % 2 = 1), (r : Nat)⟩
open Classical in
noncomputable def getL (l : List UInt8) : Option Cap :=
  if l = [] then some none0 else if putL (guess l (le4 (l.drop 20))) = l then some (guess l (le4 (l.drop 20))) else none

def gval (l : List UInt8) : Cap := guess l (if le4 l / 16777216 = 3 then le4 (l.drop 20) else 0)
end Go.Proofs.Ytpfidbcnefnhcaa.CapsM

/- Percent-encoding as the document has it, in plain Lean: what Put writes, what is read back, and that each is the other's way back. -/
namespace Go.Proofs.Ytpfidbcnefnhcaa.EscM

def digits : List UInt8 := [48, 49, 50, 51, 52, 53, 54, 55, 56, 57, 65, 66, 67, 68, 69, 70]
def H (n : Nat) : UInt8 := digits.getD n 0
def dig (c : UInt8) : Option Nat := digits.findIdx? (· == c)
def self (c : UInt8) : Bool := decide (33 ≤ c.toNat) && decide (c.toNat ≤ 126) && decide (c.toNat ≠ 37) && decide (c.toNat ≠ 61)
def enc (c : UInt8) : List UInt8 := if self c then [c] else [37, H (c.toNat / 16), H (c.toNat % 16)]
def put (l : List UInt8) : List UInt8 := l.flatMap enc

def hexOf (x y : Nat) : UInt8 := UInt8.ofNat (x * 16 + y)
def get : List UInt8 → Option (List UInt8)
  | [] => some []
  | c :: t => if c.toNat = 37 then match t with
      | a :: b :: r => match dig a, dig b with
        | some x, some y => if self (hexOf x y) then none else (get r).map (hexOf x y :: ·)
        | _, _ => none
      | _ => none
    else if self c then (get t).map (c :: ·) else none

def nib (c : UInt8) : Nat := if 48 ≤ c.toNat ∧ c.toNat ≤ 57 then c.toNat - 48 else if 65 ≤ c.toNat ∧ c.toNat ≤ 70 then c.toNat - 65 + 10 else 16
def nibByte (a b : UInt8) : UInt8 := UInt8.ofNat (nib a * 16 + nib b % 16)
def rdec : List UInt8 → List UInt8
  | [] => []
  | c :: t => if c.toNat = 37 then match t with
      | a :: b :: r => nibByte a b :: rdec r
      | [a] => c :: rdec [a]
      | [] => [c]
    else c :: rdec t
end Go.Proofs.Ytpfidbcnefnhcaa.EscM

/- Base64 as the document has it, in plain Lean: what Put writes, what is read back, and that each is the other's way back. -/
namespace Go.Proofs.Ytpfidbcnefnhcaa.SixM

def letters : List UInt8 := [65, 66, 67, 68, 69, 70, 71, 72, 73, 74, 75, 76, 77, 78, 79, 80, 81, 82, 83, 84, 85, 86, 87, 88, 89, 90, 97, 98, 99, 100, 101, 102, 103, 104, 105, 106, 107, 108, 109, 110, 111, 112, 113, 114, 115, 116, 117, 118, 119, 120, 121, 122, 48, 49, 50, 51, 52, 53, 54, 55, 56, 57, 43, 47]
def L (n : Nat) : UInt8 := letters.getD n 0
def num (c : UInt8) : Option Nat := letters.findIdx? (· == c)

def p3 : List UInt8 → List UInt8
  | [] => []
  | [a] => [L (a.toNat / 4), L (a.toNat % 4 * 16), 61, 61]
  | [a, b] => [L (a.toNat / 4), L (a.toNat % 4 * 16 + b.toNat / 16), L (b.toNat % 16 * 4), 61]
  | a :: b :: c :: r => L (a.toNat / 4) :: L (a.toNat % 4 * 16 + b.toNat / 16) :: L (b.toNat % 16 * 4 + c.toNat / 64) :: L (c.toNat % 64) :: p3 r

def emitL (h r : Nat) : List UInt8 := if 6 ≤ h then L (r / 2 ^ (h - 6) % 64) :: emitL (h - 6) r else []
termination_by h
def flush (h r : Nat) : List UInt8 := if 0 < h then [L (r * 2 ^ (6 - h) % 4294967296 % 64)] else []
def body (h r : Nat) : List UInt8 → List UInt8
  | [] => flush h r
  | b :: bs => emitL (h + 8) ((r * 256 + b.toNat) % 4294967296) ++ body ((h + 8) % 6) ((r * 256 + b.toNat) % 4294967296) bs
def fill (l : List UInt8) : List UInt8 := l ++ List.replicate ((4 - l.length % 4) % 4) 61

def dec (h r : Nat) : List UInt8 → Option (List UInt8)
  | [] => if r % 2 ^ h = 0 then some [] else none
  | c :: cs => match num c with
    | none => none
    | some k => if 8 ≤ h + 6 then (dec (h - 2) ((r * 64 + k) % 4294967296) cs).map (UInt8.ofNat ((r * 64 + k) % 4294967296 / 2 ^ (h - 2)) :: ·)
      else dec (h + 6) ((r * 64 + k) % 4294967296) cs
def unfill (t : List UInt8) : Option (List UInt8) := if t.length % 4 = 0 then some (Lib.trimSuffix (Lib.trimSuffix t [61]) [61]) else none
def get (t : List UInt8) : Option (List UInt8) := (unfill t).bind (dec 0 0)

def rdec (h n : Nat) : List UInt8 → List UInt8
  | [] => []
  | c :: cs => match num c with
    | none => rdec h n cs
    | some k => if 8 ≤ h + 6 then UInt8.ofNat ((n * 64 + k) % 1048576 / 2 ^ (h - 2)) :: rdec (h - 2) ((n * 64 + k) % 1048576) cs else rdec (h + 6) ((n * 64 + k) % 1048576) cs
end Go.Proofs.Ytpfidbcnefnhcaa.SixM

/- Names with values: which lists may be; their records; what records say. -/
namespace Go.Proofs.Ytpfidbcnefnhcaa
namespace XatM

abbrev Xa := List UInt8 × List UInt8
def anyOf (s m : List UInt8) : Bool := s.any fun c => m.contains c
def sK : List UInt8 := [83, 67, 72, 73, 76, 89, 46, 120, 97, 116, 116, 114, 46]
def lK : List UInt8 := [76, 73, 66, 65, 82, 67, 72, 73, 86, 69, 46, 120, 97, 116, 116, 114, 46]
def okX (x : Xa) : Bool := decide (x.1 ≠ []) && !x.1.contains 0 && decide ((EscM.put x.1).length ≤ 238) && decide (x.2.length ≤ 4096)
def asc : List Xa → Bool
  | x :: y :: r => decide (x.1 < y.1) && asc (y :: r)
  | _ => true
def mayL (l : List Xa) : Bool := decide (l.length ≤ 32) && l.all okX && asc l
def okAt (l : List Xa) (i : Nat) : Bool := match l[i]? with
  | some x => okX x && (match i with
    | 0 => true
    | j + 1 => match l[j]? with
      | some y => decide (y.1 < x.1)
      | none => true)
  | none => true
def recOf (x : Xa) : List Xa := (if x.1.contains 61 then [] else [(sK ++ x.1, x.2)]) ++ [(lK ++ EscM.put x.1, SixM.p3 x.2)]
def recsL (l : List Xa) : List Xa := if mayL l then l.flatMap recOf else []
def isX (k : List UInt8) : Bool := (decide (13 ≤ k.length) && decide (k.take 13 = sK)) || (decide (17 ≤ k.length) && decide (k.take 17 = lK))
def recX (r : Xa) : Option (Option Xa) :=
  if isX r.1 then
    (if r.1.head? = some 76 then (match EscM.get (r.1.drop 17), SixM.get r.2 with
      | some n, some v => some (some (n, v))
      | _, _ => some none)
    else some (some (r.1.drop 13, r.2)))
  else none
def putX : List Xa → Xa → List Xa
  | [], a => [a]
  | y :: l, a => if y.1 < a.1 then y :: putX l a else if y.1 = a.1 then a :: l else a :: y :: l
def fromGo : List Xa → List Xa → Option (List Xa)
  | acc, [] => some acc
  | acc, r :: rs => match recX r with
    | none => fromGo acc rs
    | some none => none
    | some (some x) => fromGo (putX acc x) rs
def fromL (rs : List Xa) : Option (List Xa) := match fromGo [] rs with
  | some l => if mayL l then some l else none
  | none => none

theorem lt_trans {a b c : List UInt8} (h : a < b) (k : b < c) : a < c := List.lt_trans h k
theorem lt_total {a b : List UInt8} (h : ¬ a < b) (k : a ≠ b) : b < a := Classical.byContradiction fun g => k (List.le_antisymm (List.not_lt.1 g) (List.not_lt.1 h))
theorem may_parts {l : List Xa} (h : mayL l = true) : l.length ≤ 32 ∧ (∀ x ∈ l, okX x = true) ∧ asc l = true := by
  unfold mayL at h
  rw [Bool.and_eq_true, Bool.and_eq_true, decide_eq_true_eq, List.all_eq_true] at h
  exact ⟨h.1.1, h.1.2, h.2⟩
theorem put_mem {l : List Xa} {a x : Xa} (h : x ∈ putX l a) : x = a ∨ x ∈ l := by
  induction l with
  | nil => simp [putX] at h; exact .inl h
  | cons y l ih =>
    unfold putX at h
    split at h
    · rcases List.mem_cons.1 h with h | h
      · exact .inr (by simp [h])
      · rcases ih h with h | h
        · exact .inl h
        · exact .inr (by simp [h])
    · split at h
      · rcases List.mem_cons.1 h with h | h
        · exact .inl h
        · exact .inr (by simp [h])
      · rcases List.mem_cons.1 h with h | h
        · exact .inl h
        · exact .inr h
def PW (l : List Xa) : Prop := l.Pairwise fun x y => x.1 < y.1
theorem asc_pw : ∀ {l : List Xa}, asc l = true ↔ PW l
  | [] => by simp [asc, PW]
  | [x] => by simp [asc, PW]
  | x :: y :: r => by
    have ih := asc_pw (l := y :: r)
    unfold asc
    rw [Bool.and_eq_true, decide_eq_true_eq, ih]
    constructor
    · rintro ⟨h1, h2⟩
      refine List.pairwise_cons.2 ⟨fun z hz => ?_, h2⟩
      rcases List.mem_cons.1 hz with rfl | hz
      · exact h1
      · exact lt_trans h1 ((List.pairwise_cons.1 h2).1 z hz)
    · intro h
      obtain ⟨h1, h2⟩ := List.pairwise_cons.1 h
      exact ⟨h1 y (by simp), h2⟩
theorem put_pw {l : List Xa} {a : Xa} (h : PW l) : PW (putX l a) := by
  unfold PW at h ⊢
  induction l with
  | nil => simp [putX]
  | cons y l ih =>
    obtain ⟨h1, h2⟩ := List.pairwise_cons.1 h
    unfold putX
    split
    · rename_i hlt
      refine List.pairwise_cons.2 ⟨fun x hx => ?_, ih h2⟩
      rcases put_mem hx with rfl | hx
      · exact hlt
      · exact h1 x hx
    · split
      · rename_i he
        refine List.pairwise_cons.2 ⟨fun x hx => ?_, h2⟩
        rw [← he]
        exact h1 x hx
      · rename_i hn he
        have hlt := lt_total hn he
        refine List.pairwise_cons.2 ⟨fun x hx => ?_, h⟩
        rcases List.mem_cons.1 hx with rfl | hx
        · exact hlt
        · exact lt_trans hlt (h1 x hx)
def look (l : List Xa) (n : List UInt8) : Option (List UInt8) := (l.find? fun x => x.1 == n).map (·.2)
end XatM
end Go.Proofs.Ytpfidbcnefnhcaa

/- What is said of a node: which may be, in plain Lean. -/
namespace Go.Proofs.Ytpfidbcnefnhcaa
namespace MetaM

structure Mt where
  mode : Int
  uid : Int
  gid : Int
  sec : Int
  nano : Int
  acl : List AclM.Ace
  dfl : List AclM.Ace
  xat : List XatM.Xa
  cap : CapsM.Cap
  flags : Int
def idOk (n : Int) : Bool := decide (0 ≤ n) && decide (n ≤ 2147483647)
def stampOk (s n : Int) : Bool := decide (-1099511627776 ≤ s) && decide (s ≤ 1099511627776) && decide (0 ≤ n) && decide (n ≤ 999999999)
def flagsOk (n : Int) : Bool := decide (0 ≤ n) && decide (n ≤ 15)
def kindIn (k : Int) : Bool := decide (k = 1) || (decide (3 ≤ k) && decide (k ≤ 7))
def modeOk (n : Int) : Bool := decide (0 ≤ n) && decide (n ≤ 4095)
def aclOk (l : List AclM.Ace) (mode : Int) : Bool := decide (l.length = 0) || (AclM.may l && decide (AclW.modeL l = mode % 512))
def dflOk (l : List AclM.Ace) (k : Int) : Bool := decide (l.length = 0) || (decide (k = 6) && AclM.may l)
def capOk (c : CapsM.Cap) (k : Int) : Bool := CapsM.may c && (decide (c.v = 0) || decide (k = 1))
def symOk (m : Mt) (k : Int) : Bool := decide (k ≠ 3) || (decide (m.mode = 511) && decide (m.acl.length = 0) && decide (m.flags = 0))
def mayM (m : Mt) (k : Int) : Bool :=
  kindIn k && modeOk m.mode && idOk m.uid && idOk m.gid && stampOk m.sec m.nano && flagsOk m.flags && XatM.mayL m.xat &&
    aclOk m.acl m.mode && dflOk m.dfl k && capOk m.cap k && symOk m k
end MetaM
end Go.Proofs.Ytpfidbcnefnhcaa
