/- Slices by what they hold, whatever an element is: one that a call makes by appending (Row); one that can be read (At). -/
import Derived.Test.YtajjhndpdjfcpaaAclKit
import Derived.OwnWalk
import Derived.Laws.OwnMore
import Derived.Laws.AppendOwnNone
import Derived.Maps.AppendAt
import Derived.Deep.AppendLies
import Derived.Lib.SmallJoins
namespace Go.Proofs.Ytajjhndpdjfcpaa
open Go.RowKit
set_option linter.unusedVariables false

/-- How an element lies in memory. -/
structure Elt (α : Type) where
  t : TypeId
  st : TypeId
  k : Nat
  z : Value
  bytes : Nat
  enc : α → List Value
  len : ∀ x, (enc x).length = k
  one : ∀ x, ∀ u ∈ enc x, u.oneCell' = true
  pos : 0 < k
  und : Try.prog.underlying st = some (.slice t)
  inf : (Try.prog.info? t).map (fun i => (i.zero, i.size, i.bytes)) = some (some z, k, bytes)
  zk : z.cells.size = k
  small : bytes ≤ 64

variable {α : Type} {E : Elt α}
def cellsE (E : Elt α) : List α → List Value
  | [] => []
  | x :: l => E.enc x ++ cellsE E l
theorem cellsE_append (a b : List α) : cellsE E (a ++ b) = cellsE E a ++ cellsE E b := by
  induction a with
  | nil => rfl
  | cons r a ih => simp [cellsE, ih]
theorem cellsE_length (l : List α) : (cellsE E l).length = l.length * E.k := by
  induction l with
  | nil => simp [cellsE]
  | cons r l ih => simp only [cellsE, List.length_append, List.length_cons, ih, E.len, Nat.add_mul]; omega
theorem cellsE_at (l : List α) : ∀ (j : Nat) (h : j < l.length) (i : Nat) (u : Value), (E.enc l[j])[i]? = some u → (cellsE E l)[j * E.k + i]? = some u := by
  induction l with
  | nil => intro j h; simp at h
  | cons r l ih =>
    intro j h i u hu
    have hi : i < E.k := by rw [← E.len]; exact (List.getElem?_eq_some_iff.1 hu).1
    cases j with
    | zero =>
      simp only [cellsE, Nat.zero_mul, Nat.zero_add]
      rw [List.getElem?_append_left (by rw [E.len]; exact hi)]
      exact hu
    | succ j =>
      have h2 := ih j (by simpa using h) i u (by simpa using hu)
      simp only [cellsE]
      rw [List.getElem?_append_right (by rw [E.len, Nat.add_mul]; omega), E.len, show (j + 1) * E.k + i - E.k = j * E.k + i by rw [Nat.add_mul]; omega]
      exact h2
theorem cellsE_back (l : List α) : ∀ (n : Nat) (u : Value), (cellsE E l)[n]? = some u → ∃ (j : Nat) (h : j < l.length) (i : Nat), n = j * E.k + i ∧ (E.enc l[j])[i]? = some u := by
  induction l with
  | nil => intro n u h; simp [cellsE] at h
  | cons r l ih =>
    intro n u hu
    simp only [cellsE] at hu
    by_cases hn : n < E.k
    · rw [List.getElem?_append_left (by rw [E.len]; exact hn)] at hu
      exact ⟨0, by simp, n, by simp, hu⟩
    · rw [List.getElem?_append_right (by rw [E.len]; omega), E.len] at hu
      obtain ⟨j, h, i, e, hi⟩ := ih _ _ hu
      exact ⟨j + 1, by simpa using h, i, by rw [Nat.add_mul]; omega, by simpa using hi⟩
theorem cellsE_one (l : List α) : ∀ u ∈ cellsE E l, u.oneCell' = true := by
  induction l with
  | nil => intro u h; simp [cellsE] at h
  | cons r l ih =>
    intro u h
    rcases List.mem_append.1 h with h | h
    · exact E.one r u h
    · exact ih u h

/-- v is a slice of the call's own (its block lies from B on), or nil, that holds l. -/
def Row (E : Elt α) (B : Nat) (v : Value) (l : List α) (w : World) : Prop := w.ownsRow B E.t E.k v l.length (cellsE E l)
theorem Row.nil (w : World) (B : Nat) : Row E B (.slice none 0 0) [] w := World.ownsRow_nil w B _ _
theorem Row.drew {B : Nat} {v : Value} {l : List α} {w : World} (h : Row E B v l w) : Row E B v l w.drew := World.ownsRow.drew h
theorem Row.alloc {B : Nat} {v : Value} {l : List α} {w : World} (h : Row E B v l w) (o : Obj) : Row E B v l (w.alloc o) := World.ownsRow.alloc h o
theorem Row.call {B : Nat} {v : Value} {l : List α} {w w1 : World} (h : Row E B v l w) (hb : Below w.heap.size w w1) : Row E B v l w1 := by
  refine World.ownsRow.kept h (row := none) ⟨hb.os, hb.tape, hb.output, hb.size, fun k hk _ => hb.block k hk⟩ ?_
  cases hv : v.ownBlock with
  | none => exact Or.inl rfl
  | some k => exact Or.inr (by simp)
theorem Row.lt {B : Nat} {v : Value} {l : List α} {w : World} (h : Row E B v l w) : ∀ k, v.ownBlock = some k → B ≤ k ∧ k < w.heap.size := World.ownsRow.lt h
theorem Row.mono {B B' : Nat} {v : Value} {l : List α} {w : World} (h : Row E B v l w) (hb : B' ≤ B) : Row E B' v l w := Go.Joins.ownsRow_le h hb
theorem Row.other {B : Nat} {v : Value} {l : List α} {w : World} (h : Row E B v l w) {a : Addr} (ha : v.ownBlock ≠ some a.block) (u : Value) : Row E B v l (w.setCell a u) := ownsRow_setCell_other h ha u

/-- v is a slice that reads as l. -/
def At (E : Elt α) (v : Value) (l : List α) (w : World) : Prop :=
  (l = [] ∧ (v = .slice none 0 0 ∨ ∃ ad cap, v = .slice (some ad) 0 cap)) ∨
  ∃ g off cap, v = .slice (some ⟨g, off, none⟩) l.length cap ∧ l.length ≤ cap ∧ g < w.heap.size ∧ ∀ j (h : j < l.length) i u, (E.enc l[j])[i]? = some u → w.cell? ⟨g, off + (j * E.k + i), none⟩ = some u
theorem At.nil (w : World) : At E (.slice none 0 0) [] w := .inl ⟨rfl, .inl rfl⟩
theorem Row.at {B : Nat} {v : Value} {l : List α} {w : World} (h : Row E B v l w) : At E v l w := by
  have h' := h
  rcases h.2 with ⟨hv, h0⟩ | ⟨g, cap, cur, hv, hB, hg, hc1, hc2, hcs, ht⟩
  · exact .inl ⟨List.eq_nil_of_length_eq_zero h0, .inl hv⟩
  · subst hv
    refine .inr ⟨g, 0, cap, rfl, hc1, (Array.getElem?_eq_some_iff.1 hg).1, fun j hj i u hu => ?_⟩
    have e1 := World.ownsRow.cells h' rfl _ _ (cellsE_at l j hj i u hu)
    rw [addr_zero_add] at e1
    rw [Nat.zero_add]
    exact e1
theorem At.call {v : Value} {l : List α} {w w1 : World} (h : At E v l w) (hb : Below w.heap.size w w1) : At E v l w1 := by
  rcases h with h | ⟨g, off, cap, hv, hc, hg, hj⟩
  · exact .inl h
  · exact .inr ⟨g, off, cap, hv, hc, Nat.lt_of_lt_of_le hg hb.size, fun j h i u hu => cell_kept hb (hj j h i u hu)⟩
theorem At.drew {v : Value} {l : List α} {w : World} (h : At E v l w) : At E v l w.drew := h.call (gr_drew (Below.refl _ _))
theorem At.alloc {v : Value} {l : List α} {w : World} (h : At E v l w) (o : Obj) : At E v l (w.alloc o) := h.call (gr_alloc (Below.refl _ _) o)
theorem At.shape {v : Value} {l : List α} {w : World} (h : At E v l w) : ∃ p cap, v = .slice p l.length cap ∧ l.length ≤ cap := by
  rcases h with ⟨rfl, hv | ⟨ad, cap, hv⟩⟩ | ⟨g, off, cap, hv, hc, _⟩
  · exact ⟨_, _, hv, Nat.le_refl _⟩
  · exact ⟨_, _, hv, Nat.zero_le _⟩
  · exact ⟨_, _, hv, hc⟩
/-- Where it holds something: its cells, at every place. -/
theorem At.open {v : Value} {l : List α} {w : World} (h : At E v l w) (hl : l ≠ []) :
    ∃ g off cap, v = .slice (some ⟨g, off, none⟩) l.length cap ∧ l.length ≤ cap ∧ g < w.heap.size ∧ ∀ j (h : j < l.length) i u, (E.enc l[j])[i]? = some u → w.cell? ⟨g, off + (j * E.k + i), none⟩ = some u := by
  rcases h with ⟨h, _⟩ | h
  · exact absurd h hl
  · exact h
/-- Where nothing but another block grew. -/
theorem At.grown {v : Value} {l : List α} {w w1 : World} {row : Option Nat} (h : At E v l w) (hb : w.grownBy w1 row) (hne : ∀ k, v.ownBlock = some k → row ≠ some k) : At E v l w1 := by
  rcases h with h | ⟨g, off, cap, hv, hc, hg, hj⟩
  · exact .inl h
  · refine .inr ⟨g, off, cap, hv, hc, Nat.lt_of_lt_of_le hg hb.size, fun j h i u hu => ?_⟩
    rw [World.grownBy.cell_far hb ⟨g, _, none⟩ hg (by intro e; exact hne g (by rw [hv]; rfl) e.symm)]
    exact hj j h i u hu
/-- A slice of known elements, just laid. -/
theorem lit_row (w : World) (l : List α) (cs : Array Value) (B : Nat) (n : Nat) (hn : n = l.length) (hB : B ≤ w.heap.size) (hm : l.length ≤ 1000000) (h : cs.toList = cellsE E l) :
    Row E B (.slice (some ⟨w.heap.size, 0, none⟩) n n) l (w.alloc (.cells cs E.t)) := by
  subst hn
  have e : cs = (cellsE E l).toArray := by rw [← h]
  subst e
  have := World.ownsRow_lit (e := E.t) (size := E.k) w (cellsE E l).toArray l.length hB (by unfold maxLen; omega) (by simp [cellsE_length])
  simpa [Row] using this

theorem addr_off_add (g o j : Nat) : (⟨g, o, none⟩ : Addr).add j = ⟨g, o + j, none⟩ := by
  by_cases h : j = 0 <;> simp [Addr.add, h]
/-- append(v, x...), as it runs. -/
theorem run_append_at (E : Elt α) (ty : TypeId) (B : Nat) (v xv : Value) (l m : List α) (w : World) (hrow : Row E B v l w) (hat : At E xv m w) (hlen : l.length + m.length ≤ 1000000) (hB : B ≤ w.heap.size) :
    ∃ v' w', (Builtin.append_ #[E.st, E.st] ty #[v, xv]).run Try.prog w = .ok v' w' ∧ Row E B v' (l ++ m) w' ∧ Below B w w' ∧ w.grownBy w' v.ownBlock ∧ (v'.ownBlock = v.ownBlock ∨ v'.ownBlock = some w.heap.size) := by
  obtain ⟨i0, hi, hz0, hz1, hz2⟩ := info_parts E.inf
  have hsm := E.small
  have hby : ∀ n : Nat, n ≤ 1000000 → n * E.bytes ≤ 140737488355328 := by
    intro n hn
    have : n * E.bytes ≤ 1000000 * 64 := Nat.mul_le_mul hn hsm
    omega
  have fin : ∀ w', w.grownBy w' v.ownBlock → Below B w w' := fun w' h2 => (Below.refl B w).grown h2 hB (fun k hk => (World.ownsRow.lt hrow k hk).1)
  rcases hat with ⟨rfl, rfl | ⟨ad, cap, rfl⟩⟩ | ⟨g, off, cap, rfl, hc, hg, hj⟩
  · refine ⟨v, w, run_append_owned_none (P := Try.prog) (w := w) B E.st ty E.t i0 E.k E.und hi v l.length (cellsE E l) hrow, by rw [List.append_nil]; exact hrow, Below.refl _ _, ⟨rfl, rfl, rfl, Nat.le_refl _, fun _ _ _ => rfl⟩, .inl rfl⟩
  · obtain ⟨v', w', hr, h2, h3, _, h5⟩ := run_append_own_at (P := Try.prog) w B E.st ty E.t i0 E.z E.k E.bytes E.und hi hz0 hz1 hz2 E.zk E.pos v l.length (cellsE E l) hrow ad 0 cap [] (by simp) (by simp) (by simp) (by unfold maxLen; simp at hlen; omega) (hby _ (by simpa using hlen)) hB
    refine ⟨v', w', hr, ?_, fin _ h3, h3, h5⟩
    unfold Row
    simpa using h2
  · obtain ⟨v', w', hr, h2, h3, _, h5⟩ := run_append_own_at (P := Try.prog) w B E.st ty E.t i0 E.z E.k E.bytes E.und hi hz0 hz1 hz2 E.zk E.pos v l.length (cellsE E l) hrow ⟨g, off, none⟩ m.length cap (cellsE E m) (cellsE_length m) (by
      intro n u hu
      obtain ⟨j, hjl, i, e, hi'⟩ := cellsE_back m n u hu
      have := hj j hjl i u hi'
      rw [← e] at this
      rw [← this, addr_off_add]) (cellsE_one m) (by unfold maxLen; omega) (hby _ hlen) hB
    refine ⟨v', w', hr, ?_, fin _ h3, h3, h5⟩
    unfold Row
    rw [cellsE_append, List.length_append]
    exact h2
/-- append(v, x...). -/
theorem wp_append_row {o : Oper} {a : Act} {K : Act → World → Prop} {Q : Exit → Act → World → Prop} (E : Elt α) (s x : Operand)
    (ho : o.op = .call { callee := .builtin .append, args := #[s, x], argTypes := #[E.st, E.st] })
    (B : Nat) (v xv : Value) (l m : List α) (w : World)
    (hs : a.eval s = v) (hrow : Row E B v l w) (hx : a.eval x = xv) (hat : At E xv m w)
    (hlen : l.length + m.length ≤ 1000000) (hB : B ≤ w.heap.size)
    (h : ∀ v' w', Row E B v' (l ++ m) w' → Below B w w' → w.grownBy w' v.ownBlock → (v'.ownBlock = v.ownBlock ∨ v'.ownBlock = some w.heap.size) → K (a.put o.dst v') w') :
    Oper.wp Try.prog o a w K Q := by
  obtain ⟨v', w', hr, h2, h3, h4, h5⟩ := run_append_at E o.type B v xv l m w hrow hat hlen hB
  unfold Oper.wp execOp
  simp only [ho, resolve, invoke, builtin, Sem.run_bind, Sem.run_pure, Result.andThen_ok, List.map_toArray, List.map_cons, List.map_nil, hs, hx, hr]
  exact h v' w' h2 h3 h4 h5
theorem wp_append_at {ops : Array Oper} {rest : List Oper} {o : Oper} {a : Act} {Q : Exit → Act → World → Prop} (E : Elt α) (hgd : o.guard = none) (s x : Operand)
    (ho : o.op = .call { callee := .builtin .append, args := #[s, x], argTypes := #[E.st, E.st] })
    (B : Nat) (v xv : Value) (l m : List α) (w : World)
    (hs : a.eval s = v) (hrow : Row E B v l w) (hx : a.eval x = xv) (hat : At E xv m w)
    (hlen : l.length + m.length ≤ 1000000) (hB : B ≤ w.heap.size)
    (h : ∀ v' w', Row E B v' (l ++ m) w' → Below B w w' → w.grownBy w' v.ownBlock → (v'.ownBlock = v.ownBlock ∨ v'.ownBlock = some w.heap.size) → wpList Try.prog ops Q rest (a.put o.dst v') w') :
    wpList Try.prog ops Q (o :: rest) a w :=
  wpList_plain hgd fun K hK => wp_append_row E s x ho B v xv l m w hs hrow hx hat hlen hB fun v' w' h1 h2 h3 h4 => hK _ _ (h v' w' h1 h2 h3 h4)
/-- The same as a step of a region that draws its order. -/
theorem step_append_at {ops : Array Oper} {o : Oper} {a : Act} {w : World} {K : Act → World → Prop} {Q : Exit → Act → World → Prop} {X : Prop} (E : Elt α) (hgd : o.guard = none) (s x : Operand)
    (ho : o.op = .call { callee := .builtin .append, args := #[s, x], argTypes := #[E.st, E.st] })
    (B : Nat) (v xv : Value) (l m : List α)
    (hs : a.eval s = v) (hrow : Row E B v l w) (hx : a.eval x = xv) (hat : At E xv m w)
    (hlen : l.length + m.length ≤ 1000000) (hB : B ≤ w.heap.size)
    (h : ∀ v' w', Row E B v' (l ++ m) w' → Below B w w' → w.grownBy w' v.ownBlock → (v'.ownBlock = v.ownBlock ∨ v'.ownBlock = some w.heap.size) → K (a.put o.dst v') w') :
    if Region.wanted o (yielded ops a.tmps) = true then Oper.wp Try.prog o a w K Q else X := by
  have hw : Region.wanted o (yielded ops a.tmps) = true := by simp [Region.wanted, hgd]
  rw [if_pos hw]
  exact wp_append_row E s x ho B v xv l m w hs hrow hx hat hlen hB h
end Go.Proofs.Ytajjhndpdjfcpaa
