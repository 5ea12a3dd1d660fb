/- Bundle of 7 texts. -/
import Derived.Test.YtpfidbcnefnhcaaPk02
import Derived.Test.YtpfidbcnefnhcaaPk09
import Derived.Test.YtpfidbcnefnhcaaPk08
import Derived.Defers
import Derived.Recover
import Derived.Deep.QuietTactic
import Derived.Test.YtpfidbcnefnhcaaPk01
import Derived.Deep.Slices
import Derived.Deep.Fields
import Derived.SizedLaws
import Derived.ChangeArms
import Derived.Test.YtpfidbcnefnhcaaRows
import Derived.ProofKit
import Derived.OpenShut
import Derived.ChangeOld
import Derived.Test.YtpfidbcnefnhcaaPk04
import Derived.Test.YtpfidbcnefnhcaaPk03
/- Package meta: the check, May. -/
namespace Go.Proofs.Ytpfidbcnefnhcaa
open Go.RowKit
open MetaM
set_option linter.unusedVariables false

end Go.Proofs.Ytpfidbcnefnhcaa

/- The document's answer: is a key one of an attribute's? And the laws' own: are there few, and short? -/
namespace Go.Proofs.Ytpfidbcnefnhcaa.XatW
open Go.RowKit
open XatM
set_option linter.unusedVariables false

def short (x : Xa) : Bool := decide (x.1.length ≤ 400) && decide (x.2.length ≤ 5000)
def few (l : List Xa) : Bool := (l.take 40).all short && decide (l.length ≤ 40)
theorem few_parts {l : List Xa} (h : few l = true) : l.length ≤ 40 ∧ ∀ x ∈ l, x.1.length ≤ 400 ∧ x.2.length ≤ 5000 := by
  unfold few at h
  rw [Bool.and_eq_true, decide_eq_true_eq] at h
  refine ⟨h.2, fun x hx => ?_⟩
  rw [List.take_of_length_le h.2] at h
  have := List.all_eq_true.1 h.1 x hx
  unfold short at this
  rw [Bool.and_eq_true, decide_eq_true_eq, decide_eq_true_eq] at this
  exact this
attribute [local irreducible] Row At

end Go.Proofs.Ytpfidbcnefnhcaa.XatW

/- The laws of stage 14: what is gone through, the document's example. -/
namespace Go.Proofs.Ytpfidbcnefnhcaa
open Go.RowKit
open MetaM
set_option linter.unusedVariables false

structure MetaRd (m : Mt) (va vd vx : Value) (w : World) : Prop where
  acl : At AclW.aceE va m.acl w
  dfl : At AclW.aceE vd m.dfl w
  xat : At XatW.xatE vx m.xat w
theorem MetaRd.call {m : Mt} {va vd vx : Value} {w w1 : World} (h : MetaRd m va vd vx w) (hb : Below w.heap.size w w1) : MetaRd m va vd vx w1 := ⟨h.acl.call hb, h.dfl.call hb, h.xat.call hb⟩
def MetaM.heavy (m : Mt) : Bool := decide (60 < m.acl.length) || decide (60 < m.dfl.length) || !XatW.few m.xat
theorem MetaRd.at {m : Mt} {va vd vx : Value} {w : World} (h : MetaRd m va vd vx w) (hh : heavy m = false) : MetaAt m va vd vx w := by
  unfold heavy at hh
  simp only [Bool.or_eq_false_iff, decide_eq_false_iff_not, Bool.not_eq_false'] at hh
  exact ⟨h.acl, h.dfl, h.xat, by omega, by omega, by have := (XatW.few_parts hh.2).1; omega⟩
attribute [local irreducible] Row At

end Go.Proofs.Ytpfidbcnefnhcaa

/- A slice of parts among a law's arguments, as the walk reads it. -/
namespace Go.Proofs.Ytpfidbcnefnhcaa.AclW
open Go.ChangeShapes Go.WideShapes Go.ChangeAt Go.RowKit
open AclM

theorem struct3_ints {H : Type} {enc : TypeId × Value → H} {P : Program} {W : World} {base : Nat} {spare : Nat → Bool} {held : Bool} {e : TypeId} {f0 f1 f2 : Field} {n : Nat} {cs : List Value} {x : DataW H × List MemPlace}
    (he : P.underlying e = some (.struct #[f0, f1, f2])) (h0 : P.underlying f0.type = some (.int .i64)) (h1 : P.underlying f1.type = some (.int .i64)) (h2 : P.underlying f2.type = some (.int .i64))
    (hone : Go.Deep.oneCellFields P #[f0, f1, f2] = true) (hC : P.cellsOf e = 3) (h : DataW.trod enc P W base spare held n e cs = some x) : ∃ a b c : Int, cs = [.int .i64 a, .int .i64 b, .int .i64 c] := by
  obtain ⟨xs, m, _, _, hlen, hxl, hf⟩ := DataW.trod_struct he h
  rw [hC] at hlen
  have key : ∀ (j : Nat) (f : Field), (#[f0, f1, f2] : Array Field)[j]? = some f → P.underlying f.type = some (.int .i64) → ∃ a : Int, cs[j]? = some (.int .i64 a) := by
    intro j f hj hu
    have hjl : j < 3 := (Array.getElem?_eq_some_iff.1 hj).1
    obtain ⟨ho, hk⟩ := Go.Deep.hone_of hone j f hj
    have h3 := hf j f hj
    rw [ho, hk, List.drop_eq_getElem_cons (by omega : j < cs.length), List.take_succ_cons, List.take_zero] at h3
    have hys : xs[j]? = some (xs[j]'(by rw [hxl]; exact hjl)) := List.getElem?_eq_getElem _
    rw [hys] at h3
    obtain ⟨a, ha, _⟩ := DataW.trod_int hu h3
    simp at ha
    exact ⟨a, by rw [List.getElem?_eq_getElem (by omega), ha]⟩
  obtain ⟨a, ha⟩ := key 0 f0 rfl h0
  obtain ⟨b, hb⟩ := key 1 f1 rfl h1
  obtain ⟨c, hc⟩ := key 2 f2 rfl h2
  match cs, hlen, ha, hb, hc with
  | [x0, x1, x2], _, ha, hb, hc =>
    simp at ha hb hc
    exact ⟨a, b, c, by rw [ha, hb, hc]⟩

theorem open_aces {H : Type} {enc : TypeId × Value → H} {P : Program} {W : World} {base : Nat} {spare : Nat → Bool} {held : Bool} {t e : TypeId} {f0 f1 f2 : Field} {a : Option Addr} {len cap : Nat} {d : DataW H} {p : List MemPlace}
    (ht : P.underlying t = some (.slice e)) (he : P.underlying e = some (.struct #[f0, f1, f2])) (h0 : P.underlying f0.type = some (.int .i64)) (h1 : P.underlying f1.type = some (.int .i64)) (h2 : P.underlying f2.type = some (.int .i64))
    (hone : Go.Deep.oneCellFields P #[f0, f1, f2] = true) (hC : P.cellsOf e = 3) (h : DataW.Trod enc P W base spare held t (.slice a len cap) d p) : ∃ l : List Ace, l.length = len ∧ At aceE (.slice a len cap) l W := by
  obtain ⟨fuel, hf⟩ := h
  rcases Go.Deep.open_slice ht hf with ⟨hcs, _⟩ | ⟨x, l, c, m, n, D, Pl, hcs, hb, hl, hm, hmm, _, hi⟩
  · simp [Value.cells] at hcs
    obtain ⟨rfl, rfl, rfl⟩ := hcs
    exact ⟨[], rfl, At.nil _⟩
  · simp [Value.cells] at hcs
    obtain ⟨rfl, rfl, rfl⟩ := hcs
    have hlm : len ≤ m := by rw [hmm]; split <;> omega
    rw [hC] at hi
    have each : ∀ i, i < len → ∃ r : Ace, W.cell? (x.add (i * 3)) = some (.int .i64 r.1) ∧ W.cell? ((x.add (i * 3)).add 1) = some (.int .i64 r.2.1) ∧ W.cell? ((x.add (i * 3)).add 2) = some (.int .i64 r.2.2) := by
      intro i hil
      obtain ⟨cs', hc, ht'⟩ := hi i (by omega)
      obtain ⟨u, v, y, rfl⟩ := struct3_ints he h0 h1 h2 hone hC ht'
      obtain ⟨_, _, hat⟩ := World.cells?_some hc
      have a0 := hat 0 (by omega)
      have a1 := hat 1 (by omega)
      have a2 := hat 2 (by omega)
      rw [show (x.add (i * 3)).add 0 = x.add (i * 3) by simp [Addr.add]] at a0
      exact ⟨(u, v, y), a0, a1, a2⟩
    by_cases hz : len = 0
    · subst hz
      exact ⟨[], rfl, .inl ⟨rfl, .inr ⟨_, _, rfl⟩⟩⟩
    · obtain ⟨b, off, spot⟩ := x
      obtain ⟨r0, z0, _, _⟩ := each 0 (by omega)
      have hspot : spot = none := by simpa [Addr.add] using World.cell?_spot z0
      subst hspot
      have ex : ∀ k, k ≤ len → ∃ l : List Ace, l.length = k ∧ ∀ j (h : j < l.length), W.cell? ⟨b, off + j * 3, none⟩ = some (.int .i64 l[j].1) ∧ W.cell? ⟨b, off + j * 3 + 1, none⟩ = some (.int .i64 l[j].2.1) ∧ W.cell? ⟨b, off + j * 3 + 2, none⟩ = some (.int .i64 l[j].2.2) := by
        intro k
        induction k with
        | zero => intro _; exact ⟨[], rfl, fun j h => by simp at h⟩
        | succ k ih =>
          intro hk
          obtain ⟨l, hl1, hl2⟩ := ih (by omega)
          obtain ⟨r, q0, q1, q2⟩ := each k (by omega)
          rw [addr_off_add] at q0 q1 q2
          rw [addr_off_add] at q1 q2
          refine ⟨l ++ [r], by simp [hl1], fun j h => ?_⟩
          by_cases hj : j < l.length
          · rw [List.getElem_append_left hj]; exact hl2 j hj
          · have hjk : j = k := by simp at h; omega
            subst hjk
            have : (l ++ [r])[j] = r := by rw [List.getElem_append_right (by omega)]; simp [hl1]
            rw [this]
            exact ⟨q0, q1, q2⟩
      obtain ⟨l, hl1, hl2⟩ := ex len (Nat.le_refl _)
      exact ⟨l, hl1, ace_at hl1.symm (by omega) (block_lt (hl2 0 (by omega)).1) hl2⟩
end Go.Proofs.Ytpfidbcnefnhcaa.AclW

/- A list of names with values, one of records, among a law's arguments, as the walk reads it. -/
namespace Go.Proofs.Ytpfidbcnefnhcaa.XatW
open Go.RowKit
open XatM

theorem struct_two {H : Type} {enc : TypeId × Value → H} {P : Program} {W : World} {base : Nat} {spare : Nat → Bool} {held : Bool} {e : TypeId} {f0 f1 : Field} {n : Nat} {cs : List Value} {x : DataW H × List MemPlace}
    (he : P.underlying e = some (.struct #[f0, f1])) (h0 : P.underlying f0.type = some .string) (h1 : P.underlying f1.type = some .string)
    (hone : Go.Deep.oneCellFields P #[f0, f1] = true) (hC : P.cellsOf e = 2) (h : DataW.trod enc P W base spare held n e cs = some x) : ∃ (a b : ByteArray), cs = [.string a, .string b] := by
  obtain ⟨xs, m, _, _, hlen, hxl, hf⟩ := DataW.trod_struct he h
  rw [hC] at hlen
  have at1 : ∀ (j : Nat) (f : Field), (#[f0, f1] : Array Field)[j]? = some f → ∃ (u : Value) (y : DataW H × List MemPlace), cs[j]? = some u ∧ DataW.trod enc P W base spare held m f.type [u] = some y := by
    intro j f hj
    have hjl : j < 2 := (Array.getElem?_eq_some_iff.1 hj).1
    obtain ⟨ho, hk⟩ := Go.Deep.hone_of hone j f hj
    have h3 := hf j f hj
    rw [ho, hk, List.drop_eq_getElem_cons (by omega : j < cs.length), List.take_succ_cons, List.take_zero] at h3
    have hys : xs[j]? = some (xs[j]'(by rw [hxl]; exact hjl)) := List.getElem?_eq_getElem _
    rw [hys] at h3
    exact ⟨_, _, List.getElem?_eq_getElem (by omega), h3⟩
  obtain ⟨u0, y0, c0, t0⟩ := at1 0 f0 rfl
  obtain ⟨u1, y1, c1, t1⟩ := at1 1 f1 rfl
  obtain ⟨a, ha, _⟩ := DataW.trod_string h0 t0
  obtain ⟨b, hb, _⟩ := DataW.trod_string h1 t1
  simp at ha hb
  subst ha hb
  match cs, hlen, c0, c1 with
  | [x0, x1], _, c0, c1 =>
    simp at c0 c1
    exact ⟨a, b, by rw [c0, c1]⟩
theorem open_twos {E : Elt Xa} (hE : IsTwo E) {H : Type} {enc : TypeId × Value → H} {P : Program} {W : World} {base : Nat} {spare : Nat → Bool} {held : Bool} {t e : TypeId} {f0 f1 : Field} {a : Option Addr} {len cap : Nat} {d : DataW H} {p : List MemPlace}
    (ht : P.underlying t = some (.slice e)) (he : P.underlying e = some (.struct #[f0, f1])) (h0 : P.underlying f0.type = some .string) (h1 : P.underlying f1.type = some .string)
    (hone : Go.Deep.oneCellFields P #[f0, f1] = true) (hC : P.cellsOf e = 2) (h : DataW.Trod enc P W base spare held t (.slice a len cap) d p) : ∃ l : List Xa, l.length = len ∧ At E (.slice a len cap) l W := by
  obtain ⟨fuel, hf⟩ := h
  rcases Go.Deep.open_slice ht hf with ⟨hcs, _⟩ | ⟨x, l, c, m, n, D, Pl, hcs, hb, hl, hm, hmm, _, hi⟩
  · simp [Value.cells] at hcs
    obtain ⟨rfl, rfl, rfl⟩ := hcs
    exact ⟨[], rfl, At.nil _⟩
  · simp [Value.cells] at hcs
    obtain ⟨rfl, rfl, rfl⟩ := hcs
    have hlm : len ≤ m := by rw [hmm]; split <;> omega
    rw [hC] at hi
    have each : ∀ i, i < len → ∃ r : Xa, W.cell? (x.add (i * 2)) = some (.string (strOf r.1)) ∧ W.cell? ((x.add (i * 2)).add 1) = some (.string (strOf r.2)) := by
      intro i hil
      obtain ⟨cs', hc, ht'⟩ := hi i (by omega)
      obtain ⟨u, v, rfl⟩ := struct_two he h0 h1 hone hC ht'
      obtain ⟨_, _, hat⟩ := World.cells?_some hc
      have a0 := hat 0 (by omega)
      have a1 := hat 1 (by omega)
      rw [show (x.add (i * 2)).add 0 = x.add (i * 2) by simp [Addr.add]] at a0
      refine ⟨(u.data.toList, v.data.toList), ?_, ?_⟩
      · simp only [strOf_self]; exact a0
      · simp only [strOf_self]; exact a1
    by_cases hz : len = 0
    · subst hz
      exact ⟨[], rfl, .inl ⟨rfl, .inr ⟨_, _, rfl⟩⟩⟩
    · obtain ⟨b, off, spot⟩ := x
      obtain ⟨r0, q0, _⟩ := each 0 (by omega)
      have hspot : spot = none := by simpa [Addr.add] using World.cell?_spot q0
      subst hspot
      have ex : ∀ k, k ≤ len → ∃ l : List Xa, l.length = k ∧ ∀ j (h : j < l.length), TwoAt W b (off + j * 2) l[j] := by
        intro k
        induction k with
        | zero => intro _; exact ⟨[], rfl, fun j h => by simp at h⟩
        | succ k ih =>
          intro hk
          obtain ⟨l, hl1, hl2⟩ := ih (by omega)
          obtain ⟨r, q0, q1⟩ := each k (by omega)
          rw [addr_off_add] at q0 q1
          rw [addr_off_add] at q1
          refine ⟨l ++ [r], by simp [hl1], fun j h => ?_⟩
          by_cases hj : j < l.length
          · rw [List.getElem_append_left hj]; exact hl2 j hj
          · have hjk : j = k := by simp at h; omega
            subst hjk
            have : (l ++ [r])[j] = r := by rw [List.getElem_append_right (by omega)]; simp [hl1]
            rw [this]
            exact ⟨q0, q1⟩
      obtain ⟨l, hl1, hl2⟩ := ex len (Nat.le_refl _)
      exact ⟨l, hl1, two_at hE hl1.symm (by omega) (block_lt (hl2 0 (by omega)).1) hl2⟩
end Go.Proofs.Ytpfidbcnefnhcaa.XatW

/- Metadata among a law's arguments, by value, as the walk reads it. -/
namespace Go.Proofs.Ytpfidbcnefnhcaa
open Go.ChangeShapes Go.WideShapes Go.ChangeAt Go.RowKit
open MetaM
set_option linter.unusedVariables false

theorem list14 {α : Type} {l : List α} (h : l.length = 14) : ∃ c0 c1 c2 c3 c4 c5 c6 c7 c8 c9 c10 c11 c12 c13, l = [c0, c1, c2, c3, c4, c5, c6, c7, c8, c9, c10, c11, c12, c13] := by
  match l, h with
  | [c0, c1, c2, c3, c4, c5, c6, c7, c8, c9, c10, c11, c12, c13], _ => exact ⟨c0, c1, c2, c3, c4, c5, c6, c7, c8, c9, c10, c11, c12, c13, rfl⟩
theorem some_of {α : Type} {l : List α} {i : Nat} (h : i < l.length) : ∃ y, l[i]? = some y := ⟨_, List.getElem?_eq_getElem h⟩
theorem trod_u64 {H : Type} {enc : TypeId × Value → H} {P : Program} {W : World} {base : Nat} {spare : Nat → Bool} {held : Bool} {t : TypeId} {n : Nat} {cs : List Value} {x : DataW H × List MemPlace}
    (ht : P.underlying t = some (.int .u64)) (h : DataW.trod enc P W base spare held n t cs = some x) : ∃ k : Nat, cs = [.int .u64 (k : Int)] := by
  obtain ⟨m, rfl, _, hw⟩ := DataW.trod_int ht h
  have h0 : 0 ≤ m := by
    simp [Lit.wf] at hw
    have h1 : IntKind.u64.min = 0 := rfl
    omega
  exact ⟨m.toNat, by rw [Int.toNat_of_nonneg h0]⟩

set_option maxHeartbeats 1600000 in
theorem open_meta {H : Type} {enc : TypeId × Value → H} {W : World} {base : Nat} {spare : Nat → Bool} {held : Bool} {r : Reach} {b0 : Nat} {v : Value} {d : DataW H} {p : List MemPlace}
    (hv : Value.okWide Try.prog W r b0 30 v) (h : DataW.Trod enc Try.prog W base spare held 30 v d p) :
    ∃ (m : Mt) (va vd vx : Value), v = .agg (metaC m va vd vx) ∧ MetaRd m va vd vx W := by
  obtain ⟨cs, rfl, hsz⟩ := okWide_struct Try.underlying30 hv
  have hC : Try.prog.cellsOf 30 = 14 := by kernel_rfl
  obtain ⟨fuel, hf⟩ := h
  obtain ⟨xs, n, _, _, hlen, hxl, hi⟩ := DataW.trod_struct Try.underlying30 hf
  obtain ⟨l⟩ := cs
  have hl : l.length = 14 := by rw [hC] at hsz; simpa using hsz
  obtain ⟨c0, c1, c2, c3, c4, c5, c6, c7, c8, c9, c10, c11, c12, c13, rfl⟩ := list14 hl
  have e1 : Try.prog.cellsOf 3 = 1 := by kernel_rfl
  have e2 : Try.prog.cellsOf 23 = 2 := by kernel_rfl
  have e3 : Try.prog.cellsOf 24 = 1 := by kernel_rfl
  have e4 : Try.prog.cellsOf 25 = 1 := by kernel_rfl
  have e5 : Try.prog.cellsOf 28 = 5 := by kernel_rfl
  have hx9 : xs.length = 9 := hxl
  obtain ⟨y0, z0⟩ := some_of (i := 0) (l := xs) (by omega)
  have q0 : DataW.trod enc Try.prog W base spare held n 3 (([c0, c1, c2, c3, c4, c5, c6, c7, c8, c9, c10, c11, c12, c13].drop 0).take (Try.prog.cellsOf 3)) = some y0 := (hi 0 _ rfl).trans z0
  rw [e1] at q0
  replace q0 : DataW.trod enc Try.prog W base spare held n 3 [c0] = some y0 := q0
  obtain ⟨y1, z1⟩ := some_of (i := 1) (l := xs) (by omega)
  have q1 : DataW.trod enc Try.prog W base spare held n 3 (([c0, c1, c2, c3, c4, c5, c6, c7, c8, c9, c10, c11, c12, c13].drop 1).take (Try.prog.cellsOf 3)) = some y1 := (hi 1 _ rfl).trans z1
  rw [e1] at q1
  replace q1 : DataW.trod enc Try.prog W base spare held n 3 [c1] = some y1 := q1
  obtain ⟨y2, z2⟩ := some_of (i := 2) (l := xs) (by omega)
  have q2 : DataW.trod enc Try.prog W base spare held n 3 (([c0, c1, c2, c3, c4, c5, c6, c7, c8, c9, c10, c11, c12, c13].drop 2).take (Try.prog.cellsOf 3)) = some y2 := (hi 2 _ rfl).trans z2
  rw [e1] at q2
  replace q2 : DataW.trod enc Try.prog W base spare held n 3 [c2] = some y2 := q2
  obtain ⟨y3, z3⟩ := some_of (i := 3) (l := xs) (by omega)
  have q3 : DataW.trod enc Try.prog W base spare held n 23 (([c0, c1, c2, c3, c4, c5, c6, c7, c8, c9, c10, c11, c12, c13].drop 3).take (Try.prog.cellsOf 23)) = some y3 := (hi 3 _ rfl).trans z3
  rw [e2] at q3
  replace q3 : DataW.trod enc Try.prog W base spare held n 23 [c3, c4] = some y3 := q3
  obtain ⟨y4, z4⟩ := some_of (i := 4) (l := xs) (by omega)
  have q4 : DataW.trod enc Try.prog W base spare held n 24 (([c0, c1, c2, c3, c4, c5, c6, c7, c8, c9, c10, c11, c12, c13].drop 5).take (Try.prog.cellsOf 24)) = some y4 := (hi 4 _ rfl).trans z4
  rw [e3] at q4
  replace q4 : DataW.trod enc Try.prog W base spare held n 24 [c5] = some y4 := q4
  obtain ⟨y5, z5⟩ := some_of (i := 5) (l := xs) (by omega)
  have q5 : DataW.trod enc Try.prog W base spare held n 24 (([c0, c1, c2, c3, c4, c5, c6, c7, c8, c9, c10, c11, c12, c13].drop 6).take (Try.prog.cellsOf 24)) = some y5 := (hi 5 _ rfl).trans z5
  rw [e3] at q5
  replace q5 : DataW.trod enc Try.prog W base spare held n 24 [c6] = some y5 := q5
  obtain ⟨y6, z6⟩ := some_of (i := 6) (l := xs) (by omega)
  have q6 : DataW.trod enc Try.prog W base spare held n 25 (([c0, c1, c2, c3, c4, c5, c6, c7, c8, c9, c10, c11, c12, c13].drop 7).take (Try.prog.cellsOf 25)) = some y6 := (hi 6 _ rfl).trans z6
  rw [e4] at q6
  replace q6 : DataW.trod enc Try.prog W base spare held n 25 [c7] = some y6 := q6
  obtain ⟨y7, z7⟩ := some_of (i := 7) (l := xs) (by omega)
  have q7 : DataW.trod enc Try.prog W base spare held n 28 (([c0, c1, c2, c3, c4, c5, c6, c7, c8, c9, c10, c11, c12, c13].drop 8).take (Try.prog.cellsOf 28)) = some y7 := (hi 7 _ rfl).trans z7
  rw [e5] at q7
  replace q7 : DataW.trod enc Try.prog W base spare held n 28 [c8, c9, c10, c11, c12] = some y7 := q7
  obtain ⟨y8, z8⟩ := some_of (i := 8) (l := xs) (by omega)
  have q8 : DataW.trod enc Try.prog W base spare held n 3 (([c0, c1, c2, c3, c4, c5, c6, c7, c8, c9, c10, c11, c12, c13].drop 13).take (Try.prog.cellsOf 3)) = some y8 := (hi 8 _ rfl).trans z8
  rw [e1] at q8
  replace q8 : DataW.trod enc Try.prog W base spare held n 3 [c13] = some y8 := q8
  clear hi z0 z1 z2 z3 z4 z5 z6 z7 z8
  obtain ⟨x0, r0, _, _⟩ := DataW.trod_int Try.underlying3 q0
  obtain rfl : c0 = .int .i64 x0 := by injection r0
  obtain ⟨x1, r1, _, _⟩ := DataW.trod_int Try.underlying3 q1
  obtain rfl : c1 = .int .i64 x1 := by injection r1
  obtain ⟨x2, r2, _, _⟩ := DataW.trod_int Try.underlying3 q2
  obtain rfl : c2 = .int .i64 x2 := by injection r2
  obtain ⟨x13, r13, _, _⟩ := DataW.trod_int Try.underlying3 q8
  obtain rfl : c13 = .int .i64 x13 := by injection r13
  obtain ⟨xs3, n3, _, _, _, hl3, hi3⟩ := DataW.trod_struct Try.underlying23 q3
  have hn3 : xs3.length = 2 := hl3
  obtain ⟨u3, v3⟩ := some_of (i := 0) (l := xs3) (by omega)
  have g3 : DataW.trod enc Try.prog W base spare held n3 3 (([c3, c4].drop 0).take (Try.prog.cellsOf 3)) = some u3 := (hi3 0 _ rfl).trans v3
  rw [show Try.prog.cellsOf 3 = 1 by kernel_rfl] at g3
  replace g3 : DataW.trod enc Try.prog W base spare held n3 3 [c3] = some u3 := g3
  obtain ⟨u4, v4⟩ := some_of (i := 1) (l := xs3) (by omega)
  have g4 : DataW.trod enc Try.prog W base spare held n3 3 (([c3, c4].drop 1).take (Try.prog.cellsOf 3)) = some u4 := (hi3 1 _ rfl).trans v4
  rw [show Try.prog.cellsOf 3 = 1 by kernel_rfl] at g4
  replace g4 : DataW.trod enc Try.prog W base spare held n3 3 [c4] = some u4 := g4
  obtain ⟨x3, r3, _, _⟩ := DataW.trod_int Try.underlying3 g3
  obtain rfl : c3 = .int .i64 x3 := by injection r3
  obtain ⟨x4, r4, _, _⟩ := DataW.trod_int Try.underlying3 g4
  obtain rfl : c4 = .int .i64 x4 := by injection r4
  obtain ⟨xs7, n7, _, _, _, hl7, hi7⟩ := DataW.trod_struct Try.underlying28 q7
  have hn7 : xs7.length = 5 := hl7
  obtain ⟨u8, v8⟩ := some_of (i := 0) (l := xs7) (by omega)
  have g8 : DataW.trod enc Try.prog W base spare held n7 3 (([c8, c9, c10, c11, c12].drop 0).take (Try.prog.cellsOf 3)) = some u8 := (hi7 0 _ rfl).trans v8
  rw [show Try.prog.cellsOf 3 = 1 by kernel_rfl] at g8
  replace g8 : DataW.trod enc Try.prog W base spare held n7 3 [c8] = some u8 := g8
  obtain ⟨u9, v9⟩ := some_of (i := 1) (l := xs7) (by omega)
  have g9 : DataW.trod enc Try.prog W base spare held n7 26 (([c8, c9, c10, c11, c12].drop 1).take (Try.prog.cellsOf 26)) = some u9 := (hi7 1 _ rfl).trans v9
  rw [show Try.prog.cellsOf 26 = 1 by kernel_rfl] at g9
  replace g9 : DataW.trod enc Try.prog W base spare held n7 26 [c9] = some u9 := g9
  obtain ⟨u10, v10⟩ := some_of (i := 2) (l := xs7) (by omega)
  have g10 : DataW.trod enc Try.prog W base spare held n7 26 (([c8, c9, c10, c11, c12].drop 2).take (Try.prog.cellsOf 26)) = some u10 := (hi7 2 _ rfl).trans v10
  rw [show Try.prog.cellsOf 26 = 1 by kernel_rfl] at g10
  replace g10 : DataW.trod enc Try.prog W base spare held n7 26 [c10] = some u10 := g10
  obtain ⟨u11, v11⟩ := some_of (i := 3) (l := xs7) (by omega)
  have g11 : DataW.trod enc Try.prog W base spare held n7 4 (([c8, c9, c10, c11, c12].drop 3).take (Try.prog.cellsOf 4)) = some u11 := (hi7 3 _ rfl).trans v11
  rw [show Try.prog.cellsOf 4 = 1 by kernel_rfl] at g11
  replace g11 : DataW.trod enc Try.prog W base spare held n7 4 [c11] = some u11 := g11
  obtain ⟨u12, v12⟩ := some_of (i := 4) (l := xs7) (by omega)
  have g12 : DataW.trod enc Try.prog W base spare held n7 3 (([c8, c9, c10, c11, c12].drop 4).take (Try.prog.cellsOf 3)) = some u12 := (hi7 4 _ rfl).trans v12
  rw [show Try.prog.cellsOf 3 = 1 by kernel_rfl] at g12
  replace g12 : DataW.trod enc Try.prog W base spare held n7 3 [c12] = some u12 := g12
  obtain ⟨x8, r8, _, _⟩ := DataW.trod_int Try.underlying3 g8
  obtain rfl : c8 = .int .i64 x8 := by injection r8
  obtain ⟨x9, r9⟩ := trod_u64 Try.underlying26 g9
  obtain rfl : c9 = .int .u64 (x9 : Int) := by injection r9
  obtain ⟨x10, r10⟩ := trod_u64 Try.underlying26 g10
  obtain rfl : c10 = .int .u64 (x10 : Int) := by injection r10
  obtain ⟨x11, r11, _⟩ := DataW.trod_bool Try.underlying4 g11
  obtain rfl : c11 = .bool x11 := by injection r11
  obtain ⟨x12, r12, _, _⟩ := DataW.trod_int Try.underlying3 g12
  obtain rfl : c12 = .int .i64 x12 := by injection r12
  obtain ⟨a5, b5, p5, rfl⟩ : ∃ a b p, c5 = .slice a b p := by
    rcases Go.Deep.open_slice Try.underlying24 q4 with ⟨hcs, _⟩ | ⟨x, l, c, m, n, D, Pl, hcs, _⟩
    · exact ⟨_, _, _, by injection hcs⟩
    · exact ⟨_, _, _, by injection hcs⟩
  obtain ⟨l5, _, at5⟩ := AclW.open_aces Try.underlying24 Try.underlying51 Try.underlying3 Try.underlying3 Try.underlying3 (by kernel_rfl) (by kernel_rfl) (⟨n, by simpa [Value.cells] using q4⟩ : DataW.Trod enc Try.prog W base spare held 24 (.slice a5 b5 p5) y4.1 y4.2)
  obtain ⟨a6, b6, p6, rfl⟩ : ∃ a b p, c6 = .slice a b p := by
    rcases Go.Deep.open_slice Try.underlying24 q5 with ⟨hcs, _⟩ | ⟨x, l, c, m, n, D, Pl, hcs, _⟩
    · exact ⟨_, _, _, by injection hcs⟩
    · exact ⟨_, _, _, by injection hcs⟩
  obtain ⟨l6, _, at6⟩ := AclW.open_aces Try.underlying24 Try.underlying51 Try.underlying3 Try.underlying3 Try.underlying3 (by kernel_rfl) (by kernel_rfl) (⟨n, by simpa [Value.cells] using q5⟩ : DataW.Trod enc Try.prog W base spare held 24 (.slice a6 b6 p6) y5.1 y5.2)
  obtain ⟨a7, b7, p7, rfl⟩ : ∃ a b p, c7 = .slice a b p := by
    rcases Go.Deep.open_slice Try.underlying25 q6 with ⟨hcs, _⟩ | ⟨x, l, c, m, n, D, Pl, hcs, _⟩
    · exact ⟨_, _, _, by injection hcs⟩
    · exact ⟨_, _, _, by injection hcs⟩
  obtain ⟨l7, _, at7⟩ := XatW.open_twos XatW.xat_two Try.underlying25 Try.underlying71 Try.underlying9 Try.underlying9 (by kernel_rfl) (by kernel_rfl) (⟨n, by simpa [Value.cells] using q6⟩ : DataW.Trod enc Try.prog W base spare held 25 (.slice a7 b7 p7) y6.1 y6.2)
  exact ⟨⟨x0, x1, x2, x3, x4, l5, l6, l7, ⟨x8, x9, x10, x11, x12⟩, x13⟩, .slice a5 b5 p5, .slice a6 b6 p6, .slice a7 b7 p7, rfl, ⟨at5, at6, at7⟩⟩
end Go.Proofs.Ytpfidbcnefnhcaa

/- Metadata and who asks among a law's arguments, by value, as the walk reads them. -/
namespace Go.Proofs.Ytpfidbcnefnhcaa
open Go.ChangeShapes Go.WideShapes Go.ChangeAt Go.RowKit
open MetaM RightM
set_option linter.unusedVariables false
theorem at_of_row {w : World} {a : Option Addr} {len cap : Nat} {zs : List Int} (h : IsRow .i64 w a len cap zs) : At intE (.slice a len cap) (zs.take len) w := by
  by_cases h0 : len = 0
  · subst h0
    rw [List.take_zero]
    rcases h with ⟨rfl, _, rfl, _⟩ | ⟨x, rfl, _⟩
    · exact .inl ⟨rfl, .inl rfl⟩
    · exact .inl ⟨rfl, .inr ⟨x, cap, rfl⟩⟩
  · have hz : len ≤ zs.length := by
      rcases h with ⟨_, h1, _⟩ | ⟨x, _, h1, _, h2, _⟩
      · omega
      · omega
    obtain ⟨b, off, rfl, hb, hc, hat⟩ := h.open (by omega)
    have hl : (zs.take len).length = len := by rw [List.length_take]; omega
    refine .inr ⟨b, off, cap, by rw [hl], by omega, hb, fun j hj i u hu => ?_⟩
    have hi : i = 0 := by
      have : i < 1 := (List.getElem?_eq_some_iff.1 hu).1
      omega
    subst hi
    have hu' : u = .int .i64 (zs.take len)[j] := by
      have e : (intE.enc (zs.take len)[j])[0]? = some (.int .i64 (zs.take len)[j]) := rfl
      rw [e] at hu
      exact (Option.some.inj hu).symm
    subst hu'
    have hjl : j < len := by omega
    rw [show off + (j * intE.k + 0) = off + j by show off + (j * 1 + 0) = _; omega, (hat j hjl).1, List.getElem_take]
    simp [List.getD, show j < zs.length by omega]
set_option maxHeartbeats 800000 in
theorem open_right {H : Type} {enc : TypeId × Value → H} {W : World} {base : Nat} {spare : Nat → Bool} {held : Bool} {r : Reach} {b0 : Nat} {v : Value} {d : DataW H} {p : List MemPlace}
    (hv : Value.okWide Try.prog W r b0 30 v) (h : DataW.Trod enc Try.prog W base spare held 30 v d p) :
    ∃ (m : Mt) (va vd vx : Value), v = .agg (metaC m va vd vx) ∧ At AclW.aceE va m.acl W ∧ InRange m.mode := by
  obtain ⟨m, va, vd, vx, rfl, hr⟩ := open_meta hv h
  refine ⟨m, va, vd, vx, rfl, hr.acl, ?_⟩
  obtain ⟨fuel, hf⟩ := h
  obtain ⟨xs, n, _, _, hlen, hxl, hi⟩ := DataW.trod_struct Try.underlying30 hf
  have hx9 : xs.length = 9 := hxl
  have e1 : Try.prog.cellsOf 3 = 1 := by kernel_rfl
  obtain ⟨y0, z0⟩ := some_of (i := 0) (l := xs) (by omega)
  have q0 : DataW.trod enc Try.prog W base spare held n 3 (((metaC m va vd vx).toList.drop 0).take (Try.prog.cellsOf 3)) = some y0 := (hi 0 _ rfl).trans z0
  rw [e1] at q0
  replace q0 : DataW.trod enc Try.prog W base spare held n 3 [.int .i64 m.mode] = some y0 := q0
  obtain ⟨x0, r0, _, hw⟩ := DataW.trod_int Try.underlying3 q0
  have e : m.mode = x0 := by injection r0 with r0; injection r0
  rw [e]
  have hw2 := hw
  simp only [Lit.wf, Bool.and_eq_true, decide_eq_true_eq] at hw2
  exact hw2
set_option maxHeartbeats 800000 in
theorem open_cred {H : Type} {enc : TypeId × Value → H} {W : World} {base : Nat} {held : Bool} {r : Reach} {b0 : Nat} {v : Value} {d : DataW H} {p : List MemPlace}
    (hv : Value.okWide Try.prog W r b0 33 v) (h : DataW.Trod enc Try.prog W base (fun _ => true) held 33 v d p) :
    ∃ (c : Cr) (gv : Value), v = .agg (credC c gv) ∧ At intE gv c.groups W := by
  obtain ⟨cs, rfl, hsz⟩ := okWide_struct Try.underlying33 hv
  have hC : Try.prog.cellsOf 33 = 4 := by kernel_rfl
  obtain ⟨fuel, hf⟩ := h
  obtain ⟨xs, n, _, _, hlen, hxl, hi⟩ := DataW.trod_struct Try.underlying33 hf
  obtain ⟨l⟩ := cs
  have hl : l.length = 4 := by rw [hC] at hsz; simpa using hsz
  obtain ⟨c0, c1, c2, c3, rfl⟩ : ∃ c0 c1 c2 c3, l = [c0, c1, c2, c3] := by
    match l, hl with
    | [c0, c1, c2, c3], _ => exact ⟨c0, c1, c2, c3, rfl⟩
  have e1 : Try.prog.cellsOf 3 = 1 := by kernel_rfl
  have e2 : Try.prog.cellsOf 31 = 1 := by kernel_rfl
  have hx4 : xs.length = 4 := hxl
  obtain ⟨y0, z0⟩ := some_of (i := 0) (l := xs) (by omega)
  have q0 : DataW.trod enc Try.prog W base (fun _ => true) held n 3 (([c0, c1, c2, c3].drop 0).take (Try.prog.cellsOf 3)) = some y0 := (hi 0 _ rfl).trans z0
  rw [e1] at q0
  replace q0 : DataW.trod enc Try.prog W base (fun _ => true) held n 3 [c0] = some y0 := q0
  obtain ⟨y1, z1⟩ := some_of (i := 1) (l := xs) (by omega)
  have q1 : DataW.trod enc Try.prog W base (fun _ => true) held n 3 (([c0, c1, c2, c3].drop 1).take (Try.prog.cellsOf 3)) = some y1 := (hi 1 _ rfl).trans z1
  rw [e1] at q1
  replace q1 : DataW.trod enc Try.prog W base (fun _ => true) held n 3 [c1] = some y1 := q1
  obtain ⟨y2, z2⟩ := some_of (i := 2) (l := xs) (by omega)
  have q2 : DataW.trod enc Try.prog W base (fun _ => true) held n 31 (([c0, c1, c2, c3].drop 2).take (Try.prog.cellsOf 31)) = some y2 := (hi 2 _ rfl).trans z2
  rw [e2] at q2
  replace q2 : DataW.trod enc Try.prog W base (fun _ => true) held n 31 [c2] = some y2 := q2
  obtain ⟨y3, z3⟩ := some_of (i := 3) (l := xs) (by omega)
  have q3 : DataW.trod enc Try.prog W base (fun _ => true) held n 3 (([c0, c1, c2, c3].drop 3).take (Try.prog.cellsOf 3)) = some y3 := (hi 3 _ rfl).trans z3
  rw [e1] at q3
  replace q3 : DataW.trod enc Try.prog W base (fun _ => true) held n 3 [c3] = some y3 := q3
  obtain ⟨x0, r0, _, _⟩ := DataW.trod_int Try.underlying3 q0
  obtain rfl : c0 = .int .i64 x0 := by injection r0
  obtain ⟨x1, r1, _, _⟩ := DataW.trod_int Try.underlying3 q1
  obtain rfl : c1 = .int .i64 x1 := by injection r1
  obtain ⟨x3, r3, _, _⟩ := DataW.trod_int Try.underlying3 q3
  obtain rfl : c3 = .int .i64 x3 := by injection r3
  obtain ⟨a, len, cap, zs, rfl, hrow⟩ : ∃ a len cap zs, c2 = .slice a len cap ∧ IsRow .i64 W a len cap zs := by
    rcases open_ints Try.underlying31 Try.underlying3 (by kernel_rfl) q2 with ⟨hcs, _⟩ | ⟨x, l, c, zs, hcs, _, hl, hm, hz, _, hcell, hwz⟩
    · injection hcs with hcs
      exact ⟨none, 0, 0, [], hcs, .inl ⟨rfl, rfl, rfl, rfl⟩⟩
    · injection hcs with hcs
      exact ⟨some x, l, c, zs, hcs, .inr ⟨_, rfl, hl, hm, by simpa using hz, hcell, hwz⟩⟩
  exact ⟨⟨x0, x1, zs.take len, x3⟩, _, rfl, at_of_row hrow⟩
end Go.Proofs.Ytpfidbcnefnhcaa
