/- A slice of parts among a law's arguments, as the walk reads it. -/
import Derived.Test.YtdjffnhkfpjafaaDoorAclFrame
import Derived.Test.YtdjffnhkfpjafaaDoorAclRow
import Derived.Deep.Slices
import Derived.Deep.Fields
import Derived.SizedLaws
namespace Go.Proofs.YtdjffnhkfpjafaaDoor
open Go.ChangeShapes Go.WideShapes Go.ChangeAt Go.RowKit
open AclM

theorem struct3_ints {H : Type} {enc : TypeId × Value → H} {P : Program} {W : World} {base : Nat} {spare : Nat → Bool} {held : Bool} {e : TypeId} {f0 f1 f2 : Field} {n : Nat} {cs : List Value} {x : DataW H × List MemPlace}
    (he : P.underlying e = some (.struct #[f0, f1, f2])) (h0 : P.underlying f0.type = some (.int .i64)) (h1 : P.underlying f1.type = some (.int .i64)) (h2 : P.underlying f2.type = some (.int .i64))
    (hone : Go.Deep.oneCellFields P #[f0, f1, f2] = true) (hC : P.cellsOf e = 3) (h : DataW.trod enc P W base spare held n e cs = some x) : ∃ a b c : Int, cs = [.int .i64 a, .int .i64 b, .int .i64 c] := by
  obtain ⟨xs, m, _, _, hlen, hxl, hf⟩ := DataW.trod_struct he h
  rw [hC] at hlen
  have key : ∀ (j : Nat) (f : Field), (#[f0, f1, f2] : Array Field)[j]? = some f → P.underlying f.type = some (.int .i64) → ∃ a : Int, cs[j]? = some (.int .i64 a) := by
    intro j f hj hu
    have hjl : j < 3 := (Array.getElem?_eq_some_iff.1 hj).1
    obtain ⟨ho, hk⟩ := Go.Deep.hone_of hone j f hj
    have h3 := hf j f hj
    rw [ho, hk, List.drop_eq_getElem_cons (by omega : j < cs.length), List.take_succ_cons, List.take_zero] at h3
    have hys : xs[j]? = some (xs[j]'(by rw [hxl]; exact hjl)) := List.getElem?_eq_getElem _
    rw [hys] at h3
    obtain ⟨a, ha, _⟩ := DataW.trod_int hu h3
    simp at ha
    exact ⟨a, by rw [List.getElem?_eq_getElem (by omega), ha]⟩
  obtain ⟨a, ha⟩ := key 0 f0 rfl h0
  obtain ⟨b, hb⟩ := key 1 f1 rfl h1
  obtain ⟨c, hc⟩ := key 2 f2 rfl h2
  match cs, hlen, ha, hb, hc with
  | [x0, x1, x2], _, ha, hb, hc =>
    simp at ha hb hc
    exact ⟨a, b, c, by rw [ha, hb, hc]⟩

theorem open_aces {H : Type} {enc : TypeId × Value → H} {P : Program} {W : World} {base : Nat} {spare : Nat → Bool} {held : Bool} {t e : TypeId} {f0 f1 f2 : Field} {a : Option Addr} {len cap : Nat} {d : DataW H} {p : List MemPlace}
    (ht : P.underlying t = some (.slice e)) (he : P.underlying e = some (.struct #[f0, f1, f2])) (h0 : P.underlying f0.type = some (.int .i64)) (h1 : P.underlying f1.type = some (.int .i64)) (h2 : P.underlying f2.type = some (.int .i64))
    (hone : Go.Deep.oneCellFields P #[f0, f1, f2] = true) (hC : P.cellsOf e = 3) (h : DataW.Trod enc P W base spare held t (.slice a len cap) d p) : ∃ l : List Ace, l.length = len ∧ At aceE (.slice a len cap) l W := by
  obtain ⟨fuel, hf⟩ := h
  rcases Go.Deep.open_slice ht hf with ⟨hcs, _⟩ | ⟨x, l, c, m, n, D, Pl, hcs, hb, hl, hm, hmm, _, hi⟩
  · simp [Value.cells] at hcs
    obtain ⟨rfl, rfl, rfl⟩ := hcs
    exact ⟨[], rfl, At.nil _⟩
  · simp [Value.cells] at hcs
    obtain ⟨rfl, rfl, rfl⟩ := hcs
    have hlm : len ≤ m := by rw [hmm]; split <;> omega
    rw [hC] at hi
    have each : ∀ i, i < len → ∃ r : Ace, W.cell? (x.add (i * 3)) = some (.int .i64 r.1) ∧ W.cell? ((x.add (i * 3)).add 1) = some (.int .i64 r.2.1) ∧ W.cell? ((x.add (i * 3)).add 2) = some (.int .i64 r.2.2) := by
      intro i hil
      obtain ⟨cs', hc, ht'⟩ := hi i (by omega)
      obtain ⟨u, v, y, rfl⟩ := struct3_ints he h0 h1 h2 hone hC ht'
      obtain ⟨_, _, hat⟩ := World.cells?_some hc
      have a0 := hat 0 (by omega)
      have a1 := hat 1 (by omega)
      have a2 := hat 2 (by omega)
      rw [show (x.add (i * 3)).add 0 = x.add (i * 3) by simp [Addr.add]] at a0
      exact ⟨(u, v, y), a0, a1, a2⟩
    by_cases hz : len = 0
    · subst hz
      exact ⟨[], rfl, .inl ⟨rfl, .inr ⟨_, _, rfl⟩⟩⟩
    · obtain ⟨b, off, spot⟩ := x
      obtain ⟨r0, z0, _, _⟩ := each 0 (by omega)
      have hspot : spot = none := by simpa [Addr.add] using World.cell?_spot z0
      subst hspot
      have ex : ∀ k, k ≤ len → ∃ l : List Ace, l.length = k ∧ ∀ j (h : j < l.length), W.cell? ⟨b, off + j * 3, none⟩ = some (.int .i64 l[j].1) ∧ W.cell? ⟨b, off + j * 3 + 1, none⟩ = some (.int .i64 l[j].2.1) ∧ W.cell? ⟨b, off + j * 3 + 2, none⟩ = some (.int .i64 l[j].2.2) := by
        intro k
        induction k with
        | zero => intro _; exact ⟨[], rfl, fun j h => by simp at h⟩
        | succ k ih =>
          intro hk
          obtain ⟨l, hl1, hl2⟩ := ih (by omega)
          obtain ⟨r, q0, q1, q2⟩ := each k (by omega)
          rw [addr_off_add] at q0 q1 q2
          rw [addr_off_add] at q1 q2
          refine ⟨l ++ [r], by simp [hl1], fun j h => ?_⟩
          by_cases hj : j < l.length
          · rw [List.getElem_append_left hj]; exact hl2 j hj
          · have hjk : j = k := by simp at h; omega
            subst hjk
            have : (l ++ [r])[j] = r := by rw [List.getElem_append_right (by omega)]; simp [hl1]
            rw [this]
            exact ⟨q0, q1, q2⟩
      obtain ⟨l, hl1, hl2⟩ := ex len (Nat.le_refl _)
      exact ⟨l, hl1, ace_at hl1.symm (by omega) (block_lt (hl2 0 (by omega)).1) hl2⟩
end Go.Proofs.YtdjffnhkfpjafaaDoor
