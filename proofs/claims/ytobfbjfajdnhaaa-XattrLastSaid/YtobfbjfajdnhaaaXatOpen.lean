/- A list of names with values, one of records, among a law's arguments, as the walk reads it. -/
import Derived.Test.YtobfbjfajdnhaaaXatRow
import Derived.Deep.Slices
import Derived.Deep.Fields
import Derived.ChangeArms
namespace Go.Proofs.Ytobfbjfajdnhaaa
open Go.RowKit
open XatM

theorem struct_two {H : Type} {enc : TypeId × Value → H} {P : Program} {W : World} {base : Nat} {spare : Nat → Bool} {held : Bool} {e : TypeId} {f0 f1 : Field} {n : Nat} {cs : List Value} {x : DataW H × List MemPlace}
    (he : P.underlying e = some (.struct #[f0, f1])) (h0 : P.underlying f0.type = some .string) (h1 : P.underlying f1.type = some .string)
    (hone : Go.Deep.oneCellFields P #[f0, f1] = true) (hC : P.cellsOf e = 2) (h : DataW.trod enc P W base spare held n e cs = some x) : ∃ (a b : ByteArray), cs = [.string a, .string b] := by
  obtain ⟨xs, m, _, _, hlen, hxl, hf⟩ := DataW.trod_struct he h
  rw [hC] at hlen
  have at1 : ∀ (j : Nat) (f : Field), (#[f0, f1] : Array Field)[j]? = some f → ∃ (u : Value) (y : DataW H × List MemPlace), cs[j]? = some u ∧ DataW.trod enc P W base spare held m f.type [u] = some y := by
    intro j f hj
    have hjl : j < 2 := (Array.getElem?_eq_some_iff.1 hj).1
    obtain ⟨ho, hk⟩ := Go.Deep.hone_of hone j f hj
    have h3 := hf j f hj
    rw [ho, hk, List.drop_eq_getElem_cons (by omega : j < cs.length), List.take_succ_cons, List.take_zero] at h3
    have hys : xs[j]? = some (xs[j]'(by rw [hxl]; exact hjl)) := List.getElem?_eq_getElem _
    rw [hys] at h3
    exact ⟨_, _, List.getElem?_eq_getElem (by omega), h3⟩
  obtain ⟨u0, y0, c0, t0⟩ := at1 0 f0 rfl
  obtain ⟨u1, y1, c1, t1⟩ := at1 1 f1 rfl
  obtain ⟨a, ha, _⟩ := DataW.trod_string h0 t0
  obtain ⟨b, hb, _⟩ := DataW.trod_string h1 t1
  simp at ha hb
  subst ha hb
  match cs, hlen, c0, c1 with
  | [x0, x1], _, c0, c1 =>
    simp at c0 c1
    exact ⟨a, b, by rw [c0, c1]⟩
theorem open_twos {E : Elt Xa} (hE : IsTwo E) {H : Type} {enc : TypeId × Value → H} {P : Program} {W : World} {base : Nat} {spare : Nat → Bool} {held : Bool} {t e : TypeId} {f0 f1 : Field} {a : Option Addr} {len cap : Nat} {d : DataW H} {p : List MemPlace}
    (ht : P.underlying t = some (.slice e)) (he : P.underlying e = some (.struct #[f0, f1])) (h0 : P.underlying f0.type = some .string) (h1 : P.underlying f1.type = some .string)
    (hone : Go.Deep.oneCellFields P #[f0, f1] = true) (hC : P.cellsOf e = 2) (h : DataW.Trod enc P W base spare held t (.slice a len cap) d p) : ∃ l : List Xa, l.length = len ∧ At E (.slice a len cap) l W := by
  obtain ⟨fuel, hf⟩ := h
  rcases Go.Deep.open_slice ht hf with ⟨hcs, _⟩ | ⟨x, l, c, m, n, D, Pl, hcs, hb, hl, hm, hmm, _, hi⟩
  · simp [Value.cells] at hcs
    obtain ⟨rfl, rfl, rfl⟩ := hcs
    exact ⟨[], rfl, At.nil _⟩
  · simp [Value.cells] at hcs
    obtain ⟨rfl, rfl, rfl⟩ := hcs
    have hlm : len ≤ m := by rw [hmm]; split <;> omega
    rw [hC] at hi
    have each : ∀ i, i < len → ∃ r : Xa, W.cell? (x.add (i * 2)) = some (.string (strOf r.1)) ∧ W.cell? ((x.add (i * 2)).add 1) = some (.string (strOf r.2)) := by
      intro i hil
      obtain ⟨cs', hc, ht'⟩ := hi i (by omega)
      obtain ⟨u, v, rfl⟩ := struct_two he h0 h1 hone hC ht'
      obtain ⟨_, _, hat⟩ := World.cells?_some hc
      have a0 := hat 0 (by omega)
      have a1 := hat 1 (by omega)
      rw [show (x.add (i * 2)).add 0 = x.add (i * 2) by simp [Addr.add]] at a0
      refine ⟨(u.data.toList, v.data.toList), ?_, ?_⟩
      · simp only [strOf_self]; exact a0
      · simp only [strOf_self]; exact a1
    by_cases hz : len = 0
    · subst hz
      exact ⟨[], rfl, .inl ⟨rfl, .inr ⟨_, _, rfl⟩⟩⟩
    · obtain ⟨b, off, spot⟩ := x
      obtain ⟨r0, q0, _⟩ := each 0 (by omega)
      have hspot : spot = none := by simpa [Addr.add] using World.cell?_spot q0
      subst hspot
      have ex : ∀ k, k ≤ len → ∃ l : List Xa, l.length = k ∧ ∀ j (h : j < l.length), TwoAt W b (off + j * 2) l[j] := by
        intro k
        induction k with
        | zero => intro _; exact ⟨[], rfl, fun j h => by simp at h⟩
        | succ k ih =>
          intro hk
          obtain ⟨l, hl1, hl2⟩ := ih (by omega)
          obtain ⟨r, q0, q1⟩ := each k (by omega)
          rw [addr_off_add] at q0 q1
          rw [addr_off_add] at q1
          refine ⟨l ++ [r], by simp [hl1], fun j h => ?_⟩
          by_cases hj : j < l.length
          · rw [List.getElem_append_left hj]; exact hl2 j hj
          · have hjk : j = k := by simp at h; omega
            subst hjk
            have : (l ++ [r])[j] = r := by rw [List.getElem_append_right (by omega)]; simp [hl1]
            rw [this]
            exact ⟨q0, q1⟩
      obtain ⟨l, hl1, hl2⟩ := ex len (Nat.le_refl _)
      exact ⟨l, hl1, two_at hE hl1.symm (by omega) (block_lt (hl2 0 (by omega)).1) hl2⟩
end Go.Proofs.Ytobfbjfajdnhaaa
