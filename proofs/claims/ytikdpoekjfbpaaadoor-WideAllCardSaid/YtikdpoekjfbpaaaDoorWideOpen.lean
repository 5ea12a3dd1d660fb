/- A slice of parts, one of strings, among a law's arguments, as the walk reads it. -/
import Derived.Test.YtikdpoekjfbpaaaDoorWideFrame
import Derived.Test.YtikdpoekjfbpaaaDoorWideRow
import Derived.Deep.Slices
import Derived.Deep.Fields
import Derived.SizedLaws
import Derived.SliceStrings
import Derived.ChangeArms
namespace Go.Proofs.YtikdpoekjfbpaaaDoor
open Go.ChangeShapes Go.WideShapes Go.ChangeAt Go.RowKit
open WideM

theorem struct4_wide {H : Type} {enc : TypeId × Value → H} {P : Program} {W : World} {base : Nat} {spare : Nat → Bool} {held : Bool} {e : TypeId} {f0 f1 f2 f3 : Field} {n : Nat} {cs : List Value} {x : DataW H × List MemPlace}
    (he : P.underlying e = some (.struct #[f0, f1, f2, f3])) (h0 : P.underlying f0.type = some (.int .i64)) (h1 : P.underlying f1.type = some (.int .i64)) (h2 : P.underlying f2.type = some (.int .i64)) (h3 : P.underlying f3.type = some .string)
    (hone : Go.Deep.oneCellFields P #[f0, f1, f2, f3] = true) (hC : P.cellsOf e = 4) (h : DataW.trod enc P W base spare held n e cs = some x) : ∃ (a b c : Int) (s : ByteArray), cs = [.int .i64 a, .int .i64 b, .int .i64 c, .string s] := by
  obtain ⟨xs, m, _, _, hlen, hxl, hf⟩ := DataW.trod_struct he h
  rw [hC] at hlen
  have at1 : ∀ (j : Nat) (f : Field), (#[f0, f1, f2, f3] : Array Field)[j]? = some f → ∃ (u : Value) (y : DataW H × List MemPlace), cs[j]? = some u ∧ DataW.trod enc P W base spare held m f.type [u] = some y := by
    intro j f hj
    have hjl : j < 4 := (Array.getElem?_eq_some_iff.1 hj).1
    obtain ⟨ho, hk⟩ := Go.Deep.hone_of hone j f hj
    have h3 := hf j f hj
    rw [ho, hk, List.drop_eq_getElem_cons (by omega : j < cs.length), List.take_succ_cons, List.take_zero] at h3
    have hys : xs[j]? = some (xs[j]'(by rw [hxl]; exact hjl)) := List.getElem?_eq_getElem _
    rw [hys] at h3
    exact ⟨_, _, List.getElem?_eq_getElem (by omega), h3⟩
  obtain ⟨u0, y0, c0, t0⟩ := at1 0 f0 rfl
  obtain ⟨u1, y1, c1, t1⟩ := at1 1 f1 rfl
  obtain ⟨u2, y2, c2, t2⟩ := at1 2 f2 rfl
  obtain ⟨u3, y3, c3, t3⟩ := at1 3 f3 rfl
  obtain ⟨a, ha, _⟩ := DataW.trod_int h0 t0
  obtain ⟨b, hb, _⟩ := DataW.trod_int h1 t1
  obtain ⟨c, hc, _⟩ := DataW.trod_int h2 t2
  obtain ⟨s, hs, _⟩ := DataW.trod_string h3 t3
  simp at ha hb hc hs
  subst ha hb hc hs
  match cs, hlen, c0, c1, c2, c3 with
  | [x0, x1, x2, x3], _, c0, c1, c2, c3 =>
    simp at c0 c1 c2 c3
    exact ⟨a, b, c, s, by rw [c0, c1, c2, c3]⟩

theorem wide_at {w : World} {g off cap n : Nat} {l : List Wid} (hn : n = l.length) (hc : l.length ≤ cap) (hg : g < w.heap.size) (h : ∀ j (h : j < l.length), CellsAt w g (off + j * 4) l[j]) : At wideE (.slice (some ⟨g, off, none⟩) n cap) l w := by
  subst hn
  refine .inr ⟨g, off, cap, rfl, hc, hg, fun j hj i u hu => ?_⟩
  have e : off + (j * wideE.k + i) = off + j * 4 + i := by show off + (j * 4 + i) = _; omega
  rw [e]
  obtain ⟨a0, a1, a2, a3⟩ := h j hj
  have hi : i < 4 := (List.getElem?_eq_some_iff.1 hu).1
  have : i = 0 ∨ i = 1 ∨ i = 2 ∨ i = 3 := by omega
  rcases this with rfl | rfl | rfl | rfl <;> (cases hu; assumption)
theorem str_at {w : World} {g off cap n : Nat} {l : List (List UInt8)} (hn : n = l.length) (hc : l.length ≤ cap) (hg : g < w.heap.size) (h : ∀ j (h : j < l.length), w.cell? ⟨g, off + j, none⟩ = some (.string (strOf l[j]))) : At strE (.slice (some ⟨g, off, none⟩) n cap) l w := by
  subst hn
  refine .inr ⟨g, off, cap, rfl, hc, hg, fun j hj i u hu => ?_⟩
  have hi : i < 1 := (List.getElem?_eq_some_iff.1 hu).1
  obtain rfl : i = 0 := by omega
  cases hu
  have e : off + (j * strE.k + 0) = off + j := by show off + (j * 1 + 0) = _; omega
  rw [e]
  exact h j hj
theorem open_wides {H : Type} {enc : TypeId × Value → H} {P : Program} {W : World} {base : Nat} {spare : Nat → Bool} {held : Bool} {t e : TypeId} {f0 f1 f2 f3 : Field} {a : Option Addr} {len cap : Nat} {d : DataW H} {p : List MemPlace}
    (ht : P.underlying t = some (.slice e)) (he : P.underlying e = some (.struct #[f0, f1, f2, f3])) (h0 : P.underlying f0.type = some (.int .i64)) (h1 : P.underlying f1.type = some (.int .i64)) (h2 : P.underlying f2.type = some (.int .i64)) (h3 : P.underlying f3.type = some .string)
    (hone : Go.Deep.oneCellFields P #[f0, f1, f2, f3] = true) (hC : P.cellsOf e = 4) (h : DataW.Trod enc P W base spare held t (.slice a len cap) d p) : ∃ l : List Wid, l.length = len ∧ At wideE (.slice a len cap) l W := by
  obtain ⟨fuel, hf⟩ := h
  rcases Go.Deep.open_slice ht hf with ⟨hcs, _⟩ | ⟨x, l, c, m, n, D, Pl, hcs, hb, hl, hm, hmm, _, hi⟩
  · simp [Value.cells] at hcs
    obtain ⟨rfl, rfl, rfl⟩ := hcs
    exact ⟨[], rfl, At.nil _⟩
  · simp [Value.cells] at hcs
    obtain ⟨rfl, rfl, rfl⟩ := hcs
    have hlm : len ≤ m := by rw [hmm]; split <;> omega
    rw [hC] at hi
    have each : ∀ i, i < len → ∃ r : Wid, W.cell? (x.add (i * 4)) = some (.int .i64 r.ty) ∧ W.cell? ((x.add (i * 4)).add 1) = some (.int .i64 r.fl) ∧ W.cell? ((x.add (i * 4)).add 2) = some (.int .i64 r.ms) ∧ W.cell? ((x.add (i * 4)).add 3) = some (.string r.who) := by
      intro i hil
      obtain ⟨cs', hc, ht'⟩ := hi i (by omega)
      obtain ⟨u, v, y, s, rfl⟩ := struct4_wide he h0 h1 h2 h3 hone hC ht'
      obtain ⟨_, _, hat⟩ := World.cells?_some hc
      have a0 := hat 0 (by omega)
      have a1 := hat 1 (by omega)
      have a2 := hat 2 (by omega)
      have a3 := hat 3 (by omega)
      rw [show (x.add (i * 4)).add 0 = x.add (i * 4) by simp [Addr.add]] at a0
      exact ⟨⟨u, v, y, s⟩, a0, a1, a2, a3⟩
    by_cases hz : len = 0
    · subst hz
      exact ⟨[], rfl, .inl ⟨rfl, .inr ⟨_, _, rfl⟩⟩⟩
    · obtain ⟨b, off, spot⟩ := x
      obtain ⟨r0, z0, _, _, _⟩ := each 0 (by omega)
      have hspot : spot = none := by simpa [Addr.add] using World.cell?_spot z0
      subst hspot
      have ex : ∀ k, k ≤ len → ∃ l : List Wid, l.length = k ∧ ∀ j (h : j < l.length), CellsAt W b (off + j * 4) l[j] := by
        intro k
        induction k with
        | zero => intro _; exact ⟨[], rfl, fun j h => by simp at h⟩
        | succ k ih =>
          intro hk
          obtain ⟨l, hl1, hl2⟩ := ih (by omega)
          obtain ⟨r, q0, q1, q2, q3⟩ := each k (by omega)
          rw [addr_off_add] at q0 q1 q2 q3
          rw [addr_off_add] at q1 q2 q3
          refine ⟨l ++ [r], by simp [hl1], fun j h => ?_⟩
          by_cases hj : j < l.length
          · rw [List.getElem_append_left hj]; exact hl2 j hj
          · have hjk : j = k := by simp at h; omega
            subst hjk
            have : (l ++ [r])[j] = r := by rw [List.getElem_append_right (by omega)]; simp [hl1]
            rw [this]
            exact ⟨q0, q1, q2, q3⟩
      obtain ⟨l, hl1, hl2⟩ := ex len (Nat.le_refl _)
      exact ⟨l, hl1, wide_at hl1.symm (by omega) (block_lt (hl2 0 (by omega)).1) hl2⟩
theorem open_strl {H : Type} {enc : TypeId × Value → H} {P : Program} {W : World} {base : Nat} {spare : Nat → Bool} {held : Bool} {t e : TypeId} {a : Option Addr} {len cap : Nat} {d : DataW H} {p : List MemPlace}
    (ht : P.underlying t = some (.slice e)) (he : P.underlying e = some .string) (hc : P.cellsOf e = 1)
    (h : DataW.Trod enc P W base spare held t (.slice a len cap) d p) : ∃ l : List (List UInt8), l.length = len ∧ At strE (.slice a len cap) l W := by
  obtain ⟨fuel, hf⟩ := h
  rcases open_strings ht he hc hf with ⟨hcs, _⟩ | ⟨x, l, c, ss, hcs, _, hl, hm, hz, hx, hcell, hsz⟩
  · simp [Value.cells] at hcs
    obtain ⟨rfl, rfl, rfl⟩ := hcs
    exact ⟨[], rfl, At.nil _⟩
  · simp [Value.cells] at hcs
    obtain ⟨rfl, rfl, rfl⟩ := hcs
    have hlen : len ≤ ss.length := by rw [hz]; split <;> omega
    have hlt : ((ss.take len).map (·.data.toList)).length = len := by simp; omega
    refine ⟨(ss.take len).map (·.data.toList), hlt, ?_⟩
    by_cases h0 : len = 0
    · subst h0
      exact .inl ⟨by simp, .inr ⟨_, _, rfl⟩⟩
    · obtain ⟨b, off, spot⟩ := x
      have hspot : spot = none := by simpa [Addr.add] using World.cell?_spot (hcell 0 (by omega))
      subst hspot
      have key : ∀ j, j < ss.length → W.cell? ⟨b, off + j, none⟩ = some (.string (ss.getD j ByteArray.empty)) := fun j hj => by rw [← add_plain]; exact hcell j hj
      refine str_at hlt.symm (by omega) (block_lt (key 0 (by omega))) (fun j h => ?_)
      have hj : j < ss.length := by omega
      rw [key j hj]
      simp [List.getD, hj, strOf_self]
end Go.Proofs.YtikdpoekjfbpaaaDoor
