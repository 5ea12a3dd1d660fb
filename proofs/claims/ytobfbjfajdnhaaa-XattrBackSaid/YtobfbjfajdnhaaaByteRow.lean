/- []byte(s): a block whose first cells are the bytes; its mark lies behind them. -/
import Derived.Test.YtobfbjfajdnhaaaKit
import Derived.Lib.ConvBytes
namespace Go.Proofs.Ytobfbjfajdnhaaa
open Go.RowKit

/-- Block g begins with the bytes l (more may stand behind); none of these is frozen. -/
def RowIs (w : World) (g : Nat) (t : TypeId) (l : List UInt8) : Prop :=
  ∃ (cs : Array Value) (fr : Nat × Nat), w.heap[g]? = some (.cells cs t fr) ∧ (fr = (0, 0) ∨ l.length ≤ fr.1) ∧ ∀ i (h : i < l.length), cs[i]? = some (.int .u8 (l[i].toNat : Int))

theorem RowIs.cell {w : World} {g : Nat} {t : TypeId} {l : List UInt8} (h : RowIs w g t l) (i : Nat) (hi : i < l.length) : w.cell? ⟨g, i, none⟩ = some (.int .u8 (l[i].toNat : Int)) := by
  obtain ⟨cs, fr, h1, _, h3⟩ := h
  rw [cell_of_row w g i cs t fr h1, h3 i hi]
theorem RowIs.free {w : World} {g : Nat} {t : TypeId} {l : List UInt8} (h : RowIs w g t l) (i : Nat) (hi : i < l.length) : w.frozen? ⟨g, i, none⟩ = false := by
  obtain ⟨cs, fr, h1, h2, h3⟩ := h
  simp [World.frozen?, h1]
  rcases h2 with rfl | h2
  · simp
  · omega
theorem RowIs.put {w : World} {g : Nat} {t : TypeId} {l : List UInt8} (h : RowIs w g t l) (i : Nat) (b : UInt8) : RowIs (w.setCell ⟨g, i, none⟩ (.int .u8 (b.toNat : Int))) g t (l.set i b) := by
  obtain ⟨cs, fr, h1, h2, h3⟩ := h
  refine ⟨cs.setIfInBounds i (.int .u8 (b.toNat : Int)), fr, by simp [World.setCell, Array.getElem?_modify, h1], by simpa using h2, ?_⟩
  intro j hj
  have hj' : j < l.length := by simpa using hj
  have h4 := h3 j hj'
  have hjc : j < cs.size := (Array.getElem?_eq_some_iff.1 h4).1
  rw [List.getElem_set]
  by_cases e : i = j
  · subst e
    simp [hjc]
  · rw [if_neg e, Array.getElem?_setIfInBounds_ne e]
    exact h4
theorem RowIs.size {w : World} {g : Nat} {t : TypeId} {l : List UInt8} (h : RowIs w g t l) : g < w.heap.size := by
  obtain ⟨cs, fr, h1, _⟩ := h
  exact (Array.getElem?_eq_some_iff.1 h1).1
theorem RowIs.kept {w w' : World} {g : Nat} {t : TypeId} {l : List UInt8} {B : Nat} (h : RowIs w g t l) (hb : Below B w w') (hg : g < B) : RowIs w' g t l := by
  obtain ⟨cs, fr, h1, h2, h3⟩ := h
  exact ⟨cs, fr, (hb.block g hg).trans h1, h2, h3⟩
theorem RowIs.alloc {w : World} {g : Nat} {t : TypeId} {l : List UInt8} (h : RowIs w g t l) (o : Obj) : RowIs (w.alloc o) g t l := by
  have hs := h.size
  obtain ⟨cs, fr, h1, h2, h3⟩ := h
  exact ⟨cs, fr, (Below.heap_alloc w o g hs).trans h1, h2, h3⟩
theorem RowIs.of (w : World) (t : TypeId) (s : ByteArray) : RowIs (Lib.bytesWorld w t s) w.heap.size t s.data.toList := by
  refine ⟨_, _, Lib.bytesWorld_at_new w t s, .inr ?_, ?_⟩
  · simp [Lib.bytesCells]
  · intro i hi
    have hi' : i < s.size := by simpa using hi
    have h := Lib.bytesWorld_cell w t s i hi'
    rw [World.cell?] at h
    simp [Lib.bytesWorld_at_new] at h
    rw [h]
    simp [hi']
theorem RowIs.back {P : Program} {w : World} {g : Nat} {t src dst : TypeId} {l : List UInt8} (cap : Nat) (h : RowIs w g t l) (hs : P.underlying src = some (.slice t)) (he : P.underlying t = some (.int .u8)) (hd : P.underlying dst = some .string) :
    (convert src dst (.slice (some ⟨g, 0, none⟩) l.length cap)).run P w = .ok (.string ⟨l.toArray⟩) w :=
  run_convert_bytes_back w src dst t ⟨g, 0, none⟩ cap l hs he hd (fun j hj => by rw [addr_zero_add]; exact h.cell j hj)
theorem below_bytesWorld {B : Nat} {a w : World} (h : Below B a w) (hB : B ≤ w.heap.size) (t : TypeId) (s : ByteArray) : Below B a (Lib.bytesWorld w t s) :=
  h.trans ⟨rfl, rfl, rfl, by rw [Lib.bytesWorld_size]; omega, fun k hk => Lib.bytesWorld_at_old w t s k (by omega)⟩
end Go.Proofs.Ytobfbjfajdnhaaa
