/- Wide access lists in memory. -/
import Derived.Test.YtikdpoekjfbpaaaDoorElt
import Derived.Test.YtikdpoekjfbpaaaDoorWideMath
namespace Go.Proofs.YtikdpoekjfbpaaaDoor
open Go.RowKit
open WideM
set_option linter.unusedVariables false

def wideE : Elt Wid where
  t := 41
  st := 22
  k := 4
  z := .agg #[.int .i64 0, .int .i64 0, .int .i64 0, .string ⟨#[]⟩]
  bytes := 40
  enc a := [.int .i64 a.ty, .int .i64 a.fl, .int .i64 a.ms, .string a.who]
  len _ := rfl
  one _ u h := by simp at h; rcases h with rfl | rfl | rfl | rfl <;> rfl
  pos := by decide
  und := Tryd.underlying22
  inf := by kernel_rfl
  zk := rfl
  small := by decide
def strE : Elt (List UInt8) where
  t := 9
  st := 23
  k := 1
  z := .string ⟨#[]⟩
  bytes := 16
  enc l := [.string (strOf l)]
  len _ := rfl
  one _ u h := by simp at h; subst h; rfl
  pos := by decide
  und := Tryd.underlying23
  inf := by kernel_rfl
  zk := rfl
  small := by decide

/-- A part's cells at a place. -/
def CellsAt (w : World) (g o : Nat) (a : Wid) : Prop := w.cell? ⟨g, o, none⟩ = some (.int .i64 a.ty) ∧ w.cell? ⟨g, o + 1, none⟩ = some (.int .i64 a.fl) ∧ w.cell? ⟨g, o + 2, none⟩ = some (.int .i64 a.ms) ∧ w.cell? ⟨g, o + 3, none⟩ = some (.string a.who)
theorem CellsAt.kept {w w1 : World} {g o : Nat} {a : Wid} (h : CellsAt w g o a) (hb : Below w.heap.size w w1) : CellsAt w1 g o a := ⟨cell_kept hb h.1, cell_kept hb h.2.1, cell_kept hb h.2.2.1, cell_kept hb h.2.2.2⟩
theorem wide_open {v : Value} {l : List Wid} {w : World} (h : At wideE v l w) (hl : l ≠ []) :
    ∃ g off cap, v = .slice (some ⟨g, off, none⟩) l.length cap ∧ l.length ≤ cap ∧ g < w.heap.size ∧ ∀ j (h : j < l.length), CellsAt w g (off + j * 4) l[j] := by
  obtain ⟨g, off, cap, h1, h2, h3, h4⟩ := h.open hl
  refine ⟨g, off, cap, h1, h2, h3, fun j hj => ?_⟩
  have e : ∀ i, off + (j * wideE.k + i) = off + j * 4 + i := by intro i; show off + (j * 4 + i) = _; omega
  have a0 := h4 j hj 0 _ rfl
  have a1 := h4 j hj 1 _ rfl
  have a2 := h4 j hj 2 _ rfl
  have a3 := h4 j hj 3 _ rfl
  rw [e] at a0 a1 a2 a3
  exact ⟨a0, a1, a2, a3⟩
/-- Whatever it holds: its shape, and its cells. -/
theorem wide_look {v : Value} {l : List Wid} {w : World} (h : At wideE v l w) :
    ∃ p cap, v = .slice p l.length cap ∧ l.length ≤ cap ∧ ∀ j (h : j < l.length), ∃ g off, p = some ⟨g, off, none⟩ ∧ g < w.heap.size ∧ CellsAt w g (off + j * 4) l[j] := by
  by_cases hl : l = []
  · obtain ⟨p, cap, h1, h2⟩ := h.shape
    exact ⟨p, cap, h1, h2, fun j hj => by subst hl; simp at hj⟩
  · obtain ⟨g, off, cap, h1, h2, h3, h4⟩ := wide_open h hl
    exact ⟨_, cap, h1, h2, fun j hj => ⟨g, off, rfl, h3, h4 j hj⟩⟩
theorem str_open {v : Value} {l : List (List UInt8)} {w : World} (h : At strE v l w) (hl : l ≠ []) :
    ∃ g off cap, v = .slice (some ⟨g, off, none⟩) l.length cap ∧ l.length ≤ cap ∧ g < w.heap.size ∧ ∀ j (h : j < l.length), w.cell? ⟨g, off + j, none⟩ = some (.string (strOf l[j])) := by
  obtain ⟨g, off, cap, h1, h2, h3, h4⟩ := h.open hl
  refine ⟨g, off, cap, h1, h2, h3, fun j hj => ?_⟩
  have e : off + (j * strE.k + 0) = off + j := by show off + (j * 1 + 0) = _; omega
  have a0 := h4 j hj 0 _ rfl
  rw [e] at a0
  exact a0
theorem str_look {v : Value} {l : List (List UInt8)} {w : World} (h : At strE v l w) :
    ∃ p cap, v = .slice p l.length cap ∧ l.length ≤ cap ∧ ∀ j (h : j < l.length), ∃ g off, p = some ⟨g, off, none⟩ ∧ g < w.heap.size ∧ w.cell? ⟨g, off + j, none⟩ = some (.string (strOf l[j])) := by
  by_cases hl : l = []
  · obtain ⟨p, cap, h1, h2⟩ := h.shape
    exact ⟨p, cap, h1, h2, fun j hj => by subst hl; simp at hj⟩
  · obtain ⟨g, off, cap, h1, h2, h3, h4⟩ := str_open h hl
    exact ⟨_, cap, h1, h2, fun j hj => ⟨g, off, rfl, h3, h4 j hj⟩⟩
/-- The ints of a list are ints, its strings are strings. -/
def Ints (l : List Wid) : Prop := ∀ a ∈ l, -9223372036854775808 ≤ a.ty ∧ a.ty ≤ 9223372036854775807 ∧ -9223372036854775808 ≤ a.fl ∧ a.fl ≤ 9223372036854775807 ∧ -9223372036854775808 ≤ a.ms ∧ a.ms ≤ 9223372036854775807 ∧ a.who.size ≤ 140737488351232
/-- A part by value. -/
def wideV (a : Wid) : Value := .agg #[.int .i64 a.ty, .int .i64 a.fl, .int .i64 a.ms, .string a.who]
theorem one_wide (w : World) (a : Wid) (B : Nat) (hB : B ≤ w.heap.size) : Row wideE B (.slice (some ⟨w.heap.size, 0, none⟩) 1 1) [a] (w.alloc (.cells #[.int .i64 a.ty, .int .i64 a.fl, .int .i64 a.ms, .string a.who] 41)) :=
  lit_row (E := wideE) w [a] _ B 1 rfl hB (by simp) rfl
theorem drop_cons {β : Type} {l : List β} {i : Nat} (h : i < l.length) : l.drop i = l[i] :: l.drop (i + 1) := List.drop_eq_getElem_cons h
end Go.Proofs.YtikdpoekjfbpaaaDoor
