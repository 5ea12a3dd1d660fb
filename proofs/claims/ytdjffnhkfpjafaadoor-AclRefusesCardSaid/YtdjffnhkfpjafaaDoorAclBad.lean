/- Texts that say no list; a list with a part put in place of another. -/
import Derived.Test.YtdjffnhkfpjafaaDoorAclLists
import Derived.Test.YtdjffnhkfpjafaaDoorAclSort
import Derived.Laws.OwnMore
namespace Go.Proofs.YtdjffnhkfpjafaaDoor
open Go.RowKit
open AclM DecM
set_option linter.unusedVariables false

theorem bad_list {l : List Ace} (h1 : ∀ a ∈ l, okPart a = true) (h2 : l ≠ []) (h3 : may l = false) : getL (textL l) = none := by
  unfold getL textL
  rw [cut_joinC (by simpa using h2) (by intro p hp; obtain ⟨a, _, rfl⟩ := List.mem_map.1 hp; exact partText_comma a), partsOf_text h1]
  simp [h3]
theorem itoa_1 : Lib.itoa 1 = [49] := by rw [show (1 : Int) = ((1 : Nat) : Int) from rfl, itoa_nat, Lib.decDigits_one (by decide)]; rfl
def badT0 : List UInt8 := []
theorem bad0 : getL badT0 = none := by decide +kernel
def badT1 : List UInt8 := [44]
theorem bad1 : getL badT1 = none := by decide +kernel
def badT2 : List UInt8 := [117, 58, 58, 114, 119, 120]
theorem bad2 : getL badT2 = none := by
  have h : textL [(1, 0, 7)] = badT2 := by decide
  rw [← h]
  exact bad_list (by decide) (by decide) (by decide)
def badT3 : List UInt8 := [117, 58, 58, 114, 119, 120, 44, 103, 58, 58, 114, 119, 120]
theorem bad3 : getL badT3 = none := by
  have h : textL [(1, 0, 7), (3, 0, 7)] = badT3 := by decide
  rw [← h]
  exact bad_list (by decide) (by decide) (by decide)
def badT4 : List UInt8 := [117, 58, 58, 114, 119, 120, 44, 103, 58, 58, 114, 119, 120, 44, 111, 58, 58, 114, 119, 120, 44]
theorem bad4 : getL badT4 = none := by decide +kernel
def badT5 : List UInt8 := [117, 58, 58, 114, 119, 120, 120, 44, 103, 58, 58, 114, 45, 45, 44, 111, 58, 58, 114, 45, 45]
theorem bad5 : getL badT5 = none := by decide +kernel
def badT6 : List UInt8 := [117, 58, 48, 49, 58, 114, 119, 120]
theorem bad6 : getL badT6 = none := by
  have hc : cutAt 44 badT6 = [badT6] := by decide
  have hg : guess badT6 = some (2, 1, 7) := by decide +kernel
  have hp : partOf badT6 = none := by
    unfold partOf
    rw [hg]
    have : partText (2, 1, 7) ≠ badT6 := by
      simp only [partText, idText, hasId]
      simp [itoa_1]
      decide
    simp [this]
  unfold getL
  rw [hc]
  show (match (match partOf badT6 with | none => none | some a => (partsOf []).map (a :: ·)) with | some l => if may l = true then some l else none | none => none) = none
  rw [hp]
def badT7 : List UInt8 := [117, 58, 58, 114, 119, 120, 44, 117, 58, 53, 58, 114, 45, 45, 44, 103, 58, 58, 114, 45, 45, 44, 111, 58, 58, 114, 45, 45]
theorem bad7 : getL badT7 = none := by
  have h : textL [(1, 0, 7), (2, 5, 4), (3, 0, 4), (6, 0, 4)] = badT7 := by simp only [textL, joinC, List.map, partText, idText, hasId]; simp [itoa_5]; decide
  rw [← h]
  exact bad_list (by decide) (by decide) (by decide)
def badT8 : List UInt8 := [117, 58, 58, 114, 119, 120, 44, 103, 58, 58, 114, 45, 45, 44, 109, 58, 58, 114, 119, 120, 44, 111, 58, 58, 114, 45, 45]
theorem bad8 : getL badT8 = none := by
  have h : textL [(1, 0, 7), (3, 0, 4), (5, 0, 7), (6, 0, 4)] = badT8 := by decide
  rw [← h]
  exact bad_list (by decide) (by decide) (by decide)
def badCells : Array Value := #[.string ⟨#[]⟩, .string ⟨#[44]⟩, .string ⟨#[117, 58, 58, 114, 119, 120]⟩, .string ⟨#[117, 58, 58, 114, 119, 120, 44, 103, 58, 58, 114, 119, 120]⟩, .string ⟨#[117, 58, 58, 114, 119, 120, 44, 103, 58, 58, 114, 119, 120, 44, 111, 58, 58, 114, 119, 120, 44]⟩, .string ⟨#[117, 58, 58, 114, 119, 120, 120, 44, 103, 58, 58, 114, 45, 45, 44, 111, 58, 58, 114, 45, 45]⟩, .string ⟨#[117, 58, 48, 49, 58, 114, 119, 120]⟩, .string ⟨#[117, 58, 58, 114, 119, 120, 44, 117, 58, 53, 58, 114, 45, 45, 44, 103, 58, 58, 114, 45, 45, 44, 111, 58, 58, 114, 45, 45]⟩, .string ⟨#[117, 58, 58, 114, 119, 120, 44, 103, 58, 58, 114, 45, 45, 44, 109, 58, 58, 114, 119, 120, 44, 111, 58, 58, 114, 45, 45]⟩]
theorem bad_at (K : Nat) (h : K < 9) : ∃ S : ByteArray, badCells[K]? = some (.string S) ∧ S.size ≤ 100 ∧ getL S.data.toList = none := by
  have : K = 0 ∨ K = 1 ∨ K = 2 ∨ K = 3 ∨ K = 4 ∨ K = 5 ∨ K = 6 ∨ K = 7 ∨ K = 8 := by omega
  rcases this with rfl | rfl | rfl | rfl | rfl | rfl | rfl | rfl | rfl
  · exact ⟨⟨#[]⟩, rfl, by decide, bad0⟩
  · exact ⟨⟨#[44]⟩, rfl, by decide, bad1⟩
  · exact ⟨⟨#[117, 58, 58, 114, 119, 120]⟩, rfl, by decide, bad2⟩
  · exact ⟨⟨#[117, 58, 58, 114, 119, 120, 44, 103, 58, 58, 114, 119, 120]⟩, rfl, by decide, bad3⟩
  · exact ⟨⟨#[117, 58, 58, 114, 119, 120, 44, 103, 58, 58, 114, 119, 120, 44, 111, 58, 58, 114, 119, 120, 44]⟩, rfl, by decide, bad4⟩
  · exact ⟨⟨#[117, 58, 58, 114, 119, 120, 120, 44, 103, 58, 58, 114, 45, 45, 44, 111, 58, 58, 114, 45, 45]⟩, rfl, by decide, bad5⟩
  · exact ⟨⟨#[117, 58, 48, 49, 58, 114, 119, 120]⟩, rfl, by decide, bad6⟩
  · exact ⟨⟨#[117, 58, 58, 114, 119, 120, 44, 117, 58, 53, 58, 114, 45, 45, 44, 103, 58, 58, 114, 45, 45, 44, 111, 58, 58, 114, 45, 45]⟩, rfl, by decide, bad7⟩
  · exact ⟨⟨#[117, 58, 58, 114, 119, 120, 44, 103, 58, 58, 114, 45, 45, 44, 109, 58, 58, 114, 119, 120, 44, 111, 58, 58, 114, 45, 45]⟩, rfl, by decide, bad8⟩

/-- One part's cells turned. -/
theorem ace_put {w w' : World} {g off cap n : Nat} {l : List Ace} {i : Nat} {a : Ace} (hn : n = l.length) (hi : i < l.length) (hc : l.length ≤ cap) (hg : g < w'.heap.size)
    (h : ∀ j (h : j < l.length), w.cell? ⟨g, off + j * 3, none⟩ = some (.int .i64 l[j].1) ∧ w.cell? ⟨g, off + j * 3 + 1, none⟩ = some (.int .i64 l[j].2.1) ∧ w.cell? ⟨g, off + j * 3 + 2, none⟩ = some (.int .i64 l[j].2.2))
    (hs : ∀ o, (o < off + i * 3 ∨ off + i * 3 + 3 ≤ o) → w'.cell? ⟨g, o, none⟩ = w.cell? ⟨g, o, none⟩)
    (h0 : w'.cell? ⟨g, off + i * 3, none⟩ = some (.int .i64 a.1)) (h1 : w'.cell? ⟨g, off + i * 3 + 1, none⟩ = some (.int .i64 a.2.1)) (h2 : w'.cell? ⟨g, off + i * 3 + 2, none⟩ = some (.int .i64 a.2.2)) :
    At aceE (.slice (some ⟨g, off, none⟩) n cap) (l.set i a) w' := by
  refine ace_at (by rw [hn, List.length_set]) (by rw [List.length_set]; exact hc) hg ?_
  intro j hj
  rw [List.length_set] at hj
  by_cases hij : i = j
  · subst hij
    rw [List.getElem_set_self]
    exact ⟨h0, h1, h2⟩
  · rw [List.getElem_set_ne hij]
    obtain ⟨a0, a1, a2⟩ := h j hj
    rw [hs _ (by omega), hs _ (by omega), hs _ (by omega)]
    exact ⟨a0, a1, a2⟩
theorem set_ne {w : World} {g a o : Nat} (u : Value) (h : a ≠ o) : (w.setCell ⟨g, a, none⟩ u).cell? ⟨g, o, none⟩ = w.cell? ⟨g, o, none⟩ := by simp [go_sem, h]
theorem set_eq {w : World} {g a : Nat} {x : Value} (u : Value) (hc : w.cell? ⟨g, a, none⟩ = some x) : (w.setCell ⟨g, a, none⟩ u).cell? ⟨g, a, none⟩ = some u := by simp [go_sem, hc]
theorem set_size {w : World} (p : Addr) (u : Value) : (w.setCell p u).heap.size = w.heap.size := by simp
theorem at_set3 {w : World} {g cap n : Nat} {l : List Ace} (h : At aceE (.slice (some ⟨g, 0, none⟩) n cap) l w) {i : Nat} (hi : i < n) (a : Ace) :
    At aceE (.slice (some ⟨g, 0, none⟩) n cap) (l.set i a) (((w.setCell ⟨g, i * 3, none⟩ (.int .i64 a.1)).setCell ⟨g, i * 3 + 1, none⟩ (.int .i64 a.2.1)).setCell ⟨g, i * 3 + 2, none⟩ (.int .i64 a.2.2)) := by
  have hl : l.length = n := by obtain ⟨p, c, e, _⟩ := h.shape; cases e; rfl
  obtain ⟨g', off, cap', e, hc, hg, hj⟩ := ace_open h (by intro e; rw [e] at hl; simp at hl; omega)
  cases e
  obtain ⟨a0, a1, a2⟩ := hj i (by omega)
  rw [Nat.zero_add] at a0 a1 a2
  refine ace_put (w := w) rfl (by omega) hc (by simpa using hg) hj ?_ ?_ ?_ ?_
  · intro o ho
    rw [set_ne _ (by omega), set_ne _ (by omega), set_ne _ (by omega)]
  · rw [Nat.zero_add, set_ne _ (by omega), set_ne _ (by omega)]; exact set_eq _ a0
  · rw [Nat.zero_add, set_ne _ (by omega)]; exact set_eq _ (by rw [set_ne _ (by omega)]; exact a1)
  · rw [Nat.zero_add]; exact set_eq _ (by rw [set_ne _ (by omega), set_ne _ (by omega)]; exact a2)
theorem at_set1 {w : World} {g cap n : Nat} {l : List Ace} (h : At aceE (.slice (some ⟨g, 0, none⟩) n cap) l w) {i : Nat} (hi : i < l.length) (u : Int) :
    At aceE (.slice (some ⟨g, 0, none⟩) n cap) (l.set i (l[i].1, u, l[i].2.2)) (w.setCell ⟨g, i * 3 + 1, none⟩ (.int .i64 u)) := by
  have hl : l.length = n := by obtain ⟨p, c, e, _⟩ := h.shape; cases e; rfl
  obtain ⟨g', off, cap', e, hc, hg, hj⟩ := ace_open h (by intro e; rw [e] at hi; simp at hi)
  cases e
  obtain ⟨a0, a1, a2⟩ := hj i hi
  rw [Nat.zero_add] at a0 a1 a2
  refine ace_put (w := w) rfl hi hc (by simpa using hg) hj ?_ ?_ ?_ ?_
  · intro o ho
    rw [set_ne _ (by omega)]
  · rw [Nat.zero_add, set_ne _ (by omega)]; exact a0
  · rw [Nat.zero_add]; exact set_eq _ a1
  · rw [Nat.zero_add, set_ne _ (by omega)]; exact a2
theorem at_set2 {w : World} {g cap n : Nat} {l : List Ace} (h : At aceE (.slice (some ⟨g, 0, none⟩) n cap) l w) {i : Nat} (hi : i < l.length) (u : Int) :
    At aceE (.slice (some ⟨g, 0, none⟩) n cap) (l.set i (l[i].1, l[i].2.1, u)) (w.setCell ⟨g, i * 3 + 2, none⟩ (.int .i64 u)) := by
  have hl : l.length = n := by obtain ⟨p, c, e, _⟩ := h.shape; cases e; rfl
  obtain ⟨g', off, cap', e, hc, hg, hj⟩ := ace_open h (by intro e; rw [e] at hi; simp at hi)
  cases e
  obtain ⟨a0, a1, a2⟩ := hj i hi
  rw [Nat.zero_add] at a0 a1 a2
  refine ace_put (w := w) rfl hi hc (by simpa using hg) hj ?_ ?_ ?_ ?_
  · intro o ho
    rw [set_ne _ (by omega)]
  · rw [Nat.zero_add, set_ne _ (by omega)]; exact a0
  · rw [Nat.zero_add, set_ne _ (by omega)]; exact a1
  · rw [Nat.zero_add]; exact set_eq _ a2
/-- A row of the call's own that holds something: its cells, none frozen. -/
theorem Row.open {B : Nat} {v : Value} {l : List Ace} {w : World} (h : Row aceE B v l w) (hl : l ≠ []) :
    ∃ g cap, v = .slice (some ⟨g, 0, none⟩) l.length cap ∧ l.length ≤ cap ∧ B ≤ g ∧ g < w.heap.size ∧ (∀ o, w.frozen? ⟨g, o, none⟩ = false) ∧ ∀ j (h : j < l.length), w.cell? ⟨g, j * 3, none⟩ = some (.int .i64 l[j].1) ∧ w.cell? ⟨g, j * 3 + 1, none⟩ = some (.int .i64 l[j].2.1) ∧ w.cell? ⟨g, j * 3 + 2, none⟩ = some (.int .i64 l[j].2.2) := by
  have hat := h.at
  obtain ⟨g, off, cap, rfl, hc, hg, hj⟩ := ace_open hat hl
  rcases h.2 with ⟨hv, _⟩ | ⟨g', cap', cur, hv, hB, hh, _⟩
  · cases hv
  · cases hv
    refine ⟨g, cap, rfl, hc, hB, hg, fun o => by simp [World.frozen?, hh], fun j hj' => ?_⟩
    have := hj j hj'
    rw [Nat.zero_add] at this
    exact this
end Go.Proofs.YtdjffnhkfpjafaaDoor
