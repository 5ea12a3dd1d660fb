/- The document's answer: whether a list may be, by counts of tags. -/
import Derived.Test.YtdjffnhkfpjafaaDoorAclAddM
namespace Go.Proofs.YtdjffnhkfpjafaaDoor
open Go.RowKit
open AclM
set_option linter.unusedVariables false

def cntT (l : List Ace) (k : Nat) : Nat := (l.filter fun a => decide (a.1 = (k : Int))).length
theorem cnt_snoc (l : List Ace) (a : Ace) (k : Nat) : cntT (l ++ [a]) k = cntT l k + if a.1 = (k : Int) then 1 else 0 := by
  unfold cntT
  rw [List.filter_append, List.length_append]
  by_cases h : a.1 = (k : Int) <;> simp [h]
theorem cnt_le (l : List Ace) (k : Nat) : cntT l k ≤ l.length := List.length_filter_le _ _
theorem cnt_has (l : List Ace) (k : Nat) : has l (k : Int) = decide (0 < cntT l k) := by
  by_cases h : has l (k : Int) = true
  · obtain ⟨a, ha, h2⟩ := has_iff.1 h
    rw [h, decide_eq_true]
    exact List.length_pos_iff.2 (List.ne_nil_of_mem (List.mem_filter.2 ⟨ha, decide_eq_true h2⟩))
  · have h' := h
    rw [Bool.not_eq_true] at h
    rw [h, decide_eq_false]
    intro hp
    obtain ⟨a, ha⟩ := List.exists_mem_of_length_pos hp
    obtain ⟨h3, h4⟩ := List.mem_filter.1 ha
    exact h' (has_iff.2 ⟨a, h3, of_decide_eq_true h4⟩)
theorem cnt_one {l : List Ace} (h1 : ∀ a ∈ l, okPart a = true) (h2 : PW l) (k : Nat) (hk : hasId (k : Int) = false) : cntT l k ≤ 1 := by
  unfold cntT
  have hp : PW (l.filter fun a => decide (a.1 = (k : Int))) := List.Pairwise.sublist List.filter_sublist h2
  rcases hf : l.filter (fun a => decide (a.1 = (k : Int))) with _ | ⟨x, _ | ⟨y, r⟩⟩
  · rw [hf]; simp
  · rw [hf]; simp
  · rw [hf] at hp
    have hx : x ∈ l.filter fun a => decide (a.1 = (k : Int)) := by rw [hf]; simp
    have hy : y ∈ l.filter fun a => decide (a.1 = (k : Int)) := by rw [hf]; simp
    obtain ⟨x1, x2⟩ := List.mem_filter.1 hx
    obtain ⟨y1, y2⟩ := List.mem_filter.1 hy
    replace x2 : x.1 = (k : Int) := of_decide_eq_true x2
    replace y2 : y.1 = (k : Int) := of_decide_eq_true y2
    have ix := (okPart_iff (h1 x x1)).2.2.2.2.2.2 (by rw [x2]; exact hk)
    have iy := (okPart_iff (h1 y y1)).2.2.2.2.2.2 (by rw [y2]; exact hk)
    have := (lt_iff _ _).1 ((List.pairwise_cons.1 hp).1 y (by simp))
    omega
theorem may_three {l : List Ace} (h : may l = true) : 3 ≤ l.length := by
  have h2 := may_two h
  rcases l with _ | ⟨x, _ | ⟨y, _ | ⟨z, r⟩⟩⟩
  · simp at h2
  · simp at h2
  · have a1 := may_first h (by simp)
    have a2 := may_last h (by simp)
    obtain ⟨a, ha, h3⟩ := has_iff.1 (may_iff.1 h).2.2.2.2.1
    simp at a1 a2 ha
    rcases ha with rfl | rfl <;> omega
  · simp
/-- What the counts say at the end. -/
theorem cnt_may {l : List Ace} (h32 : l.length ≤ 32) (h1 : ∀ a ∈ l, okPart a = true) (h2 : order l = true) :
    may l = (decide (cntT l 1 = 1) && decide (cntT l 3 = 1) && decide (cntT l 6 = 1) && (decide (cntT l 5 = 1) == decide (0 < cntT l 2 + cntT l 4))) := by
  have hp := order_pw.1 h2
  have e : ∀ k : Nat, hasId (k : Int) = false → has l (k : Int) = decide (cntT l k = 1) := by
    intro k hk
    rw [cnt_has]
    have := cnt_one h1 hp k hk
    by_cases h : cntT l k = 1
    · rw [h]; rfl
    · rw [decide_eq_false h, decide_eq_false]; omega
  have e1 : has l 1 = decide (cntT l 1 = 1) := e 1 (by decide)
  have e3 : has l 3 = decide (cntT l 3 = 1) := e 3 (by decide)
  have e5 : has l 5 = decide (cntT l 5 = 1) := e 5 (by decide)
  have e6 : has l 6 = decide (cntT l 6 = 1) := e 6 (by decide)
  have e2 : has l 2 = decide (0 < cntT l 2) := cnt_has l 2
  have e4 : has l 4 = decide (0 < cntT l 4) := cnt_has l 4
  unfold may tags
  rw [decide_eq_true h32, List.all_eq_true.2 h1, h2, e1, e3, e5, e6, e2, e4]
  have : (decide (0 < cntT l 2) || decide (0 < cntT l 4)) = decide (0 < cntT l 2 + cntT l 4) := by
    by_cases a : 0 < cntT l 2 <;> by_cases b : 0 < cntT l 4 <;> simp [a, b] <;> omega
  rw [this]
  simp
theorem order_snoc {l : List Ace} {i : Nat} (hi : i < l.length) (h : order (l.take i) = true) (hl : ∀ h0 : 0 < i, ltA (l[i - 1]'(by omega)) l[i] = true) : order (l.take (i + 1)) = true := by
  rw [order_pw] at h ⊢
  rw [List.take_succ_eq_append_getElem hi, pw_append]
  refine ⟨h, pw_one _, ?_⟩
  intro x hx y hy
  simp at hy
  subst hy
  obtain ⟨j, hj, rfl⟩ := List.getElem_of_mem hx
  have hj' := hj
  rw [List.length_take] at hj'
  have h3 := hl (by omega)
  by_cases hji : j = i - 1
  · subst hji
    rw [List.getElem_take]
    exact h3
  · have h4 := List.pairwise_iff_getElem.1 h j (i - 1) hj (by rw [List.length_take]; omega) (by omega)
    have e : (l.take i)[i - 1]'(by rw [List.length_take]; omega) = l[i - 1]'(by omega) := List.getElem_take
    rw [e] at h4
    exact lt_trans' h4 h3
theorem bad_order {l : List Ace} {i : Nat} (h0 : 0 < i) (hi : i < l.length) (h : ltA (l[i - 1]'(by omega)) l[i] = false) : may l = false := by
  rw [← Bool.not_eq_true]
  intro hm
  have := List.pairwise_iff_getElem.1 (may_iff.1 hm).2.2.1 (i - 1) i (by omega) hi (by omega)
  rw [h] at this
  cases this
theorem bad_part' {l : List Ace} {i : Nat} (hi : i < l.length) (h : okPart l[i] = false) : may l = false := by
  rw [← Bool.not_eq_true]
  intro hm
  rw [(may_iff.1 hm).2.1 _ (List.getElem_mem hi)] at h
  cases h
theorem bad_few {l : List Ace} (h : l.length < 3) : may l = false := by
  rw [← Bool.not_eq_true]
  intro hm
  have := may_three hm
  omega
theorem bad_many {l : List Ace} (h : 32 < l.length) : may l = false := by
  rw [← Bool.not_eq_true]
  intro hm
  have := (may_iff.1 hm).1
  omega

/-- Seven counts as cells. -/
def onceC (f : Nat → Nat) : Array Value := #[.int .i64 (f 0 : Int), .int .i64 (f 1 : Int), .int .i64 (f 2 : Int), .int .i64 (f 3 : Int), .int .i64 (f 4 : Int), .int .i64 (f 5 : Int), .int .i64 (f 6 : Int)]
theorem once_at (f : Nat → Nat) (k : Nat) (h : k < 7) : (onceC f)[k]? = some (.int .i64 (f k : Int)) := by
  have : k = 0 ∨ k = 1 ∨ k = 2 ∨ k = 3 ∨ k = 4 ∨ k = 5 ∨ k = 6 := by omega
  rcases this with rfl | rfl | rfl | rfl | rfl | rfl | rfl <;> rfl
theorem once_put (f g : Nat → Nat) (k : Nat) (h : k < 7) (hg : ∀ j, g j = f j + if j = k then 1 else 0) : (onceC f).setIfInBounds k (.int .i64 ((f k : Int) + 1)) = onceC g := by
  have : k = 0 ∨ k = 1 ∨ k = 2 ∨ k = 3 ∨ k = 4 ∨ k = 5 ∨ k = 6 := by omega
  rcases this with rfl | rfl | rfl | rfl | rfl | rfl | rfl <;> simp [onceC, hg]
end Go.Proofs.YtdjffnhkfpjafaaDoor
