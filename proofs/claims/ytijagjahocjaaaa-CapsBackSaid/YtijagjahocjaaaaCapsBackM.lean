/- What bytes say that are cut, longer, or turned; how the law makes capabilities. -/
import Derived.Test.YtijagjahocjaaaaCapsMath
namespace Go.Proofs.Ytijagjahocjaaaa.CapsM
set_option linter.unusedVariables false

/-- Of less bytes nothing is told, but of none. -/
theorem get_cut (c : Cap) (hf : Fits c) (h : may c = true) (hv : c.v ≠ 0) (k : Nat) (hk : k < (putL c).length) (h0 : k ≠ 0) : getL ((putL c).take k) = none := by
  cases hg : getL ((putL c).take k) with
  | none => rfl
  | some d =>
    exfalso
    obtain ⟨k1, k2, k3⟩ := get_says hg
    have hlen : (putL d).length = k := by rw [k2, List.length_take]; omega
    have hne : putL d ≠ [] := by intro e; rw [e] at hlen; simp at hlen; omega
    have hdv := (putL_some hne).2
    have hd := putL_length k1 hdv
    have hc := putL_length h hv
    have hd2 : d.v = 2 := by
      rcases may_ver k1 with e | e | e
      · exact absurd e hdv
      · exact e
      · rw [if_pos e] at hd
        split at hc <;> omega
    have hc3 : c.v = 3 := by
      rw [if_neg (by omega)] at hd
      split at hc
      · assumption
      · omega
    have e1 : le4 (putL d) = le4 (putL c) := by
      rw [k2]
      have : 4 ≤ k := by rw [hd2] at hd; simp at hd; omega
      match hl : putL c, (show 4 ≤ (putL c).length by omega) with
      | a :: b :: x :: y :: r, _ =>
        obtain ⟨k', rfl⟩ : ∃ k', k = k' + 4 := ⟨k - 4, by omega⟩
        rfl
    have e2 : ∀ a : Cap, may a = true → a.v ≠ 0 → le4 (putL a) = first a := by
      intro a ha hav
      rw [putL_eq ha hav]
      refine le4_four _ (first_lt ?_) _
      rcases may_ver ha with e | e | e
      · exact absurd e hav
      · exact .inl e
      · exact .inr e
    rw [e2 d k1 hdv, e2 c h hv] at e1
    have f1 := first_ver (c := d) (.inl hd2)
    have f2 := first_ver (c := c) (.inr hc3)
    omega
/-- Of one byte more nothing is told. -/
theorem get_more (c : Cap) (h : may c = true) (hv : c.v ≠ 0) : getL (putL c ++ [0]) = none := by
  cases hg : getL (putL c ++ [0]) with
  | none => rfl
  | some d =>
    exfalso
    obtain ⟨k1, k2, k3⟩ := get_says hg
    have hlen : (putL d).length = (putL c).length + 1 := by rw [k2]; simp
    have hc := putL_length h hv
    have hdv : d.v ≠ 0 := by intro e; rw [putL_none (by simp [e])] at hlen; simp at hlen
    have hd := putL_length k1 hdv
    split at hc <;> split at hd <;> omega
/-- The same is told of the same bytes alone. -/
theorem get_same {c : Cap} {l : List UInt8} (hg : getL l = some c) : l = putL c := (get_says hg).2.1.symm
theorem put_ver (c : Cap) (h : may c = true) (h3 : c.v = 3) : (putL c)[3]? = some 3 := by
  rw [putL_eq h (by omega)]
  show some (UInt8.ofNat (first c / 16777216)) = some 3
  have f := first_ver (c := c) (.inr h3)
  have : first c / 16777216 = 3 := by omega
  rw [this]
  rfl
theorem turn_other {l : List UInt8} {j : Nat} (hj : j < l.length) {d : UInt8} (h : l.set j (l[j] ^^^ d) = l) : d = 0 := by
  have e : (l.set j (l[j] ^^^ d))[j]'(by simpa using hj) = l[j] := by simp only [h]
  rw [List.getElem_set_self] at e
  generalize l[j] = x at e
  have h1 : x ^^^ (x ^^^ d) = x ^^^ x := by rw [e]
  rw [← UInt8.xor_assoc, UInt8.xor_self] at h1
  simpa using h1
end Go.Proofs.Ytijagjahocjaaaa.CapsM
