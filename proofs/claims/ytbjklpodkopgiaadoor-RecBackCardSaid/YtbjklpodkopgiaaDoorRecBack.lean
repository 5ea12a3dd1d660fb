/- What the law RecBack asks, in plain Lean: keys that may be; a byte that is turned. -/
import Derived.Test.YtbjklpodkopgiaaDoorRecMath2
namespace Go.Proofs.YtbjklpodkopgiaaDoor
namespace RecM
set_option linter.unusedVariables false
/-- A byte of a key: neither 0 nor '='. -/
def fixC (c : UInt8) : UInt8 := if c = 0 ∨ c = 61 then 46 else c
def recOf (k v : List UInt8) : List UInt8 × List UInt8 := ((107 :: k).map fixC, v)
def recsF (ks vs : List (List UInt8)) : List (List UInt8 × List UInt8) := ((ks.zip vs).take 20).map fun p => recOf p.1 p.2
theorem fix_not (l : List UInt8) : (0 : UInt8) ∉ l.map fixC ∧ (61 : UInt8) ∉ l.map fixC := by
  constructor
  · intro h
    obtain ⟨c, _, hc⟩ := List.mem_map.1 h
    unfold fixC at hc
    split at hc
    · revert hc; decide
    · rename_i hn
      exact hn (Or.inl hc)
  · intro h
    obtain ⟨c, _, hc⟩ := List.mem_map.1 h
    unfold fixC at hc
    split at hc
    · revert hc; decide
    · rename_i hn
      exact hn (Or.inr hc)
theorem rec_may (k v : List UInt8) (h1 : (recOf k v).1.length ≤ 200) (h2 : v.length ≤ 300) : mayB (recOf k v).1 (recOf k v).2 = true := by
  refine (may_iff _ _).2 ⟨by simp [recOf], by omega, (fix_not _).1, (fix_not _).2, ?_⟩
  have := (lenF_bounds (3 + (recOf k v).1.length + (recOf k v).2.length)).2
  have e : (recOf k v).2.length = v.length := rfl
  omega
theorem recs_mem {ks vs : List (List UInt8)} {r : List UInt8 × List UInt8} (h : r ∈ recsF ks vs) : ∃ k v, r = recOf k v := by
  obtain ⟨p, _, hp⟩ := List.mem_map.1 h
  exact ⟨p.1, p.2, hp.symm⟩
theorem recs_len (ks vs : List (List UInt8)) : (recsF ks vs).length = min 20 (min ks.length vs.length) := by
  unfold recsF
  rw [List.length_map, List.length_take, List.length_zip]
theorem recs_at (ks vs : List (List UInt8)) (i : Nat) (hk : i < ks.length) (hv : i < vs.length) (h : i < 20) (hr : i < (recsF ks vs).length) : (recsF ks vs)[i] = recOf ks[i] vs[i] := by
  simp [recsF]
theorem xor_same (a b : UInt8) (h : a ^^^ b = a) : b = 0 := by
  have h2 : a ^^^ (a ^^^ b) = a ^^^ a := by rw [h]
  simpa [← UInt8.xor_assoc] using h2
/-- With a byte turned the records are others, or none. -/
theorem turned {l : List (List UInt8 × List UInt8)} {p : Nat} {x y : UInt8} (h : (joinF l)[p]? = some x) (hy : y ≠ 0) : allF ((joinF l).set p (x ^^^ y)) ≠ some l := by
  intro h2
  have h3 := (join_all h2).1
  have h4 : (joinF l)[p]? = ((joinF l).set p (x ^^^ y))[p]? := by rw [← h3]
  have hp : p < (joinF l).length := (List.getElem?_eq_some_iff.1 h).1
  rw [List.getElem?_set_self hp, h, Option.some.injEq] at h4
  exact hy (xor_same x y h4.symm)
theorem get_first (k v : List UInt8) (l : List (List UInt8 × List UInt8)) (h : allMay ((k, v) :: l)) : getF (joinF ((k, v) :: l)) = some (k, v, (putF k v).length) := by
  have h1 := h (k, v) (List.mem_cons_self ..)
  have e : joinF ((k, v) :: l) = putF k v ++ joinF l := by unfold joinF; rw [List.map_cons, List.flatten_cons]
  rw [e]
  exact get_app h1 _
end RecM
end Go.Proofs.YtbjklpodkopgiaaDoor
