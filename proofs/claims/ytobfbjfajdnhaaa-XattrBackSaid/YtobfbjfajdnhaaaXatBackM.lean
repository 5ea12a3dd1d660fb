/- The law XattrBack: what its lists are. -/
import Derived.Test.YtobfbjfajdnhaaaXatMath2
namespace Go.Proofs.Ytobfbjfajdnhaaa
namespace XatM

def cm : Xa := ([99, 111, 109, 109, 101, 110, 116], [120])
theorem cm_none : recX cm = none := by decide +kernel
def isL (r : Xa) : Bool := decide (r.1.head? = some 76)
def has61 (x : Xa) : Bool := x.1.contains 61
/-- Behind a place, turned round, with another record behind each. -/
def backL (rs : List Xa) (j : Nat) : List Xa := (rs.drop j).reverse.flatMap fun r => [r, cm]
def plainL (rs : List Xa) (j : Nat) : List Xa := (rs.drop j).reverse.filter isL
theorem back_end (rs : List Xa) : backL rs rs.length = [] := by simp [backL]
theorem plain_end (rs : List Xa) : plainL rs rs.length = [] := by simp [plainL]
theorem back_step {rs : List Xa} {j : Nat} (h : j < rs.length) : backL rs j = backL rs (j + 1) ++ [rs[j], cm] := by
  unfold backL
  rw [List.drop_eq_getElem_cons h, List.reverse_cons, List.flatMap_append]
  simp
theorem plain_hit {rs : List Xa} {j : Nat} (h : j < rs.length) (hl : isL rs[j] = true) : plainL rs j = plainL rs (j + 1) ++ [rs[j]] := by
  unfold plainL
  rw [List.drop_eq_getElem_cons h, List.reverse_cons, List.filter_append, List.filter_cons_of_pos hl]
  simp
theorem plain_miss {rs : List Xa} {j : Nat} (h : j < rs.length) (hl : isL rs[j] = false) : plainL rs j = plainL rs (j + 1) := by
  unfold plainL
  rw [List.drop_eq_getElem_cons h, List.reverse_cons, List.filter_append, List.filter_cons_of_neg (by rw [hl]; decide)]
  simp
theorem back_len (rs : List Xa) (j : Nat) : (backL rs j).length = 2 * (rs.length - j) := by
  unfold backL
  have : ∀ (l : List Xa), (l.flatMap fun r => [r, cm]).length = 2 * l.length := by
    intro l
    induction l with
    | nil => rfl
    | cons r l ih => rw [List.flatMap_cons, List.length_append, ih]; simp; omega
  rw [this]
  simp
theorem plain_len (rs : List Xa) (j : Nat) : (plainL rs j).length ≤ rs.length := by
  unfold plainL
  refine Nat.le_trans (List.length_filter_le _ _) ?_
  simp
theorem last_isL (x : Xa) : isL (lK ++ EscM.put x.1, SixM.p3 x.2) = true := by
  unfold isL
  rw [decide_eq_true_eq]
  rfl
theorem says_in {l : List Xa} (hm : mayL l = true) {r : Xa} (hr : r ∈ recsL l) : ∃ x ∈ l, recX r = some (some x) := by
  unfold recsL at hr
  rw [if_pos hm] at hr
  obtain ⟨x, hx, hxr⟩ := List.mem_flatMap.1 hr
  exact ⟨x, hx, recOf_says hxr⟩
theorem last_in {l : List Xa} (hm : mayL l = true) {x : Xa} (hx : x ∈ l) : (lK ++ EscM.put x.1, SixM.p3 x.2) ∈ recsL l := by
  unfold recsL
  rw [if_pos hm]
  exact List.mem_flatMap.2 ⟨x, hx, recOf_last x⟩
theorem back_from {l : List Xa} (hm : mayL l = true) : fromL (backL (recsL l) 0) = some l := by
  refine fromL_says hm (fun r hr => ?_) (fun x hx => ?_)
  · unfold backL at hr
    obtain ⟨q, hq, hrq⟩ := List.mem_flatMap.1 hr
    rw [List.drop_zero, List.mem_reverse] at hq
    rcases List.mem_cons.1 hrq with rfl | h
    · exact .inr (says_in hm hq)
    · obtain rfl := List.mem_singleton.1 h
      exact .inl cm_none
  · refine ⟨(lK ++ EscM.put x.1, SixM.p3 x.2), ?_, recX_put x⟩
    unfold backL
    refine List.mem_flatMap.2 ⟨(lK ++ EscM.put x.1, SixM.p3 x.2), ?_, List.mem_cons_self ..⟩
    rw [List.drop_zero, List.mem_reverse]
    exact last_in hm hx
theorem plain_from {l : List Xa} (hm : mayL l = true) : fromL (plainL (recsL l) 0) = some l := by
  refine fromL_says hm (fun r hr => ?_) (fun x hx => ?_)
  · unfold plainL at hr
    rw [List.mem_filter, List.drop_zero, List.mem_reverse] at hr
    exact .inr (says_in hm hr.1)
  · refine ⟨(lK ++ EscM.put x.1, SixM.p3 x.2), ?_, recX_put x⟩
    unfold plainL
    rw [List.mem_filter, List.drop_zero, List.mem_reverse]
    exact ⟨last_in hm hx, last_isL x⟩
theorem count_all : ∀ l : List Xa, (l.flatMap recOf).length + (l.filter has61).length = 2 * l.length
  | [] => rfl
  | x :: l => by
    have ih := count_all l
    rw [List.flatMap_cons, List.length_append, List.length_cons]
    have h : (recOf x).length + (if has61 x then 1 else 0) = 2 := by
      unfold recOf has61
      cases x.1.contains 61 <;> rfl
    rcases hx : has61 x with _ | _
    · rw [List.filter_cons_of_neg (by rw [hx]; decide)]
      rw [hx] at h
      simp at h
      omega
    · rw [List.filter_cons_of_pos hx, List.length_cons]
      rw [hx] at h
      simp at h
      omega
theorem count_plain : ∀ l : List Xa, ((l.flatMap recOf).filter isL).length = l.length
  | [] => rfl
  | x :: l => by
    have ih := count_plain l
    rw [List.flatMap_cons, List.filter_append, List.length_append, List.length_cons, ih]
    have h : ((recOf x).filter isL).length = 1 := by
      unfold recOf
      have hs : isL (sK ++ x.1, x.2) = false := by
        unfold isL
        rw [decide_eq_false_iff_not]
        simp [sK]
      cases x.1.contains 61
      · show (([(sK ++ x.1, x.2)] ++ [(lK ++ EscM.put x.1, SixM.p3 x.2)]).filter isL).length = 1
        rw [List.filter_append, List.filter_cons_of_neg (by rw [hs]; decide), List.filter_cons_of_pos (last_isL x)]
        rfl
      · show (([] ++ [(lK ++ EscM.put x.1, SixM.p3 x.2)] : List Xa).filter isL).length = 1
        rw [List.filter_append, List.filter_cons_of_pos (last_isL x)]
        rfl
    omega
theorem plain_count {l : List Xa} (hm : mayL l = true) : (plainL (recsL l) 0).length = l.length := by
  unfold plainL recsL
  rw [if_pos hm, List.drop_zero, ← List.filter_reverse.symm, List.length_reverse, count_plain]
theorem recs_count {l : List Xa} (hm : mayL l = true) : (recsL l).length + (l.filter has61).length = 2 * l.length := by
  unfold recsL
  rw [if_pos hm, count_all]
theorem filter_succ {l : List Xa} {i : Nat} (h : i < l.length) : ((l.take (i + 1)).filter has61).length = ((l.take i).filter has61).length + (if has61 l[i] then 1 else 0) := by
  rw [List.take_succ_eq_append_getElem h, List.filter_append, List.length_append]
  congr 1
  cases hh : has61 l[i] <;> simp [List.filter_cons, hh]
end XatM
end Go.Proofs.Ytobfbjfajdnhaaa
