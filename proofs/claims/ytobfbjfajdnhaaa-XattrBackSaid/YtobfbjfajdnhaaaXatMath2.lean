/- Names with values: what records say, by the records alone. -/
import Derived.Test.YtobfbjfajdnhaaaXatMath
namespace Go.Proofs.Ytobfbjfajdnhaaa
namespace XatM

theorem from_cons_none {acc : List Xa} {r : Xa} {rs : List Xa} (h : recX r = none) : fromGo acc (r :: rs) = fromGo acc rs := by
  show (match recX r with | none => _ | some none => _ | some (some x) => _) = _
  rw [h]
theorem from_cons_bad {acc : List Xa} {r : Xa} {rs : List Xa} (h : recX r = some none) : fromGo acc (r :: rs) = none := by
  show (match recX r with | none => _ | some none => _ | some (some x) => _) = _
  rw [h]
theorem from_cons_some {acc : List Xa} {r x : Xa} {rs : List Xa} (h : recX r = some (some x)) : fromGo acc (r :: rs) = fromGo (putX acc x) rs := by
  show (match recX r with | none => _ | some none => _ | some (some x) => _) = _
  rw [h]
theorem from_append (acc : List Xa) (a b : List Xa) : fromGo acc (a ++ b) = (fromGo acc a).bind fun m => fromGo m b := by
  induction a generalizing acc with
  | nil => rfl
  | cons r a ih =>
    rw [List.cons_append]
    rcases hr : recX r with _ | _ | x
    · rw [from_cons_none hr, from_cons_none hr, ih]
    · rw [from_cons_bad hr, from_cons_bad hr]; rfl
    · rw [from_cons_some hr, from_cons_some hr, ih]
theorem from_pw {acc l : List Xa} {rs : List Xa} (h : PW acc) (hf : fromGo acc rs = some l) : PW l := by
  induction rs generalizing acc with
  | nil => obtain rfl := Option.some.inj hf; exact h
  | cons r rs ih =>
    rcases hr : recX r with _ | _ | x
    · rw [from_cons_none hr] at hf; exact ih h hf
    · rw [from_cons_bad hr] at hf; cases hf
    · rw [from_cons_some hr] at hf; exact ih (put_pw h) hf
theorem from_len {acc l : List Xa} {rs : List Xa} (hf : fromGo acc rs = some l) : l.length ≤ acc.length + rs.length := by
  induction rs generalizing acc with
  | nil => obtain rfl := Option.some.inj hf; exact Nat.le_refl _
  | cons r rs ih =>
    rw [List.length_cons]
    rcases hr : recX r with _ | _ | x
    · rw [from_cons_none hr] at hf; have := ih hf; omega
    · rw [from_cons_bad hr] at hf; cases hf
    · rw [from_cons_some hr] at hf
      have := ih hf
      have := (put_len acc x).2
      omega
open Classical in
/-- Records that all say parts of l, and each part of it. -/
theorem from_look {l : List Xa} (hl : PW l) : ∀ (rs acc : List Xa), PW acc → (∀ r ∈ rs, recX r = none ∨ ∃ x ∈ l, recX r = some (some x)) →
    ∃ m, fromGo acc rs = some m ∧ ∀ n, look m n = if (∃ r ∈ rs, ∃ v, recX r = some (some (n, v))) then look l n else look acc n
  | [], acc, _, _ => ⟨acc, rfl, fun n => by rw [if_neg (by simp)]⟩
  | r :: rs, acc, ha, h => by
    rcases h r (by simp) with hr | ⟨x, hx, hr⟩
    · obtain ⟨m, h1, h2⟩ := from_look hl rs acc ha (fun q hq => h q (by simp [hq]))
      refine ⟨m, by rw [from_cons_none hr, h1], fun n => ?_⟩
      rw [h2 n]
      have e : (∃ q ∈ r :: rs, ∃ v, recX q = some (some (n, v))) ↔ (∃ q ∈ rs, ∃ v, recX q = some (some (n, v))) := by
        constructor
        · rintro ⟨q, hq, v, hv⟩
          rcases List.mem_cons.1 hq with rfl | hq
          · rw [hr] at hv; cases hv
          · exact ⟨q, hq, v, hv⟩
        · rintro ⟨q, hq, v, hv⟩
          exact ⟨q, by simp [hq], v, hv⟩
      simp only [e]
    · obtain ⟨m, h1, h2⟩ := from_look hl rs (putX acc x) (put_pw ha) (fun q hq => h q (by simp [hq]))
      refine ⟨m, by rw [from_cons_some hr, h1], fun n => ?_⟩
      rw [h2 n, look_put ha]
      by_cases hn : ∃ q ∈ rs, ∃ v, recX q = some (some (n, v))
      · rw [if_pos hn, if_pos]
        obtain ⟨q, hq, v, hv⟩ := hn
        exact ⟨q, by simp [hq], v, hv⟩
      · rw [if_neg hn]
        by_cases hxn : x.1 = n
        · rw [if_pos hxn, if_pos ⟨r, by simp, x.2, by rw [hr, ← hxn]⟩, ← hxn, look_of hl hx]
        · rw [if_neg hxn, if_neg]
          rintro ⟨q, hq, v, hv⟩
          rcases List.mem_cons.1 hq with rfl | hq
          · rw [hr] at hv
            have := Option.some.inj (Option.some.inj hv)
            exact hxn (by rw [this])
          · exact hn ⟨q, hq, v, hv⟩
theorem from_says {l rs : List Xa} (hm : mayL l = true) (h1 : ∀ r ∈ rs, recX r = none ∨ ∃ x ∈ l, recX r = some (some x)) (h2 : ∀ x ∈ l, ∃ r ∈ rs, recX r = some (some x)) : fromGo [] rs = some l := by
  have hl := asc_pw.1 (may_parts hm).2.2
  obtain ⟨m, e1, e2⟩ := from_look hl rs [] List.Pairwise.nil h1
  have hmp := from_pw List.Pairwise.nil e1
  rw [e1, look_inj hmp hl]
  intro n
  rw [e2 n]
  by_cases hn : ∃ r ∈ rs, ∃ v, recX r = some (some (n, v))
  · rw [if_pos hn]
  · rw [if_neg hn, look_nil]
    refine (look_none fun x hx e => ?_).symm
    obtain ⟨r, hr, hs⟩ := h2 x hx
    exact hn ⟨r, hr, x.2, by rw [hs, ← e]⟩
theorem fromL_says {l rs : List Xa} (hm : mayL l = true) (h1 : ∀ r ∈ rs, recX r = none ∨ ∃ x ∈ l, recX r = some (some x)) (h2 : ∀ x ∈ l, ∃ r ∈ rs, recX r = some (some x)) : fromL rs = some l := by
  unfold fromL
  rw [from_says hm h1 h2]
  simp only
  rw [if_pos hm]

/-- The two forms of a name with a value. -/
theorem isX_s (n : List UInt8) : isX (sK ++ n) = true := by
  unfold isX
  rw [show (sK ++ n).take 13 = sK from List.take_left' rfl, decide_eq_true (rfl : sK = sK), Bool.and_true, decide_eq_true (show 13 ≤ (sK ++ n).length by rw [List.length_append]; show 13 ≤ 13 + _; omega)]
  rfl
theorem isX_l (n : List UInt8) : isX (lK ++ n) = true := by
  unfold isX
  rw [show (lK ++ n).take 17 = lK from List.take_left' rfl, decide_eq_true (rfl : lK = lK), Bool.and_true, decide_eq_true (show 17 ≤ (lK ++ n).length by rw [List.length_append]; show 17 ≤ 17 + _; omega)]
  rw [Bool.or_true]
theorem recX_s (n v : List UInt8) : recX (sK ++ n, v) = some (some (n, v)) := by
  unfold recX
  simp only
  rw [isX_s, if_pos rfl, show (sK ++ n).head? = some 83 from rfl, if_neg (by decide), show (sK ++ n).drop 13 = n from List.drop_left' rfl]
theorem recX_l (k v : List UInt8) : recX (lK ++ k, v) = match EscM.get k, SixM.get v with
      | some n, some v => some (some (n, v))
      | _, _ => some none := by
  unfold recX
  simp only
  rw [isX_l, if_pos rfl, show (lK ++ k).head? = some 76 from rfl, if_pos rfl, show (lK ++ k).drop 17 = k from List.drop_left' rfl]
  rfl
theorem recX_put (x : Xa) : recX (lK ++ EscM.put x.1, SixM.p3 x.2) = some (some x) := by
  rw [recX_l, EscM.get_put, SixM.get_p3]
theorem recX_plain (x : Xa) : recX (sK ++ x.1, x.2) = some (some x) := recX_s x.1 x.2
theorem recOf_says {x r : Xa} (h : r ∈ recOf x) : recX r = some (some x) := by
  unfold recOf at h
  rcases List.mem_append.1 h with h | h
  · split at h
    · cases h
    · obtain rfl := List.mem_singleton.1 h
      exact recX_plain x
  · obtain rfl := List.mem_singleton.1 h
    exact recX_put x
theorem recOf_last (x : Xa) : (lK ++ EscM.put x.1, SixM.p3 x.2) ∈ recOf x := by unfold recOf; simp
/-- What a list's records say is the list. -/
theorem from_recs {l : List Xa} (hm : mayL l = true) : fromL (recsL l) = some l := by
  unfold recsL
  rw [if_pos hm]
  refine fromL_says hm (fun r hr => ?_) (fun x hx => ?_)
  · obtain ⟨x, hx, hr⟩ := List.mem_flatMap.1 hr
    exact .inr ⟨x, hx, recOf_says hr⟩
  · exact ⟨_, List.mem_flatMap.2 ⟨x, hx, recOf_last x⟩, recX_put x⟩
theorem flat_len : ∀ (l : List Xa), (l.flatMap recOf).length ≤ 2 * l.length
  | [] => by simp
  | x :: l => by
    rw [List.flatMap_cons, List.length_append, List.length_cons]
    have h1 : (recOf x).length ≤ 2 := by unfold recOf; split <;> simp
    have := flat_len l
    omega
theorem recs_len (l : List Xa) : (recsL l).length ≤ 2 * l.length := by
  unfold recsL
  split
  · exact flat_len l
  · simp
end XatM
end Go.Proofs.Ytobfbjfajdnhaaa
