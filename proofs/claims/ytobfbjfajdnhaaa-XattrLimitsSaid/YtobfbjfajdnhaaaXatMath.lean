/- Names with values: which lists may be; their records; what records say. -/
import Derived.Test.YtobfbjfajdnhaaaAclKit
import Derived.Test.YtobfbjfajdnhaaaEscMath
import Derived.Test.YtobfbjfajdnhaaaSixMath
namespace Go.Proofs.Ytobfbjfajdnhaaa
namespace XatM

/-- A name with a value; a record: a key with a value. -/
abbrev Xa := List UInt8 × List UInt8
def anyOf (s m : List UInt8) : Bool := s.any fun c => m.contains c
/-- What the keys begin with. -/
def sK : List UInt8 := [83, 67, 72, 73, 76, 89, 46, 120, 97, 116, 116, 114, 46]
def lK : List UInt8 := [76, 73, 66, 65, 82, 67, 72, 73, 86, 69, 46, 120, 97, 116, 116, 114, 46]
/-- One that may be, wherever it stands. -/
def okX (x : Xa) : Bool := decide (x.1 ≠ []) && !x.1.contains 0 && decide ((EscM.put x.1).length ≤ 238) && decide (x.2.length ≤ 4096)
/-- Names rise. -/
def asc : List Xa → Bool
  | x :: y :: r => decide (x.1 < y.1) && asc (y :: r)
  | _ => true
def mayL (l : List Xa) : Bool := decide (l.length ≤ 32) && l.all okX && asc l
/-- One with its place. -/
def okAt (l : List Xa) (i : Nat) : Bool := match l[i]? with
  | some x => okX x && (match i with
    | 0 => true
    | j + 1 => match l[j]? with
      | some y => decide (y.1 < x.1)
      | none => true)
  | none => true
def recOf (x : Xa) : List Xa := (if x.1.contains 61 then [] else [(sK ++ x.1, x.2)]) ++ [(lK ++ EscM.put x.1, SixM.p3 x.2)]
def recsL (l : List Xa) : List Xa := if mayL l then l.flatMap recOf else []
/-- Is a key one of ours? -/
def isX (k : List UInt8) : Bool := (decide (13 ≤ k.length) && decide (k.take 13 = sK)) || (decide (17 ≤ k.length) && decide (k.take 17 = lK))
/-- What a record says: nothing that counts here, nothing that can be told, a name with a value. -/
def recX (r : Xa) : Option (Option Xa) :=
  if isX r.1 then
    (if r.1.head? = some 76 then (match EscM.get (r.1.drop 17), SixM.get r.2 with
      | some n, some v => some (some (n, v))
      | _, _ => some none)
    else some (some (r.1.drop 13, r.2)))
  else none
/-- One more, in its place; above one of the same name. -/
def putX : List Xa → Xa → List Xa
  | [], a => [a]
  | y :: l, a => if y.1 < a.1 then y :: putX l a else if y.1 = a.1 then a :: l else a :: y :: l
def fromGo : List Xa → List Xa → Option (List Xa)
  | acc, [] => some acc
  | acc, r :: rs => match recX r with
    | none => fromGo acc rs
    | some none => none
    | some (some x) => fromGo (putX acc x) rs
def fromL (rs : List Xa) : Option (List Xa) := match fromGo [] rs with
  | some l => if mayL l then some l else none
  | none => none

theorem lt_irrefl (a : List UInt8) : ¬ a < a := List.lt_irrefl a
theorem lt_trans {a b c : List UInt8} (h : a < b) (k : b < c) : a < c := List.lt_trans h k
theorem lt_total {a b : List UInt8} (h : ¬ a < b) (k : a ≠ b) : b < a := Classical.byContradiction fun g => k (List.le_antisymm (List.not_lt.1 g) (List.not_lt.1 h))
theorem lt_asymm {a b : List UInt8} (h : a < b) : ¬ b < a := List.lt_asymm h
theorem lt_ne {a b : List UInt8} (h : a < b) : a ≠ b := fun e => lt_irrefl b (e ▸ h)

theorem put_mono (s : List UInt8) : s.length ≤ (EscM.put s).length := by
  induction s with
  | nil => simp
  | cons c s ih =>
    rw [EscM.put_cons, List.length_append, List.length_cons]
    have : 1 ≤ (EscM.enc c).length := by unfold EscM.enc; split <;> simp
    omega
theorem asc_iff : ∀ (l : List Xa), asc l = true ↔ ∀ i x y, l[i]? = some x → l[i + 1]? = some y → x.1 < y.1
  | [] => by simp [asc]
  | [x] => by
    simp only [asc, true_iff]
    intro i a b _ h
    simp at h
  | x :: y :: r => by
    unfold asc
    rw [Bool.and_eq_true, decide_eq_true_eq, asc_iff (y :: r)]
    constructor
    · rintro ⟨h1, h2⟩ i a b ha hb
      cases i with
      | zero => simp at ha hb; rw [← ha, ← hb]; exact h1
      | succ i => exact h2 i a b (by simpa using ha) (by simpa using hb)
    · intro h
      exact ⟨h 0 x y rfl rfl, fun i a b ha hb => h (i + 1) a b (by simpa using ha) (by simpa using hb)⟩
theorem okAt_all {l : List Xa} : (∀ i, i < l.length → okAt l i = true) ↔ (l.all okX = true ∧ asc l = true) := by
  constructor
  · intro h
    refine ⟨?_, ?_⟩
    · rw [List.all_eq_true]
      intro x hx
      obtain ⟨i, hi, he⟩ := List.getElem_of_mem hx
      have := h i hi
      unfold okAt at this
      rw [List.getElem?_eq_getElem hi] at this
      simp only [Bool.and_eq_true] at this
      rw [← he]
      exact this.1
    · rw [asc_iff]
      intro i x y hx hy
      have hi : i + 1 < l.length := (List.getElem?_eq_some_iff.1 hy).1
      have := h (i + 1) hi
      unfold okAt at this
      rw [hy] at this
      simp only [hx, Bool.and_eq_true, decide_eq_true_eq] at this
      exact this.2
  · rintro ⟨h1, h2⟩ i hi
    unfold okAt
    rw [List.getElem?_eq_getElem hi]
    simp only [Bool.and_eq_true]
    refine ⟨List.all_eq_true.1 h1 _ (List.getElem_mem hi), ?_⟩
    cases i with
    | zero => rfl
    | succ j =>
      simp only
      rw [List.getElem?_eq_getElem (show j < l.length by omega)]
      simp only [decide_eq_true_eq]
      exact (asc_iff l).1 h2 j _ _ (List.getElem?_eq_getElem (by omega)) (List.getElem?_eq_getElem hi)
theorem may_all {l : List Xa} (h : ∀ i, i < l.length → okAt l i = true) : mayL l = decide (l.length ≤ 32) := by
  obtain ⟨h1, h2⟩ := okAt_all.1 h
  unfold mayL
  rw [h1, h2, Bool.and_true, Bool.and_true]
theorem may_bad {l : List Xa} {i : Nat} (hi : i < l.length) (h : okAt l i = false) : mayL l = false := by
  rw [Bool.eq_false_iff]
  intro hm
  unfold mayL at hm
  rw [Bool.and_eq_true, Bool.and_eq_true] at hm
  have := okAt_all.2 ⟨hm.1.2, hm.2⟩ i hi
  rw [h] at this
  cases this
theorem may_parts {l : List Xa} (h : mayL l = true) : l.length ≤ 32 ∧ (∀ x ∈ l, okX x = true) ∧ asc l = true := by
  unfold mayL at h
  rw [Bool.and_eq_true, Bool.and_eq_true, decide_eq_true_eq, List.all_eq_true] at h
  exact ⟨h.1.1, h.1.2, h.2⟩
theorem okX_parts {x : Xa} (h : okX x = true) : x.1 ≠ [] ∧ x.1.contains 0 = false ∧ (EscM.put x.1).length ≤ 238 ∧ x.2.length ≤ 4096 ∧ x.1.length ≤ 238 := by
  unfold okX at h
  simp only [Bool.and_eq_true, decide_eq_true_eq, Bool.not_eq_true'] at h
  have := put_mono x.1
  exact ⟨h.1.1.1, h.1.1.2, h.1.2, h.2, by omega⟩

/-- One put in its place, as it is found by a loop. -/
theorem put_step {l : List Xa} {a : Xa} {k : Nat} (hk : k < l.length) (h : putX l a = l.take k ++ putX (l.drop k) a) (hlt : l[k].1 < a.1) : putX l a = l.take (k + 1) ++ putX (l.drop (k + 1)) a := by
  rw [h, List.drop_eq_getElem_cons hk, List.take_succ_eq_append_getElem hk]
  show _ ++ (if l[k].1 < a.1 then l[k] :: putX (l.drop (k + 1)) a else _) = _
  rw [if_pos hlt, List.append_assoc]
  rfl
theorem put_end {l : List Xa} {a : Xa} {k : Nat} (hk : l.length ≤ k) (h : putX l a = l.take k ++ putX (l.drop k) a) : putX l a = l.take k ++ [a] ++ [] := by
  rw [h, List.drop_eq_nil_of_le hk]
  simp [putX]
theorem put_same {l : List Xa} {a : Xa} {k : Nat} (hk : k < l.length) (h : putX l a = l.take k ++ putX (l.drop k) a) (he : l[k].1 = a.1) : putX l a = l.take k ++ [a] ++ (l.drop k).drop 1 := by
  rw [h, List.drop_eq_getElem_cons hk]
  show _ ++ (if l[k].1 < a.1 then _ else if l[k].1 = a.1 then a :: l.drop (k + 1) else _) = _
  rw [if_neg (by rw [he]; exact lt_irrefl _), if_pos he]
  simp
theorem put_more {l : List Xa} {a : Xa} {k : Nat} (hk : k < l.length) (h : putX l a = l.take k ++ putX (l.drop k) a) (h1 : ¬ l[k].1 < a.1) (h2 : l[k].1 ≠ a.1) : putX l a = l.take k ++ [a] ++ l.drop k := by
  rw [h, List.drop_eq_getElem_cons hk]
  show _ ++ (if l[k].1 < a.1 then _ else if l[k].1 = a.1 then _ else a :: l[k] :: l.drop (k + 1)) = _
  rw [if_neg h1, if_neg h2]
  simp
theorem put_len (l : List Xa) (a : Xa) : 1 ≤ (putX l a).length ∧ (putX l a).length ≤ l.length + 1 := by
  induction l with
  | nil => simp [putX]
  | cons y l ih =>
    unfold putX
    split
    · simp only [List.length_cons]; omega
    · split <;> simp only [List.length_cons] <;> omega
theorem put_mem {l : List Xa} {a x : Xa} (h : x ∈ putX l a) : x = a ∨ x ∈ l := by
  induction l with
  | nil => simp [putX] at h; exact .inl h
  | cons y l ih =>
    unfold putX at h
    split at h
    · rcases List.mem_cons.1 h with h | h
      · exact .inr (by simp [h])
      · rcases ih h with h | h
        · exact .inl h
        · exact .inr (by simp [h])
    · split at h
      · rcases List.mem_cons.1 h with h | h
        · exact .inl h
        · exact .inr (by simp [h])
      · rcases List.mem_cons.1 h with h | h
        · exact .inl h
        · exact .inr h
/-- Names that rise. -/
def PW (l : List Xa) : Prop := l.Pairwise fun x y => x.1 < y.1
theorem asc_pw : ∀ {l : List Xa}, asc l = true ↔ PW l
  | [] => by simp [asc, PW]
  | [x] => by simp [asc, PW]
  | x :: y :: r => by
    have ih := asc_pw (l := y :: r)
    unfold asc
    rw [Bool.and_eq_true, decide_eq_true_eq, ih]
    constructor
    · rintro ⟨h1, h2⟩
      refine List.pairwise_cons.2 ⟨fun z hz => ?_, h2⟩
      rcases List.mem_cons.1 hz with rfl | hz
      · exact h1
      · exact lt_trans h1 ((List.pairwise_cons.1 h2).1 z hz)
    · intro h
      obtain ⟨h1, h2⟩ := List.pairwise_cons.1 h
      exact ⟨h1 y (by simp), h2⟩
theorem put_pw {l : List Xa} {a : Xa} (h : PW l) : PW (putX l a) := by
  unfold PW at h ⊢
  induction l with
  | nil => simp [putX]
  | cons y l ih =>
    obtain ⟨h1, h2⟩ := List.pairwise_cons.1 h
    unfold putX
    split
    · rename_i hlt
      refine List.pairwise_cons.2 ⟨fun x hx => ?_, ih h2⟩
      rcases put_mem hx with rfl | hx
      · exact hlt
      · exact h1 x hx
    · split
      · rename_i he
        refine List.pairwise_cons.2 ⟨fun x hx => ?_, h2⟩
        rw [← he]
        exact h1 x hx
      · rename_i hn he
        have hlt := lt_total hn he
        refine List.pairwise_cons.2 ⟨fun x hx => ?_, h⟩
        rcases List.mem_cons.1 hx with rfl | hx
        · exact hlt
        · exact lt_trans hlt (h1 x hx)
/-- A list with rising names is known by what it says of each name. -/
def look (l : List Xa) (n : List UInt8) : Option (List UInt8) := (l.find? fun x => x.1 == n).map (·.2)
theorem look_nil (n : List UInt8) : look [] n = none := rfl
theorem look_cons (x : Xa) (l : List Xa) (n : List UInt8) : look (x :: l) n = if x.1 = n then some x.2 else look l n := by
  unfold look
  rw [List.find?_cons]
  by_cases h : x.1 = n
  · rw [if_pos h, show (x.1 == n) = true by rw [h]; exact beq_self_eq_true n]; rfl
  · rw [if_neg h, show (x.1 == n) = false by rw [beq_eq_false_iff_ne]; exact h]
theorem look_none {l : List Xa} {n : List UInt8} (h : ∀ x ∈ l, x.1 ≠ n) : look l n = none := by
  induction l with
  | nil => rfl
  | cons x l ih => rw [look_cons, if_neg (h x (by simp)), ih (fun y hy => h y (by simp [hy]))]
theorem look_put {l : List Xa} (h : PW l) (a : Xa) (n : List UInt8) : look (putX l a) n = if a.1 = n then some a.2 else look l n := by
  induction l with
  | nil => rw [show putX [] a = [a] from rfl, look_cons]
  | cons y l ih =>
    obtain ⟨h1, h2⟩ := List.pairwise_cons.1 h
    unfold putX
    split
    · rename_i hlt
      rw [look_cons, look_cons, ih h2]
      by_cases hy : y.1 = n
      · rw [if_pos hy, if_neg (by rw [← hy]; exact fun e => lt_ne hlt e.symm)]; simp [hy]
      · rw [if_neg hy, if_neg hy]
    · split
      · rename_i he
        rw [look_cons, look_cons, he]
        by_cases hn : a.1 = n
        · rw [if_pos hn, if_pos hn]
        · rw [if_neg hn, if_neg hn, if_neg hn]
      · rw [look_cons]
theorem look_mem {l : List Xa} {n v : List UInt8} (h : look l n = some v) : (n, v) ∈ l := by
  induction l with
  | nil => cases h
  | cons x l ih =>
    rw [look_cons] at h
    split at h
    · rename_i he
      obtain rfl := Option.some.inj h
      exact List.mem_cons.2 (.inl (by rw [← he]))
    · exact List.mem_cons.2 (.inr (ih h))
theorem look_of {l : List Xa} (h : PW l) {x : Xa} (hx : x ∈ l) : look l x.1 = some x.2 := by
  induction l with
  | nil => cases hx
  | cons y l ih =>
    obtain ⟨h1, h2⟩ := List.pairwise_cons.1 h
    rw [look_cons]
    rcases List.mem_cons.1 hx with rfl | hx
    · rw [if_pos rfl]
    · rw [if_neg (lt_ne (h1 x hx)), ih h2 hx]
theorem look_inj : ∀ {l m : List Xa}, PW l → PW m → (∀ n, look l n = look m n) → l = m
  | [], [], _, _, _ => rfl
  | [], y :: m, _, hm, h => by
    have := h y.1
    rw [look_nil, look_cons, if_pos rfl] at this
    cases this
  | x :: l, [], hl, _, h => by
    have := h x.1
    rw [look_nil, look_cons, if_pos rfl] at this
    cases this
  | x :: l, y :: m, hl, hm, h => by
    obtain ⟨l1, l2⟩ := List.pairwise_cons.1 hl
    obtain ⟨m1, m2⟩ := List.pairwise_cons.1 hm
    have hxy : x.1 = y.1 := by
      have hx := h x.1
      have hy := h y.1
      rw [look_cons, look_cons, if_pos rfl] at hx
      rw [look_cons, look_cons, if_pos (rfl : y.1 = y.1)] at hy
      refine Classical.byContradiction fun hne => ?_
      rw [if_neg (Ne.symm hne)] at hx
      rw [if_neg hne] at hy
      have a1 := m1 _ (look_mem hx.symm)
      have a2 := l1 _ (look_mem hy)
      exact lt_asymm a1 a2
    have hv : x.2 = y.2 := by
      have hx := h x.1
      rw [look_cons, look_cons, if_pos rfl, if_pos hxy.symm] at hx
      exact Option.some.inj hx
    obtain rfl : x = y := Prod.ext hxy hv
    refine congrArg (x :: ·) (look_inj l2 m2 fun n => ?_)
    have hn := h n
    rw [look_cons, look_cons] at hn
    by_cases he : x.1 = n
    · rw [look_none (fun z hz => he ▸ (lt_ne (l1 z hz)).symm), look_none (fun z hz => he ▸ (lt_ne (m1 z hz)).symm)]
    · rw [if_neg he, if_neg he] at hn
      exact hn
end XatM
end Go.Proofs.Ytobfbjfajdnhaaa
