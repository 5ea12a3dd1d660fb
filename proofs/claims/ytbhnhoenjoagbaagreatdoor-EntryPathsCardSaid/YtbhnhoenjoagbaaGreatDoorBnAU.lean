/- Bundle of 4 texts. -/
import Derived.Test.YtbhnhoenjoagbaaGreatDoorBnAL
import Derived.Test.YtbhnhoenjoagbaaGreatDoorBnAT
import Derived.Test.YtbhnhoenjoagbaaGreatDoorSixMath
import Derived.Test.YtbhnhoenjoagbaaGreatDoorBnAM
import Derived.Test.YtbhnhoenjoagbaaGreatDoorChecked
import Derived.Deep.QuietTactic
import Derived.BigQuiet
import Derived.Outline
/- Names with values: which lists may be; their records; what records say. -/
namespace Go.Proofs.YtbhnhoenjoagbaaGreatDoor
namespace XatM

/-- A name with a value; a record: a key with a value. -/
abbrev Xa := List UInt8 × List UInt8
def anyOf (s m : List UInt8) : Bool := s.any fun c => m.contains c
/-- What the keys begin with. -/
def sK : List UInt8 := [83, 67, 72, 73, 76, 89, 46, 120, 97, 116, 116, 114, 46]
def lK : List UInt8 := [76, 73, 66, 65, 82, 67, 72, 73, 86, 69, 46, 120, 97, 116, 116, 114, 46]
/-- One that may be, wherever it stands. -/
def okX (x : Xa) : Bool := decide (x.1 ≠ []) && !x.1.contains 0 && decide ((EscM.put x.1).length ≤ 238) && decide (x.2.length ≤ 4096)
/-- Names rise. -/
def asc : List Xa → Bool
  | x :: y :: r => decide (x.1 < y.1) && asc (y :: r)
  | _ => true
def mayL (l : List Xa) : Bool := decide (l.length ≤ 32) && l.all okX && asc l
/-- One with its place. -/
def okAt (l : List Xa) (i : Nat) : Bool := match l[i]? with
  | some x => okX x && (match i with
    | 0 => true
    | j + 1 => match l[j]? with
      | some y => decide (y.1 < x.1)
      | none => true)
  | none => true
def recOf (x : Xa) : List Xa := (if x.1.contains 61 then [] else [(sK ++ x.1, x.2)]) ++ [(lK ++ EscM.put x.1, SixM.p3 x.2)]
def recsL (l : List Xa) : List Xa := if mayL l then l.flatMap recOf else []
/-- Is a key one of ours? -/
def isX (k : List UInt8) : Bool := (decide (13 ≤ k.length) && decide (k.take 13 = sK)) || (decide (17 ≤ k.length) && decide (k.take 17 = lK))
/-- What a record says: nothing that counts here, nothing that can be told, a name with a value. -/
def recX (r : Xa) : Option (Option Xa) :=
  if isX r.1 then
    (if r.1.head? = some 76 then (match EscM.get (r.1.drop 17), SixM.get r.2 with
      | some n, some v => some (some (n, v))
      | _, _ => some none)
    else some (some (r.1.drop 13, r.2)))
  else none
/-- One more, in its place; above one of the same name. -/
def putX : List Xa → Xa → List Xa
  | [], a => [a]
  | y :: l, a => if y.1 < a.1 then y :: putX l a else if y.1 = a.1 then a :: l else a :: y :: l
def fromGo : List Xa → List Xa → Option (List Xa)
  | acc, [] => some acc
  | acc, r :: rs => match recX r with
    | none => fromGo acc rs
    | some none => none
    | some (some x) => fromGo (putX acc x) rs
def fromL (rs : List Xa) : Option (List Xa) := match fromGo [] rs with
  | some l => if mayL l then some l else none
  | none => none

theorem lt_irrefl (a : List UInt8) : ¬ a < a := List.lt_irrefl a
theorem lt_trans {a b c : List UInt8} (h : a < b) (k : b < c) : a < c := List.lt_trans h k
theorem lt_total {a b : List UInt8} (h : ¬ a < b) (k : a ≠ b) : b < a := Classical.byContradiction fun g => k (List.le_antisymm (List.not_lt.1 g) (List.not_lt.1 h))
theorem lt_asymm {a b : List UInt8} (h : a < b) : ¬ b < a := List.lt_asymm h
theorem lt_ne {a b : List UInt8} (h : a < b) : a ≠ b := fun e => lt_irrefl b (e ▸ h)

theorem put_mono (s : List UInt8) : s.length ≤ (EscM.put s).length := by
  induction s with
  | nil => simp
  | cons c s ih =>
    rw [EscM.put_cons, List.length_append, List.length_cons]
    have : 1 ≤ (EscM.enc c).length := by unfold EscM.enc; split <;> simp
    omega
theorem asc_iff : ∀ (l : List Xa), asc l = true ↔ ∀ i x y, l[i]? = some x → l[i + 1]? = some y → x.1 < y.1
  | [] => by simp [asc]
  | [x] => by
    simp only [asc, true_iff]
    intro i a b _ h
    simp at h
  | x :: y :: r => by
    unfold asc
    rw [Bool.and_eq_true, decide_eq_true_eq, asc_iff (y :: r)]
    constructor
    · rintro ⟨h1, h2⟩ i a b ha hb
      cases i with
      | zero => simp at ha hb; rw [← ha, ← hb]; exact h1
      | succ i => exact h2 i a b (by simpa using ha) (by simpa using hb)
    · intro h
      exact ⟨h 0 x y rfl rfl, fun i a b ha hb => h (i + 1) a b (by simpa using ha) (by simpa using hb)⟩
theorem okAt_all {l : List Xa} : (∀ i, i < l.length → okAt l i = true) ↔ (l.all okX = true ∧ asc l = true) := by
  constructor
  · intro h
    refine ⟨?_, ?_⟩
    · rw [List.all_eq_true]
      intro x hx
      obtain ⟨i, hi, he⟩ := List.getElem_of_mem hx
      have := h i hi
      unfold okAt at this
      rw [List.getElem?_eq_getElem hi] at this
      simp only [Bool.and_eq_true] at this
      rw [← he]
      exact this.1
    · rw [asc_iff]
      intro i x y hx hy
      have hi : i + 1 < l.length := (List.getElem?_eq_some_iff.1 hy).1
      have := h (i + 1) hi
      unfold okAt at this
      rw [hy] at this
      simp only [hx, Bool.and_eq_true, decide_eq_true_eq] at this
      exact this.2
  · rintro ⟨h1, h2⟩ i hi
    unfold okAt
    rw [List.getElem?_eq_getElem hi]
    simp only [Bool.and_eq_true]
    refine ⟨List.all_eq_true.1 h1 _ (List.getElem_mem hi), ?_⟩
    cases i with
    | zero => rfl
    | succ j =>
      simp only
      rw [List.getElem?_eq_getElem (show j < l.length by omega)]
      simp only [decide_eq_true_eq]
      exact (asc_iff l).1 h2 j _ _ (List.getElem?_eq_getElem (by omega)) (List.getElem?_eq_getElem hi)
theorem may_all {l : List Xa} (h : ∀ i, i < l.length → okAt l i = true) : mayL l = decide (l.length ≤ 32) := by
  obtain ⟨h1, h2⟩ := okAt_all.1 h
  unfold mayL
  rw [h1, h2, Bool.and_true, Bool.and_true]
theorem may_bad {l : List Xa} {i : Nat} (hi : i < l.length) (h : okAt l i = false) : mayL l = false := by
  rw [Bool.eq_false_iff]
  intro hm
  unfold mayL at hm
  rw [Bool.and_eq_true, Bool.and_eq_true] at hm
  have := okAt_all.2 ⟨hm.1.2, hm.2⟩ i hi
  rw [h] at this
  cases this
theorem may_parts {l : List Xa} (h : mayL l = true) : l.length ≤ 32 ∧ (∀ x ∈ l, okX x = true) ∧ asc l = true := by
  unfold mayL at h
  rw [Bool.and_eq_true, Bool.and_eq_true, decide_eq_true_eq, List.all_eq_true] at h
  exact ⟨h.1.1, h.1.2, h.2⟩
theorem okX_parts {x : Xa} (h : okX x = true) : x.1 ≠ [] ∧ x.1.contains 0 = false ∧ (EscM.put x.1).length ≤ 238 ∧ x.2.length ≤ 4096 ∧ x.1.length ≤ 238 := by
  unfold okX at h
  simp only [Bool.and_eq_true, decide_eq_true_eq, Bool.not_eq_true'] at h
  have := put_mono x.1
  exact ⟨h.1.1.1, h.1.1.2, h.1.2, h.2, by omega⟩

/-- One put in its place, as it is found by a loop. -/
theorem put_step {l : List Xa} {a : Xa} {k : Nat} (hk : k < l.length) (h : putX l a = l.take k ++ putX (l.drop k) a) (hlt : l[k].1 < a.1) : putX l a = l.take (k + 1) ++ putX (l.drop (k + 1)) a := by
  rw [h, List.drop_eq_getElem_cons hk, List.take_succ_eq_append_getElem hk]
  show _ ++ (if l[k].1 < a.1 then l[k] :: putX (l.drop (k + 1)) a else _) = _
  rw [if_pos hlt, List.append_assoc]
  rfl
theorem put_end {l : List Xa} {a : Xa} {k : Nat} (hk : l.length ≤ k) (h : putX l a = l.take k ++ putX (l.drop k) a) : putX l a = l.take k ++ [a] ++ [] := by
  rw [h, List.drop_eq_nil_of_le hk]
  simp [putX]
theorem put_same {l : List Xa} {a : Xa} {k : Nat} (hk : k < l.length) (h : putX l a = l.take k ++ putX (l.drop k) a) (he : l[k].1 = a.1) : putX l a = l.take k ++ [a] ++ (l.drop k).drop 1 := by
  rw [h, List.drop_eq_getElem_cons hk]
  show _ ++ (if l[k].1 < a.1 then _ else if l[k].1 = a.1 then a :: l.drop (k + 1) else _) = _
  rw [if_neg (by rw [he]; exact lt_irrefl _), if_pos he]
  simp
theorem put_more {l : List Xa} {a : Xa} {k : Nat} (hk : k < l.length) (h : putX l a = l.take k ++ putX (l.drop k) a) (h1 : ¬ l[k].1 < a.1) (h2 : l[k].1 ≠ a.1) : putX l a = l.take k ++ [a] ++ l.drop k := by
  rw [h, List.drop_eq_getElem_cons hk]
  show _ ++ (if l[k].1 < a.1 then _ else if l[k].1 = a.1 then _ else a :: l[k] :: l.drop (k + 1)) = _
  rw [if_neg h1, if_neg h2]
  simp
theorem put_len (l : List Xa) (a : Xa) : 1 ≤ (putX l a).length ∧ (putX l a).length ≤ l.length + 1 := by
  induction l with
  | nil => simp [putX]
  | cons y l ih =>
    unfold putX
    split
    · simp only [List.length_cons]; omega
    · split <;> simp only [List.length_cons] <;> omega
theorem put_mem {l : List Xa} {a x : Xa} (h : x ∈ putX l a) : x = a ∨ x ∈ l := by
  induction l with
  | nil => simp [putX] at h; exact .inl h
  | cons y l ih =>
    unfold putX at h
    split at h
    · rcases List.mem_cons.1 h with h | h
      · exact .inr (by simp [h])
      · rcases ih h with h | h
        · exact .inl h
        · exact .inr (by simp [h])
    · split at h
      · rcases List.mem_cons.1 h with h | h
        · exact .inl h
        · exact .inr (by simp [h])
      · rcases List.mem_cons.1 h with h | h
        · exact .inl h
        · exact .inr h
/-- Names that rise. -/
def PW (l : List Xa) : Prop := l.Pairwise fun x y => x.1 < y.1
theorem asc_pw : ∀ {l : List Xa}, asc l = true ↔ PW l
  | [] => by simp [asc, PW]
  | [x] => by simp [asc, PW]
  | x :: y :: r => by
    have ih := asc_pw (l := y :: r)
    unfold asc
    rw [Bool.and_eq_true, decide_eq_true_eq, ih]
    constructor
    · rintro ⟨h1, h2⟩
      refine List.pairwise_cons.2 ⟨fun z hz => ?_, h2⟩
      rcases List.mem_cons.1 hz with rfl | hz
      · exact h1
      · exact lt_trans h1 ((List.pairwise_cons.1 h2).1 z hz)
    · intro h
      obtain ⟨h1, h2⟩ := List.pairwise_cons.1 h
      exact ⟨h1 y (by simp), h2⟩
theorem put_pw {l : List Xa} {a : Xa} (h : PW l) : PW (putX l a) := by
  unfold PW at h ⊢
  induction l with
  | nil => simp [putX]
  | cons y l ih =>
    obtain ⟨h1, h2⟩ := List.pairwise_cons.1 h
    unfold putX
    split
    · rename_i hlt
      refine List.pairwise_cons.2 ⟨fun x hx => ?_, ih h2⟩
      rcases put_mem hx with rfl | hx
      · exact hlt
      · exact h1 x hx
    · split
      · rename_i he
        refine List.pairwise_cons.2 ⟨fun x hx => ?_, h2⟩
        rw [← he]
        exact h1 x hx
      · rename_i hn he
        have hlt := lt_total hn he
        refine List.pairwise_cons.2 ⟨fun x hx => ?_, h⟩
        rcases List.mem_cons.1 hx with rfl | hx
        · exact hlt
        · exact lt_trans hlt (h1 x hx)
/-- A list with rising names is known by what it says of each name. -/
def look (l : List Xa) (n : List UInt8) : Option (List UInt8) := (l.find? fun x => x.1 == n).map (·.2)
theorem look_nil (n : List UInt8) : look [] n = none := rfl
theorem look_cons (x : Xa) (l : List Xa) (n : List UInt8) : look (x :: l) n = if x.1 = n then some x.2 else look l n := by
  unfold look
  rw [List.find?_cons]
  by_cases h : x.1 = n
  · rw [if_pos h, show (x.1 == n) = true by rw [h]; exact beq_self_eq_true n]; rfl
  · rw [if_neg h, show (x.1 == n) = false by rw [beq_eq_false_iff_ne]; exact h]
theorem look_none {l : List Xa} {n : List UInt8} (h : ∀ x ∈ l, x.1 ≠ n) : look l n = none := by
  induction l with
  | nil => rfl
  | cons x l ih => rw [look_cons, if_neg (h x (by simp)), ih (fun y hy => h y (by simp [hy]))]
theorem look_put {l : List Xa} (h : PW l) (a : Xa) (n : List UInt8) : look (putX l a) n = if a.1 = n then some a.2 else look l n := by
  induction l with
  | nil => rw [show putX [] a = [a] from rfl, look_cons]
  | cons y l ih =>
    obtain ⟨h1, h2⟩ := List.pairwise_cons.1 h
    unfold putX
    split
    · rename_i hlt
      rw [look_cons, look_cons, ih h2]
      by_cases hy : y.1 = n
      · rw [if_pos hy, if_neg (by rw [← hy]; exact fun e => lt_ne hlt e.symm)]; simp [hy]
      · rw [if_neg hy, if_neg hy]
    · split
      · rename_i he
        rw [look_cons, look_cons, he]
        by_cases hn : a.1 = n
        · rw [if_pos hn, if_pos hn]
        · rw [if_neg hn, if_neg hn, if_neg hn]
      · rw [look_cons]
theorem look_mem {l : List Xa} {n v : List UInt8} (h : look l n = some v) : (n, v) ∈ l := by
  induction l with
  | nil => cases h
  | cons x l ih =>
    rw [look_cons] at h
    split at h
    · rename_i he
      obtain rfl := Option.some.inj h
      exact List.mem_cons.2 (.inl (by rw [← he]))
    · exact List.mem_cons.2 (.inr (ih h))
theorem look_of {l : List Xa} (h : PW l) {x : Xa} (hx : x ∈ l) : look l x.1 = some x.2 := by
  induction l with
  | nil => cases hx
  | cons y l ih =>
    obtain ⟨h1, h2⟩ := List.pairwise_cons.1 h
    rw [look_cons]
    rcases List.mem_cons.1 hx with rfl | hx
    · rw [if_pos rfl]
    · rw [if_neg (lt_ne (h1 x hx)), ih h2 hx]
theorem look_inj : ∀ {l m : List Xa}, PW l → PW m → (∀ n, look l n = look m n) → l = m
  | [], [], _, _, _ => rfl
  | [], y :: m, _, hm, h => by
    have := h y.1
    rw [look_nil, look_cons, if_pos rfl] at this
    cases this
  | x :: l, [], hl, _, h => by
    have := h x.1
    rw [look_nil, look_cons, if_pos rfl] at this
    cases this
  | x :: l, y :: m, hl, hm, h => by
    obtain ⟨l1, l2⟩ := List.pairwise_cons.1 hl
    obtain ⟨m1, m2⟩ := List.pairwise_cons.1 hm
    have hxy : x.1 = y.1 := by
      have hx := h x.1
      have hy := h y.1
      rw [look_cons, look_cons, if_pos rfl] at hx
      rw [look_cons, look_cons, if_pos (rfl : y.1 = y.1)] at hy
      refine Classical.byContradiction fun hne => ?_
      rw [if_neg (Ne.symm hne)] at hx
      rw [if_neg hne] at hy
      have a1 := m1 _ (look_mem hx.symm)
      have a2 := l1 _ (look_mem hy)
      exact lt_asymm a1 a2
    have hv : x.2 = y.2 := by
      have hx := h x.1
      rw [look_cons, look_cons, if_pos rfl, if_pos hxy.symm] at hx
      exact Option.some.inj hx
    obtain rfl : x = y := Prod.ext hxy hv
    refine congrArg (x :: ·) (look_inj l2 m2 fun n => ?_)
    have hn := h n
    rw [look_cons, look_cons] at hn
    by_cases he : x.1 = n
    · rw [look_none (fun z hz => he ▸ (lt_ne (l1 z hz)).symm), look_none (fun z hz => he ▸ (lt_ne (m1 z hz)).symm)]
    · rw [if_neg he, if_neg he] at hn
      exact hn
end XatM
end Go.Proofs.YtbhnhoenjoagbaaGreatDoor

/- Lists of names with values, and of records, in memory. -/
namespace Go.Proofs.YtbhnhoenjoagbaaGreatDoor.XatW
open Go.RowKit
open XatM
set_option linter.unusedVariables false

/-- An element is two strings. -/
structure IsTwo (E : Elt Xa) : Prop where
  k : E.k = 2
  enc : ∀ a, E.enc a = [.string (strOf a.1), .string (strOf a.2)]
def xatE : Elt Xa where
  t := 130
  st := 32
  k := 2
  z := .agg #[.string ⟨#[]⟩, .string ⟨#[]⟩]
  bytes := 32
  enc a := [.string (strOf a.1), .string (strOf a.2)]
  len _ := rfl
  one _ u h := by simp at h; rcases h with rfl | rfl <;> rfl
  pos := by decide
  und := Tryz.underlying32
  inf := by kernel_rfl
  zk := rfl
  small := by decide
theorem xat_two : IsTwo xatE := ⟨rfl, fun _ => rfl⟩
/-- An element's cells at a place. -/
def TwoAt (w : World) (g o : Nat) (a : Xa) : Prop := w.cell? ⟨g, o, none⟩ = some (.string (strOf a.1)) ∧ w.cell? ⟨g, o + 1, none⟩ = some (.string (strOf a.2))
theorem TwoAt.kept {w w1 : World} {g o : Nat} {a : Xa} (h : TwoAt w g o a) (hb : Below w.heap.size w w1) : TwoAt w1 g o a := ⟨cell_kept hb h.1, cell_kept hb h.2⟩
theorem two_open {E : Elt Xa} (hE : IsTwo E) {v : Value} {l : List Xa} {w : World} (h : At E v l w) (hl : l ≠ []) :
    ∃ g off cap, v = .slice (some ⟨g, off, none⟩) l.length cap ∧ l.length ≤ cap ∧ g < w.heap.size ∧ ∀ j (h : j < l.length), TwoAt w g (off + j * 2) l[j] := by
  obtain ⟨g, off, cap, h1, h2, h3, h4⟩ := h.open hl
  refine ⟨g, off, cap, h1, h2, h3, fun j hj => ?_⟩
  have e : ∀ i, off + (j * E.k + i) = off + j * 2 + i := by intro i; rw [hE.k]; omega
  have a0 := h4 j hj 0 _ (by rw [hE.enc]; rfl)
  have a1 := h4 j hj 1 _ (by rw [hE.enc]; rfl)
  rw [e] at a0 a1
  exact ⟨a0, a1⟩
/-- Whatever it holds: its shape, and its cells. -/
theorem two_look {E : Elt Xa} (hE : IsTwo E) {v : Value} {l : List Xa} {w : World} (h : At E v l w) :
    ∃ p cap, v = .slice p l.length cap ∧ l.length ≤ cap ∧ ∀ j (h : j < l.length), ∃ g off, p = some ⟨g, off, none⟩ ∧ g < w.heap.size ∧ TwoAt w g (off + j * 2) l[j] := by
  by_cases hl : l = []
  · obtain ⟨p, cap, h1, h2⟩ := h.shape
    exact ⟨p, cap, h1, h2, fun j hj => by subst hl; simp at hj⟩
  · obtain ⟨g, off, cap, h1, h2, h3, h4⟩ := two_open hE h hl
    exact ⟨_, cap, h1, h2, fun j hj => ⟨g, off, rfl, h3, h4 j hj⟩⟩
/-- Known cells as a list that can be read. -/
theorem two_at {E : Elt Xa} (hE : IsTwo E) {w : World} {g off cap n : Nat} {l : List Xa} (hn : n = l.length) (hc : l.length ≤ cap) (hg : g < w.heap.size) (h : ∀ j (h : j < l.length), TwoAt w g (off + j * 2) l[j]) : At E (.slice (some ⟨g, off, none⟩) n cap) l w := by
  subst hn
  refine .inr ⟨g, off, cap, rfl, hc, hg, fun j hj i u hu => ?_⟩
  have e : off + (j * E.k + i) = off + j * 2 + i := by rw [hE.k]; omega
  rw [e]
  rw [hE.enc] at hu
  obtain ⟨a0, a1⟩ := h j hj
  have hi : i < 2 := (List.getElem?_eq_some_iff.1 hu).1
  have : i = 0 ∨ i = 1 := by omega
  rcases this with rfl | rfl <;> (cases hu; assumption)
/-- By value. -/
def twoV (a : Xa) : Value := .agg #[.string (strOf a.1), .string (strOf a.2)]
theorem one_xat (w : World) (a : Xa) (B : Nat) (hB : B ≤ w.heap.size) : Row xatE B (.slice (some ⟨w.heap.size, 0, none⟩) 1 1) [a] (w.alloc (.cells #[.string (strOf a.1), .string (strOf a.2)] 130)) :=
  lit_row (E := xatE) w [a] _ B 1 rfl hB (by simp) rfl
/-- From a place on; up to a place. -/
theorem slice_from {v : Value} {l : List Xa} {w : World} (h : At xatE v l w) {k : Nat} (hk : k ≤ l.length) :
    ∃ v', (∀ W, (Instr.sliceAt 32 v (some (.int .i64 (k : Int))) none none).run Tryz.prog W = .ok v' W) ∧ (∀ W, At xatE v l W → At xatE v' (l.drop k) W) ∧ v'.ownBlock = v.ownBlock := by
  rcases h with ⟨rfl, rfl | ⟨ad, cap, rfl⟩⟩ | ⟨g, off, cap, rfl, hc, hg, hj⟩
  · simp at hk
    subst hk
    exact ⟨.slice none 0 0, fun W => by simp [go_sem], fun W h => .inl ⟨by simp, .inl rfl⟩, rfl⟩
  · simp at hk
    subst hk
    exact ⟨.slice (some ad) 0 cap, fun W => by simp [go_sem], fun W h => .inl ⟨by simp, .inr ⟨_, _, rfl⟩⟩, rfl⟩
  · refine ⟨.slice (if cap = k then some ⟨g, off, none⟩ else some ⟨g, off + k * 2, none⟩) (l.length - k) (cap - k), fun W => by simp [go_sem, hk], fun W h => ?_, ?_⟩
    · by_cases he : k = l.length
      · refine .inl ⟨by simp [he], .inr ?_⟩
        split
        · exact ⟨_, _, by rw [he, Nat.sub_self]⟩
        · exact ⟨_, _, by rw [he, Nat.sub_self]⟩
      · rw [if_neg (by omega)]
        obtain ⟨g', off', cap', e, _, hg', hj'⟩ := two_open xat_two h (by intro e; rw [e] at hk he; simp at hk he; omega)
        cases e
        refine two_at xat_two (by simp) (by simp; omega) hg' ?_
        intro j hj
        have hj2 : k + j < l.length := by simp at hj; omega
        have := hj' (k + j) hj2
        rw [show off + (k + j) * 2 = off + k * 2 + j * 2 by omega] at this
        rw [List.getElem_drop]
        exact this
    · split <;> rfl
theorem slice_upto {v : Value} {l : List Xa} {w : World} (h : At xatE v l w) {k : Nat} (hk : k ≤ l.length) :
    ∃ v', (∀ W, (Instr.sliceAt 32 v none (some (.int .i64 (k : Int))) none).run Tryz.prog W = .ok v' W) ∧ (∀ W, At xatE v l W → At xatE v' (l.take k) W) ∧ v'.ownBlock = v.ownBlock := by
  rcases h with ⟨rfl, rfl | ⟨ad, cap, rfl⟩⟩ | ⟨g, off, cap, rfl, hc, hg, hj⟩
  · simp at hk
    subst hk
    exact ⟨.slice none 0 0, fun W => by simp [go_sem], fun W h => .inl ⟨by simp, .inl rfl⟩, rfl⟩
  · simp at hk
    subst hk
    exact ⟨.slice (some ad) 0 cap, fun W => by simp [go_sem], fun W h => .inl ⟨by simp, .inr ⟨_, _, rfl⟩⟩, rfl⟩
  · refine ⟨.slice (some ⟨g, off, none⟩) k cap, fun W => by simp [go_sem, show k ≤ cap by omega], fun W h => ?_, rfl⟩
    by_cases h0 : k = 0
    · exact .inl ⟨by simp [h0], .inr ⟨_, _, by rw [h0]⟩⟩
    · obtain ⟨g', off', cap', e, _, hg', hj'⟩ := two_open xat_two h (by intro e; rw [e] at hk; simp at hk; omega)
      cases e
      refine two_at xat_two (by rw [List.length_take]; omega) (by rw [List.length_take]; omega) hg' ?_
      intro j hj
      rw [List.length_take] at hj
      have := hj' j (by omega)
      rw [List.getElem_take]
      exact this
end Go.Proofs.YtbhnhoenjoagbaaGreatDoor.XatW

/- Lists of names with values, and of records, in memory. -/
namespace Go.Proofs.YtbhnhoenjoagbaaGreatDoor.XatW
open Go.RowKit
open XatM
set_option linter.unusedVariables false

def recE : Elt Xa where
  t := 28
  st := 24
  k := 2
  z := .agg #[.string ⟨#[]⟩, .string ⟨#[]⟩]
  bytes := 32
  enc a := [.string (strOf a.1), .string (strOf a.2)]
  len _ := rfl
  one _ u h := by simp at h; rcases h with rfl | rfl <;> rfl
  pos := by decide
  und := Tryz.underlying24
  inf := by kernel_rfl
  zk := rfl
  small := by decide
theorem rec_two : IsTwo recE := ⟨rfl, fun _ => rfl⟩

theorem one_rec (w : World) (a : Xa) (B : Nat) (hB : B ≤ w.heap.size) : Row recE B (.slice (some ⟨w.heap.size, 0, none⟩) 1 1) [a] (w.alloc (.cells #[.string (strOf a.1), .string (strOf a.2)] 28)) :=
  lit_row (E := recE) w [a] _ B 1 rfl hB (by simp) rfl

end Go.Proofs.YtbhnhoenjoagbaaGreatDoor.XatW

/- The document's answer: whether two lists are one. -/
namespace Go.Proofs.YtbhnhoenjoagbaaGreatDoor.XatW
open Go.RowKit
open XatM
set_option linter.unusedVariables false

theorem strOf_toList (l : List UInt8) : (strOf l).toList = l := by rw [Lib.toList_data, strOf_list]
theorem strOf_ne {a b : List UInt8} (h : ¬ a = b) : ¬ (strOf a).toList = (strOf b).toList := by rw [strOf_toList, strOf_toList]; exact h
attribute [local irreducible] Row At

set_option maxHeartbeats 1600000 in
theorem refSameX_any (va vb : Value) (a b : List Xa) (w : World) (ha : At xatE va a w) (hb : At xatE vb b w) (hl : a.length ≤ 1000000) (hl2 : b.length ≤ 1000000) :
    Calls Tryz.prog 112 #[va, vb] w fun e w' => e = .returned (.bool (decide (a = b))) ∧ Below w.heap.size w w' := by
  obtain ⟨pa, ca, rfl, hca, hja⟩ := two_look xat_two ha
  obtain ⟨pb, cb, rfl, hcb, hjb⟩ := two_look xat_two hb
  by_cases hlen : a.length = b.length
  · have hne : ((a.length : Int) != (b.length : Int)) = false := by rw [hlen]; simp
    obtain ⟨n, hn⟩ : ∃ n, a.length = n := ⟨_, rfl⟩
    have hn2 : b.length = n := by rw [← hlen, hn]
    have HA := Lib.hid hja
    have HB := Lib.hid hjb
    have HN := Lib.hid hn
    have HN2 := Lib.hid hn2
    rw [hn] at hca hl ⊢
    rw [hn2] at hcb ⊢
    obtain ⟨r, hr⟩ : ∃ r, decide (a = b) = r := ⟨_, rfl⟩
    have Hr := Lib.hid hr
    rw [hr]
    clear hne hlen hja hjb hn hn2 ha hb hr hl2
    go_enter Tryz.func112, Tryz.ntmps112
    go_wp2_with fail
    go_loopw [5] (fun iv wr => ∃ i : Nat, iv = .int .i64 (i : Int) ∧ i ≤ n ∧ Below w.heap.size w wr ∧ Hid (a.take i = b.take i)) (fun iv _ => n - (intOf iv).toNat)
    case atStart => exact ⟨0, rfl, by omega, Below.refl _ _, Lib.hid (by simp)⟩
    case round =>
      obtain ⟨i, rfl, hi, hbl, HT⟩ := hrel
      rename_i wr
      by_cases hlt : i < n
      · have hlt' : decide ((i : Int) < (n : Int)) = true := decide_eq_true (by omega)
        have hlt2 : decide (i < n) = true := decide_eq_true hlt
        have hia : i < a.length := by rw [HN.out]; exact hlt
        have hib : i < b.length := by rw [HN2.out]; exact hlt
        obtain ⟨ga, oa, rfl, hga, ta⟩ := HA.out i hia
        obtain ⟨gb, ob, rfl, hgb, tb⟩ := HB.out i hib
        obtain ⟨ca0, ca1⟩ := ta.kept hbl
        obtain ⟨cb0, cb1⟩ := tb.kept hbl
        obtain ⟨ra, hra⟩ : ∃ r, a[i] = r := ⟨_, rfl⟩
        obtain ⟨rb, hrb⟩ : ∃ r, b[i] = r := ⟨_, rfl⟩
        rw [hra] at ca0 ca1
        rw [hrb] at cb0 cb1
        obtain ⟨ka, va⟩ := ra
        obtain ⟨kb, vb⟩ := rb
        simp only at ca0 ca1 cb0 cb1
        have i0 : (0 : Int) ≤ (i : Int) := by omega
        have i1 : (i : Int) < (n : Int) := by omega
        clear ta tb
        by_cases hk : ka = kb
        · subst hk
          by_cases hv : va = vb
          · subst hv
            have HT2 := Lib.hid (show a.take (i + 1) = b.take (i + 1) by
              rw [List.take_succ_eq_append_getElem hia, List.take_succ_eq_append_getElem hib, HT.out, hra, hrb])
            clear hra hrb HT hia hib
            go_wp2_with fail
            go_region
            go_wp2_with fail
            go_roundw
            case rel => exact ⟨i + 1, by go_num, by omega, by (repeat' (first | exact Below.refl _ _ | assumption | refine gr_drew ?_ | refine gr_drewN ?_ _ | refine gr_alloc ?_ _ | refine gr_set ?_ ?_ _ | refine gr_call ?_ (by assumption)) <;> (try (simp; done)) <;> (try (simp; omega)) <;> (try omega)), HT2⟩
            case measure => simp only [intOf]; omega
          · have hv' := strOf_ne hv
            have Hq := Lib.hid (show r = false by
              rw [← Hr.out, decide_eq_false_iff_not]
              intro h; subst h; rw [hra] at hrb
              exact hv (congrArg Prod.snd hrb))
            clear hra hrb HT hia hib hv
            go_wp2_with fail
            go_region
            go_wp2_with fail
            go_ret
            exact ⟨ret_bool Hq.out.symm, by (repeat' (first | exact Below.refl _ _ | assumption | refine gr_drew ?_ | refine gr_drewN ?_ _ | refine gr_alloc ?_ _ | refine gr_set ?_ ?_ _ | refine gr_call ?_ (by assumption)) <;> (try (simp; done)) <;> (try (simp; omega)) <;> (try omega))⟩
        · have hk' := strOf_ne hk
          have Hq := Lib.hid (show r = false by
            rw [← Hr.out, decide_eq_false_iff_not]
            intro h; subst h; rw [hra] at hrb
            exact hk (congrArg Prod.fst hrb))
          clear hra hrb HT hia hib hk
          go_wp2_with fail
          go_region
          go_wp2_with fail
          go_ret
          exact ⟨ret_bool Hq.out.symm, by (repeat' (first | exact Below.refl _ _ | assumption | refine gr_drew ?_ | refine gr_drewN ?_ _ | refine gr_alloc ?_ _ | refine gr_set ?_ ?_ _ | refine gr_call ?_ (by assumption)) <;> (try (simp; done)) <;> (try (simp; omega)) <;> (try omega))⟩
      · have hlt' : decide ((i : Int) < (n : Int)) = false := decide_eq_false (by omega)
        have hlt2 : decide (i < n) = false := decide_eq_false hlt
        have Hq := Lib.hid (show r = true by
          rw [← Hr.out, decide_eq_true_eq]
          have := HT.out
          rw [List.take_of_length_le (by rw [HN.out]; omega), List.take_of_length_le (by rw [HN2.out]; omega)] at this
          exact this)
        clear hlt
        go_wp2_with fail
        go_ret
        exact ⟨ret_bool Hq.out.symm, hbl⟩
  · have hne : ((a.length : Int) != (b.length : Int)) = true := by rw [bne_iff_ne]; omega
    rw [decide_eq_false (fun h => hlen (by rw [h]))]
    clear hlen
    go_enter Tryz.func112, Tryz.ntmps112
    go_wp2_with fail
    go_ret
    exact ⟨rfl, Below.refl _ _⟩

end Go.Proofs.YtbhnhoenjoagbaaGreatDoor.XatW
