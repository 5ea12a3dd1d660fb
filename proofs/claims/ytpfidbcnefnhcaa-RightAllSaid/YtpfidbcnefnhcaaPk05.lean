/- Bundle of 2 texts. -/
import Derived.Test.YtpfidbcnefnhcaaPk04
import Derived.Test.YtpfidbcnefnhcaaRightCan
import Derived.Test.YtpfidbcnefnhcaaPk02
import Derived.Deep.QuietTactic
/- Who may what, as the program asks it: the parts of the groups, the lesser mode in its own order. -/
namespace Go.Proofs.Ytpfidbcnefnhcaa
open MetaM RightM AclM AclW
set_option linter.unusedVariables false
def idxP {α : Type} (p : α → Bool) : List α → Nat → Int
  | [], _ => -1
  | a :: l, i => if p a = true then (i : Int) else idxP p l (i + 1)
theorem idxP_any {α : Type} (p : α → Bool) : ∀ (l : List α) (i : Nat), decide (0 ≤ idxP p l i) = l.any p
  | [], i => rfl
  | a :: l, i => by
    unfold idxP
    rw [List.any_cons]
    by_cases h : p a = true
    · rw [if_pos h, h, Bool.true_or]; exact decide_eq_true (by omega)
    · rw [if_neg h, idxP_any p l (i + 1), Bool.eq_false_iff.2 h, Bool.false_or]
theorem idxP_drop {α : Type} {p : α → Bool} {l : List α} {i : Nat} (h : i < l.length) : idxP p (l.drop i) i = if p l[i] = true then (i : Int) else idxP p (l.drop (i + 1)) (i + 1) := by
  rw [List.drop_eq_getElem_cons h]; rfl
theorem idxP_end {α : Type} {p : α → Bool} {l : List α} {i : Nat} (h : l.length ≤ i) : idxP p (l.drop i) i = -1 := by
  rw [List.drop_eq_nil_of_le h]; rfl
structure LGo (l : List Ace) : Prop where
  ok : LOk l
  grp : has l 3 = true
  uniq : ∀ a ∈ l, (a.1 = 3 ∨ a.1 = 5) → a.2.2 = permR l a.1
  msk : has l 5 = (has l 2 || has l 4)
theorem perm_uniq {l : List Ace} (h : may l = true) {a : Ace} (ha : a ∈ l) (ht : a.1 = 3 ∨ a.1 = 5) : a.2.2 = permR l a.1 := by
  obtain ⟨b, h1, h2, h3⟩ := permR_mem (has_iff.2 ⟨a, ha, rfl⟩)
  rw [h3]
  have hp := order_pw.1 (may_parts h).2.2.1
  have oa := okPart_iff ((may_parts h).1 a ha)
  have ob := okPart_iff ((may_parts h).1 b h1)
  have hid : hasId a.1 = false := by rcases ht with e | e <;> rw [e] <;> rfl
  have ia := oa.2.2.2.2.2.2 hid
  have ib := ob.2.2.2.2.2.2 (by rw [h2]; exact hid)
  obtain ⟨i, hi, rfl⟩ := List.getElem_of_mem ha
  obtain ⟨j, hj, rfl⟩ := List.getElem_of_mem h1
  rcases Nat.lt_trichotomy i j with hlt | heq | hlt
  · have := (lt_iff _ _).1 (List.pairwise_iff_getElem.1 hp i j hi hj hlt)
    omega
  · subst heq; rfl
  · have := (lt_iff _ _).1 (List.pairwise_iff_getElem.1 hp j i hj hi hlt)
    omega
theorem LGo.of_may {l : List Ace} (h : may l = true) : LGo l := by
  refine ⟨LOk.of_may h, (may_has h).2.1, fun a ha ht => perm_uniq h ha ht, ?_⟩
  have h4 := (may_parts h).2.2.2
  unfold tags at h4
  simp only [Bool.and_eq_true, beq_iff_eq] at h4
  exact h4.2
theorem LGo.of_mode (n : Int) : LGo (fromL n) := by
  refine ⟨LOk.of_mode n, by simp [fromL, has, findN], fun a ha ht => ?_, by simp [fromL, has, findN]⟩
  unfold fromL at ha
  simp only [List.mem_cons, List.not_mem_nil, or_false] at ha
  rcases ha with rfl | rfl | rfl
  · simp at ht
  · rfl
  · simp at ht
theorem LGo.of {m : Mt} (h : okL m) : LGo (listM m) := by
  unfold listM
  rcases h with h | h
  · rw [if_pos h]; exact LGo.of_mode _
  · rw [if_neg (may_ne h)]; exact LGo.of_may h
theorem LGo.user {l : List Ace} (h : LGo l) {u : Int} {a : Ace} (ha : userM l u = some a) : has l 5 = true := by
  have h1 := List.mem_of_find?_eq_some ha
  have h2 := List.find?_some ha
  simp only [Bool.and_eq_true, decide_eq_true_eq] at h2
  rw [h.msk, Bool.or_eq_true]
  exact .inl (has_iff.2 ⟨a, h1, h2.1⟩)
theorem mask_of {l : List Ace} (h : LOk l) (h5 : has l 5 = true) : permR l 5 = (maskM l : Int) := by
  have hn := (h.nat h5).1
  have h0 : ¬ permR l 5 < 0 := by omega
  unfold maskM
  rw [if_neg h0]
  omega
def partsG (l : List Ace) (m : Mt) (c : Cr) : List Int :=
  (if inM c m.gid = true then [permR l 3] else []) ++ (l.filter fun a => decide (a.1 = 4) && inM c a.2.1).map fun a => a.2.2
def namedG (l : List Ace) (c : Cr) : List Int := (l.filter fun a => decide (a.1 = 4) && inM c a.2.1).map fun a => a.2.2
theorem named_drop {l : List Ace} {c : Cr} {k : Nat} (h : k < l.length) : namedG (l.drop k) c = (if (decide (l[k].1 = 4) && inM c l[k].2.1) = true then [l[k].2.2] else []) ++ namedG (l.drop (k + 1)) c := by
  unfold namedG
  rw [List.drop_eq_getElem_cons h, List.filter_cons]
  by_cases h2 : (decide (l[k].1 = 4) && inM c l[k].2.1) = true
  · rw [if_pos h2, if_pos h2]; rfl
  · rw [if_neg h2, if_neg h2]; rfl
theorem named_end {l : List Ace} {c : Cr} {k : Nat} (h : l.length ≤ k) : namedG (l.drop k) c = [] := by rw [List.drop_eq_nil_of_le h]; rfl
theorem parts_rights {l : List Ace} (h : LGo l) {m : Mt} {c : Cr} : ∀ p ∈ partsG l m c, 0 ≤ p ∧ p ≤ 7 := by
  intro p hp
  unfold partsG at hp
  rcases List.mem_append.1 hp with hp | hp
  · by_cases hi : inM c m.gid = true
    · rw [if_pos hi] at hp
      obtain rfl := List.mem_singleton.1 hp
      have := h.ok.nat h.grp
      omega
    · rw [if_neg hi] at hp
      exact absurd hp List.not_mem_nil
  · obtain ⟨a, h1, rfl⟩ := List.mem_map.1 hp
    exact h.ok.perm a (List.mem_filter.1 h1).1
theorem parts_len {l : List Ace} {m : Mt} {c : Cr} : (partsG l m c).length ≤ l.length + 1 := by
  unfold partsG
  rw [List.length_append, List.length_map]
  have := List.length_filter_le (fun a : Ace => decide (a.1 = 4) && inM c a.2.1) l
  split <;> simp <;> omega
theorem parts_any {l : List Ace} (h : LGo l) {m : Mt} {c : Cr} (f : Int → Bool) : (partsG l m c).any f = l.any fun a => grpM m c a && f a.2.2 := by
  rw [Bool.eq_iff_iff, List.any_eq_true, List.any_eq_true]
  unfold partsG
  constructor
  · rintro ⟨p, hp, hf⟩
    rcases List.mem_append.1 hp with hp | hp
    · by_cases hi : inM c m.gid = true
      · rw [if_pos hi] at hp
        obtain rfl := List.mem_singleton.1 hp
        obtain ⟨a, h1, h2, h3⟩ := permR_mem h.grp
        refine ⟨a, h1, ?_⟩
        rw [← h3, hf, Bool.and_true]
        unfold grpM
        rw [decide_eq_true h2, hi]; rfl
      · rw [if_neg hi] at hp
        exact absurd hp List.not_mem_nil
    · obtain ⟨a, h1, rfl⟩ := List.mem_map.1 hp
      obtain ⟨h2, h3⟩ := List.mem_filter.1 h1
      refine ⟨a, h2, ?_⟩
      rw [hf, Bool.and_true]
      unfold grpM
      rw [h3, Bool.or_true]
  · rintro ⟨a, ha, hf⟩
    rw [Bool.and_eq_true] at hf
    obtain ⟨hg, hf⟩ := hf
    unfold grpM at hg
    rw [Bool.or_eq_true] at hg
    rcases hg with hg | hg
    · rw [Bool.and_eq_true, decide_eq_true_eq] at hg
      refine ⟨permR l 3, List.mem_append.2 (.inl ?_), ?_⟩
      · rw [if_pos hg.2]; exact List.mem_singleton.2 rfl
      · have := h.uniq a ha (.inl hg.1)
        rw [hg.1] at this
        rw [← this]; exact hf
    · exact ⟨a.2.2, List.mem_append.2 (.inr (List.mem_map.2 ⟨a, List.mem_filter.2 ⟨ha, hg⟩, rfl⟩)), hf⟩
theorem parts_nil {l : List Ace} (h : LGo l) {m : Mt} {c : Cr} : decide (0 < (partsG l m c).length) = l.any (grpM m c) := by
  have e := parts_any h (m := m) (c := c) (fun _ => true)
  simp only [Bool.and_true] at e
  rw [← show (l.any fun a => grpM m c a) = l.any (grpM m c) from rfl, ← e]
  cases partsG l m c with
  | nil => rfl
  | cons a r => simp
def grantG (k w : Nat) (p : Int) : Bool := gr (p.toNat &&& k) w
theorem any_and {α : Type} (l : List α) (p q : α → Bool) (b : Bool) : (l.any fun a => p a && (q a && b)) = ((l.any fun a => p a && q a) && b) := by
  cases b
  · simp
  · simp
theorem grant_any {l : List Ace} (h : LGo l) {m : Mt} {c : Cr} {k w : Nat} : (partsG l m c).any (grantG k w) = ((l.any fun a => grpM m c a && gr a.2.2.toNat w) && gr k w) := by
  rw [parts_any h, ← any_and]
  unfold grantG
  simp only [gr_and]
theorem rest_go {l : List Ace} (h : LGo l) (m : Mt) (c : Cr) (w : Nat) (hu : userM l c.uid = none) :
    restM l m c w = if decide (0 < (partsG l m c).length) = true then (partsG l m c).any (grantG (maskM l) w) else gr (permM l 6) w := by
  unfold restM
  rw [hu, parts_nil h, grant_any h]
def gG (l : List Ace) (x : Nat) : Nat := l.foldl (fun x a => if a.1 = 5 ∨ a.1 = 2 then x &&& a.2.2.toNat else x) x
def oG (l : List Ace) (x : Nat) : Nat := l.foldl (fun x a => if (a.1 = 5 ∨ a.1 = 2) ∨ a.1 = 4 then x &&& a.2.2.toNat else x) x
theorem gG_step {l : List Ace} {k : Nat} (h : k < l.length) (x : Nat) : gG (l.drop k) x = gG (l.drop (k + 1)) (if l[k].1 = 5 ∨ l[k].1 = 2 then x &&& l[k].2.2.toNat else x) := by
  rw [List.drop_eq_getElem_cons h]; rfl
theorem oG_step {l : List Ace} {k : Nat} (h : k < l.length) (x : Nat) : oG (l.drop k) x = oG (l.drop (k + 1)) (if (l[k].1 = 5 ∨ l[k].1 = 2) ∨ l[k].1 = 4 then x &&& l[k].2.2.toNat else x) := by
  rw [List.drop_eq_getElem_cons h]; rfl
theorem gG_end {l : List Ace} {k : Nat} (h : l.length ≤ k) (x : Nat) : gG (l.drop k) x = x := by rw [List.drop_eq_nil_of_le h]; rfl
theorem oG_end {l : List Ace} {k : Nat} (h : l.length ≤ k) (x : Nat) : oG (l.drop k) x = x := by rw [List.drop_eq_nil_of_le h]; rfl
theorem fold_bit {p : Ace → Prop} [DecidablePred p] (f : Nat → Ace → Nat) (hf : ∀ x a, f x a = if p a then x &&& a.2.2.toNat else x) (i : Nat) : ∀ (l : List Ace) (x : Nat),
    (l.foldl f x).testBit i = (x.testBit i && l.all fun a => !decide (p a) || a.2.2.toNat.testBit i)
  | [], x => by simp
  | a :: l, x => by
    rw [List.foldl_cons, fold_bit f hf i l, hf, List.all_cons]
    by_cases h : p a
    · rw [if_pos h, Nat.testBit_and, decide_eq_true h]
      simp [Bool.and_assoc]
    · rw [if_neg h, decide_eq_false h]
      simp
theorem seven_bit : ∀ (i : Fin 3), (7 : Nat).testBit i.val = true := by decide
theorem small_bit {x i : Nat} (hx : x < 8) (h : x.testBit i = true) : i < 3 := by
  by_cases hi : i < 3
  · exact hi
  · have : x < 2 ^ i := Nat.lt_of_lt_of_le hx (by have := Nat.pow_le_pow_right (n := 2) (by omega) (show 3 ≤ i by omega); omega)
    rw [Nat.testBit_lt_two_pow this] at h
    exact absurd h (by decide)
theorem seven_small {x i : Nat} (hx : x < 8) : (x.testBit i && (7 : Nat).testBit i) = x.testBit i := by
  cases h : x.testBit i with
  | false => rfl
  | true => rw [seven_bit ⟨i, small_bit hx h⟩]; rfl
theorem mask_bit {l : List Ace} (h : LGo l) (i : Nat) {x : Nat} (hx : x < 8) : (x.testBit i && l.all fun a => !decide (a.1 = 5) || a.2.2.toNat.testBit i) = (x.testBit i && (maskM l).testBit i) := by
  by_cases h5 : has l 5 = true
  · have e := mask_of h.ok h5
    congr 1
    rw [Bool.eq_iff_iff, List.all_eq_true]
    constructor
    · intro hh
      obtain ⟨a, h1, h2, h3⟩ := permR_mem h5
      have := hh a h1
      rw [decide_eq_true h2, ← h3, e, Int.toNat_natCast] at this
      simpa using this
    · intro hh a ha
      by_cases h2 : a.1 = 5
      · have := h.uniq a ha (.inr h2)
        rw [h2, e] at this
        rw [this, Int.toNat_natCast, hh, Bool.or_true]
      · rw [decide_eq_false h2]; rfl
  · have h5' : has l 5 = false := Bool.eq_false_iff.2 h5
    have e7 : maskM l = 7 := by
      unfold maskM permR
      rw [if_neg h5]; rfl
    have hall : (l.all fun a => !decide (a.1 = 5) || a.2.2.toNat.testBit i) = true := by
      rw [List.all_eq_true]
      intro a ha
      rw [decide_eq_false (has_false.1 h5' a ha)]; rfl
    rw [hall, e7, seven_small hx, Bool.and_true]
theorem all_or {l : List Ace} {p q : Ace → Prop} [DecidablePred p] [DecidablePred q] (f : Ace → Bool) : (l.all fun a => !decide (p a ∨ q a) || f a) = ((l.all fun a => !decide (p a) || f a) && l.all fun a => !decide (q a) || f a) := by
  induction l with
  | nil => rfl
  | cons a l ih =>
    rw [List.all_cons, List.all_cons, List.all_cons, ih]
    by_cases h1 : p a <;> by_cases h2 : q a <;> simp [h1, h2] <;> cases f a <;> simp
theorem gG_eq {l : List Ace} (h : LGo l) {x : Nat} (hx : x < 8) : gG l x = gF l (x &&& maskM l) := by
  apply Nat.eq_of_testBit_eq
  intro i
  have e1 := fold_bit (p := fun a : Ace => a.1 = 5 ∨ a.1 = 2) (fun x a => if a.1 = 5 ∨ a.1 = 2 then x &&& a.2.2.toNat else x) (fun _ _ => rfl) i l x
  have e2 := fold_bit (p := fun a : Ace => a.1 = 2) (fun x a => if a.1 = 2 then x &&& a.2.2.toNat else x) (fun _ _ => rfl) i l (x &&& maskM l)
  unfold gG gF
  rw [e1, e2, all_or (p := fun a : Ace => a.1 = 5) (q := fun a : Ace => a.1 = 2), Nat.testBit_and, ← Bool.and_assoc, mask_bit h i hx]
theorem oF_bit (k i : Nat) : ∀ (l : List Ace) (x : Nat), (oF l k x).testBit i = (x.testBit i && l.all fun a => !decide (a.1 = 2 ∨ a.1 = 4) || (a.2.2.toNat.testBit i && k.testBit i))
  | [], x => by simp [oF]
  | a :: l, x => by
    show (oF l k (if a.1 = 2 ∨ a.1 = 4 then (x &&& a.2.2.toNat) &&& k else x)).testBit i = _
    rw [oF_bit k i l, List.all_cons]
    by_cases h : a.1 = 2 ∨ a.1 = 4
    · rw [if_pos h, Nat.testBit_and, Nat.testBit_and, decide_eq_true h]
      simp [Bool.and_assoc]
    · rw [if_neg h, decide_eq_false h]
      simp
theorem oG_eq {l : List Ace} (h : LGo l) {x : Nat} (hx : x < 8) : oG l x = oF l (maskM l) x := by
  apply Nat.eq_of_testBit_eq
  intro i
  have e1 := fold_bit (p := fun a : Ace => (a.1 = 5 ∨ a.1 = 2) ∨ a.1 = 4) (fun x a => if (a.1 = 5 ∨ a.1 = 2) ∨ a.1 = 4 then x &&& a.2.2.toNat else x) (fun _ _ => rfl) i l x
  rw [oF_bit]
  unfold oG
  have hs : (fun a : Ace => !decide ((a.1 = 5 ∨ a.1 = 2) ∨ a.1 = 4) || a.2.2.toNat.testBit i) = fun a : Ace => !decide (a.1 = 5 ∨ (a.1 = 2 ∨ a.1 = 4)) || a.2.2.toNat.testBit i := by
    funext a
    rw [show decide ((a.1 = 5 ∨ a.1 = 2) ∨ a.1 = 4) = decide (a.1 = 5 ∨ (a.1 = 2 ∨ a.1 = 4)) from decide_eq_decide.2 or_assoc]
  rw [e1, hs, all_or (p := fun a : Ace => a.1 = 5) (q := fun a : Ace => a.1 = 2 ∨ a.1 = 4), ← Bool.and_assoc, mask_bit h i hx, Bool.and_assoc]
  by_cases hn : has l 5 = true
  · congr 1
    have h2 := h.msk
    rw [hn] at h2
    have h3 : ∃ a ∈ l, a.1 = 2 ∨ a.1 = 4 := by
      rcases Bool.or_eq_true _ _ ▸ h2.symm with h3 | h3
      · obtain ⟨a, ha, e⟩ := has_iff.1 h3; exact ⟨a, ha, .inl e⟩
      · obtain ⟨a, ha, e⟩ := has_iff.1 h3; exact ⟨a, ha, .inr e⟩
    rw [Bool.eq_iff_iff, Bool.and_eq_true, List.all_eq_true, List.all_eq_true]
    constructor
    · rintro ⟨hk, hh⟩ a ha
      have := hh a ha
      rw [hk, Bool.and_true]
      exact this
    · intro hh
      obtain ⟨a, ha, e⟩ := h3
      have h4 := hh a ha
      rw [decide_eq_true e] at h4
      simp only [Bool.not_true, Bool.false_or, Bool.and_eq_true] at h4
      refine ⟨h4.2, fun b hb => ?_⟩
      have h5 := hh b hb
      rw [h4.2, Bool.and_true] at h5
      exact h5
  · have h5' : has l 5 = false := Bool.eq_false_iff.2 hn
    have hno : ∀ a ∈ l, ¬ (a.1 = 2 ∨ a.1 = 4) := by
      have h2 := h.msk
      rw [h5'] at h2
      have h3 := (Bool.or_eq_false_iff.1 h2.symm)
      intro a ha e
      rcases e with e | e
      · exact has_false.1 h3.1 a ha e
      · exact has_false.1 h3.2 a ha e
    have e7 : maskM l = 7 := by
      unfold maskM permR
      rw [if_neg hn]; rfl
    have a1 : (l.all fun a => !decide (a.1 = 2 ∨ a.1 = 4) || a.2.2.toNat.testBit i) = true := by
      rw [List.all_eq_true]; intro a ha; rw [decide_eq_false (hno a ha)]; rfl
    have a2 : (l.all fun a => !decide (a.1 = 2 ∨ a.1 = 4) || (a.2.2.toNat.testBit i && (maskM l).testBit i)) = true := by
      rw [List.all_eq_true]; intro a ha; rw [decide_eq_false (hno a ha)]; rfl
    rw [a1, a2, Bool.and_true, e7, seven_small hx, Bool.and_true]
theorem less_go {m : Mt} (h : okL m) : lessM m = 64 * permM (listM m) 1 + 8 * gG (listM m) (permM (listM m) 3) + oG (listM m) (permM (listM m) 6) := by
  have H := LGo.of h
  rw [gG_eq H (H.ok.nat H.grp).2, oG_eq H (H.ok.nat H.ok.oth).2]
  unfold lessM
  by_cases hn : m.acl = []
  · rw [if_pos hn]
    have e : listM m = fromL m.mode := if_pos hn
    rw [e]
    have hmk : maskM (fromL m.mode) = 7 := rfl
    have p1 : permM (fromL m.mode) 1 = (m.mode / 64 % 8).toNat := rfl
    have p3 : permM (fromL m.mode) 3 = (m.mode / 8 % 8).toNat := rfl
    have p6 : permM (fromL m.mode) 6 = (m.mode % 8).toNat := rfl
    have g : ∀ x, gF (fromL m.mode) x = x := fun _ => rfl
    have o : ∀ x, oF (fromL m.mode) 7 x = x := fun _ => rfl
    have a7 : ∀ x : Nat, x < 8 → x &&& 7 = x := fun x hx => by
      rw [show (7 : Nat) = 2 ^ 3 - 1 from rfl, Nat.and_two_pow_sub_one_eq_mod]; omega
    rw [hmk, p1, p3, p6, o, g, a7 _ (by omega)]
    omega
  · rw [if_neg hn]
    have e : listM m = m.acl := if_neg hn
    rw [e]
end Go.Proofs.Ytpfidbcnefnhcaa

/- Walks over package right: groups, powers, the parts of lists. -/
namespace Go.Proofs.Ytpfidbcnefnhcaa
open Go.RowKit
open MetaM RightM AclM
set_option linter.unusedVariables false
attribute [local irreducible] Row At

set_option maxHeartbeats 1600000 in
theorem gohas_any (c : Cr) (gv : Value) (k : Int) (w : World) :
    Calls Try.prog 25 #[.agg (credC c gv), .int .i64 k] w fun e w' => e = .returned (.bool (bits .and .i64 c.powers k != 0)) ∧ Below w.heap.size w w' := by
  obtain ⟨uid, gid, gs, pw⟩ := c
  unfold credC
  simp only
  go_enter Try.func25, Try.ntmps25
  go_wp2_with fail
  go_ret
  exact ⟨by rfl, by (repeat' (first | exact Below.refl _ _ | assumption | refine gr_drew ?_ | refine gr_drewN ?_ _ | refine gr_alloc ?_ _ | refine gr_set ?_ ?_ _ | refine gr_call ?_ (by assumption)) <;> (try (simp; done)) <;> (try (simp; omega)) <;> (try omega))⟩

theorem grants_any (p n : Nat) (hp : p < 8) (hn : n < 8) (w : World) :
    Calls Try.prog 39 #[.int .i64 (p : Int), .int .i64 (n : Int)] w fun e w' => e = .returned (.bool (gr p n)) ∧ Below w.heap.size w w' := by
  have e := and8 p n hp hn
  have hc := gr_cmp p n
  go_enter Try.func39, Try.ntmps39
  go_wp2_with fail
  go_ret
  exact ⟨by rw [hc, ← e]; rfl, by (repeat' (first | exact Below.refl _ _ | assumption | refine gr_drew ?_ | refine gr_drewN ?_ _ | refine gr_alloc ?_ _ | refine gr_set ?_ ?_ _ | refine gr_call ?_ (by assumption)) <;> (try (simp; done)) <;> (try (simp; omega)) <;> (try omega))⟩

set_option maxHeartbeats 1600000 in
theorem index_any (v : Value) (l : List Int) (g : Int) (w : World) (hat : At intE v l w) (hl : l.length ≤ 1000000) :
    Calls Try.prog 38 #[v, .int .i64 g] w fun e w' => e = .returned (.int .i64 (idxP (fun x => decide (x = g)) l 0)) ∧ Below w.heap.size w w' := by
  obtain ⟨z, hz⟩ : ∃ z, l.length = z := ⟨_, rfl⟩
  obtain ⟨p, cap, rfl, hcap, hcell⟩ := int_look hat
  rw [hz] at hl hcap ⊢
  have Hcell := Lib.hid hcell
  have Hz := Lib.hid hz
  clear hcell hat hz
  go_enter Try.func38, Try.ntmps38
  go_wp2_with fail
  go_loopw [8] (fun iv wr => ∃ i : Nat, iv = .int .i64 (i : Int) ∧ i ≤ z ∧ Below w.heap.size w wr ∧ Hid (idxP (fun x => decide (x = g)) l 0 = idxP (fun x => decide (x = g)) (l.drop i) i)) (fun iv _ => z - (intOf iv).toNat)
  case atStart => exact ⟨0, rfl, by omega, Below.refl _ _, Lib.hid (by simp)⟩
  case round =>
    obtain ⟨i, rfl, hi, hbl, HR⟩ := hrel
    rename_i wr
    by_cases hlt : i < z
    · have hlt' : decide ((i : Int) < (z : Int)) = true := decide_eq_true (by omega)
      have hlt2 : decide (i < z) = true := decide_eq_true hlt
      have hi' : i < l.length := by rw [Hz.out]; exact hlt
      obtain ⟨h, off, rfl, hg, c0⟩ := Hcell.out i hi'
      replace c0 := cell_kept hbl c0
      have HS := Lib.hid (idxP_drop (p := fun x : Int => decide (x = g)) hi')
      generalize l[i] = x at *
      by_cases hu : x = g
      · have HE := Lib.hid (show idxP (fun x => decide (x = g)) l 0 = (i : Int) by rw [HR.out, HS.out, if_pos (decide_eq_true hu)])
        have e1 : (g == x) = true := beq_iff_eq.2 hu.symm
        clear HR HS hu
        go_wp2_with fail
        go_ret
        exact ⟨by rw [HE.out]; rfl, by (repeat' (first | exact Below.refl _ _ | assumption | refine gr_drew ?_ | refine gr_drewN ?_ _ | refine gr_alloc ?_ _ | refine gr_set ?_ ?_ _ | refine gr_call ?_ (by assumption)) <;> (try (simp; done)) <;> (try (simp; omega)) <;> (try omega))⟩
      · have HE := Lib.hid (show idxP (fun x => decide (x = g)) l 0 = idxP (fun x => decide (x = g)) (l.drop (i + 1)) (i + 1) by rw [HR.out, HS.out, if_neg (by rw [decide_eq_false hu]; decide)])
        have e1 : (g == x) = false := beq_eq_false_iff_ne.2 (Ne.symm hu)
        clear HR HS hu
        go_wp2_with fail
        go_roundw
        case rel => exact ⟨i + 1, rfl, by omega, by (repeat' (first | exact Below.refl _ _ | assumption | refine gr_drew ?_ | refine gr_drewN ?_ _ | refine gr_alloc ?_ _ | refine gr_set ?_ ?_ _ | refine gr_call ?_ (by assumption)) <;> (try (simp; done)) <;> (try (simp; omega)) <;> (try omega)), HE⟩
        case measure => simp only [intOf]; omega
    · have hlt' : decide ((i : Int) < (z : Int)) = false := decide_eq_false (by omega)
      have hlt2 : decide (i < z) = false := decide_eq_false hlt
      have HE := Lib.hid (show idxP (fun x => decide (x = g)) l 0 = -1 by rw [HR.out, idxP_end (by rw [Hz.out]; omega)])
      clear HR
      go_wp2_with fail
      go_ret
      exact ⟨by rw [HE.out]; rfl, by (repeat' (first | exact Below.refl _ _ | assumption | refine gr_drew ?_ | refine gr_drewN ?_ _ | refine gr_alloc ?_ _ | refine gr_set ?_ ?_ _ | refine gr_call ?_ (by assumption)) <;> (try (simp; done)) <;> (try (simp; omega)) <;> (try omega))⟩
theorem contains_any (v : Value) (l : List Int) (g : Int) (w : World) (hat : At intE v l w) (hl : l.length ≤ 1000000) :
    Calls Try.prog 24 #[v, .int .i64 g] w fun e w' => e = .returned (.bool (l.any fun x => decide (x = g))) ∧ Below w.heap.size w w' := by
  have hix := Lib.hid (index_any v l g w hat hl)
  rw [← idxP_any _ l 0]
  generalize idxP (fun x => decide (x = g)) l 0 = r at hix ⊢
  clear hat hl
  go_enter Try.func24, Try.ntmps24
  go_wp2_with fail
  refine (hix.out).mono ?_
  rintro e w1 ⟨rfl, hb1⟩
  go_wp2_with fail
  go_ret
  exact ⟨rfl, hb1⟩
set_option maxHeartbeats 1600000 in
theorem in_any (c : Cr) (gv : Value) (g : Int) (w : World) (hat : CredAt c gv w) :
    Calls Try.prog 12 #[.agg (credC c gv), .int .i64 g] w fun e w' => e = .returned (.bool (inM c g)) ∧ Below w.heap.size w w' := by
  have HC := Lib.hid (fun W (hb : Below w.heap.size w W) => contains_any gv c.groups g W (hat.groups.call hb) hat.len)
  obtain ⟨uid, gid, gs, pw⟩ := c
  unfold inM
  unfold credC
  simp only at HC ⊢
  generalize (gs.any fun x => decide (x = g)) = a at *
  clear hat
  have hbl : Below w.heap.size w (w.alloc (.cells #[.int .i64 uid, .int .i64 gid, gv, .int .i64 pw] 33)) := by (repeat' (first | exact Below.refl _ _ | assumption | refine gr_drew ?_ | refine gr_drewN ?_ _ | refine gr_alloc ?_ _ | refine gr_set ?_ ?_ _ | refine gr_call ?_ (by assumption)) <;> (try (simp; done)) <;> (try (simp; omega)) <;> (try omega))
  by_cases hg : gid = g
  · have e1 : (g == gid) = true := beq_iff_eq.2 hg.symm
    rw [decide_eq_true hg, Bool.true_or]
    clear hg
    go_enter Try.func12, Try.ntmps12
    go_wp2_with fail
    go_ret
    exact ⟨by rfl, by (repeat' (first | exact Below.refl _ _ | assumption | refine gr_drew ?_ | refine gr_drewN ?_ _ | refine gr_alloc ?_ _ | refine gr_set ?_ ?_ _ | refine gr_call ?_ (by assumption)) <;> (try (simp; done)) <;> (try (simp; omega)) <;> (try omega))⟩
  · have e1 : (g == gid) = false := beq_eq_false_iff_ne.2 (Ne.symm hg)
    rw [decide_eq_false hg, Bool.false_or]
    clear hg
    go_enter Try.func12, Try.ntmps12
    go_wp2_with (first | (go_at_call 24; refine (HC.out _ hbl).mono ?_; rintro e w1 ⟨rfl, hb1⟩))
    go_ret
    exact ⟨by rfl, gr_call hbl hb1⟩
set_option maxHeartbeats 3200000 in
set_option maxRecDepth 100000 in
theorem owner_any (m : Mt) (va vd vx : Value) (c : Cr) (gv : Value) (w : World) :
    Calls Try.prog 16 #[.agg (metaC m va vd vx), .agg (credC c gv)] w fun e w' => e = .returned (.bool (ownM m c)) ∧ Below w.heap.size w w' := by
  have H := Lib.hid (fun W => gohas_any c gv 4 W)
  rw [has_own c] at H
  unfold ownM
  generalize hasOwn c = ho at *
  obtain ⟨uid, gid, gs, pw⟩ := c
  unfold credC at H ⊢
  unfold metaC
  simp only at H ⊢
  by_cases hu : m.uid = uid
  · rw [decide_eq_true hu, Bool.true_or]
    have e1 : (m.uid == uid) = true := beq_iff_eq.2 hu
    clear hu
    go_enter Try.func16, Try.ntmps16
    go_wp2_with fail
    go_ret
    exact ⟨by rfl, by (repeat' (first | exact Below.refl _ _ | assumption | refine gr_drew ?_ | refine gr_drewN ?_ _ | refine gr_alloc ?_ _ | refine gr_set ?_ ?_ _ | refine gr_call ?_ (by assumption)) <;> (try (simp; done)) <;> (try (simp; omega)) <;> (try omega))⟩
  · rw [decide_eq_false hu, Bool.false_or]
    have e1 : (m.uid == uid) = false := beq_eq_false_iff_ne.2 hu
    clear hu
    obtain ⟨W, hW⟩ : ∃ W, (w.alloc (.cells #[.int .i64 m.mode, .int .i64 m.uid, .int .i64 m.gid, .int .i64 m.sec, .int .i64 m.nano, va, vd, vx, .int .i64 m.cap.v, .int .u64 (m.cap.p : Int), .int .u64 (m.cap.i : Int), .bool m.cap.e, .int .i64 m.cap.r, .int .i64 m.flags] 30)).alloc (.cells #[.int .i64 uid, .int .i64 gid, gv, .int .i64 pw] 33) = W := ⟨_, rfl⟩
    have hbl : Below w.heap.size w W := by rw [← hW]; (repeat' (first | exact Below.refl _ _ | assumption | refine gr_drew ?_ | refine gr_drewN ?_ _ | refine gr_alloc ?_ _ | refine gr_set ?_ ?_ _ | refine gr_call ?_ (by assumption)) <;> (try (simp; done)) <;> (try (simp; omega)) <;> (try omega))
    have k1 : W.cell? ⟨w.heap.size, 1, none⟩ = some (.int .i64 m.uid) := by rw [← hW]; simp [go_sem]
    have c0 : W.cell? ⟨w.heap.size + 1, 0, none⟩ = some (.int .i64 uid) := by rw [← hW]; simp [go_sem]
    have c1 : W.cell? ⟨w.heap.size + 1, 1, none⟩ = some (.int .i64 gid) := by rw [← hW]; simp [go_sem]
    have c2 : W.cell? ⟨w.heap.size + 1, 2, none⟩ = some gv := by rw [← hW]; simp [go_sem]
    have c3 : W.cell? ⟨w.heap.size + 1, 3, none⟩ = some (.int .i64 pw) := by rw [← hW]; simp [go_sem]
    go_enter Try.func16, Try.ntmps16
    go_wp2_with (first | (go_at_call 25; refine (H.out _).mono ?_; rintro e w1 ⟨rfl, hb1⟩))
    go_ret
    exact ⟨by rfl, gr_call hbl hb1⟩
theorem goFrom_any (m : Int) (w : World) (h : InRange m) :
    Calls Try.prog 45 #[.int .i64 m] w fun e w' => (∃ v, e = .returned v ∧ Row AclW.aceE w.heap.size v (fromL m) w') ∧ Below w.heap.size w w' := by
  have h0 := h.1
  have h1 := h.2
  go_enter Try.func45, Try.ntmps45
  go_wp2_with fail
  go_ret
  exact ⟨⟨_, rfl, from_row m w⟩, by (repeat' (first | exact Below.refl _ _ | assumption | refine gr_drew ?_ | refine gr_drewN ?_ _ | refine gr_alloc ?_ _ | refine gr_set ?_ ?_ _ | refine gr_call ?_ (by assumption)) <;> (try (simp; done)) <;> (try (simp; omega)) <;> (try omega))⟩
set_option maxHeartbeats 3200000 in
set_option maxRecDepth 100000 in
theorem goList_any (m : Mt) (va vd vx : Value) (w : World) (hat : At AclW.aceE va m.acl w) (hl : m.acl.length ≤ 1000000) (hmd : InRange m.mode) :
    Calls Try.prog 33 #[.agg (metaC m va vd vx)] w fun e w' => (∃ v, e = .returned v ∧ At AclW.aceE v (listM m) w') ∧ Below w.heap.size w w' := by
  obtain ⟨p, cap, hv, hcap⟩ := hat.shape
  unfold listM
  have Hat := Lib.hid hat
  by_cases hn : m.acl = []
  · rw [if_pos hn]
    rw [hn] at hv
    simp only [List.length_nil] at hv
    subst hv
    have HF := Lib.hid (fun W => goFrom_any m.mode W hmd)
    unfold metaC
    clear hat hcap hn
    have hbl : Below w.heap.size w (w.alloc (.cells #[.int .i64 m.mode, .int .i64 m.uid, .int .i64 m.gid, .int .i64 m.sec, .int .i64 m.nano, .slice p 0 cap, vd, vx, .int .i64 m.cap.v, .int .u64 (m.cap.p : Int), .int .u64 (m.cap.i : Int), .bool m.cap.e, .int .i64 m.cap.r, .int .i64 m.flags] 30)) := by (repeat' (first | exact Below.refl _ _ | assumption | refine gr_drew ?_ | refine gr_drewN ?_ _ | refine gr_alloc ?_ _ | refine gr_set ?_ ?_ _ | refine gr_call ?_ (by assumption)) <;> (try (simp; done)) <;> (try (simp; omega)) <;> (try omega))
    go_enter Try.func33, Try.ntmps33
    go_wp2_with (first | (go_at_call 45; refine (HF.out _).mono ?_; rintro e w1 ⟨⟨v1, rfl, hr1⟩, hb1⟩))
    go_ret
    exact ⟨⟨_, rfl, hr1.at⟩, gr_call hbl hb1⟩
  · rw [if_neg hn]
    have hz : 0 < m.acl.length := List.length_pos_iff.2 hn
    generalize m.acl = l at *
    obtain ⟨z, hz'⟩ : ∃ z, l.length = z := ⟨_, rfl⟩
    rw [hz'] at hv hz hcap hl
    subst hv
    have hzd : ((z : Int) == 0) = false := beq_eq_false_iff_ne.2 (by omega)
    have hzd2 : (z == 0) = false := beq_eq_false_iff_ne.2 (by omega)
    unfold metaC
    clear hat hz' hn
    have hbl : Below w.heap.size w (w.alloc (.cells #[.int .i64 m.mode, .int .i64 m.uid, .int .i64 m.gid, .int .i64 m.sec, .int .i64 m.nano, .slice p z cap, vd, vx, .int .i64 m.cap.v, .int .u64 (m.cap.p : Int), .int .u64 (m.cap.i : Int), .bool m.cap.e, .int .i64 m.cap.r, .int .i64 m.flags] 30)) := by (repeat' (first | exact Below.refl _ _ | assumption | refine gr_drew ?_ | refine gr_drewN ?_ _ | refine gr_alloc ?_ _ | refine gr_set ?_ ?_ _ | refine gr_call ?_ (by assumption)) <;> (try (simp; done)) <;> (try (simp; omega)) <;> (try omega))
    go_enter Try.func33, Try.ntmps33
    go_wp2_with fail
    go_ret
    exact ⟨⟨_, rfl, Hat.out.call hbl⟩, hbl⟩
theorem goTag_any (a : Ace) (t : Int) (b : Nat) (w : World) (hc : w.cell? ⟨b, 0, none⟩ = some (.int .i64 t)) :
    Calls Try.prog 52 #[AclW.aceV a, .pointer (some ⟨b, 0, none⟩)] w fun e w' => e = .returned (.bool (decide (a.1 = t))) ∧ Below w.heap.size w w' := by
  obtain ⟨u, d, p⟩ := a
  have hb : b < w.heap.size := block_lt hc
  have hbne : b ≠ w.heap.size := Nat.ne_of_lt hb
  have e0 : (u == t) = decide (u = t) := by by_cases h : u = t <;> simp [h]
  unfold AclW.aceV
  simp only
  generalize hd : decide (u = t) = x at e0 ⊢
  have hc2 : (w.alloc (.cells #[.int .i64 u, .int .i64 d, .int .i64 p] 51)).cell? ⟨b, 0, none⟩ = some (.int .i64 t) := cell_kept (gr_alloc (Below.refl _ _) _) hc
  go_enter Try.func52, Try.ntmps52
  go_wp2_with fail
  go_ret
  exact ⟨rfl, by (repeat' (first | exact Below.refl _ _ | assumption | refine gr_drew ?_ | refine gr_drewN ?_ _ | refine gr_alloc ?_ _ | refine gr_set ?_ ?_ _ | refine gr_call ?_ (by assumption)) <;> (try (simp; done)) <;> (try (simp; omega)) <;> (try omega))⟩
end Go.Proofs.Ytpfidbcnefnhcaa
