/- Records in plain Lean: the document's answer is the program's; what the statements without it ask. -/
import Derived.Test.YtbjklpodkopgiaaDoorRecMath
namespace Go.Proofs.YtbjklpodkopgiaaDoor
namespace RecM
open Go.Lib (decDigits nDigits decDigits_length)

/-- The number that stands ahead, and how many digits were taken for it. -/
def scanF (n i : Nat) : List UInt8 → Nat × Nat
  | [] => (n, i)
  | c :: l => if DecM.isDig c = true ∧ n ≤ 65536 then scanF (n * 10 + (c.toNat - 48)) (i + 1) l else (n, i)
theorem scan_shift (l : List UInt8) : ∀ n a i, scanF n (a + i) l = ((scanF n i l).1, a + (scanF n i l).2) := by
  induction l with
  | nil => intro n a i; rfl
  | cons c l ih =>
    intro n a i
    unfold scanF
    split
    · rw [Nat.add_assoc, ih]
    · rfl
theorem scan_le (l : List UInt8) : ∀ n i, i ≤ (scanF n i l).2 ∧ (scanF n i l).2 ≤ i + l.length ∧ (n ≤ 655369 → (scanF n i l).1 ≤ 655369) := by
  induction l with
  | nil => intro n i; exact ⟨Nat.le_refl _, by simp [scanF], fun h => h⟩
  | cons c l ih =>
    intro n i
    unfold scanF
    split
    · rename_i h
      have h1 := ih (n * 10 + (c.toNat - 48)) (i + 1)
      have h2 := h.1
      simp only [DecM.isDig, Bool.and_eq_true, decide_eq_true_eq] at h2
      rw [List.length_cons]
      exact ⟨by omega, by omega, fun _ => h1.2.2 (by omega)⟩
    · rw [List.length_cons]
      exact ⟨Nat.le_refl _, by simp only; omega, fun h => h⟩
theorem scan_digits (D : List UInt8) (h : ∀ c ∈ D, DecM.isDig c = true) (x : List UInt8) : ∀ a i, a * 10 ^ D.length + DecM.valN D ≤ 65536 → scanF a i (D ++ 32 :: x) = (a * 10 ^ D.length + DecM.valN D, i + D.length) := by
  induction D with
  | nil =>
    intro a i _
    show scanF a i (32 :: x) = _
    unfold scanF
    rw [if_neg (fun h => by have := h.1; revert this; decide)]
    simp [DecM.valN]
  | cons c D ih =>
    intro a i hle
    rw [DecM.valN_cons, List.length_cons, Nat.pow_succ] at hle ⊢
    have e : a * (10 ^ D.length * 10) = (a * 10) * 10 ^ D.length := by rw [Nat.mul_comm (10 ^ D.length), Nat.mul_assoc]
    rw [e] at hle ⊢
    have hpos : 1 ≤ 10 ^ D.length := Nat.one_le_pow _ _ (by decide)
    have ha : a * 10 ≤ a * 10 * 10 ^ D.length := Nat.le_mul_of_pos_right _ hpos
    rw [List.cons_append, scanF, if_pos ⟨h c (List.mem_cons_self ..), by omega⟩, ih (fun y hy => h y (List.mem_cons_of_mem _ hy)) _ _ (by rw [Nat.add_mul]; omega), Nat.add_mul]
    simp only [Prod.mk.injEq]
    exact ⟨by omega, by omega⟩

def refMid (t : List UInt8) : List UInt8 := (t.take ((scanF 0 0 t).1 - 1)).drop ((scanF 0 0 t).2 + 1)
/-- The document's answer. -/
def refF (t : List UInt8) : Option (List UInt8 × List UInt8 × Nat) :=
  if t.length < (scanF 0 0 t).1 ∨ (scanF 0 0 t).1 < (scanF 0 0 t).2 + 3 then none else
  if Lib.indexByte (refMid t) 61 < 0 then none else
  if putF ((refMid t).take (Lib.indexByte (refMid t) 61).toNat) ((refMid t).drop ((Lib.indexByte (refMid t) 61).toNat + 1)) = t.take (scanF 0 0 t).1
  then some ((refMid t).take (Lib.indexByte (refMid t) 61).toNat, (refMid t).drop ((Lib.indexByte (refMid t) 61).toNat + 1), (scanF 0 0 t).1) else none
theorem ref_of {t k v : List UInt8} {n : Nat} (h : Begins t k v n) : refF t = some (k, v, n) := by
  obtain ⟨hm, r, rfl, rfl⟩ := h
  obtain ⟨hl1, hl2, hl3⟩ := may_length hm
  obtain ⟨_, _, _, h61, _⟩ := (may_iff k v).1 hm
  obtain ⟨m, hmm⟩ : ∃ m, lenF (3 + k.length + v.length) = m := ⟨_, rfl⟩
  have hd := dec_digN m (by omega)
  have hlm : m = (decDigits m).length + (3 + k.length + v.length) := by have := lenF_true (3 + k.length + v.length) (by omega); rw [hmm] at this; omega
  have hscan : scanF 0 0 (encF k v ++ r) = (m, (decDigits m).length) := by
    unfold encF
    rw [hmm, List.append_assoc, List.cons_append, scan_digits _ (DecM.dec_dig m) _ _ _ (by rw [DecM.dec_val]; omega), DecM.dec_val]
    simp
  have hall : (encF k v ++ r).take m = encF k v := by rw [List.take_left']; omega
  have hmid : refMid (encF k v ++ r) = k ++ 61 :: v := by
    unfold refMid
    rw [hscan]
    simp only
    have e1 : (encF k v ++ r).take (m - 1) = (encF k v).take (m - 1) := by rw [List.take_append_of_le_length (by omega)]
    have e2 : encF k v = (decDigits m ++ 32 :: (k ++ 61 :: v)) ++ [10] := by unfold encF; rw [hmm]; simp
    rw [e1, e2, List.take_left', ← List.drop_drop, List.drop_left' rfl]
    · simp
    · simp; omega
  unfold refF
  rw [hmid, hscan, index_app _ _ _ h61]
  simp only [Int.toNat_natCast]
  rw [if_neg (by rw [List.length_append, hl2, hmm]; omega), if_neg (by omega), List.take_left' rfl, ← List.drop_drop, List.drop_left' rfl, hall]
  simp only [List.drop_succ_cons, List.drop_zero]
  rw [if_pos (put_may hm), hl2, hmm]
theorem ref_begins {t k v : List UInt8} {n : Nat} (h : refF t = some (k, v, n)) : Begins t k v n := by
  unfold refF at h
  split at h
  · cases h
  · rename_i hb
    split at h
    · cases h
    · split at h
      · rename_i hp
        simp only [Option.some.injEq, Prod.mk.injEq] at h
        obtain ⟨rfl, rfl, rfl⟩ := h
        exact begins_of (by omega) (by omega) hp
      · cases h
/-- The document's answer is the program's. -/
theorem ref_get (t : List UInt8) : refF t = getF t := by
  rcases h1 : refF t with _ | ⟨k, v, n⟩
  · rcases h2 : getF t with _ | ⟨k, v, n⟩
    · rfl
    · rw [ref_of (get_begins h2)] at h1; cases h1
  · rw [get_of (ref_begins h1)]

theorem dec_inj {a b : Nat} (h : decDigits a = decDigits b) : a = b := by rw [← DecM.dec_val a, h, DecM.dec_val]
/-- Digits with a blank behind them: the digits are the same. -/
theorem head_inj {a b : Nat} {x y : List UInt8} (h : decDigits a ++ 32 :: x = decDigits b ++ 32 :: y) : a = b ∧ x = y := by
  have h1 := index_app (decDigits a) x 32 (dec_no32 a)
  have h2 := index_app (decDigits b) y 32 (dec_no32 b)
  rw [h, h2] at h1
  have h3 := List.append_inj h (by omega)
  exact ⟨dec_inj h3.1, by simpa using h3.2⟩
/-- Of two records that some bytes begin with: they are one. -/
theorem begins_inj {t k v k' v' : List UInt8} {n n' : Nat} (h : Begins t k v n) (h' : Begins t k' v' n') : k = k' ∧ v = v' ∧ n = n' := by
  have := get_of h
  rw [get_of h'] at this
  simp only [Option.some.injEq, Prod.mk.injEq] at this
  exact ⟨this.1.symm, this.2.1.symm, this.2.2.symm⟩
/-- Without its last byte it is none. -/
theorem get_cut {k v : List UInt8} (h : mayB k v = true) : getF (encF k v).dropLast = none := by
  rcases hg : getF (encF k v).dropLast with _ | ⟨k', v', n⟩
  · rfl
  · exfalso
    have hb := get_begins hg
    obtain ⟨hm, r, he, hn⟩ := hb
    have hne := enc_ne k v
    have e : encF k v = (encF k v).dropLast ++ [(encF k v).getLast hne] := (List.dropLast_concat_getLast hne).symm
    have hb2 : Begins (encF k v) k' v' n := ⟨hm, r ++ [(encF k v).getLast hne], by rw [← List.append_assoc, ← he]; exact e, hn⟩
    have hb3 : Begins (encF k v) k v (encF k v).length := ⟨h, [], by simp, rfl⟩
    have := begins_inj hb2 hb3
    have hl := congrArg List.length he
    rw [List.length_dropLast, List.length_append] at hl
    have : 0 < (encF k v).length := List.length_pos_iff.2 hne
    omega
theorem all_cut (l : List (List UInt8 × List UInt8)) (h : allMay l) (hne : l ≠ []) : allF (joinF l).dropLast = none ∧ joinF l ≠ [] := by
  obtain ⟨l', r, rfl⟩ : ∃ l' r, l = l' ++ [r] := ⟨_, _, (List.dropLast_concat_getLast hne).symm⟩
  have h1 := h r (by simp)
  have h2 : allMay l' := fun y hy => h y (by simp [hy])
  have e : joinF (l' ++ [r]) = joinF l' ++ encF r.1 r.2 := by simp [joinF, put_may h1]
  have hen := enc_ne r.1 r.2
  rw [e]
  refine ⟨?_, by simp [hen]⟩
  rw [List.dropLast_append_of_ne_nil hen, all_app l' h2]
  rw [all_bad ?_ (get_cut h1)]
  · rfl
  · intro e0
    have hl := congrArg List.length e0
    rw [List.length_dropLast] at hl
    obtain ⟨_, hl2, _⟩ := may_length h1
    have := (lenF_bounds (3 + r.1.length + r.2.length)).1
    simp at hl
    omega
/-- With a longer number ahead it is none. -/
theorem get_longer (k v : List UInt8) (h : mayB k v = true) : getF (decDigits ((encF k v).length + 1) ++ (encF k v).drop (decDigits (encF k v).length).length) = none := by
  obtain ⟨hl1, hl2, hl3⟩ := may_length h
  obtain ⟨m, hmm⟩ : ∃ m, lenF (3 + k.length + v.length) = m := ⟨_, rfl⟩
  rw [hmm] at hl2
  have hrest : (encF k v).drop (decDigits (encF k v).length).length = 32 :: (k ++ 61 :: (v ++ [10])) := by
    rw [hl2]
    unfold encF
    rw [hmm, List.drop_left' rfl]
  rw [hrest, hl2]
  rcases hg : getF (decDigits (m + 1) ++ 32 :: (k ++ 61 :: (v ++ [10]))) with _ | ⟨k', v', n⟩
  · rfl
  · exfalso
    obtain ⟨hm', r, he, hn⟩ := get_begins hg
    obtain ⟨hl1', hl2', hl3'⟩ := may_length hm'
    have he' := he
    unfold encF at he
    rw [List.append_assoc, List.cons_append] at he
    obtain ⟨h1, h2⟩ := head_inj he
    have hlen := congrArg List.length h2
    simp only [List.length_append, List.length_cons, List.length_nil] at hlen
    have t1 := lenF_true (3 + k'.length + v'.length) (by omega)
    have t2 := lenF_true (3 + k.length + v.length) (by omega)
    rw [hmm] at t2
    rw [← h1] at t1
    have hd : digN (m + 1) ≤ digN m + 1 := by
      unfold digN
      repeat' split
      all_goals omega
    have : 3 + k'.length + v'.length = 3 + k.length + v.length := by omega
    rw [this, hmm] at h1
    omega
/-- With a nought ahead it is none. -/
theorem get_zero (s : List UInt8) : getF (48 :: s) = none := by
  rcases hg : getF (48 :: s) with _ | ⟨k, v, n⟩
  · rfl
  · exfalso
    obtain ⟨hm, r, he, hn⟩ := get_begins hg
    have h1 := DecM.dec_head (lenF (3 + k.length + v.length)) (by have := (lenF_bounds (3 + k.length + v.length)).1; omega)
    have h2 := DecM.dec_ne (lenF (3 + k.length + v.length))
    unfold encF at he
    generalize decDigits (lenF (3 + k.length + v.length)) = D at *
    cases D with
    | nil => exact h2 rfl
    | cons c D =>
      simp only [List.cons_append, List.cons.injEq] at he
      exact h1 (by rw [← he.1]; rfl)
end RecM
end Go.Proofs.YtbjklpodkopgiaaDoor
