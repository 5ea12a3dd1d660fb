/- The document's answer: what a text says, without memory. -/
import Derived.Test.YtdjffnhkfpjafaaDoorAclMath
namespace Go.Proofs.YtdjffnhkfpjafaaDoor
open Go.RowKit
open AclM DecM
set_option linter.unusedVariables false

/-- The tag of a part's first piece, where the second one is empty or not; nought: none. -/
def tgR (x y : List UInt8) : Int := if x = [117] then (if y = [] then 1 else 2) else if x = [103] then (if y = [] then 3 else 4) else if x = [109] then 5 else if x = [111] then 6 else 0
/-- The perm of the letters so far: each that is no dash. -/
def puR (x y z : Bool) (i : Nat) : Int := (if x = true ∧ 0 < i then 4 else 0) + (if y = true ∧ 1 < i then 2 else 0) + (if z = true ∧ 2 < i then 1 else 0)
def permL (u : List UInt8) : Int := match u with
  | [a, b, c] => puR (decide (a ≠ 45)) (decide (b ≠ 45)) (decide (c ≠ 45)) 3
  | _ => 0
theorem or_pu (x y z : Bool) : bits .or .i64 (puR x y z 0) 4 = puR true y z 1 ∧ bits .or .i64 (puR x y z 1) 2 = puR x true z 2 ∧ bits .or .i64 (puR x y z 2) 1 = puR x y true 3 := by
  cases x <;> cases y <;> cases z <;> decide
theorem pu_no (x y z : Bool) : puR x y z 0 = puR false y z 1 ∧ puR x y z 1 = puR x false z 2 ∧ puR x y z 2 = puR x y false 3 := by
  cases x <;> cases y <;> cases z <;> decide
theorem pu_in (x y z : Bool) (i : Nat) : 0 ≤ puR x y z i ∧ puR x y z i ≤ 7 := by
  unfold puR
  cases x <;> cases y <;> cases z <;> simp <;> (repeat' split) <;> omega

theorem cut_text {l : List Ace} (h : may l = true) : cutAt 44 (textL l) = l.map partText := by
  unfold textL
  exact cut_joinC (by simpa using may_ne h) (by intro p hp; obtain ⟨a, _, rfl⟩ := List.mem_map.1 hp; exact partText_comma a)
theorem rwx_colon (p : Int) : (58 : UInt8) ∉ rwx p := by
  intro h
  rcases rwx_mem h with h | h | h | h <;> exact absurd h (by decide)
theorem cut_part (a : Ace) : cutAt 58 (partText a) = [[letter a.1], idText a, rwx a.2.2] := by
  unfold partText
  rw [show letter a.1 :: 58 :: (idText a ++ 58 :: rwx a.2.2) = [letter a.1] ++ 58 :: (idText a ++ 58 :: rwx a.2.2) from rfl, cutAt_one _ (by simp; exact (letter_ne a.1).1.symm), cutAt_one _ (idText_not a).1, cutAt_none (rwx_colon _)]
theorem tg_part {a : Ace} (h : okPart a = true) : tgR [letter a.1] (idText a) = a.1 := by
  obtain ⟨h1, h2, _⟩ := okPart_iff h
  have hn := itoa_ne a.2.1
  obtain ⟨t, i, p⟩ := a
  simp only at h1 h2 hn ⊢
  have : t = 1 ∨ t = 2 ∨ t = 3 ∨ t = 4 ∨ t = 5 ∨ t = 6 := by omega
  rcases this with rfl | rfl | rfl | rfl | rfl | rfl <;> simp [letter, tgR, idText, hasId, hn]
theorem perm_part {p : Int} (h0 : 0 ≤ p) (h1 : p ≤ 7) : permL (rwx p) = p := by
  have : p = 0 ∨ p = 1 ∨ p = 2 ∨ p = 3 ∨ p = 4 ∨ p = 5 ∨ p = 6 ∨ p = 7 := by omega
  rcases this with rfl | rfl | rfl | rfl | rfl | rfl | rfl | rfl <;> decide
/-- So far what any valid list of this text begins with. -/
def SoFar (s : List UInt8) (acc : List Ace) (i : Nat) : Prop := ∀ l : List Ace, may l = true → textL l = s → acc = l.take i
theorem sofar_nil (s : List UInt8) : SoFar s [] 0 := fun l _ _ => by simp
/-- The part at a place of any valid list of this text. -/
theorem part_is {s : List UInt8} {i : Nat} (hi : i < (cutAt 44 s).length) {l : List Ace} (h1 : may l = true) (h2 : textL l = s) : ∃ h : i < l.length, okPart l[i] = true ∧ cutAt 58 (cutAt 44 s)[i] = [[letter l[i].1], idText l[i], rwx l[i].2.2] := by
  subst h2
  have hc := cut_text h1
  have hil : i < l.length := by rw [hc, List.length_map] at hi; exact hi
  refine ⟨hil, (may_parts h1).1 _ (List.getElem_mem hil), ?_⟩
  have : (cutAt 44 (textL l))[i] = partText l[i] := by simp only [hc, List.getElem_map]
  rw [this, cut_part]
/-- A part that has not three pieces, or whose third has not three letters. -/
theorem sofar_bad {s : List UInt8} {i : Nat} (hi : i < (cutAt 44 s).length) (h : ∀ x y u, cutAt 58 (cutAt 44 s)[i] = [x, y, u] → u.length ≠ 3) : getL s = none := by
  rcases hg : getL s with _ | l
  · rfl
  · obtain ⟨h1, h2⟩ := (get_iff _ _).1 hg
    obtain ⟨_, _, h3⟩ := part_is hi h1 h2
    exact absurd rfl (h _ _ _ h3)
/-- One part more: the tag, the Id (as Decimal has it where there is one), the perm. -/
theorem sofar_step {s : List UInt8} {acc : List Ace} {i : Nat} (hi : i < (cutAt 44 s).length) (h : SoFar s acc i) {x y u : List UInt8} (hq : cutAt 58 (cutAt 44 s)[i] = [x, y, u]) {m : Int}
    (hm1 : hasId (tgR x y) = true → ∀ k : Nat, k ≤ 2147483647 → y = Lib.decDigits k → m = (k : Int)) (hm2 : hasId (tgR x y) = false → m = 0) : SoFar s (acc ++ [(tgR x y, m, permL u)]) (i + 1) := by
  intro l h1 h2
  obtain ⟨hil, hok, h3⟩ := part_is hi h1 h2
  rw [hq] at h3
  injection h3 with e1 h3
  injection h3 with e2 h3
  injection h3 with e3 _
  subst e1 e2 e3
  have hk := okPart_iff hok
  rw [tg_part hok] at hm1 hm2 ⊢
  rw [perm_part hk.2.2.1 hk.2.2.2.1, List.take_succ_eq_append_getElem hil, ← h l h1 h2]
  have hid : m = l[i].2.1 := by
    by_cases hh : hasId l[i].1 = true
    · obtain ⟨n, hn⟩ : ∃ n : Nat, l[i].2.1 = (n : Int) := ⟨l[i].2.1.toNat, by omega⟩
      rw [hm1 hh n (by omega) (by unfold idText; rw [if_pos hh, hn, itoa_nat]), hn]
    · rw [Bool.not_eq_true] at hh
      rw [hm2 hh, hk.2.2.2.2.2.2 hh]
  rw [hid]
theorem sofar_yes {s : List UInt8} {acc : List Ace} (h1 : may acc = true) (h2 : textL acc = s) : getL s = some acc := (get_iff _ _).2 ⟨h1, h2⟩
theorem sofar_no {s : List UInt8} {acc : List Ace} (h : SoFar s acc (cutAt 44 s).length) (hn : ¬ (may acc = true ∧ textL acc = s)) : getL s = none := by
  rcases hg : getL s with _ | l
  · rfl
  · obtain ⟨h1, h2⟩ := (get_iff _ _).1 hg
    have h3 := h l h1 h2
    subst h2
    rw [cut_text h1, List.length_map, List.take_length] at h3
    subst h3
    exact absurd ⟨h1, rfl⟩ hn
end Go.Proofs.YtdjffnhkfpjafaaDoor
