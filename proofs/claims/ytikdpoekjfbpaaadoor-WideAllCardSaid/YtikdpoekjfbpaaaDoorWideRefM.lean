/- The document's answer: what letters and a text say, without memory. -/
import Derived.Test.YtikdpoekjfbpaaaDoorWideMath
namespace Go.Proofs.YtikdpoekjfbpaaaDoor
open Go.RowKit
open WideM
open AclM (cutAt)
set_option linter.unusedVariables false

/-- The bits of a letter put to a number, the letters' places counted from k on. -/
def inn : List UInt8 → UInt8 → Nat → Nat → Nat
  | [], _, _, n => n
  | x :: xs, c, k, n => inn xs c (k + 1) (if c = x then n ||| 2 ^ k else n)
def unbL (ls : List UInt8) : List UInt8 → Nat → Nat
  | [], n => n
  | c :: r, n => unbL ls r (inn ls c 0 n)
theorem inn_no : ∀ (ls : List UInt8) (c : UInt8) (k n : Nat), c ∉ ls → inn ls c k n = n
  | [], _, _, _, _ => rfl
  | x :: xs, c, k, n, h => by
    rw [List.mem_cons] at h
    unfold inn
    rw [if_neg (fun e => h (.inl e)), inn_no xs c (k + 1) n (fun e => h (.inr e))]
theorem inn_yes : ∀ (ls : List UInt8) (c : UInt8) (k n : Nat), ls.Nodup → 0 ≤ Lib.indexByte ls c → inn ls c k n = n ||| 2 ^ (k + (Lib.indexByte ls c).toNat)
  | [], c, k, n, _, h => by simp [Lib.indexByte] at h
  | x :: xs, c, k, n, hn, h => by
    rw [List.nodup_cons] at hn
    unfold inn
    by_cases hc : c = x
    · subst hc
      have e : Lib.indexByte (c :: xs) c = 0 := by unfold Lib.indexByte; simp
      rw [if_pos rfl, inn_no xs c _ _ hn.1, e]
      rfl
    · have hb : (x == c) = false := beq_eq_false_iff_ne.2 (fun e => hc e.symm)
      rw [if_neg hc]
      unfold Lib.indexByte at h ⊢
      rw [hb] at h ⊢
      simp only [Bool.false_eq_true, if_false] at h ⊢
      by_cases h1 : Lib.indexByte xs c = -1
      · rw [h1] at h; simp at h
      · have hb1 : (Lib.indexByte xs c == -1) = false := beq_eq_false_iff_ne.2 h1
        rw [hb1] at h ⊢
        simp only [Bool.false_eq_true, if_false] at h ⊢
        have hge := Lib.indexByte_ge xs c
        rw [inn_yes xs c (k + 1) n hn.2 (by omega), show k + 1 + (Lib.indexByte xs c).toNat = k + (Lib.indexByte xs c + 1).toNat by omega]
theorem unb_bits {ls : List UInt8} (hn : ls.Nodup) : ∀ {s : List UInt8} {n m : Nat}, bitsOf ls s n = some m → unbL ls s n = m
  | [], n, m, h => by cases h; rfl
  | c :: r, n, m, h => by
    unfold bitsOf at h
    split at h
    · cases h
    · unfold unbL
      rw [inn_yes ls c 0 n hn (by omega), Nat.zero_add]
      exact unb_bits hn h
theorem unb_fl {n : Nat} (h : n < 128) : unbL flL (lets n flL) 0 = n := unb_bits (by decide) (bits_fl h)
theorem unb_ms {n : Nat} (h : n < 16384) : unbL msL (lets n msL) 0 = n := unb_bits (by decide) (bits_ms h)
/-- The type that a part's first piece says. -/
def tyR (x : List UInt8) : Int := if x = [68] then 2 else 1
/-- So far what any valid list of this text begins with. -/
def SoFar (s : List UInt8) (acc : List Wid) (i : Nat) : Prop := ∀ l : List Wid, may l = true → textL l = s → acc = l.take i
theorem sofar_nil (s : List UInt8) : SoFar s [] 0 := fun l _ _ => by simp
/-- The part at a place of any valid list of this text. -/
theorem part_is {s : List UInt8} (hs : s ≠ []) {i : Nat} (hi : i < (cutAt 44 s).length) {l : List Wid} (h1 : may l = true) (h2 : textL l = s) : ∃ h : i < l.length, okPart l[i] = true ∧ cutAt 58 (cutAt 44 s)[i] = [[letter l[i].ty], lets l[i].fl.toNat flL, l[i].who.data.toList, lets l[i].ms.toNat msL] := by
  subst h2
  have hl : l ≠ [] := fun e => hs (textL_nil.2 e)
  have hc := cut_text h1 hl
  have hil : i < l.length := by rw [hc, List.length_map] at hi; exact hi
  have hok := (may_parts h1).1 _ (List.getElem_mem hil)
  refine ⟨hil, hok, ?_⟩
  have : (cutAt 44 (textL l))[i] = partText l[i] := by simp only [hc, List.getElem_map]
  rw [this, cut_part (okPart_iff hok).2.2.2.2.2.2.2]
theorem sofar_bad {s : List UInt8} (hs : s ≠ []) {i : Nat} (hi : i < (cutAt 44 s).length) (h : (cutAt 58 (cutAt 44 s)[i]).length ≠ 4) : getL s = none := by
  rcases hg : getL s with _ | l
  · rfl
  · obtain ⟨h1, h2⟩ := (get_iff _ _).1 hg
    obtain ⟨_, _, h3⟩ := part_is hs hi h1 h2
    exact absurd (by rw [h3]; rfl) h
theorem sofar_step {s : List UInt8} (hs : s ≠ []) {acc : List Wid} {i : Nat} (hi : i < (cutAt 44 s).length) (h : SoFar s acc i) {x y z u : List UInt8} (hq : cutAt 58 (cutAt 44 s)[i] = [x, y, z, u]) :
    SoFar s (acc ++ [⟨tyR x, (unbL flL y 0 : Nat), (unbL msL u 0 : Nat), strOf z⟩]) (i + 1) := by
  intro l h1 h2
  obtain ⟨hil, hok, h3⟩ := part_is hs hi h1 h2
  rw [hq] at h3
  injection h3 with e1 h3
  injection h3 with e2 h3
  injection h3 with e3 h3
  injection h3 with e4 _
  subst e1 e2 e3 e4
  obtain ⟨k1, k2, k3, k4, k5, k6, k7, k8⟩ := okPart_iff hok
  rw [unb_fl (by omega), unb_ms (by omega), strOf_self, List.take_succ_eq_append_getElem hil, ← h l h1 h2]
  have ht : tyR [letter l[i].ty] = l[i].ty := by rcases k1 with e | e <;> rw [e] <;> rfl
  rw [ht, Int.toNat_of_nonneg k2, Int.toNat_of_nonneg k4]
theorem sofar_yes {s : List UInt8} {acc : List Wid} (h1 : may acc = true) (h2 : textL acc = s) : getL s = some acc := (get_iff _ _).2 ⟨h1, h2⟩
theorem sofar_no {s : List UInt8} (hs : s ≠ []) {acc : List Wid} (h : SoFar s acc (cutAt 44 s).length) (hn : ¬ (may acc = true ∧ textL acc = s)) : getL s = none := by
  rcases hg : getL s with _ | l
  · rfl
  · obtain ⟨h1, h2⟩ := (get_iff _ _).1 hg
    have h3 := h l h1 h2
    have hl : l ≠ [] := fun e => hs (by rw [← h2]; exact textL_nil.2 e)
    subst h2
    rw [cut_text h1 hl, List.length_map, List.take_length] at h3
    subst h3
    exact absurd ⟨h1, rfl⟩ hn
end Go.Proofs.YtikdpoekjfbpaaaDoor
