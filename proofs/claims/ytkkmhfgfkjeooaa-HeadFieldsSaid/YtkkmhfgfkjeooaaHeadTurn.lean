/- A block with a byte turned is none; the law's headers are valid. -/
import Derived.Test.YtkkmhfgfkjeooaaHeadMake
import Derived.Test.YtkkmhfgfkjeooaaHeadSplit
import Derived.Test.YtkkmhfgfkjeooaaHeadAwake2
import Derived.Test.YtkkmhfgfkjeooaaRefHead
namespace Go.Proofs.Ytkkmhfgfkjeooaa
open Go.RowKit
open HeadM NumM
set_option linter.unusedVariables false

theorem fieldO_some_of_bas {n v : Int} {l : List UInt8} (h : basO n v = some l) : (fieldO n v).isSome = true := by
  unfold fieldO
  rw [h]
  cases octO n v <;> rfl
theorem hasF8 {n : Int} (h0 : -72057594037927936 ≤ n) (h1 : n < 72057594037927936) : hasF n 8 = true := by
  unfold hasF
  have : basO n 8 = some ((if n < 0 then 255 else 128) :: bes 7 n) := by
    unfold basO
    rw [if_pos (by simp [isW]; omega)]
    rfl
  exact fieldO_some_of_bas this
theorem hasF12 (n : Int) : hasF n 12 = true := by
  unfold hasF
  have : basO n 12 = some ((if n < 0 then 255 else 128) :: bes 11 n) := by
    unfold basO
    rw [if_pos (by simp [isW])]
    rfl
  exact fieldO_some_of_bas this
theorem mayN8 {n : Int} (h0 : 0 ≤ n) (h1 : n < 72057594037927936) : mayN n 8 = true := by
  unfold mayN
  rw [decide_eq_true h0, hasF8 (by omega) h1]
  rfl
theorem mk_may (a b : List UInt8) (zs : List Int) (len : Nat) (t : UInt8) (hb : ∀ j, 0 ≤ nth zs len j ∧ nth zs len j ≤ 4294967295) : mayH (mkH a b zs len t) = true := by
  have b0 := hb 0; have b1 := hb 1; have b2 := hb 2; have b3 := hb 3; have b5 := hb 5; have b6 := hb 6
  simp only [mayH, mayTs, mayNs, mkH, L_strOf, mkT_may, Bool.true_and]
  rw [mayN8 (by omega) (by omega), mayN8 b1.1 (by omega), mayN8 b2.1 (by omega), mayN8 (by omega) (by omega), mayN8 b6.1 (by omega), hasF12]
  have : mayN (nth zs len 3 * 999) 12 = true := by unfold mayN; rw [decide_eq_true (by omega), hasF12]; rfl
  rw [this]
  rfl
theorem mk_ints (a b : List UInt8) (zs : List Int) (len : Nat) (t : UInt8) (hb : ∀ j, 0 ≤ nth zs len j ∧ nth zs len j ≤ 4294967295) : Ints (mkH a b zs len t) := by
  have b0 := hb 0; have b1 := hb 1; have b2 := hb 2; have b3 := hb 3; have b4 := hb 4; have b5 := hb 5; have b6 := hb 6
  constructor <;> simp only [mkH] <;> omega
theorem row_nth {w : World} {na : Option Addr} {len cap : Nat} {zs : List Int} (h : IsRow .u32 w na len cap zs) : ∀ j, 0 ≤ nth zs len j ∧ nth zs len j ≤ 4294967295 := fun j => by
  unfold nth
  by_cases hj : j < len
  · rw [if_pos hj]
    obtain ⟨_, _, _, _, _, e4⟩ := h.open (by omega)
    exact boundsU32 (e4 j hj).2
  · rw [if_neg hj]; omega

def HeadM.totL (b : List UInt8) : Nat := sumL (b.take 148) + 256 + sumL (b.drop 156)
theorem tot_of {h : Hd} {b : List UInt8} (S : Stands h b) : cut b 148 156 = chkL (totL b) := by
  unfold totL
  rw [S.c17, S.c18]
  exact S.c7
theorem tot_lt {b : List UInt8} (hb : b.length = 512) : totL b < 262144 := by
  unfold totL
  have h1 := sumL_le (b.take 148)
  have h2 := sumL_le (b.drop 156)
  rw [List.length_take, hb] at h1
  rw [List.length_drop, hb] at h2
  omega
theorem chk_inj {m n : Nat} (hm : m < 262144) (hn : n < 262144) (h : chkL m = chkL n) : m = n := by
  have h1 : digs 6 m = digs 6 n := List.append_cancel_right h
  have h2 := octV_digs 6 m
  have h3 := octV_digs 6 n
  rw [h1, h3] at h2
  have : (8 : Nat) ^ 6 = 262144 := by decide
  omega
theorem sum_set {l : List UInt8} : ∀ {k : Nat} {c d : UInt8}, l[k]? = some d → sumL (l.set k c) + d.toNat = sumL l + c.toNat := by
  induction l with
  | nil => intro k c d h; simp at h
  | cons x l ih =>
    intro k c d h
    cases k with
    | zero =>
      simp at h; subst h
      simp only [List.set_cons_zero, sumL, List.map_cons, List.sum_cons]; omega
    | succ k =>
      have := ih (c := c) (by simpa using h)
      simp only [List.set_cons_succ, sumL, List.map_cons, List.sum_cons] at *
      omega
theorem cut_at {b : List UInt8} {i j k : Nat} (h1 : i ≤ k) (h2 : k < j) : (cut b i j)[k - i]? = b[k]? := by
  unfold cut
  rw [List.getElem?_drop, show i + (k - i) = k by omega, List.getElem?_take, if_pos h2]

/-- A byte turned: no header. -/
theorem turned {h : Hd} (H : mayH h = true) {k : Nat} {c d : UInt8} (hk : (putL h)[k]? = some d) (hne : c ≠ d) (r : List UInt8) : getE ((putL h).set k c ++ r) = (zeroH, 4) := by
  have hl := put_length H
  have S := stands H
  obtain ⟨b, hb⟩ : ∃ b, putL h = b := ⟨_, rfl⟩
  rw [hb] at hk hl S ⊢
  have hk5 : k < 512 := by have := (List.getElem?_eq_some_iff.1 hk).1; omega
  have hl2 : (b.set k c).length = 512 := by rw [List.length_set]; exact hl
  have hnd : c.toNat ≠ d.toNat := fun e => hne (UInt8.toNat_inj.1 e)
  have ht : (b.set k c ++ r).take 512 = b.set k c := List.take_left' hl2
  have hz : b.set k c ≠ List.replicate 512 0 := by
    intro e
    have m0 : b[257]? = some 117 := by rw [← cut_at (b := b) (i := 257) (j := 265) (k := 257) (by omega) (by omega), S.c10]; rfl
    have m1 : b[258]? = some 115 := by rw [← cut_at (b := b) (i := 257) (j := 265) (k := 258) (by omega) (by omega), S.c10]; rfl
    by_cases e1 : k = 257
    · have : (b.set k c)[258]? = some 115 := by rw [List.getElem?_set_ne (by omega)]; exact m1
      rw [e, List.getElem?_replicate] at this
      simp at this
    · have : (b.set k c)[257]? = some 117 := by rw [List.getElem?_set_ne (by omega)]; exact m0
      rw [e, List.getElem?_replicate] at this
      simp at this
  have hok : okB (b.set k c) = false := by
    cases ho : okB (b.set k c) with
    | false => rfl
    | true =>
      exfalso
      obtain ⟨hm, hp⟩ := ok_may (by intro e; rw [e] at hl2; simp at hl2) ho
      have S2 := stands hm
      rw [hp] at S2
      have t1 := tot_of S
      have t2 := tot_of S2
      have hat : (b.set k c)[k]? = some c := by rw [List.getElem?_set_self (by omega)]
      by_cases c1 : k < 148
      · have e1 : cut (b.set k c) 148 156 = cut b 148 156 := by
          apply List.ext_getElem?
          intro i
          unfold cut
          rw [List.getElem?_drop, List.getElem?_drop, List.getElem?_take, List.getElem?_take]
          rw [List.getElem?_set_ne (by omega)]
        rw [t1, t2] at e1
        have e2 := chk_inj (tot_lt hl2) (tot_lt hl) e1
        unfold totL at e2
        rw [List.take_set, List.drop_set_of_lt (by omega)] at e2
        have := sum_set (l := b.take 148) (k := k) (c := c) (d := d) (by rw [List.getElem?_take, if_pos c1]; exact hk)
        omega
      · by_cases c2 : k < 156
        · have e1 : totL (b.set k c) = totL b := by
            unfold totL
            rw [List.take_set_of_le (by omega), List.drop_set_of_lt (by omega)]
          rw [e1, ← t1] at t2
          have h5 := cut_at (b := b.set k c) (i := 148) (j := 156) (k := k) (by omega) c2
          rw [t2, cut_at (by omega) c2, hat, hk] at h5
          injection h5 with h5
          exact hne h5.symm
        · have e1 : cut (b.set k c) 148 156 = cut b 148 156 := by
            unfold cut
            rw [List.take_set_of_le (by omega)]
          rw [t1, t2] at e1
          have e2 := chk_inj (tot_lt hl2) (tot_lt hl) e1
          unfold totL at e2
          rw [List.take_set_of_le (by omega), List.drop_set, if_neg (by omega)] at e2
          have := sum_set (l := b.drop 156) (k := k - 156) (c := c) (d := d) (by rw [List.getElem?_drop, show 156 + (k - 156) = k by omega]; exact hk)
          omega
  unfold getE
  rw [if_neg (by rw [List.length_append, hl2]; omega), ht, if_neg hz, hok]
  rfl
theorem getE_short {s : List UInt8} (h : s.length < 512) : getE s = (zeroH, 5) := by unfold getE; rw [if_pos h]
end Go.Proofs.Ytkkmhfgfkjeooaa
