/- Bundle of 2 texts. -/
import Derived.Test.YtajjhndpdjfcpaaAwMakeF
import Derived.Test.YtajjhndpdjfcpaaXwMakeF
import Derived.Test.YtajjhndpdjfcpaaMetaCaps
import Derived.Test.YtajjhndpdjfcpaaMetaKindsM
/- Metadata by numbers, as a function of the numbers. -/
namespace Go.Proofs.Ytajjhndpdjfcpaa
open Go.RowKit
open MetaM
set_option linter.unusedVariables false
namespace MetaM
/-- The number at a place; none behind the end. -/
def numK (zs : List Int) (len : Nat) (i : Nat) : Int := if i < len then zs.getD i 0 else 0
def xatK (zs : List Int) (len : Nat) : List XatM.Xa := if 12 < len then XatW.madeX (zs.drop 12) (len - 12) else []
def modeK (zs : List Int) (len : Nat) : Int := numK zs len 0 * 16 + numK zs len 1 % 16
def capK (zs : List Int) (len : Nat) (k : Int) : CapsM.Cap :=
  if k = 1 ∧ numK zs len 10 % 3 = 0 ∧ 10 < len then mkC (numK zs len 8).toNat (numK zs len 9 * 1099511627776).toNat (zs.getD 10 0).toNat (numK zs len 11).toNat else ⟨0, 0, 0, false, 0⟩
def aclK (zs : List Int) (len : Nat) (n : Int) : List AclM.Ace := if numK zs len 7 % 2 = 1 then AclW.madeL (zs.drop 8) (len - 8) (n % 512) else []
def dflK (zs : List Int) (len : Nat) (k : Int) : List AclM.Ace := if k = 6 ∧ 2 ≤ numK zs len 7 % 4 then AclW.madeL (zs.drop (min len 9)) (len - min len 9) (numK zs len 9) else []
/-- What Make makes. -/
def madeM (zs : List Int) (len : Nat) (k : Int) : Mt :=
  if k = 3 then ⟨511, numK zs len 2 % 6, numK zs len 3 % 6, numK zs len 4 * 1000 - 50000, numK zs len 5 % 2 * 500000000, [], [], xatK zs len, ⟨0, 0, 0, false, 0⟩, 0⟩
  else ⟨modeK zs len, numK zs len 2 % 6, numK zs len 3 % 6, numK zs len 4 * 1000 - 50000, numK zs len 5 % 2 * 500000000, aclK zs len (modeK zs len), dflK zs len k, xatK zs len, capK zs len k, numK zs len 6 % 16⟩
end MetaM
/-- The end of a slice that came in. -/
theorem IsRow.tail {k : IntKind} {w : World} {b off len cap : Nat} {zs : List Int} (h : IsRow k w (some ⟨b, off, none⟩) len cap zs) (n : Nat) (hn : n ≤ len) :
    IsRow k w (some ⟨b, off + n, none⟩) (len - n) (cap - n) (zs.drop n) := by
  rcases h with ⟨h, _⟩ | ⟨x, hx, hl, hm, hz, hc, hw⟩
  · cases h
  · cases hx
    refine .inr ⟨_, rfl, by omega, by omega, by simp [hz], fun i hi => ?_, fun q hq => hw q (List.mem_of_mem_drop hq)⟩
    have := hc (n + i) (by simp at hi; omega)
    have e : (zs.drop n).getD i 0 = zs.getD (n + i) 0 := by simp [List.getD_eq_getElem?_getD, List.getElem?_drop]
    rw [e]
    have e2 : (⟨b, off + n, none⟩ : Addr).add i = (⟨b, off, none⟩ : Addr).add (n + i) := by
      by_cases h1 : i = 0 <;> by_cases h2 : n = 0 <;> simp [Addr.add, Nat.add_assoc, h1, h2]
    rw [e2]
    exact this
end Go.Proofs.Ytajjhndpdjfcpaa

/- What is made by numbers may be said of its kind; with one thing turned it may not. -/
namespace Go.Proofs.Ytajjhndpdjfcpaa
open Go.RowKit
open MetaM
set_option linter.unusedVariables false
namespace MetaM
def XOk (l : List XatM.Xa) : Prop := l.length ≤ 6 ∧ XatM.mayL l = true
def AOk (l : List AclM.Ace) (md : Int) : Prop := l.length ≤ 32 ∧ aclOk l md = true
def DOk (l : List AclM.Ace) (k : Int) : Prop := l.length ≤ 32 ∧ dflOk l k = true
theorem acl_ok {l : List AclM.Ace} {md N : Int} (h : AclM.may l = true) (h2 : AclW.modeL l = N) (h3 : N = md % 512) : AOk l md :=
  ⟨AclW.may_len h, by unfold aclOk; rw [h, h2, h3, decide_eq_true rfl]; simp⟩
theorem dfl_ok {l : List AclM.Ace} {k : Int} (h : AclM.may l = true) (h2 : k = 6) : DOk l k :=
  ⟨AclW.may_len h, by unfold dflOk; rw [h, decide_eq_true h2]; simp⟩
theorem cap_ok (zs : List Int) (len : Nat) (k : Int) (h : numK zs len 11 ≤ 255) : capOk (capK zs len k) k = true := by
  unfold capK
  split
  · rename_i hc
    unfold capOk
    rw [mk_may _ _ _ _ (by omega), decide_eq_true hc.1]
    simp
  · rfl
theorem id_ok {n : Int} (h0 : 0 ≤ n) (h1 : n ≤ 5) : idOk n = true := by unfold idOk; rw [decide_eq_true h0, decide_eq_true (by omega)]; rfl
theorem made_sym {u g s n : Int} {xs : List XatM.Xa} (hu : 0 ≤ u ∧ u ≤ 5) (hg : 0 ≤ g ∧ g ≤ 5) (hs : stampOk s n = true) (hx : XatM.mayL xs = true) :
    mayM ⟨511, u, g, s, n, [], [], xs, ⟨0, 0, 0, false, 0⟩, 0⟩ 3 = true := by
  unfold mayM
  simp only
  rw [id_ok hu.1 hu.2, id_ok hg.1 hg.2, hs, hx]
  rfl
theorem kind_in {k : Int} (hk : kAny k) : kindIn k = true := by
  rcases hk with rfl | rfl | rfl | rfl | rfl | rfl <;> rfl
theorem made_any {md u g s n f k : Int} {al dl : List AclM.Ace} {xs : List XatM.Xa} {c : CapsM.Cap} (hk : kAny k) (h3 : k ≠ 3) (hm : 0 ≤ md ∧ md ≤ 4095) (hu : 0 ≤ u ∧ u ≤ 5) (hg : 0 ≤ g ∧ g ≤ 5) (hs : stampOk s n = true)
    (ha : aclOk al md = true) (hd : dflOk dl k = true) (hx : XatM.mayL xs = true) (hc : capOk c k = true) (hf : 0 ≤ f ∧ f ≤ 15) : mayM ⟨md, u, g, s, n, al, dl, xs, c, f⟩ k = true := by
  unfold mayM
  simp only
  rw [kind_in hk, mode_ok hm.1 hm.2, id_ok hu.1 hu.2, id_ok hg.1 hg.2, hs, ha, hd, hx, hc, show flagsOk f = true by unfold flagsOk; rw [decide_eq_true hf.1, decide_eq_true hf.2]; rfl]
  unfold symOk
  rw [decide_eq_true h3]
  rfl
theorem stamp_ok {s n : Int} (hs : -100000 ≤ s ∧ s ≤ 1000000) (hn : 0 ≤ n ∧ n ≤ 500000000) : stampOk s n = true := by
  unfold stampOk
  rw [decide_eq_true (by omega), decide_eq_true (by omega), decide_eq_true hn.1, decide_eq_true (by omega)]
  rfl
/-- Two that are one are the same in all. -/
theorem same_eq {m n : Mt} (h : sameM m n = true) : m = n := by
  obtain ⟨mode, uid, gid, sec, nano, acl, dfl, xat, ⟨cv, cp, ci, ce, cr⟩, flags⟩ := m
  obtain ⟨mode', uid', gid', sec', nano', acl', dfl', xat', ⟨cv', cp', ci', ce', cr'⟩, flags'⟩ := n
  unfold sameM AclW.sameL at h
  simp only [Bool.and_eq_true, decide_eq_true_eq] at h
  obtain ⟨⟨⟨⟨⟨⟨⟨⟨h1, h2⟩, h3⟩, h4, h5⟩, h6⟩, h7⟩, h8⟩, h9, h10, h11, h12, h13⟩, h14⟩ := h
  subst h1 h2 h3 h4 h5 h6 h7 h8 h9 h10 h11 h12 h13 h14
  rfl
theorem same_self (m : Mt) : sameM m m = true := by
  unfold sameM AclW.sameL
  simp
theorem other {m n : Mt} {k : Int} (h1 : mayM m k = true) (h2 : mayM n k = false) : sameM m n = false := by
  rcases h : sameM m n with _ | _
  · rfl
  · rw [same_eq h, h2] at h1; cases h1
theorem may_out (m : Mt) {k : Int} (h : kindIn k = false) : mayM m k = false := by unfold mayM; rw [h]; rfl
theorem bad_mode (m : Mt) (k : Int) : mayM { m with mode := 4096 } k = false := by unfold mayM; simp only; rw [show modeOk 4096 = false by rfl]; simp
theorem bad_uid (m : Mt) (k : Int) : mayM { m with uid := -1 } k = false := by unfold mayM; simp only; rw [show idOk (-1) = false by rfl]; simp
theorem bad_gid (m : Mt) (k : Int) : mayM { m with gid := 2147483648 } k = false := by unfold mayM; simp only; rw [show idOk 2147483648 = false by rfl]; simp
theorem bad_nano (m : Mt) (k : Int) : mayM { m with nano := 1000000000 } k = false := by unfold mayM; simp only; rw [show stampOk m.sec 1000000000 = false by unfold stampOk; simp]; simp
theorem bad_flags (m : Mt) (k : Int) : mayM { m with flags := 16 } k = false := by unfold mayM; simp only; rw [show flagsOk 16 = false by rfl]; simp
theorem bad_xat (m : Mt) (k : Int) {l : List XatM.Xa} (h : XatM.mayL l = false) : mayM { m with xat := l } k = false := by unfold mayM; simp only; rw [h]; simp
theorem bad_acl (m : Mt) (k : Int) {l : List AclM.Ace} (h : AclM.may l = true) (h2 : AclW.modeL l ≠ m.mode % 512) : mayM { m with acl := l } k = false := by
  have h3 := AclW.may_two h
  unfold mayM
  simp only
  rw [show aclOk l m.mode = false by unfold aclOk; rw [decide_eq_false (show ¬ l.length = 0 by omega), decide_eq_false h2]; simp]
  simp
theorem bad_cap (m : Mt) (k : Int) : mayM { m with cap := ⟨5, m.cap.p, m.cap.i, m.cap.e, m.cap.r⟩ } k = false := by
  unfold mayM
  simp only
  rw [show capOk ⟨5, m.cap.p, m.cap.i, m.cap.e, m.cap.r⟩ k = false by unfold capOk CapsM.may; simp]
  simp
theorem two_bad : XatM.mayL [([98], []), ([97], [])] = false := by rfl
theorem xor_one {N : Int} (h0 : 0 ≤ N) (h1 : N < 512) : 0 ≤ bits .xor .i64 N 1 ∧ bits .xor .i64 N 1 < 512 ∧ bits .xor .i64 N 1 ≠ N := by
  obtain ⟨q, rfl⟩ : ∃ q : Nat, N = (q : Int) := ⟨N.toNat, by omega⟩
  have h : ∀ q : Fin 512, 0 ≤ bits .xor .i64 (q.1 : Int) 1 ∧ bits .xor .i64 (q.1 : Int) 1 < 512 ∧ bits .xor .i64 (q.1 : Int) 1 ≠ (q.1 : Int) := by decide +kernel
  exact h ⟨q, by omega⟩
end MetaM
end Go.Proofs.Ytajjhndpdjfcpaa
