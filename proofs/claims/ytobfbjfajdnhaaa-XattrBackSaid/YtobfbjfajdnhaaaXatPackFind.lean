/- Bundle of 2 texts. -/
import Derived.Test.YtobfbjfajdnhaaaXatRow
import Derived.Test.YtobfbjfajdnhaaaXatSame
import Derived.Test.YtobfbjfajdnhaaaChecked
import Derived.Lib.Bytealg
import Derived.Laws.Externs
import Derived.Deep.LoopGhost
import Derived.Deep.QuietTactic
import Derived.BigQuiet
import Derived.Outline
import Derived.Test.YtobfbjfajdnhaaaShelf
/- Package xattr: where a name stands in a list of rising names (slices.BinarySearchFunc). -/
namespace Go.Proofs.Ytobfbjfajdnhaaa
open Go.RowKit
open XatM
set_option linter.unusedVariables false

theorem cmp_neg : ∀ (a b : List UInt8), Lib.compareBytes a b < 0 ↔ a < b
  | [], [] => by simp [Lib.compareBytes]
  | [], _ :: _ => by simp [Lib.compareBytes]
  | _ :: _, [] => by simp [Lib.compareBytes]
  | a :: xs, b :: ys => by
    unfold Lib.compareBytes
    rw [List.cons_lt_cons_iff]
    by_cases h : a < b
    · simp [h]
    · rw [if_neg h]
      by_cases h2 : b < a
      · rw [if_pos h2]
        have : a ≠ b := fun e => by subst e; exact h h2
        simp [h, this]
      · rw [if_neg h2, cmp_neg xs ys]
        have : a = b := by
          have h3 := UInt8.le_antisymm (UInt8.not_lt.1 h2) (UInt8.not_lt.1 h)
          exact h3
        simp [h, this]
theorem cmp_zero : ∀ (a b : List UInt8), Lib.compareBytes a b = 0 ↔ a = b
  | [], [] => by simp [Lib.compareBytes]
  | [], _ :: _ => by simp [Lib.compareBytes]
  | _ :: _, [] => by simp [Lib.compareBytes]
  | a :: xs, b :: ys => by
    unfold Lib.compareBytes
    rw [List.cons.injEq]
    by_cases h : a < b
    · have : a ≠ b := fun e => by subst e; exact absurd h (UInt8.lt_irrefl _)
      simp [h, this]
    · rw [if_neg h]
      by_cases h2 : b < a
      · rw [if_pos h2]
        have : a ≠ b := fun e => by subst e; exact absurd h2 (UInt8.lt_irrefl _)
        simp [this]
      · rw [if_neg h2, cmp_zero xs ys]
        have : a = b := UInt8.le_antisymm (UInt8.not_lt.1 h2) (UInt8.not_lt.1 h)
        simp [this]
/-- strings.Compare. -/
def CmpC : Prop := ∀ (a b : ByteArray) (w : World), Calls Try.prog 53 #[.string a, .string b] w fun e w' => e = .returned (.int .i64 (Lib.compareBytes a.data.toList b.data.toList)) ∧ w' = w

theorem cmp_any (HC : CmpC) (a : Xa) (N : ByteArray) (w : World) :
    Calls Try.prog 52 #[twoV a, .string N] w fun e w' => e = .returned (.int .i64 (Lib.compareBytes a.1 N.data.toList)) ∧ Below w.heap.size w w' := by
  have HC2 := Lib.hid (HC (strOf a.1) N)
  rw [strOf_list] at HC2
  obtain ⟨A, hA⟩ : ∃ A, strOf a.1 = A := ⟨_, rfl⟩
  obtain ⟨V, hV⟩ : ∃ V, strOf a.2 = V := ⟨_, rfl⟩
  unfold twoV
  rw [hA] at HC2
  rw [hA, hV]
  clear hA hV HC
  go_enter Try.func52, Try.ntmps52
  go_wp2_with fail
  refine (HC2.out _).mono ?_
  rintro e w1 ⟨rfl, rfl⟩
  go_wp2_with fail
  go_ret
  exact ⟨rfl, by (repeat' (first | exact Below.refl _ _ | assumption | refine gr_drew ?_ | refine gr_drewN ?_ _ | refine gr_alloc ?_ _ | refine gr_set ?_ ?_ _ | refine gr_call ?_ (by assumption)) <;> (try (simp; done)) <;> (try (simp; omega)) <;> (try omega))⟩
/-- Where it stands, or would. -/
def Stand (l : List Xa) (n : List UInt8) (i : Nat) : Prop := i ≤ l.length ∧ (∀ t (h : t < l.length), t < i → l[t].1 < n) ∧ (∀ t (h : t < l.length), i ≤ t → ¬ l[t].1 < n)
open Classical in
noncomputable def hitAt (l : List Xa) (n : List UInt8) (i : Nat) : Bool := decide (∃ h : i < l.length, l[i].1 = n)
theorem hit_at {l : List Xa} {n : List UInt8} {i : Nat} (h : i < l.length) : hitAt l n i = decide (l[i].1 = n) := by
  unfold hitAt
  by_cases h2 : l[i].1 = n
  · rw [decide_eq_true h2, decide_eq_true ⟨h, h2⟩]
  · rw [decide_eq_false h2, decide_eq_false (fun e => h2 e.2)]
theorem hit_no {l : List Xa} {n : List UInt8} {i : Nat} (h : l.length ≤ i) : hitAt l n i = false := by
  unfold hitAt
  exact decide_eq_false (fun e => by have := e.1; omega)
attribute [local irreducible] Row At

set_option maxHeartbeats 3200000 in
set_option maxRecDepth 100000 in
theorem search_any (HC : CmpC) (v : Value) (l : List Xa) (N : ByteArray) (w : World) (hat : At xatE v l w) (hl : l.length ≤ 1000000) (hp : PW l) :
    Calls Try.prog 51 #[v, .string N, .func (.func 52) #[] #[]] w fun e w' =>
      (∃ i, e = .returned (.tuple #[.int .i64 (i : Nat), .bool (hitAt l N.data.toList i)]) ∧ Stand l N.data.toList i) ∧ Below w.heap.size w w' := by
  have HM : Hid (∀ a b (ha : a < l.length) (hb : b < l.length), a ≤ b → l[b].1 < N.data.toList → l[a].1 < N.data.toList) := Lib.hid fun a b ha hb hab h => by
    rcases Nat.lt_or_eq_of_le hab with h2 | h2
    · exact lt_trans (List.pairwise_iff_getElem.1 hp a b ha hb h2) h
    · subst h2; exact h
  have HX := Lib.hid (fun a => cmp_any HC a N)
  clear HC hp
  obtain ⟨n, hn⟩ : ∃ n, N.data.toList = n := ⟨_, rfl⟩
  simp only [hn] at HM HX
  rw [hn]
  clear hn
  obtain ⟨z, hz⟩ : ∃ z, l.length = z := ⟨_, rfl⟩
  obtain ⟨p, cap, rfl, hcap, hcell⟩ := two_look xat_two hat
  rw [hz] at hl hcap hat ⊢
  have Hcell := Lib.hid hcell
  have Hz := Lib.hid hz
  clear hcell hz hat
  go_enter Try.func51, Try.ntmps51
  go_wp2_with fail
  go_loopg [9, 10] z (fun kx s9 s10 wr => ∃ lo hi : Nat, s9 = .int .i64 lo ∧ s10 = .int .i64 hi ∧ lo ≤ hi ∧ hi ≤ z ∧ hi - lo ≤ kx ∧ Below w.heap.size w wr ∧
    Hid ((∀ t (h : t < l.length), t < lo → l[t].1 < n) ∧ (∀ t (h : t < l.length), hi ≤ t → ¬ l[t].1 < n)))
  case atStart => exact ⟨0, z, rfl, rfl, Nat.zero_le _, Nat.le_refl _, by omega, Below.refl _ _, Lib.hid ⟨fun t _ h => by omega, fun t h1 h2 => by have := Hz.out; omega⟩⟩
  case round =>
    obtain ⟨lo, hi, rfl, rfl, hlh, hin, hg, hbl, HI⟩ := hrel
    rename_i wr
    by_cases hlt : lo < hi
    · have hi' : (lo + hi) / 2 < l.length := by rw [Hz.out]; omega
      obtain ⟨g, off, rfl, hg', c0, c1⟩ := Hcell.out _ hi'
      replace c0 := cell_kept hbl c0
      replace c1 := cell_kept hbl c1
      have HMx := Lib.hid (fun t (h : t < l.length) => HM.out t _ h hi')
      have HMy := Lib.hid (fun t (h : t < l.length) => HM.out _ t hi' h)
      have hx := Lib.hid (HX.out l[(lo + hi) / 2])
      obtain ⟨x, hxx⟩ : ∃ x, l[(lo + hi) / 2] = x := ⟨_, rfl⟩
      rw [hxx] at c0 c1 HMx HMy
      simp only [hxx] at hx
      clear hxx hi'
      unfold twoV at hx
      obtain ⟨k, hk⟩ : ∃ k, Lib.compareBytes x.1 n = k := ⟨_, rfl⟩
      have hkn := cmp_neg x.1 n
      rw [hk] at hx hkn
      clear hk
      by_cases hyx : x.1 < n
      · have f1 : decide (k < 0) = true := decide_eq_true (hkn.2 hyx)
        have I2 : Hid ((∀ t (h : t < l.length), t < (lo + hi) / 2 + 1 → l[t].1 < n) ∧ (∀ t (h : t < l.length), hi ≤ t → ¬ l[t].1 < n)) := Lib.hid ⟨fun t h ht => HMx.out t h (by omega) hyx, HI.out.2⟩
        clear hkn hyx HI HMx HMy
        go_wp2_with fail
        refine (hx.out _).mono ?_
        rintro e w2 ⟨rfl, hb2⟩
        go_wp2_with fail
        go_roundg (hi - ((lo + hi) / 2 + 1))
        case measure => omega
        case rel => exact ⟨(lo + hi) / 2 + 1, hi, by rw [show ((lo : Int) + (hi : Int)) / 2 + 1 = (((lo + hi) / 2 + 1 : Nat) : Int) by omega], rfl, by omega, hin, Nat.le_refl _, by (repeat' (first | exact Below.refl _ _ | assumption | refine gr_drew ?_ | refine gr_drewN ?_ _ | refine gr_alloc ?_ _ | refine gr_set ?_ ?_ _ | refine gr_call ?_ (by assumption)) <;> (try (simp; done)) <;> (try (simp; omega)) <;> (try omega)), I2⟩
      · have f1 : decide (k < 0) = false := decide_eq_false (fun h => hyx (hkn.1 h))
        have I2 : Hid ((∀ t (h : t < l.length), t < lo → l[t].1 < n) ∧ (∀ t (h : t < l.length), (lo + hi) / 2 ≤ t → ¬ l[t].1 < n)) := Lib.hid ⟨HI.out.1, fun t h ht hc => hyx (HMy.out t h ht hc)⟩
        clear hkn hyx HI HMx HMy
        go_wp2_with fail
        refine (hx.out _).mono ?_
        rintro e w2 ⟨rfl, hb2⟩
        go_wp2_with fail
        go_roundg ((lo + hi) / 2 - lo)
        case measure => omega
        case rel => exact ⟨lo, (lo + hi) / 2, rfl, by rw [show ((lo : Int) + (hi : Int)) / 2 = (((lo + hi) / 2 : Nat) : Int) by omega], by omega, by omega, Nat.le_refl _, by (repeat' (first | exact Below.refl _ _ | assumption | refine gr_drew ?_ | refine gr_drewN ?_ _ | refine gr_alloc ?_ _ | refine gr_set ?_ ?_ _ | refine gr_call ?_ (by assumption)) <;> (try (simp; done)) <;> (try (simp; omega)) <;> (try omega)), I2⟩
    · obtain rfl : hi = lo := by omega
      have HS : Hid (Stand l n hi) := Lib.hid ⟨by rw [Hz.out]; exact hin, HI.out.1, HI.out.2⟩
      by_cases hn : hi < z
      · have hi' : hi < l.length := by rw [Hz.out]; exact hn
        obtain ⟨g, off, rfl, hg', c0, c1⟩ := Hcell.out _ hi'
        replace c0 := cell_kept hbl c0
        replace c1 := cell_kept hbl c1
        have hx := Lib.hid (HX.out l[hi])
        have hh := hit_at hi' (n := n)
        obtain ⟨x, hxx⟩ : ∃ x, l[hi] = x := ⟨_, rfl⟩
        rw [hxx] at c0 c1 hh
        simp only [hxx] at hx
        clear hxx hi'
        unfold twoV at hx
        obtain ⟨k, hk⟩ : ∃ k, Lib.compareBytes x.1 n = k := ⟨_, rfl⟩
        have hkn := cmp_zero x.1 n
        rw [hk] at hx hkn
        clear hk
        have HF : Hid (hitAt l n hi = (k == 0)) := Lib.hid (by rw [hh, Bool.eq_iff_iff, decide_eq_true_eq, beq_iff_eq]; exact hkn.symm)
        have g0 : decide ((hi : Int) < (z : Int)) = true := decide_eq_true (by omega)
        have g1 : decide (hi < z) = true := decide_eq_true hn
        clear hkn hh HI HM HX Hcell
        go_wp2_with fail
        refine (hx.out _).mono ?_
        rintro e w2 ⟨rfl, hb2⟩
        go_wp2_with fail
        go_ret2
        exact ⟨⟨hi, by rw [HF.out]; rfl, HS.out⟩, by (repeat' (first | exact Below.refl _ _ | assumption | refine gr_drew ?_ | refine gr_drewN ?_ _ | refine gr_alloc ?_ _ | refine gr_set ?_ ?_ _ | refine gr_call ?_ (by assumption)) <;> (try (simp; done)) <;> (try (simp; omega)) <;> (try omega))⟩
      · have HF : Hid (hitAt l n hi = false) := Lib.hid (hit_no (by rw [Hz.out]; omega))
        have g0 : decide ((hi : Int) < (z : Int)) = false := decide_eq_false (by omega)
        have g1 : decide (hi < z) = false := decide_eq_false hn
        clear HI HM HX Hcell
        go_wp2_with fail
        go_ret2
        exact ⟨⟨hi, by rw [HF.out]; rfl, HS.out⟩, by (repeat' (first | exact Below.refl _ _ | assumption | refine gr_drew ?_ | refine gr_drewN ?_ _ | refine gr_alloc ?_ _ | refine gr_set ?_ ?_ _ | refine gr_call ?_ (by assumption)) <;> (try (simp; done)) <;> (try (simp; omega)) <;> (try omega))⟩
end Go.Proofs.Ytobfbjfajdnhaaa

/- The library's functions that package xattr calls, by their contracts. -/
namespace Go.Proofs.Ytobfbjfajdnhaaa
open Go.RowKit
open XatM
set_option linter.unusedVariables false

theorem clone_go (s : ByteArray) (w : World) (hs : s.size ≤ 281474976710656) :
    Calls Try.prog 30 #[.string s] w fun e w' => e = .returned (.string s) ∧ Below w.heap.size w w' := by
  have h := Try.stringslite_Clone s
  go_enter Try.func30, Try.ntmps30
  go_wp2_with fail
  refine (h _ hs).mono ?_
  rintro e w' ⟨rfl, hb⟩
  go_wp2_with fail
  go_ret
  exact ⟨rfl, hb⟩
theorem cmpC : CmpC := fun a b w => Try.strings_Compare a b w
/-- strings.CutPrefix at a known prefix. -/
theorem cutPrefix_go (s p : ByteArray) (w : World) :
    Calls Try.prog 47 #[.string s, .string p] w fun e w' => e = .returned (.tuple #[.string ⟨(Lib.trimPrefix s.data.toList p.data.toList).toArray⟩, .bool (Lib.hasPrefix s.data.toList p.data.toList)]) ∧ w' = w :=
  (Try.strings_CutPrefix s p w).mono fun _ _ ⟨he, hw⟩ => ⟨he, hw⟩
end Go.Proofs.Ytobfbjfajdnhaaa
