/- Bundle of 5 texts. -/
import Derived.Test.YtbhnhoenjoagbaaGreatDoorBnAU
import Derived.Test.YtbhnhoenjoagbaaGreatDoorBnAU
import Derived.Test.YtbhnhoenjoagbaaGreatDoorChecked
import Derived.Lib.Bytealg
import Derived.Laws.Externs
import Derived.Deep.LoopGhost
import Derived.Deep.QuietTactic
import Derived.BigQuiet
import Derived.Outline
import Derived.Test.YtbhnhoenjoagbaaGreatDoorShelf
import Derived.Test.YtbhnhoenjoagbaaGreatDoorBnAU
import Derived.Lib.IndexLaws
import Derived.Sort.Walk0
import Derived.Test.YtbhnhoenjoagbaaGreatDoorBnAU
import Derived.Test.YtbhnhoenjoagbaaGreatDoorBnAG
import Derived.Test.YtbhnhoenjoagbaaGreatDoorBnAT
/- Package xattr: where a name stands in a list of rising names (slices.BinarySearchFunc). -/
namespace Go.Proofs.YtbhnhoenjoagbaaGreatDoor.XatW
open Go.RowKit
open XatM
set_option linter.unusedVariables false

theorem cmp_neg : ∀ (a b : List UInt8), Lib.compareBytes a b < 0 ↔ a < b
  | [], [] => by simp [Lib.compareBytes]
  | [], _ :: _ => by simp [Lib.compareBytes]
  | _ :: _, [] => by simp [Lib.compareBytes]
  | a :: xs, b :: ys => by
    unfold Lib.compareBytes
    rw [List.cons_lt_cons_iff]
    by_cases h : a < b
    · simp [h]
    · rw [if_neg h]
      by_cases h2 : b < a
      · rw [if_pos h2]
        have : a ≠ b := fun e => by subst e; exact h h2
        simp [h, this]
      · rw [if_neg h2, cmp_neg xs ys]
        have : a = b := by
          have h3 := UInt8.le_antisymm (UInt8.not_lt.1 h2) (UInt8.not_lt.1 h)
          exact h3
        simp [h, this]
theorem cmp_zero : ∀ (a b : List UInt8), Lib.compareBytes a b = 0 ↔ a = b
  | [], [] => by simp [Lib.compareBytes]
  | [], _ :: _ => by simp [Lib.compareBytes]
  | _ :: _, [] => by simp [Lib.compareBytes]
  | a :: xs, b :: ys => by
    unfold Lib.compareBytes
    rw [List.cons.injEq]
    by_cases h : a < b
    · have : a ≠ b := fun e => by subst e; exact absurd h (UInt8.lt_irrefl _)
      simp [h, this]
    · rw [if_neg h]
      by_cases h2 : b < a
      · rw [if_pos h2]
        have : a ≠ b := fun e => by subst e; exact absurd h2 (UInt8.lt_irrefl _)
        simp [this]
      · rw [if_neg h2, cmp_zero xs ys]
        have : a = b := UInt8.le_antisymm (UInt8.not_lt.1 h2) (UInt8.not_lt.1 h)
        simp [this]
/-- strings.Compare. -/
def CmpC : Prop := ∀ (a b : ByteArray) (w : World), Calls Tryz.prog 314 #[.string a, .string b] w fun e w' => e = .returned (.int .i64 (Lib.compareBytes a.data.toList b.data.toList)) ∧ w' = w

theorem cmp_any (HC : CmpC) (a : Xa) (N : ByteArray) (w : World) :
    Calls Tryz.prog 313 #[twoV a, .string N] w fun e w' => e = .returned (.int .i64 (Lib.compareBytes a.1 N.data.toList)) ∧ Below w.heap.size w w' := by
  have HC2 := Lib.hid (HC (strOf a.1) N)
  rw [strOf_list] at HC2
  obtain ⟨A, hA⟩ : ∃ A, strOf a.1 = A := ⟨_, rfl⟩
  obtain ⟨V, hV⟩ : ∃ V, strOf a.2 = V := ⟨_, rfl⟩
  unfold twoV
  rw [hA] at HC2
  rw [hA, hV]
  clear hA hV HC
  go_enter Tryz.func313, Tryz.ntmps313
  go_wp2_with fail
  refine (HC2.out _).mono ?_
  rintro e w1 ⟨rfl, rfl⟩
  go_wp2_with fail
  go_ret
  exact ⟨rfl, by (repeat' (first | exact Below.refl _ _ | assumption | refine gr_drew ?_ | refine gr_drewN ?_ _ | refine gr_alloc ?_ _ | refine gr_set ?_ ?_ _ | refine gr_call ?_ (by assumption)) <;> (try (simp; done)) <;> (try (simp; omega)) <;> (try omega))⟩
/-- Where it stands, or would. -/
def Stand (l : List Xa) (n : List UInt8) (i : Nat) : Prop := i ≤ l.length ∧ (∀ t (h : t < l.length), t < i → l[t].1 < n) ∧ (∀ t (h : t < l.length), i ≤ t → ¬ l[t].1 < n)
open Classical in
noncomputable def hitAt (l : List Xa) (n : List UInt8) (i : Nat) : Bool := decide (∃ h : i < l.length, l[i].1 = n)
theorem hit_at {l : List Xa} {n : List UInt8} {i : Nat} (h : i < l.length) : hitAt l n i = decide (l[i].1 = n) := by
  unfold hitAt
  by_cases h2 : l[i].1 = n
  · rw [decide_eq_true h2, decide_eq_true ⟨h, h2⟩]
  · rw [decide_eq_false h2, decide_eq_false (fun e => h2 e.2)]
theorem hit_no {l : List Xa} {n : List UInt8} {i : Nat} (h : l.length ≤ i) : hitAt l n i = false := by
  unfold hitAt
  exact decide_eq_false (fun e => by have := e.1; omega)
attribute [local irreducible] Row At

set_option maxHeartbeats 3200000 in
set_option maxRecDepth 100000 in
theorem search_any (HC : CmpC) (v : Value) (l : List Xa) (N : ByteArray) (w : World) (hat : At xatE v l w) (hl : l.length ≤ 1000000) (hp : PW l) :
    Calls Tryz.prog 312 #[v, .string N, .func (.func 313) #[] #[]] w fun e w' =>
      (∃ i, e = .returned (.tuple #[.int .i64 (i : Nat), .bool (hitAt l N.data.toList i)]) ∧ Stand l N.data.toList i) ∧ Below w.heap.size w w' := by
  have HM : Hid (∀ a b (ha : a < l.length) (hb : b < l.length), a ≤ b → l[b].1 < N.data.toList → l[a].1 < N.data.toList) := Lib.hid fun a b ha hb hab h => by
    rcases Nat.lt_or_eq_of_le hab with h2 | h2
    · exact lt_trans (List.pairwise_iff_getElem.1 hp a b ha hb h2) h
    · subst h2; exact h
  have HX := Lib.hid (fun a => cmp_any HC a N)
  clear HC hp
  obtain ⟨n, hn⟩ : ∃ n, N.data.toList = n := ⟨_, rfl⟩
  simp only [hn] at HM HX
  rw [hn]
  clear hn
  obtain ⟨z, hz⟩ : ∃ z, l.length = z := ⟨_, rfl⟩
  obtain ⟨p, cap, rfl, hcap, hcell⟩ := two_look xat_two hat
  rw [hz] at hl hcap hat ⊢
  have Hcell := Lib.hid hcell
  have Hz := Lib.hid hz
  clear hcell hz hat
  go_enter Tryz.func312, Tryz.ntmps312
  go_wp2_with fail
  go_loopg [9, 10] z (fun kx s9 s10 wr => ∃ lo hi : Nat, s9 = .int .i64 lo ∧ s10 = .int .i64 hi ∧ lo ≤ hi ∧ hi ≤ z ∧ hi - lo ≤ kx ∧ Below w.heap.size w wr ∧
    Hid ((∀ t (h : t < l.length), t < lo → l[t].1 < n) ∧ (∀ t (h : t < l.length), hi ≤ t → ¬ l[t].1 < n)))
  case atStart => exact ⟨0, z, rfl, rfl, Nat.zero_le _, Nat.le_refl _, by omega, Below.refl _ _, Lib.hid ⟨fun t _ h => by omega, fun t h1 h2 => by have := Hz.out; omega⟩⟩
  case round =>
    obtain ⟨lo, hi, rfl, rfl, hlh, hin, hg, hbl, HI⟩ := hrel
    rename_i wr
    by_cases hlt : lo < hi
    · have hi' : (lo + hi) / 2 < l.length := by rw [Hz.out]; omega
      obtain ⟨g, off, rfl, hg', c0, c1⟩ := Hcell.out _ hi'
      replace c0 := cell_kept hbl c0
      replace c1 := cell_kept hbl c1
      have HMx := Lib.hid (fun t (h : t < l.length) => HM.out t _ h hi')
      have HMy := Lib.hid (fun t (h : t < l.length) => HM.out _ t hi' h)
      have hx := Lib.hid (HX.out l[(lo + hi) / 2])
      obtain ⟨x, hxx⟩ : ∃ x, l[(lo + hi) / 2] = x := ⟨_, rfl⟩
      rw [hxx] at c0 c1 HMx HMy
      simp only [hxx] at hx
      clear hxx hi'
      unfold twoV at hx
      obtain ⟨k, hk⟩ : ∃ k, Lib.compareBytes x.1 n = k := ⟨_, rfl⟩
      have hkn := cmp_neg x.1 n
      rw [hk] at hx hkn
      clear hk
      by_cases hyx : x.1 < n
      · have f1 : decide (k < 0) = true := decide_eq_true (hkn.2 hyx)
        have I2 : Hid ((∀ t (h : t < l.length), t < (lo + hi) / 2 + 1 → l[t].1 < n) ∧ (∀ t (h : t < l.length), hi ≤ t → ¬ l[t].1 < n)) := Lib.hid ⟨fun t h ht => HMx.out t h (by omega) hyx, HI.out.2⟩
        clear hkn hyx HI HMx HMy
        go_wp2_with fail
        refine (hx.out _).mono ?_
        rintro e w2 ⟨rfl, hb2⟩
        go_wp2_with fail
        go_roundg (hi - ((lo + hi) / 2 + 1))
        case measure => omega
        case rel => exact ⟨(lo + hi) / 2 + 1, hi, by rw [show ((lo : Int) + (hi : Int)) / 2 + 1 = (((lo + hi) / 2 + 1 : Nat) : Int) by omega], rfl, by omega, hin, Nat.le_refl _, by (repeat' (first | exact Below.refl _ _ | assumption | refine gr_drew ?_ | refine gr_drewN ?_ _ | refine gr_alloc ?_ _ | refine gr_set ?_ ?_ _ | refine gr_call ?_ (by assumption)) <;> (try (simp; done)) <;> (try (simp; omega)) <;> (try omega)), I2⟩
      · have f1 : decide (k < 0) = false := decide_eq_false (fun h => hyx (hkn.1 h))
        have I2 : Hid ((∀ t (h : t < l.length), t < lo → l[t].1 < n) ∧ (∀ t (h : t < l.length), (lo + hi) / 2 ≤ t → ¬ l[t].1 < n)) := Lib.hid ⟨HI.out.1, fun t h ht hc => hyx (HMy.out t h ht hc)⟩
        clear hkn hyx HI HMx HMy
        go_wp2_with fail
        refine (hx.out _).mono ?_
        rintro e w2 ⟨rfl, hb2⟩
        go_wp2_with fail
        go_roundg ((lo + hi) / 2 - lo)
        case measure => omega
        case rel => exact ⟨lo, (lo + hi) / 2, rfl, by rw [show ((lo : Int) + (hi : Int)) / 2 = (((lo + hi) / 2 : Nat) : Int) by omega], by omega, by omega, Nat.le_refl _, by (repeat' (first | exact Below.refl _ _ | assumption | refine gr_drew ?_ | refine gr_drewN ?_ _ | refine gr_alloc ?_ _ | refine gr_set ?_ ?_ _ | refine gr_call ?_ (by assumption)) <;> (try (simp; done)) <;> (try (simp; omega)) <;> (try omega)), I2⟩
    · obtain rfl : hi = lo := by omega
      have HS : Hid (Stand l n hi) := Lib.hid ⟨by rw [Hz.out]; exact hin, HI.out.1, HI.out.2⟩
      by_cases hn : hi < z
      · have hi' : hi < l.length := by rw [Hz.out]; exact hn
        obtain ⟨g, off, rfl, hg', c0, c1⟩ := Hcell.out _ hi'
        replace c0 := cell_kept hbl c0
        replace c1 := cell_kept hbl c1
        have hx := Lib.hid (HX.out l[hi])
        have hh := hit_at hi' (n := n)
        obtain ⟨x, hxx⟩ : ∃ x, l[hi] = x := ⟨_, rfl⟩
        rw [hxx] at c0 c1 hh
        simp only [hxx] at hx
        clear hxx hi'
        unfold twoV at hx
        obtain ⟨k, hk⟩ : ∃ k, Lib.compareBytes x.1 n = k := ⟨_, rfl⟩
        have hkn := cmp_zero x.1 n
        rw [hk] at hx hkn
        clear hk
        have HF : Hid (hitAt l n hi = (k == 0)) := Lib.hid (by rw [hh, Bool.eq_iff_iff, decide_eq_true_eq, beq_iff_eq]; exact hkn.symm)
        have g0 : decide ((hi : Int) < (z : Int)) = true := decide_eq_true (by omega)
        have g1 : decide (hi < z) = true := decide_eq_true hn
        clear hkn hh HI HM HX Hcell
        go_wp2_with fail
        refine (hx.out _).mono ?_
        rintro e w2 ⟨rfl, hb2⟩
        go_wp2_with fail
        go_ret2
        exact ⟨⟨hi, by rw [HF.out]; rfl, HS.out⟩, by (repeat' (first | exact Below.refl _ _ | assumption | refine gr_drew ?_ | refine gr_drewN ?_ _ | refine gr_alloc ?_ _ | refine gr_set ?_ ?_ _ | refine gr_call ?_ (by assumption)) <;> (try (simp; done)) <;> (try (simp; omega)) <;> (try omega))⟩
      · have HF : Hid (hitAt l n hi = false) := Lib.hid (hit_no (by rw [Hz.out]; omega))
        have g0 : decide ((hi : Int) < (z : Int)) = false := decide_eq_false (by omega)
        have g1 : decide (hi < z) = false := decide_eq_false hn
        clear HI HM HX Hcell
        go_wp2_with fail
        go_ret2
        exact ⟨⟨hi, by rw [HF.out]; rfl, HS.out⟩, by (repeat' (first | exact Below.refl _ _ | assumption | refine gr_drew ?_ | refine gr_drewN ?_ _ | refine gr_alloc ?_ _ | refine gr_set ?_ ?_ _ | refine gr_call ?_ (by assumption)) <;> (try (simp; done)) <;> (try (simp; omega)) <;> (try omega))⟩
end Go.Proofs.YtbhnhoenjoagbaaGreatDoor.XatW

/- The library's functions that package xattr calls, by their contracts. -/
namespace Go.Proofs.YtbhnhoenjoagbaaGreatDoor.XatW
open Go.RowKit
open XatM
set_option linter.unusedVariables false

theorem clone_go (s : ByteArray) (w : World) (hs : s.size ≤ 281474976710656) :
    Calls Tryz.prog 63 #[.string s] w fun e w' => e = .returned (.string s) ∧ Below w.heap.size w w' := by
  have h := Tryz.stringslite_Clone s
  go_enter Tryz.func63, Tryz.ntmps63
  go_wp2_with fail
  refine (h _ hs).mono ?_
  rintro e w' ⟨rfl, hb⟩
  go_wp2_with fail
  go_ret
  exact ⟨rfl, hb⟩
theorem cmpC : CmpC := fun a b w => Tryz.strings_Compare a b w
/-- strings.CutPrefix at a known prefix. -/
theorem cutPrefix_go (s p : ByteArray) (w : World) :
    Calls Tryz.prog 268 #[.string s, .string p] w fun e w' => e = .returned (.tuple #[.string ⟨(Lib.trimPrefix s.data.toList p.data.toList).toArray⟩, .bool (Lib.hasPrefix s.data.toList p.data.toList)]) ∧ w' = w :=
  (Tryz.strings_CutPrefix s p w).mono fun _ _ ⟨he, hw⟩ => ⟨he, hw⟩
end Go.Proofs.YtbhnhoenjoagbaaGreatDoor.XatW

/- Package xattr: May. -/
namespace Go.Proofs.YtbhnhoenjoagbaaGreatDoor.XatW
open Go.RowKit
open XatM
set_option linter.unusedVariables false

set_option maxRecDepth 100000 in
theorem liteIndexByte_go (s : ByteArray) (c : Int) (w : World) :
    Calls Tryz.prog 199 #[.string s, .int .u8 c] w fun e w' => e = .returned (.int .i64 (Lib.indexByte s.data.toList c.toNat.toUInt8)) ∧ w' = w := by
  go_enter Tryz.func199, Tryz.ntmps199
  go_wp2
  rw [run_callFunc_extern Tryz.func250 (by kernel_rfl) (by kernel_rfl) (by kernel_rfl) (e := Extern.BytealgIndexByte.indexByte) (by kernel_rfl), Lib.run_indexByteString]
  simp only [Result.andThen]
  rw [Oper.upon_value]
  go_wp2
  go_ret
  exact ⟨rfl, rfl⟩
theorem indexByte_go (s : ByteArray) (c : Int) (w : World) :
    Calls Tryz.prog 144 #[.string s, .int .u8 c] w fun e w' => e = .returned (.int .i64 (Lib.indexByte s.data.toList c.toNat.toUInt8)) ∧ w' = w := by
  have H := Lib.hid (liteIndexByte_go s c)
  go_enter Tryz.func144, Tryz.ntmps144
  go_wp2_with fail
  refine (H.out _).mono ?_
  rintro e w' ⟨rfl, rfl⟩
  go_wp2_with fail
  go_ret
  exact ⟨rfl, rfl⟩
theorem index_neg (l : List UInt8) (c : UInt8) : Lib.indexByte l c < 0 ↔ l.contains c = false := by
  induction l with
  | nil => simp [Lib.indexByte]
  | cons b l ih =>
    unfold Lib.indexByte
    by_cases h : b = c
    · subst h; simp
    · have h2 : ¬ c = b := fun e => h e.symm
      simp only [List.contains_cons, beq_eq_false_iff_ne.2 h2, Bool.false_or, ← ih]
      simp only [h, if_false, beq_iff_eq]
      first
        | (split <;> omega)
        | skip
/-- What package xattr asks of a name. -/
def nameOk (n : List UInt8) : Bool := decide (n ≠ []) && !n.contains 0 && decide ((EscM.put n).length ≤ 238)
/-- escape.Put. -/
def PutC : Prop := ∀ (s : ByteArray) (hs : s.size ≤ 30000) (w : World), Calls Tryz.prog 145 #[.string s] w fun e w' => e = .returned (.string ⟨(EscM.put s.data.toList).toArray⟩) ∧ Below w.heap.size w w'

theorem mayName_any (HP : PutC) (N : ByteArray) (w : World) :
    Calls Tryz.prog 198 #[.string N] w fun e w' => e = .returned (.bool (nameOk N.data.toList)) ∧ Below w.heap.size w w' := by
  have hNs : N.size = N.data.toList.length := rfl
  have hNe : N.toList = N.data.toList := Lib.toList_data N
  obtain ⟨n, hn⟩ : ∃ n, N.data.toList = n := ⟨_, rfl⟩
  have HP2 := Lib.hid (HP N)
  have HI := Lib.hid (indexByte_go N 0)
  simp only [hn] at HP2 HI
  rw [hn] at hNs hNe ⊢
  clear HP
  by_cases k1 : n = []
  · have HE := Lib.hid (show nameOk n = false by rw [k1]; rfl)
    have hq2 : N.toList.isEmpty = true := by rw [hNe, k1]; rfl
    clear k1 hn hNs hNe
    go_enter Tryz.func198, Tryz.ntmps198
    go_wp2_with fail
    go_ret
    exact ⟨ret_bool HE.out.symm, Below.refl _ _⟩
  have hq2 : N.toList.isEmpty = false := by rw [hNe]; cases n with | nil => exact absurd rfl k1 | cons => rfl
  by_cases k2 : 238 < n.length
  · have HE := Lib.hid (show nameOk n = false by unfold nameOk; rw [decide_eq_false (p := (EscM.put n).length ≤ 238) (by have := put_mono n; omega), Bool.and_false])
    have f3 : decide ((238 : Int) < (N.size : Int)) = true := decide_eq_true (by omega)
    have f4 : decide (238 < N.size) = true := decide_eq_true (by omega)
    clear k1 k2 hn hNs hNe
    go_enter Tryz.func198, Tryz.ntmps198
    go_wp2_with fail
    go_ret
    exact ⟨ret_bool HE.out.symm, Below.refl _ _⟩
  have f3 : decide ((238 : Int) < (N.size : Int)) = false := decide_eq_false (by omega)
  have f4 : decide (238 < N.size) = false := decide_eq_false (by omega)
  obtain ⟨q, hqi⟩ : ∃ q, Lib.indexByte n (0 : Int).toNat.toUInt8 = q := ⟨_, rfl⟩
  have hqn := index_neg n (0 : Int).toNat.toUInt8
  rw [hqi] at HI hqn
  by_cases k3 : n.contains 0 = true
  · have HE := Lib.hid (show nameOk n = false by unfold nameOk; rw [k3]; simp)
    have f5 : decide (q < 0) = false := decide_eq_false (by rw [hqn, show (0 : Int).toNat.toUInt8 = (0 : UInt8) from rfl, k3]; simp)
    clear k1 k2 k3 hn hNs hNe hqi hqn
    go_enter Tryz.func198, Tryz.ntmps198
    go_wp2_with fail
    refine (HI.out _).mono ?_
    rintro e w1 ⟨rfl, rfl⟩
    go_wp2_with fail
    go_ret
    exact ⟨ret_bool HE.out.symm, Below.refl _ _⟩
  · have k3' : n.contains 0 = false := by simpa using k3
    have f5 : decide (q < 0) = true := decide_eq_true (by rw [hqn]; exact k3')
    obtain ⟨P, hP⟩ : ∃ P : ByteArray, ⟨(EscM.put n).toArray⟩ = P := ⟨_, rfl⟩
    have hPs : P.size = (EscM.put n).length := by rw [← hP]; simp [ByteArray.size]
    have HP3 := Lib.hid (HP2.out (by omega))
    rw [hP] at HP3
    have HE := Lib.hid (show nameOk n = decide ((P.size : Int) ≤ 238) by
      unfold nameOk
      rw [decide_eq_true k1, k3', hPs, Bool.not_false, Bool.true_and, Bool.true_and]
      exact decide_eq_decide.2 (by omega))
    clear k1 k2 k3 k3' hn hNs hNe hqi hqn hP HP2 hPs
    go_enter Tryz.func198, Tryz.ntmps198
    go_wp2_with fail
    refine (HI.out _).mono ?_
    rintro e w1 ⟨rfl, rfl⟩
    go_wp2_with fail
    refine (HP3.out _).mono ?_
    rintro e w1 ⟨rfl, hb⟩
    go_wp2_with fail
    go_ret
    exact ⟨ret_bool HE.out.symm, hb⟩
end Go.Proofs.YtbhnhoenjoagbaaGreatDoor.XatW

/- The document's answer: has a text any of some signs? -/
namespace Go.Proofs.YtbhnhoenjoagbaaGreatDoor.XatW
open Go.RowKit
open XatM
set_option linter.unusedVariables false

theorem any_step {l m : List UInt8} {i : Nat} {c : UInt8} (h : l[i]? = some c) : anyOf (l.drop i) m = (m.contains c || anyOf (l.drop (i + 1)) m) := by rw [dropAt h]; rfl
theorem con_step {m : List UInt8} {k : Nat} {c d : UInt8} (h : m[k]? = some d) (hne : ¬ c = d) : (m.drop k).contains c = (m.drop (k + 1)).contains c := by
  rw [dropAt h, List.contains_cons, beq_eq_false_iff_ne.2 hne, Bool.false_or]
set_option maxHeartbeats 3200000 in
set_option maxRecDepth 100000 in
theorem refHasAny_any (S M : ByteArray) (hS : S.size ≤ 1000000) (hM : M.size ≤ 1000000) (w : World) :
    Calls Tryz.prog 149 #[.string S, .string M] w fun e w' => e = .returned (.bool (anyOf S.data.toList M.data.toList)) ∧ Below w.heap.size w w' := by
  obtain ⟨z, hz⟩ : ∃ z, S.size = z := ⟨_, rfl⟩
  obtain ⟨y, hy⟩ : ∃ y, M.size = y := ⟨_, rfl⟩
  have Hlen := Lib.hid (show S.data.toList.length = z by rw [len_list, hz])
  have Hlen2 := Lib.hid (show M.data.toList.length = y by rw [len_list, hy])
  rw [hz] at hS
  rw [hy] at hM
  have Hidx := Lib.hid (fun i h => idxAt (P := Tryz.prog) Tryz.underlying9 S i (by rw [hz]; exact h))
  have Hidx2 := Lib.hid (fun i h => idxAt (P := Tryz.prog) Tryz.underlying9 M i (by rw [hy]; exact h))
  go_enter Tryz.func149, Tryz.ntmps149
  go_wp2_with fail
  go_loopw [5] (fun iv wr => ∃ (i : Nat), iv = .int .i64 (i : Int) ∧ i ≤ z ∧ Below w.heap.size w wr ∧ Hid (anyOf S.data.toList M.data.toList = anyOf (S.data.toList.drop i) M.data.toList)) (fun iv _ => z - (intOf iv).toNat)
  case atStart => exact ⟨0, rfl, by omega, Below.refl _ _, Lib.hid (by simp)⟩
  case round =>
    obtain ⟨i, rfl, hi, hbl, HR⟩ := hrel
    rename World => w1
    by_cases hlt : i < z
    · have hlt' : decide ((i : Int) < (z : Int)) = true := decide_eq_true (by omega)
      have hlt2 : decide (i < z) = true := decide_eq_true hlt
      obtain ⟨c, hc, hidx⟩ := Hidx.out i hlt
      have HS := Lib.hid (any_step (m := M.data.toList) hc)
      clear hc
      go_wp2_with fail
      go_loopw [6] (fun kv wr => ∃ (k : Nat), kv = .int .i64 (k : Int) ∧ k ≤ y ∧ Below w.heap.size w wr ∧ Hid (M.data.toList.contains c = (M.data.toList.drop k).contains c)) (fun kv _ => y - (intOf kv).toNat)
      case atStart => exact ⟨0, rfl, by omega, hbl, Lib.hid (by simp)⟩
      case round =>
        clear hbl
        obtain ⟨k, rfl, hk, hbl, HK⟩ := hrel
        rename_i wr
        by_cases hkt : k < y
        · have hkt' : decide ((k : Int) < (y : Int)) = true := decide_eq_true (by omega)
          have hkt2 : decide (k < y) = true := decide_eq_true hkt
          obtain ⟨d, hd, hidx2⟩ := Hidx2.out k hkt
          by_cases hcd : c = d
          · subst hcd
            have hs : ((c.toNat : Int) == (c.toNat : Int)) = true := beq_self_eq_true _
            have HE := Lib.hid (show anyOf S.data.toList M.data.toList = true by rw [HR.out, HS.out, HK.out, dropAt hd]; simp)
            clear HR HS HK hd
            go_wp2_with fail
            go_quiet (fail)
            go_wp2_with fail
            go_ret
            exact ⟨by rw [HE.out]; rfl, by (repeat' (first | exact Below.refl _ _ | assumption | refine gr_drew ?_ | refine gr_drewN ?_ _ | refine gr_alloc ?_ _ | refine gr_set ?_ ?_ _ | refine gr_call ?_ (by assumption)) <;> (try (simp; done)) <;> (try (simp; omega)) <;> (try omega))⟩
          · have hs : ((c.toNat : Int) == (d.toNat : Int)) = false := toNat_ne hcd
            have HE := Lib.hid (show M.data.toList.contains c = (M.data.toList.drop (k + 1)).contains c by rw [HK.out, con_step hd hcd])
            clear HK hd hcd
            go_wp2_with fail
            go_quiet (fail)
            go_wp2_with fail
            go_roundw
            case rel => exact ⟨k + 1, rfl, by omega, by (repeat' (first | exact Below.refl _ _ | assumption | refine gr_drew ?_ | refine gr_drewN ?_ _ | refine gr_alloc ?_ _ | refine gr_set ?_ ?_ _ | refine gr_call ?_ (by assumption)) <;> (try (simp; done)) <;> (try (simp; omega)) <;> (try omega)), HE⟩
            case measure => simp only [intOf]; omega
        · have hkt' : decide ((k : Int) < (y : Int)) = false := decide_eq_false (by omega)
          have hkt2 : decide (k < y) = false := decide_eq_false hkt
          have HE := Lib.hid (show anyOf S.data.toList M.data.toList = anyOf (S.data.toList.drop (i + 1)) M.data.toList by
            rw [HR.out, HS.out, HK.out, List.drop_eq_nil_of_le (by rw [Hlen2.out]; omega)]; simp)
          clear HR HS HK
          go_wp2_with fail
          go_roundw
          case rel => exact ⟨i + 1, rfl, by omega, by (repeat' (first | exact Below.refl _ _ | assumption | refine gr_drew ?_ | refine gr_drewN ?_ _ | refine gr_alloc ?_ _ | refine gr_set ?_ ?_ _ | refine gr_call ?_ (by assumption)) <;> (try (simp; done)) <;> (try (simp; omega)) <;> (try omega)), HE⟩
          case measure => simp only [intOf]; omega
    · have hlt' : decide ((i : Int) < (z : Int)) = false := decide_eq_false (by omega)
      have hlt2 : decide (i < z) = false := decide_eq_false hlt
      have HE := Lib.hid (show anyOf S.data.toList M.data.toList = false by rw [HR.out, List.drop_eq_nil_of_le (by rw [Hlen.out]; omega)]; rfl)
      clear HR
      go_wp2_with fail
      go_ret
      exact ⟨by rw [HE.out]; rfl, by (repeat' (first | exact Below.refl _ _ | assumption | refine gr_drew ?_ | refine gr_drewN ?_ _ | refine gr_alloc ?_ _ | refine gr_set ?_ ?_ _ | refine gr_call ?_ (by assumption)) <;> (try (simp; done)) <;> (try (simp; omega)) <;> (try omega))⟩
theorem any_one (s : List UInt8) (c : UInt8) : anyOf s [c] = s.contains c := by
  induction s with
  | nil => rfl
  | cons x s ih =>
    show ([c].contains x || anyOf s [c]) = _
    rw [ih, List.contains_cons]
    congr 1
    rw [show ([] : List UInt8).contains x = false from rfl, Bool.or_false, Bool.eq_iff_iff, beq_iff_eq, beq_iff_eq]
    exact eq_comm
end Go.Proofs.YtbhnhoenjoagbaaGreatDoor.XatW

/- Walks over package escape: plain, Put. -/
namespace Go.Proofs.YtbhnhoenjoagbaaGreatDoor.EscW
open Go.RowKit
open EscM
set_option linter.unusedVariables false

theorem plain_any (c : UInt8) (w : World) :
    Calls Tryz.prog 200 #[.int .u8 (c.toNat : Int)] w fun e w' => e = .returned (.bool (self c)) ∧ w' = w := by
  obtain ⟨n, hn⟩ : ∃ n, c.toNat = n := ⟨_, rfl⟩
  have hs : self c = (decide (33 ≤ n) && decide (n ≤ 126) && decide (n ≠ 37) && decide (n ≠ 61)) := by rw [← hn]; rfl
  rw [hs, hn]
  clear hs hn
  by_cases h1 : 33 ≤ n
  · have g1 : (33 : Int) ≤ (n : Int) := by omega
    by_cases h2 : n ≤ 126
    · have g2 : (n : Int) ≤ 126 := by omega
      by_cases h3 : n = 37
      · subst h3
        go_enter Tryz.func200, Tryz.ntmps200
        go_wp2_with fail
        go_ret
        exact ⟨rfl, rfl⟩
      · by_cases h4 : n = 61
        · subst h4
          go_enter Tryz.func200, Tryz.ntmps200
          go_wp2_with fail
          go_ret
          exact ⟨rfl, rfl⟩
        · have g3 : ((n : Int) != 37) = true := by simp; omega
          have g4 : ((n : Int) != 61) = true := by simp; omega
          have hr : (decide (33 ≤ n) && decide (n ≤ 126) && decide (n ≠ 37) && decide (n ≠ 61)) = true := by simp [h1, h2, h3, h4]
          rw [hr]
          clear hr h1 h2 h3 h4
          go_enter Tryz.func200, Tryz.ntmps200
          go_wp2_with fail
          go_ret
          exact ⟨rfl, rfl⟩
    · have g2 : ¬ (n : Int) ≤ 126 := by omega
      have hr : (decide (33 ≤ n) && decide (n ≤ 126) && decide (n ≠ 37) && decide (n ≠ 61)) = false := by simp [h2]
      rw [hr]
      clear hr h1 h2
      go_enter Tryz.func200, Tryz.ntmps200
      go_wp2_with fail
      go_ret
      exact ⟨rfl, rfl⟩
  · have g1 : ¬ (33 : Int) ≤ (n : Int) := by omega
    have hr : (decide (33 ≤ n) && decide (n ≤ 126) && decide (n ≠ 37) && decide (n ≠ 61)) = false := by simp [h1]
    rw [hr]
    clear hr h1
    go_enter Tryz.func200, Tryz.ntmps200
    go_wp2_with fail
    go_ret
    exact ⟨rfl, rfl⟩

theorem idxH0 (k : Nat) (kd : IntKind) (hk : k < 16) : ∀ w, (Instr.index 9 (.string ⟨digits.toArray⟩) (.int kd (k : Int))).run Tryz.prog w = .ok (.int .u8 ((H k).toNat : Int)) w := by
  intro w
  have h : k < digits.length := hk
  simp [go_sem, Tryz.underlying9, H, List.getD_eq_getElem?_getD, List.getElem?_eq_getElem h]
  rw [dif_pos h]
  rfl
theorem idxH (k : Nat) (x : Int) (kd : IntKind) (hx : x = (k : Int)) (hk : k < 16) : ∀ w, (Instr.index 9 (.string ⟨#[48, 49, 50, 51, 52, 53, 54, 55, 56, 57, 65, 66, 67, 68, 69, 70]⟩) (.int kd x)).run Tryz.prog w = .ok (.int .u8 ((H k).toNat : Int)) w := by
  subst hx
  exact idxH0 k kd hk
theorem and_u8 (a b : Nat) (ha : a < 256) (hb : b < 256) : bits .and .u8 (a : Int) (b : Int) = ((a &&& b : Nat) : Int) := by
  have hx : a &&& b < 2 ^ 8 := Nat.and_lt_two_pow _ (by omega)
  show IntKind.u8.wrap ((BitVec.ofInt 8 (a : Int) &&& BitVec.ofInt 8 (b : Int)).toNat : Int) = _
  rw [BitVec.toNat_and, BitVec.ofInt_natCast, BitVec.ofInt_natCast, BitVec.toNat_ofNat, BitVec.toNat_ofNat, Nat.mod_eq_of_lt (by omega), Nat.mod_eq_of_lt (by omega), IntKind.wrap_u8]
  omega
theorem or_u8 (a b : Nat) (ha : a < 256) (hb : b < 256) : bits .or .u8 (a : Int) (b : Int) = ((a ||| b : Nat) : Int) := by
  have hx : a ||| b < 2 ^ 8 := Nat.or_lt_two_pow (by omega) (by omega)
  show IntKind.u8.wrap ((BitVec.ofInt 8 (a : Int) ||| BitVec.ofInt 8 (b : Int)).toNat : Int) = _
  rw [BitVec.toNat_or, BitVec.ofInt_natCast, BitVec.ofInt_natCast, BitVec.toNat_ofNat, BitVec.toNat_ofNat, Nat.mod_eq_of_lt (by omega), Nat.mod_eq_of_lt (by omega), IntKind.wrap_u8]
  omega
set_option maxHeartbeats 1600000 in
theorem Put_any (s : ByteArray) (hs : s.size ≤ 30000) (w : World) :
    Calls Tryz.prog 145 #[.string s] w fun e w' => e = .returned (.string ⟨(put s.data.toList).toArray⟩) ∧ Below w.heap.size w w' := by
  obtain ⟨n, hn⟩ : ∃ n, s.size = n := ⟨_, rfl⟩
  rw [hn] at hs
  have hsl := Lib.hid (show s.data.toList.length = n by rw [← hn]; simp)
  go_enter Tryz.func145, Tryz.ntmps145
  go_wp2_with fail
  refine (grow_b n _ rfl w (by omega)).mono ?_
  rintro e w1 ⟨rfl, hB, hb1⟩
  go_wp2_with fail
  go_loopw [11] (fun iv wr => ∃ (i : Nat) (acc : List UInt8), iv = .int .i64 (i : Int) ∧ i ≤ n ∧ Bld w.heap.size acc wr ∧ Below w.heap.size w wr ∧ acc ++ put (s.data.toList.drop i) = put s.data.toList ∧ acc.length ≤ 3 * i) (fun iv _ => n - (intOf iv).toNat)
  case atStart => exact ⟨0, [], rfl, Nat.zero_le _, hB, hb1, by simp, by simp⟩
  case round =>
    clear hB hb1
    obtain ⟨i, acc, rfl, hi, hB, hbl, hacc, hal⟩ := hrel
    have Hacc := Lib.hid hacc
    clear hacc
    by_cases hlt : i < n
    · obtain ⟨c, hc, hidx⟩ := idx_at Tryz.underlying9 s i (by omega)
      have hlt' : (i : Int) < (n : Int) := by omega
      have Hdr := Lib.hid (drop_at hc)
      have hc256 := c.toNat_lt
      clear hc
      by_cases hp : self c = true
      · have H1 := plain_any c
        rw [hp] at H1
        have Hp := Lib.hid hp
        clear hp
        go_wp2_with fail
        refine (H1 _).mono ?_
        rintro e w4 ⟨rfl, rfl⟩
        go_wp2_with fail
        refine (writeByte_b _ acc c _ rfl _ hB (by omega) (bld_lt hB)).mono ?_
        rintro e w5 ⟨rfl, hB5, hb5⟩
        have hbl5 := hbl.trans hb5
        clear hB hbl hidx H1
        go_wp2_with fail
        go_roundw
        case rel =>
          refine ⟨i + 1, _, rfl, by omega, hB5, hbl5, ?_, by simp; omega⟩
          have h5 := Hacc.out
          rw [Hdr.out, put_cons, enc, if_pos Hp.out] at h5
          rw [← h5]; simp
        case measure => simp only [intOf]; omega
      · have H1 := plain_any c
        rw [Bool.not_eq_true] at hp
        rw [hp] at H1
        have Hp := Lib.hid hp
        clear hp
        have hx1 := idxH (c.toNat / 16) ((c.toNat : Int) / 16) .u8 (by omega) (by omega)
        have hx2 := idxH (c.toNat % 16) ((c.toNat : Int) % 16) .u8 (by omega) (by omega)
        generalize hd1 : H (c.toNat / 16) = d1 at hx1
        generalize hd2 : H (c.toNat % 16) = d2 at hx2
        have Hd1 := Lib.hid hd1
        have Hd2 := Lib.hid hd2
        clear hd1 hd2
        go_wp2_with fail
        refine (H1 _).mono ?_
        rintro e w4 ⟨rfl, rfl⟩
        go_wp2_with fail
        refine (writeByte_b _ acc 37 _ rfl _ hB (by omega) (bld_lt hB)).mono ?_
        rintro e w5 ⟨rfl, hB5, hb5⟩
        have hbl5 := hbl.trans hb5
        clear hB hbl hidx H1
        go_wp2_with fail
        refine (writeByte_b _ _ d1 _ rfl _ hB5 (by simp; omega) (bld_lt hB5)).mono ?_
        rintro e w6 ⟨rfl, hB6, hb6⟩
        have hbl6 := hbl5.trans hb6
        clear hB5 hbl5
        go_wp2_with fail
        refine (writeByte_b _ _ d2 _ rfl _ hB6 (by simp; omega) (bld_lt hB6)).mono ?_
        rintro e w7 ⟨rfl, hB7, hb7⟩
        have hbl7 := hbl6.trans hb7
        clear hB6 hbl6 hx1 hx2
        go_wp2_with fail
        go_roundw
        case rel =>
          refine ⟨i + 1, _, rfl, by omega, hB7, hbl7, ?_, by simp; omega⟩
          have h5 := Hacc.out
          rw [Hdr.out, put_cons, enc, if_neg (by rw [Hp.out]; simp), Hd1.out, Hd2.out] at h5
          rw [← h5]; simp
        case measure => simp only [intOf]; omega
    · have hlt' : ¬ (i : Int) < (n : Int) := by omega
      have h5 := Hacc.out
      rw [List.drop_eq_nil_of_le (by rw [hsl.out]; omega), put_nil, List.append_nil] at h5
      subst h5
      go_wp2_with fail
      refine (string_b _ _ _ hB).mono ?_
      rintro e w5 ⟨rfl, hb5⟩
      have hbl5 := hbl.trans hb5
      go_wp2_with fail
      go_ret
      exact ⟨rfl, hbl5⟩
end Go.Proofs.YtbhnhoenjoagbaaGreatDoor.EscW
