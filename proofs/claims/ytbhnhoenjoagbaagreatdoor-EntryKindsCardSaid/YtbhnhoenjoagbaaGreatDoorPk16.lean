/- Bundle of 12 texts. -/
import Derived.Test.YtbhnhoenjoagbaaGreatDoorPk10
import Derived.Test.YtbhnhoenjoagbaaGreatDoorPk15
import Derived.Test.YtbhnhoenjoagbaaGreatDoorChecked
import Derived.Deep.QuietTactic
import Derived.BigQuiet
import Derived.Outline
import Derived.Lib.Bytealg
import Derived.Laws.Externs
import Derived.Deep.LoopGhost
import Derived.Test.YtbhnhoenjoagbaaGreatDoorShelf
import Derived.Lib.IndexLaws
import Derived.Sort.Walk0
import Derived.Test.YtbhnhoenjoagbaaGreatDoorPk05
import Derived.Test.YtbhnhoenjoagbaaGreatDoorPk04
import Derived.StillTailTactics
/- Lists of names with values, and of records, in memory. -/
namespace Go.Proofs.YtbhnhoenjoagbaaGreatDoor.XatW
open Go.RowKit
open XatM
set_option linter.unusedVariables false

structure IsTwo (E : Elt Xa) : Prop where
  k : E.k = 2
  enc : ∀ a, E.enc a = [.string (strOf a.1), .string (strOf a.2)]
def xatE : Elt Xa where
  t := 130
  st := 32
  k := 2
  z := .agg #[.string ⟨#[]⟩, .string ⟨#[]⟩]
  bytes := 32
  enc a := [.string (strOf a.1), .string (strOf a.2)]
  len _ := rfl
  one _ u h := by simp at h; rcases h with rfl | rfl <;> rfl
  pos := by decide
  und := Tryz.underlying32
  inf := by kernel_rfl
  zk := rfl
  small := by decide
theorem xat_two : IsTwo xatE := ⟨rfl, fun _ => rfl⟩
def TwoAt (w : World) (g o : Nat) (a : Xa) : Prop := w.cell? ⟨g, o, none⟩ = some (.string (strOf a.1)) ∧ w.cell? ⟨g, o + 1, none⟩ = some (.string (strOf a.2))
theorem TwoAt.kept {w w1 : World} {g o : Nat} {a : Xa} (h : TwoAt w g o a) (hb : Below w.heap.size w w1) : TwoAt w1 g o a := ⟨cell_kept hb h.1, cell_kept hb h.2⟩
theorem two_open {E : Elt Xa} (hE : IsTwo E) {v : Value} {l : List Xa} {w : World} (h : At E v l w) (hl : l ≠ []) :
    ∃ g off cap, v = .slice (some ⟨g, off, none⟩) l.length cap ∧ l.length ≤ cap ∧ g < w.heap.size ∧ ∀ j (h : j < l.length), TwoAt w g (off + j * 2) l[j] := by
  obtain ⟨g, off, cap, h1, h2, h3, h4⟩ := h.open hl
  refine ⟨g, off, cap, h1, h2, h3, fun j hj => ?_⟩
  have e : ∀ i, off + (j * E.k + i) = off + j * 2 + i := by intro i; rw [hE.k]; omega
  have a0 := h4 j hj 0 _ (by rw [hE.enc]; rfl)
  have a1 := h4 j hj 1 _ (by rw [hE.enc]; rfl)
  rw [e] at a0 a1
  exact ⟨a0, a1⟩
theorem two_look {E : Elt Xa} (hE : IsTwo E) {v : Value} {l : List Xa} {w : World} (h : At E v l w) :
    ∃ p cap, v = .slice p l.length cap ∧ l.length ≤ cap ∧ ∀ j (h : j < l.length), ∃ g off, p = some ⟨g, off, none⟩ ∧ g < w.heap.size ∧ TwoAt w g (off + j * 2) l[j] := by
  by_cases hl : l = []
  · obtain ⟨p, cap, h1, h2⟩ := h.shape
    exact ⟨p, cap, h1, h2, fun j hj => by subst hl; simp at hj⟩
  · obtain ⟨g, off, cap, h1, h2, h3, h4⟩ := two_open hE h hl
    exact ⟨_, cap, h1, h2, fun j hj => ⟨g, off, rfl, h3, h4 j hj⟩⟩
theorem two_at {E : Elt Xa} (hE : IsTwo E) {w : World} {g off cap n : Nat} {l : List Xa} (hn : n = l.length) (hc : l.length ≤ cap) (hg : g < w.heap.size) (h : ∀ j (h : j < l.length), TwoAt w g (off + j * 2) l[j]) : At E (.slice (some ⟨g, off, none⟩) n cap) l w := by
  subst hn
  refine .inr ⟨g, off, cap, rfl, hc, hg, fun j hj i u hu => ?_⟩
  have e : off + (j * E.k + i) = off + j * 2 + i := by rw [hE.k]; omega
  rw [e]
  rw [hE.enc] at hu
  obtain ⟨a0, a1⟩ := h j hj
  have hi : i < 2 := (List.getElem?_eq_some_iff.1 hu).1
  have : i = 0 ∨ i = 1 := by omega
  rcases this with rfl | rfl <;> (cases hu; assumption)
def twoV (a : Xa) : Value := .agg #[.string (strOf a.1), .string (strOf a.2)]
theorem one_xat (w : World) (a : Xa) (B : Nat) (hB : B ≤ w.heap.size) : Row xatE B (.slice (some ⟨w.heap.size, 0, none⟩) 1 1) [a] (w.alloc (.cells #[.string (strOf a.1), .string (strOf a.2)] 130)) :=
  lit_row (E := xatE) w [a] _ B 1 rfl hB (by simp) rfl
theorem slice_from {v : Value} {l : List Xa} {w : World} (h : At xatE v l w) {k : Nat} (hk : k ≤ l.length) :
    ∃ v', (∀ W, (Instr.sliceAt 32 v (some (.int .i64 (k : Int))) none none).run Tryz.prog W = .ok v' W) ∧ (∀ W, At xatE v l W → At xatE v' (l.drop k) W) ∧ v'.ownBlock = v.ownBlock := by
  rcases h with ⟨rfl, rfl | ⟨ad, cap, rfl⟩⟩ | ⟨g, off, cap, rfl, hc, hg, hj⟩
  · simp at hk
    subst hk
    exact ⟨.slice none 0 0, fun W => by simp [go_sem], fun W h => .inl ⟨by simp, .inl rfl⟩, rfl⟩
  · simp at hk
    subst hk
    exact ⟨.slice (some ad) 0 cap, fun W => by simp [go_sem], fun W h => .inl ⟨by simp, .inr ⟨_, _, rfl⟩⟩, rfl⟩
  · refine ⟨.slice (if cap = k then some ⟨g, off, none⟩ else some ⟨g, off + k * 2, none⟩) (l.length - k) (cap - k), fun W => by simp [go_sem, hk], fun W h => ?_, ?_⟩
    · by_cases he : k = l.length
      · refine .inl ⟨by simp [he], .inr ?_⟩
        split
        · exact ⟨_, _, by rw [he, Nat.sub_self]⟩
        · exact ⟨_, _, by rw [he, Nat.sub_self]⟩
      · rw [if_neg (by omega)]
        obtain ⟨g', off', cap', e, _, hg', hj'⟩ := two_open xat_two h (by intro e; rw [e] at hk he; simp at hk he; omega)
        cases e
        refine two_at xat_two (by simp) (by simp; omega) hg' ?_
        intro j hj
        have hj2 : k + j < l.length := by simp at hj; omega
        have := hj' (k + j) hj2
        rw [show off + (k + j) * 2 = off + k * 2 + j * 2 by omega] at this
        rw [List.getElem_drop]
        exact this
    · split <;> rfl
theorem slice_upto {v : Value} {l : List Xa} {w : World} (h : At xatE v l w) {k : Nat} (hk : k ≤ l.length) :
    ∃ v', (∀ W, (Instr.sliceAt 32 v none (some (.int .i64 (k : Int))) none).run Tryz.prog W = .ok v' W) ∧ (∀ W, At xatE v l W → At xatE v' (l.take k) W) ∧ v'.ownBlock = v.ownBlock := by
  rcases h with ⟨rfl, rfl | ⟨ad, cap, rfl⟩⟩ | ⟨g, off, cap, rfl, hc, hg, hj⟩
  · simp at hk
    subst hk
    exact ⟨.slice none 0 0, fun W => by simp [go_sem], fun W h => .inl ⟨by simp, .inl rfl⟩, rfl⟩
  · simp at hk
    subst hk
    exact ⟨.slice (some ad) 0 cap, fun W => by simp [go_sem], fun W h => .inl ⟨by simp, .inr ⟨_, _, rfl⟩⟩, rfl⟩
  · refine ⟨.slice (some ⟨g, off, none⟩) k cap, fun W => by simp [go_sem, show k ≤ cap by omega], fun W h => ?_, rfl⟩
    by_cases h0 : k = 0
    · exact .inl ⟨by simp [h0], .inr ⟨_, _, by rw [h0]⟩⟩
    · obtain ⟨g', off', cap', e, _, hg', hj'⟩ := two_open xat_two h (by intro e; rw [e] at hk; simp at hk; omega)
      cases e
      refine two_at xat_two (by rw [List.length_take]; omega) (by rw [List.length_take]; omega) hg' ?_
      intro j hj
      rw [List.length_take] at hj
      have := hj' j (by omega)
      rw [List.getElem_take]
      exact this
end Go.Proofs.YtbhnhoenjoagbaaGreatDoor.XatW

/- Lists of names with values, and of records, in memory. -/
namespace Go.Proofs.YtbhnhoenjoagbaaGreatDoor.XatW
open Go.RowKit
open XatM
set_option linter.unusedVariables false

def recE : Elt Xa where
  t := 28
  st := 24
  k := 2
  z := .agg #[.string ⟨#[]⟩, .string ⟨#[]⟩]
  bytes := 32
  enc a := [.string (strOf a.1), .string (strOf a.2)]
  len _ := rfl
  one _ u h := by simp at h; rcases h with rfl | rfl <;> rfl
  pos := by decide
  und := Tryz.underlying24
  inf := by kernel_rfl
  zk := rfl
  small := by decide
theorem rec_two : IsTwo recE := ⟨rfl, fun _ => rfl⟩

theorem one_rec (w : World) (a : Xa) (B : Nat) (hB : B ≤ w.heap.size) : Row recE B (.slice (some ⟨w.heap.size, 0, none⟩) 1 1) [a] (w.alloc (.cells #[.string (strOf a.1), .string (strOf a.2)] 28)) :=
  lit_row (E := recE) w [a] _ B 1 rfl hB (by simp) rfl

end Go.Proofs.YtbhnhoenjoagbaaGreatDoor.XatW

/- The document's answer: whether two lists are one. -/
namespace Go.Proofs.YtbhnhoenjoagbaaGreatDoor.XatW
open Go.RowKit
open XatM
set_option linter.unusedVariables false

theorem strOf_toList (l : List UInt8) : (strOf l).toList = l := by rw [Lib.toList_data, strOf_list]
theorem strOf_ne {a b : List UInt8} (h : ¬ a = b) : ¬ (strOf a).toList = (strOf b).toList := by rw [strOf_toList, strOf_toList]; exact h
attribute [local irreducible] Row At

end Go.Proofs.YtbhnhoenjoagbaaGreatDoor.XatW

/- Package xattr: where a name stands in a list of rising names (slices.BinarySearchFunc). -/
namespace Go.Proofs.YtbhnhoenjoagbaaGreatDoor.XatW
open Go.RowKit
open XatM
set_option linter.unusedVariables false

def CmpC : Prop := ∀ (a b : ByteArray) (w : World), Calls Tryz.prog 314 #[.string a, .string b] w fun e w' => e = .returned (.int .i64 (Lib.compareBytes a.data.toList b.data.toList)) ∧ w' = w

def Stand (l : List Xa) (n : List UInt8) (i : Nat) : Prop := i ≤ l.length ∧ (∀ t (h : t < l.length), t < i → l[t].1 < n) ∧ (∀ t (h : t < l.length), i ≤ t → ¬ l[t].1 < n)
open Classical in
noncomputable def hitAt (l : List Xa) (n : List UInt8) (i : Nat) : Bool := decide (∃ h : i < l.length, l[i].1 = n)
attribute [local irreducible] Row At

end Go.Proofs.YtbhnhoenjoagbaaGreatDoor.XatW

/- The library's functions that package xattr calls, by their contracts. -/
namespace Go.Proofs.YtbhnhoenjoagbaaGreatDoor.XatW
open Go.RowKit
open XatM
set_option linter.unusedVariables false

theorem clone_go (s : ByteArray) (w : World) (hs : s.size ≤ 281474976710656) :
    Calls Tryz.prog 63 #[.string s] w fun e w' => e = .returned (.string s) ∧ Below w.heap.size w w' := by
  have h := Tryz.stringslite_Clone s
  go_enter Tryz.func63, Tryz.ntmps63
  go_wp2_with fail
  refine (h _ hs).mono ?_
  rintro e w' ⟨rfl, hb⟩
  go_wp2_with fail
  go_ret
  exact ⟨rfl, hb⟩
end Go.Proofs.YtbhnhoenjoagbaaGreatDoor.XatW

/- Package xattr: May. -/
namespace Go.Proofs.YtbhnhoenjoagbaaGreatDoor.XatW
open Go.RowKit
open XatM
set_option linter.unusedVariables false

set_option maxRecDepth 100000 in
theorem liteIndexByte_go (s : ByteArray) (c : Int) (w : World) :
    Calls Tryz.prog 199 #[.string s, .int .u8 c] w fun e w' => e = .returned (.int .i64 (Lib.indexByte s.data.toList c.toNat.toUInt8)) ∧ w' = w := by
  go_enter Tryz.func199, Tryz.ntmps199
  go_wp2
  rw [run_callFunc_extern Tryz.func250 (by kernel_rfl) (by kernel_rfl) (by kernel_rfl) (e := Extern.BytealgIndexByte.indexByte) (by kernel_rfl), Lib.run_indexByteString]
  simp only [Result.andThen]
  rw [Oper.upon_value]
  go_wp2
  go_ret
  exact ⟨rfl, rfl⟩
theorem indexByte_go (s : ByteArray) (c : Int) (w : World) :
    Calls Tryz.prog 144 #[.string s, .int .u8 c] w fun e w' => e = .returned (.int .i64 (Lib.indexByte s.data.toList c.toNat.toUInt8)) ∧ w' = w := by
  have H := Lib.hid (liteIndexByte_go s c)
  go_enter Tryz.func144, Tryz.ntmps144
  go_wp2_with fail
  refine (H.out _).mono ?_
  rintro e w' ⟨rfl, rfl⟩
  go_wp2_with fail
  go_ret
  exact ⟨rfl, rfl⟩
theorem index_neg (l : List UInt8) (c : UInt8) : Lib.indexByte l c < 0 ↔ l.contains c = false := by
  induction l with
  | nil => simp [Lib.indexByte]
  | cons b l ih =>
    unfold Lib.indexByte
    by_cases h : b = c
    · subst h; simp
    · have h2 : ¬ c = b := fun e => h e.symm
      simp only [List.contains_cons, beq_eq_false_iff_ne.2 h2, Bool.false_or, ← ih]
      simp only [h, if_false, beq_iff_eq]
      first
        | (split <;> omega)
        | skip
def nameOk (n : List UInt8) : Bool := decide (n ≠ []) && !n.contains 0 && decide ((EscM.put n).length ≤ 238)
def PutC : Prop := ∀ (s : ByteArray) (hs : s.size ≤ 30000) (w : World), Calls Tryz.prog 145 #[.string s] w fun e w' => e = .returned (.string ⟨(EscM.put s.data.toList).toArray⟩) ∧ Below w.heap.size w w'

theorem mayName_any (HP : PutC) (N : ByteArray) (w : World) :
    Calls Tryz.prog 198 #[.string N] w fun e w' => e = .returned (.bool (nameOk N.data.toList)) ∧ Below w.heap.size w w' := by
  have hNs : N.size = N.data.toList.length := rfl
  have hNe : N.toList = N.data.toList := Lib.toList_data N
  obtain ⟨n, hn⟩ : ∃ n, N.data.toList = n := ⟨_, rfl⟩
  have HP2 := Lib.hid (HP N)
  have HI := Lib.hid (indexByte_go N 0)
  simp only [hn] at HP2 HI
  rw [hn] at hNs hNe ⊢
  clear HP
  by_cases k1 : n = []
  · have HE := Lib.hid (show nameOk n = false by rw [k1]; rfl)
    have hq2 : N.toList.isEmpty = true := by rw [hNe, k1]; rfl
    clear k1 hn hNs hNe
    go_enter Tryz.func198, Tryz.ntmps198
    go_wp2_with fail
    go_ret
    exact ⟨ret_bool HE.out.symm, Below.refl _ _⟩
  have hq2 : N.toList.isEmpty = false := by rw [hNe]; cases n with | nil => exact absurd rfl k1 | cons => rfl
  by_cases k2 : 238 < n.length
  · have HE := Lib.hid (show nameOk n = false by unfold nameOk; rw [decide_eq_false (p := (EscM.put n).length ≤ 238) (by have := put_mono n; omega), Bool.and_false])
    have f3 : decide ((238 : Int) < (N.size : Int)) = true := decide_eq_true (by omega)
    have f4 : decide (238 < N.size) = true := decide_eq_true (by omega)
    clear k1 k2 hn hNs hNe
    go_enter Tryz.func198, Tryz.ntmps198
    go_wp2_with fail
    go_ret
    exact ⟨ret_bool HE.out.symm, Below.refl _ _⟩
  have f3 : decide ((238 : Int) < (N.size : Int)) = false := decide_eq_false (by omega)
  have f4 : decide (238 < N.size) = false := decide_eq_false (by omega)
  obtain ⟨q, hqi⟩ : ∃ q, Lib.indexByte n (0 : Int).toNat.toUInt8 = q := ⟨_, rfl⟩
  have hqn := index_neg n (0 : Int).toNat.toUInt8
  rw [hqi] at HI hqn
  by_cases k3 : n.contains 0 = true
  · have HE := Lib.hid (show nameOk n = false by unfold nameOk; rw [k3]; simp)
    have f5 : decide (q < 0) = false := decide_eq_false (by rw [hqn, show (0 : Int).toNat.toUInt8 = (0 : UInt8) from rfl, k3]; simp)
    clear k1 k2 k3 hn hNs hNe hqi hqn
    go_enter Tryz.func198, Tryz.ntmps198
    go_wp2_with fail
    refine (HI.out _).mono ?_
    rintro e w1 ⟨rfl, rfl⟩
    go_wp2_with fail
    go_ret
    exact ⟨ret_bool HE.out.symm, Below.refl _ _⟩
  · have k3' : n.contains 0 = false := by simpa using k3
    have f5 : decide (q < 0) = true := decide_eq_true (by rw [hqn]; exact k3')
    obtain ⟨P, hP⟩ : ∃ P : ByteArray, ⟨(EscM.put n).toArray⟩ = P := ⟨_, rfl⟩
    have hPs : P.size = (EscM.put n).length := by rw [← hP]; simp [ByteArray.size]
    have HP3 := Lib.hid (HP2.out (by omega))
    rw [hP] at HP3
    have HE := Lib.hid (show nameOk n = decide ((P.size : Int) ≤ 238) by
      unfold nameOk
      rw [decide_eq_true k1, k3', hPs, Bool.not_false, Bool.true_and, Bool.true_and]
      exact decide_eq_decide.2 (by omega))
    clear k1 k2 k3 k3' hn hNs hNe hqi hqn hP HP2 hPs
    go_enter Tryz.func198, Tryz.ntmps198
    go_wp2_with fail
    refine (HI.out _).mono ?_
    rintro e w1 ⟨rfl, rfl⟩
    go_wp2_with fail
    refine (HP3.out _).mono ?_
    rintro e w1 ⟨rfl, hb⟩
    go_wp2_with fail
    go_ret
    exact ⟨ret_bool HE.out.symm, hb⟩
end Go.Proofs.YtbhnhoenjoagbaaGreatDoor.XatW

/- The document's answer: has a text any of some signs? -/
namespace Go.Proofs.YtbhnhoenjoagbaaGreatDoor.XatW
open Go.RowKit
open XatM
set_option linter.unusedVariables false

end Go.Proofs.YtbhnhoenjoagbaaGreatDoor.XatW

/- Walks over package escape: plain, Put. -/
namespace Go.Proofs.YtbhnhoenjoagbaaGreatDoor.EscW
open Go.RowKit
open EscM
set_option linter.unusedVariables false

theorem plain_any (c : UInt8) (w : World) :
    Calls Tryz.prog 200 #[.int .u8 (c.toNat : Int)] w fun e w' => e = .returned (.bool (self c)) ∧ w' = w := by
  obtain ⟨n, hn⟩ : ∃ n, c.toNat = n := ⟨_, rfl⟩
  have hs : self c = (decide (33 ≤ n) && decide (n ≤ 126) && decide (n ≠ 37) && decide (n ≠ 61)) := by rw [← hn]; rfl
  rw [hs, hn]
  clear hs hn
  by_cases h1 : 33 ≤ n
  · have g1 : (33 : Int) ≤ (n : Int) := by omega
    by_cases h2 : n ≤ 126
    · have g2 : (n : Int) ≤ 126 := by omega
      by_cases h3 : n = 37
      · subst h3
        go_enter Tryz.func200, Tryz.ntmps200
        go_wp2_with fail
        go_ret
        exact ⟨rfl, rfl⟩
      · by_cases h4 : n = 61
        · subst h4
          go_enter Tryz.func200, Tryz.ntmps200
          go_wp2_with fail
          go_ret
          exact ⟨rfl, rfl⟩
        · have g3 : ((n : Int) != 37) = true := by simp; omega
          have g4 : ((n : Int) != 61) = true := by simp; omega
          have hr : (decide (33 ≤ n) && decide (n ≤ 126) && decide (n ≠ 37) && decide (n ≠ 61)) = true := by simp [h1, h2, h3, h4]
          rw [hr]
          clear hr h1 h2 h3 h4
          go_enter Tryz.func200, Tryz.ntmps200
          go_wp2_with fail
          go_ret
          exact ⟨rfl, rfl⟩
    · have g2 : ¬ (n : Int) ≤ 126 := by omega
      have hr : (decide (33 ≤ n) && decide (n ≤ 126) && decide (n ≠ 37) && decide (n ≠ 61)) = false := by simp [h2]
      rw [hr]
      clear hr h1 h2
      go_enter Tryz.func200, Tryz.ntmps200
      go_wp2_with fail
      go_ret
      exact ⟨rfl, rfl⟩
  · have g1 : ¬ (33 : Int) ≤ (n : Int) := by omega
    have hr : (decide (33 ≤ n) && decide (n ≤ 126) && decide (n ≠ 37) && decide (n ≠ 61)) = false := by simp [h1]
    rw [hr]
    clear hr h1
    go_enter Tryz.func200, Tryz.ntmps200
    go_wp2_with fail
    go_ret
    exact ⟨rfl, rfl⟩

theorem idxH0 (k : Nat) (kd : IntKind) (hk : k < 16) : ∀ w, (Instr.index 9 (.string ⟨digits.toArray⟩) (.int kd (k : Int))).run Tryz.prog w = .ok (.int .u8 ((H k).toNat : Int)) w := by
  intro w
  have h : k < digits.length := hk
  simp [go_sem, Tryz.underlying9, H, List.getD_eq_getElem?_getD, List.getElem?_eq_getElem h]
  rw [dif_pos h]
  rfl
theorem idxH (k : Nat) (x : Int) (kd : IntKind) (hx : x = (k : Int)) (hk : k < 16) : ∀ w, (Instr.index 9 (.string ⟨#[48, 49, 50, 51, 52, 53, 54, 55, 56, 57, 65, 66, 67, 68, 69, 70]⟩) (.int kd x)).run Tryz.prog w = .ok (.int .u8 ((H k).toNat : Int)) w := by
  subst hx
  exact idxH0 k kd hk
set_option maxHeartbeats 1600000 in
theorem Put_any (s : ByteArray) (hs : s.size ≤ 30000) (w : World) :
    Calls Tryz.prog 145 #[.string s] w fun e w' => e = .returned (.string ⟨(put s.data.toList).toArray⟩) ∧ Below w.heap.size w w' := by
  obtain ⟨n, hn⟩ : ∃ n, s.size = n := ⟨_, rfl⟩
  rw [hn] at hs
  have hsl := Lib.hid (show s.data.toList.length = n by rw [← hn]; simp)
  go_enter Tryz.func145, Tryz.ntmps145
  go_wp2_with fail
  refine (grow_b n _ rfl w (by omega)).mono ?_
  rintro e w1 ⟨rfl, hB, hb1⟩
  go_wp2_with fail
  go_loopw [11] (fun iv wr => ∃ (i : Nat) (acc : List UInt8), iv = .int .i64 (i : Int) ∧ i ≤ n ∧ Bld w.heap.size acc wr ∧ Below w.heap.size w wr ∧ acc ++ put (s.data.toList.drop i) = put s.data.toList ∧ acc.length ≤ 3 * i) (fun iv _ => n - (intOf iv).toNat)
  case atStart => exact ⟨0, [], rfl, Nat.zero_le _, hB, hb1, by simp, by simp⟩
  case round =>
    clear hB hb1
    obtain ⟨i, acc, rfl, hi, hB, hbl, hacc, hal⟩ := hrel
    have Hacc := Lib.hid hacc
    clear hacc
    by_cases hlt : i < n
    · obtain ⟨c, hc, hidx⟩ := idx_at Tryz.underlying9 s i (by omega)
      have hlt' : (i : Int) < (n : Int) := by omega
      have Hdr := Lib.hid (drop_at hc)
      have hc256 := c.toNat_lt
      clear hc
      by_cases hp : self c = true
      · have H1 := plain_any c
        rw [hp] at H1
        have Hp := Lib.hid hp
        clear hp
        go_wp2_with fail
        refine (H1 _).mono ?_
        rintro e w4 ⟨rfl, rfl⟩
        go_wp2_with fail
        refine (writeByte_b _ acc c _ rfl _ hB (by omega) (bld_lt hB)).mono ?_
        rintro e w5 ⟨rfl, hB5, hb5⟩
        have hbl5 := hbl.trans hb5
        clear hB hbl hidx H1
        go_wp2_with fail
        go_roundw
        case rel =>
          refine ⟨i + 1, _, rfl, by omega, hB5, hbl5, ?_, by simp; omega⟩
          have h5 := Hacc.out
          rw [Hdr.out, put_cons, enc, if_pos Hp.out] at h5
          rw [← h5]; simp
        case measure => simp only [intOf]; omega
      · have H1 := plain_any c
        rw [Bool.not_eq_true] at hp
        rw [hp] at H1
        have Hp := Lib.hid hp
        clear hp
        have hx1 := idxH (c.toNat / 16) ((c.toNat : Int) / 16) .u8 (by omega) (by omega)
        have hx2 := idxH (c.toNat % 16) ((c.toNat : Int) % 16) .u8 (by omega) (by omega)
        generalize hd1 : H (c.toNat / 16) = d1 at hx1
        generalize hd2 : H (c.toNat % 16) = d2 at hx2
        have Hd1 := Lib.hid hd1
        have Hd2 := Lib.hid hd2
        clear hd1 hd2
        go_wp2_with fail
        refine (H1 _).mono ?_
        rintro e w4 ⟨rfl, rfl⟩
        go_wp2_with fail
        refine (writeByte_b _ acc 37 _ rfl _ hB (by omega) (bld_lt hB)).mono ?_
        rintro e w5 ⟨rfl, hB5, hb5⟩
        have hbl5 := hbl.trans hb5
        clear hB hbl hidx H1
        go_wp2_with fail
        refine (writeByte_b _ _ d1 _ rfl _ hB5 (by simp; omega) (bld_lt hB5)).mono ?_
        rintro e w6 ⟨rfl, hB6, hb6⟩
        have hbl6 := hbl5.trans hb6
        clear hB5 hbl5
        go_wp2_with fail
        refine (writeByte_b _ _ d2 _ rfl _ hB6 (by simp; omega) (bld_lt hB6)).mono ?_
        rintro e w7 ⟨rfl, hB7, hb7⟩
        have hbl7 := hbl6.trans hb7
        clear hB6 hbl6 hx1 hx2
        go_wp2_with fail
        go_roundw
        case rel =>
          refine ⟨i + 1, _, rfl, by omega, hB7, hbl7, ?_, by simp; omega⟩
          have h5 := Hacc.out
          rw [Hdr.out, put_cons, enc, if_neg (by rw [Hp.out]; simp), Hd1.out, Hd2.out] at h5
          rw [← h5]; simp
        case measure => simp only [intOf]; omega
    · have hlt' : ¬ (i : Int) < (n : Int) := by omega
      have h5 := Hacc.out
      rw [List.drop_eq_nil_of_le (by rw [hsl.out]; omega), put_nil, List.append_nil] at h5
      subst h5
      go_wp2_with fail
      refine (string_b _ _ _ hB).mono ?_
      rintro e w5 ⟨rfl, hb5⟩
      have hbl5 := hbl.trans hb5
      go_wp2_with fail
      go_ret
      exact ⟨rfl, hbl5⟩
end Go.Proofs.YtbhnhoenjoagbaaGreatDoor.EscW

/- Walks over the document's answer: Escape, nibble, GetEscape. -/
namespace Go.Proofs.YtbhnhoenjoagbaaGreatDoor.EscW
open Go.RowKit
open EscM
set_option linter.unusedVariables false

end Go.Proofs.YtbhnhoenjoagbaaGreatDoor.EscW

/- The document's answer: whether a list of names with values may be. -/
namespace Go.Proofs.YtbhnhoenjoagbaaGreatDoor.XatW
open Go.RowKit
open XatM
set_option linter.unusedVariables false

theorem less_str (A B : ByteArray) : Op.bytesLess A.toList B.toList = decide (A.data.toList < B.data.toList) := by
  rw [Lib.toList_data, Lib.toList_data, bytesLess_eq]
theorem okAt_x {l : List Xa} {i : Nat} {x : Xa} (hx : l[i]? = some x) (h : okX x = false) : okAt l i = false := by
  unfold okAt
  rw [hx]
  simp only [h, Bool.false_and]
theorem okAt_lt {l : List Xa} {i : Nat} {x y : Xa} (hx : l[i + 1]? = some x) (hy : l[i]? = some y) (h : ¬ y.1 < x.1) : okAt l (i + 1) = false := by
  unfold okAt
  rw [hx]
  simp only [hy, decide_eq_false h, Bool.and_false]
theorem okAt_zero {l : List Xa} {x : Xa} (hx : l[0]? = some x) (h : okX x = true) : okAt l 0 = true := by
  unfold okAt
  rw [hx]
  simp only [h, Bool.and_true]
theorem okAt_succ {l : List Xa} {i : Nat} {x y : Xa} (hx : l[i + 1]? = some x) (hy : l[i]? = some y) (h : okX x = true) (hlt : y.1 < x.1) : okAt l (i + 1) = true := by
  unfold okAt
  rw [hx]
  simp only [hy, h, decide_eq_true hlt, Bool.and_true]
attribute [local irreducible] Row At

end Go.Proofs.YtbhnhoenjoagbaaGreatDoor.XatW

/- Package xattr: May (the loop). -/
namespace Go.Proofs.YtbhnhoenjoagbaaGreatDoor.XatW
open Go.RowKit
open XatM
set_option linter.unusedVariables false
theorem okX_name (x : Xa) : okX x = (nameOk x.1 && decide (x.2.length ≤ 4096)) := rfl
attribute [local irreducible] Row At

set_option maxHeartbeats 3200000 in
set_option maxRecDepth 100000 in
theorem MayX_go (HP : PutC) (v : Value) (l : List Xa) (w : World) (hat : At xatE v l w) (hl : l.length ≤ 1000000) :
    Calls Tryz.prog 143 #[v] w fun e w' => e = .returned (.bool (mayL l)) ∧ Below w.heap.size w w' := by
  have HN := Lib.hid (mayName_any HP)
  clear HP
  have HA := Lib.hid (fun (h : ∀ i, i < l.length → okAt l i = true) => may_all h)
  have HB := Lib.hid (fun i (hi : i < l.length) (h : okAt l i = false) => may_bad hi h)
  obtain ⟨z, hz⟩ : ∃ z, l.length = z := ⟨_, rfl⟩
  obtain ⟨p, cap, rfl, hcap, hcell⟩ := two_look xat_two hat
  rw [hz] at hl hcap hat ⊢
  have Hcell := Lib.hid hcell
  have Hz := Lib.hid hz
  clear hcell hz hat
  by_cases k0 : 32 < z
  · have f0 : decide ((32 : Int) < (z : Int)) = true := decide_eq_true (by omega)
    have f1 : decide (32 < z) = true := decide_eq_true k0
    have HE := Lib.hid (show mayL l = false by unfold mayL; rw [decide_eq_false (by rw [Hz.out]; omega)]; rfl)
    clear k0 HA HB
    go_enter Tryz.func143, Tryz.ntmps143
    go_wp2_with fail
    go_ret
    exact ⟨ret_bool HE.out.symm, Below.refl _ _⟩
  have f0 : decide ((32 : Int) < (z : Int)) = false := decide_eq_false (by omega)
  have f1 : decide (32 < z) = false := decide_eq_false k0
  have K0 := Lib.hid k0
  clear k0
  go_enter Tryz.func143, Tryz.ntmps143
  go_wp2_with fail
  go_loopw [10] (fun iv wr => ∃ i : Nat, iv = .int .i64 (i : Int) ∧ i ≤ z ∧ Below w.heap.size w wr ∧ Hid (∀ j, j < i → okAt l j = true)) (fun iv _ => z - (intOf iv).toNat)
  case atStart => exact ⟨0, rfl, by omega, Below.refl _ _, Lib.hid (fun j h => by omega)⟩
  case round =>
    obtain ⟨i, rfl, hi, hbl, HR⟩ := hrel
    rename World => wr
    by_cases hlt : i < z
    · have hlt' : decide ((i : Int) < (z : Int)) = true := decide_eq_true (by omega)
      have hlt2 : decide (i < z) = true := decide_eq_true hlt
      have hi' : i < l.length := by rw [Hz.out]; exact hlt
      obtain ⟨g, off, rfl, hg, c0, c1⟩ := Hcell.out i hi'
      replace c0 := cell_kept hbl c0
      replace c1 := cell_kept hbl c1
      have hx : l[i]? = some l[i] := List.getElem?_eq_getElem hi'
      have HBx := Lib.hid (fun h => HB.out i hi' (okAt_x hx h))
      obtain ⟨x, hxx⟩ : ∃ x, l[i] = x := ⟨_, rfl⟩
      rw [hxx] at hx HBx c0 c1
      have Hx := Lib.hid hx
      obtain ⟨N, hN⟩ : ∃ N, strOf x.1 = N := ⟨_, rfl⟩
      obtain ⟨V, hV⟩ : ∃ V, strOf x.2 = V := ⟨_, rfl⟩
      have hNl : N.data.toList = x.1 := by rw [← hN, strOf_list]
      have hVl : V.size = x.2.length := by rw [← hV, strOf_size]
      rw [hN] at c0
      rw [hV] at c1
      have hn := Lib.hid (HN.out N)
      rw [hNl] at hn
      clear hN hV hx hxx hi'
      rcases k1 : nameOk x.1 with _ | _
      · have HE := Lib.hid (HBx.out (by rw [okX_name, k1]; rfl))
        rw [k1] at hn
        clear hNl hVl k1 HBx HR Hx
        go_wp2_with fail
        refine (hn.out _).mono ?_
        rintro e w2 ⟨rfl, hb2⟩
        replace hbl := gr_call hbl ((gr_alloc (Below.refl _ _) _).trans (hb2.mono (by simp)))
        have b0 : w2.cell? ⟨wr.heap.size, 0, none⟩ = some (.string N) := cell_kept hb2 (by rw [World.cell?_alloc_at (w := wr) _ _ wr.heap.size 0 rfl]; rfl)
        have b1 : w2.cell? ⟨wr.heap.size, 1, none⟩ = some (.string V) := cell_kept hb2 (by rw [World.cell?_alloc_at (w := wr) _ _ wr.heap.size 1 rfl]; rfl)
        clear hb2
        go_wp2_with fail
        go_ret
        exact ⟨ret_bool HE.out.symm, hbl⟩
      rw [k1] at hn
      by_cases k2 : 4096 < x.2.length
      · have HE := Lib.hid (HBx.out (by rw [okX_name, decide_eq_false (by omega), Bool.and_false]))
        have f2 : decide ((4096 : Int) < (V.size : Int)) = true := decide_eq_true (by omega)
        have f3 : decide (4096 < V.size) = true := decide_eq_true (by omega)
        clear hNl hVl k1 k2 HBx HR Hx
        go_wp2_with fail
        refine (hn.out _).mono ?_
        rintro e w2 ⟨rfl, hb2⟩
        replace hbl := gr_call hbl ((gr_alloc (Below.refl _ _) _).trans (hb2.mono (by simp)))
        have b0 : w2.cell? ⟨wr.heap.size, 0, none⟩ = some (.string N) := cell_kept hb2 (by rw [World.cell?_alloc_at (w := wr) _ _ wr.heap.size 0 rfl]; rfl)
        have b1 : w2.cell? ⟨wr.heap.size, 1, none⟩ = some (.string V) := cell_kept hb2 (by rw [World.cell?_alloc_at (w := wr) _ _ wr.heap.size 1 rfl]; rfl)
        clear hb2
        go_wp2_with fail
        go_ret
        exact ⟨ret_bool HE.out.symm, hbl⟩
      have f2 : decide ((4096 : Int) < (V.size : Int)) = false := decide_eq_false (by omega)
      have f3 : decide (4096 < V.size) = false := decide_eq_false (by omega)
      have HX := Lib.hid (show okX x = true by rw [okX_name, k1, decide_eq_true (by omega)]; rfl)
      clear k1 k2 HBx hVl
      rcases i with _ | j
      · have HN2 : Hid (∀ j, j < 0 + 1 → okAt l j = true) := Lib.hid (fun j hj => by
          obtain rfl : j = 0 := by omega
          exact okAt_zero Hx.out HX.out)
        clear HR Hx HX hNl
        rw [Nat.zero_mul, Nat.add_zero] at c0 c1
        go_wp2_with fail
        refine (hn.out _).mono ?_
        rintro e w2 ⟨rfl, hb2⟩
        replace hbl := gr_call hbl ((gr_alloc (Below.refl _ _) _).trans (hb2.mono (by simp)))
        have b0 : w2.cell? ⟨wr.heap.size, 0, none⟩ = some (.string N) := cell_kept hb2 (by rw [World.cell?_alloc_at (w := wr) _ _ wr.heap.size 0 rfl]; rfl)
        have b1 : w2.cell? ⟨wr.heap.size, 1, none⟩ = some (.string V) := cell_kept hb2 (by rw [World.cell?_alloc_at (w := wr) _ _ wr.heap.size 1 rfl]; rfl)
        clear hb2
        go_wp2_with fail
        go_quiet (fail)
        go_wp2_with fail
        go_roundw
        case rel => exact ⟨1, rfl, by omega, by (repeat' (first | exact Below.refl _ _ | assumption | refine gr_drew ?_ | refine gr_drewN ?_ _ | refine gr_alloc ?_ _ | refine gr_set ?_ ?_ _ | refine gr_call ?_ (by assumption)) <;> (try (simp; done)) <;> (try (simp; omega)) <;> (try omega)), HN2⟩
        case measure => simp only [intOf]; omega
      · have hj : j < l.length := by rw [Hz.out]; omega
        obtain ⟨g', off', e, hg', d0, d1⟩ := Hcell.out j hj
        cases e
        replace d0 := cell_kept hbl d0
        clear d1
        have hy : l[j]? = some l[j] := List.getElem?_eq_getElem hj
        obtain ⟨y, hyy⟩ : ∃ y, l[j] = y := ⟨_, rfl⟩
        rw [hyy] at hy d0
        have g0 : decide ((0 : Int) < ((j + 1 : Nat) : Int)) = true := decide_eq_true (by omega)
        have g1 : decide (0 < j + 1) = true := decide_eq_true (by omega)
        have hs1 : ((j + 1 : Nat) : Int) - 1 = (j : Int) := by omega
        have hcm : Op.bytesLess (strOf y.1).toList N.toList = decide (y.1 < x.1) := by rw [less_str, strOf_list, hNl]
        by_cases k6 : y.1 < x.1
        · rw [decide_eq_true k6] at hcm
          have HN2 : Hid (∀ i, i < j + 1 + 1 → okAt l i = true) := Lib.hid (fun i hj => by
            by_cases hji : i = j + 1
            · subst hji; exact okAt_succ Hx.out hy HX.out k6
            · exact HR.out i (by omega))
          clear HR Hx HX hNl hy hyy k6 hj
          generalize strOf y.1 = Y at *
          go_wp2_with fail
          refine (hn.out _).mono ?_
          rintro e w2 ⟨rfl, hb2⟩
          replace hbl := gr_call hbl ((gr_alloc (Below.refl _ _) _).trans (hb2.mono (by simp)))
          have b0 : w2.cell? ⟨wr.heap.size, 0, none⟩ = some (.string N) := cell_kept hb2 (by rw [World.cell?_alloc_at (w := wr) _ _ wr.heap.size 0 rfl]; rfl)
          have b1 : w2.cell? ⟨wr.heap.size, 1, none⟩ = some (.string V) := cell_kept hb2 (by rw [World.cell?_alloc_at (w := wr) _ _ wr.heap.size 1 rfl]; rfl)
          replace d0 := cell_kept (show Below wr.heap.size wr w2 from (gr_alloc (Below.refl _ _) _).trans (hb2.mono (by simp))) d0
          clear hb2
          go_wp2_with fail
          go_quiet (fail)
          go_wp2_with fail
          go_roundw
          case rel => exact ⟨j + 1 + 1, rfl, by omega, by (repeat' (first | exact Below.refl _ _ | assumption | refine gr_drew ?_ | refine gr_drewN ?_ _ | refine gr_alloc ?_ _ | refine gr_set ?_ ?_ _ | refine gr_call ?_ (by assumption)) <;> (try (simp; done)) <;> (try (simp; omega)) <;> (try omega)), HN2⟩
          case measure => simp only [intOf]; omega
        · rw [decide_eq_false k6] at hcm
          have HE := Lib.hid (HB.out (j + 1) (by rw [Hz.out]; exact hlt) (okAt_lt Hx.out hy k6))
          clear HR Hx HX hNl hy hyy k6 hj
          generalize strOf y.1 = Y at *
          go_wp2_with fail
          refine (hn.out _).mono ?_
          rintro e w2 ⟨rfl, hb2⟩
          replace hbl := gr_call hbl ((gr_alloc (Below.refl _ _) _).trans (hb2.mono (by simp)))
          have b0 : w2.cell? ⟨wr.heap.size, 0, none⟩ = some (.string N) := cell_kept hb2 (by rw [World.cell?_alloc_at (w := wr) _ _ wr.heap.size 0 rfl]; rfl)
          have b1 : w2.cell? ⟨wr.heap.size, 1, none⟩ = some (.string V) := cell_kept hb2 (by rw [World.cell?_alloc_at (w := wr) _ _ wr.heap.size 1 rfl]; rfl)
          replace d0 := cell_kept (show Below wr.heap.size wr w2 from (gr_alloc (Below.refl _ _) _).trans (hb2.mono (by simp))) d0
          clear hb2
          go_wp2_with fail
          go_quiet (fail)
          go_wp2_with fail
          go_ret
          exact ⟨ret_bool HE.out.symm, by (repeat' (first | exact Below.refl _ _ | assumption | refine gr_drew ?_ | refine gr_drewN ?_ _ | refine gr_alloc ?_ _ | refine gr_set ?_ ?_ _ | refine gr_call ?_ (by assumption)) <;> (try (simp; done)) <;> (try (simp; omega)) <;> (try omega))⟩
    · have hlt' : decide ((i : Int) < (z : Int)) = false := decide_eq_false (by omega)
      have hlt2 : decide (i < z) = false := decide_eq_false hlt
      have HE := Lib.hid (HA.out (fun j hj => HR.out j (by rw [Hz.out] at hj; omega)))
      rw [Hz.out] at HE
      clear HR HA HB Hcell
      go_wp2_with fail
      go_ret
      exact ⟨ret_bool (by rw [HE.out, decide_eq_true (by have := K0.out; omega)]), hbl⟩
end Go.Proofs.YtbhnhoenjoagbaaGreatDoor.XatW

/- Names with values: what records say, by the records alone. -/
namespace Go.Proofs.YtbhnhoenjoagbaaGreatDoor
namespace XatM

theorem flat_len : ∀ (l : List Xa), (l.flatMap recOf).length ≤ 2 * l.length
  | [] => by simp
  | x :: l => by
    rw [List.flatMap_cons, List.length_append, List.length_cons]
    have h1 : (recOf x).length ≤ 2 := by unfold recOf; split <;> simp
    have := flat_len l
    omega
end XatM
end Go.Proofs.YtbhnhoenjoagbaaGreatDoor
