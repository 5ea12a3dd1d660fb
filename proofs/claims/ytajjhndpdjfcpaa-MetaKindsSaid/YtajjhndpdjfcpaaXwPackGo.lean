/- Bundle of 2 texts. -/
import Derived.Test.YtajjhndpdjfcpaaXwRow
import Derived.Test.YtajjhndpdjfcpaaXwPackSame
import Derived.Test.YtajjhndpdjfcpaaChecked
import Derived.Lib.Bytealg
import Derived.Lib.IndexLaws
import Derived.Laws.Externs
import Derived.Sort.Walk0
import Derived.Deep.QuietTactic
import Derived.BigQuiet
import Derived.Outline
import Derived.Test.YtajjhndpdjfcpaaXwRefMay
/- Package xattr: May. -/
namespace Go.Proofs.Ytajjhndpdjfcpaa.XatW
open Go.RowKit
open XatM
set_option linter.unusedVariables false

theorem liteIndexByte_go (s : ByteArray) (c : Int) (w : World) :
    Calls Try.prog 62 #[.string s, .int .u8 c] w fun e w' => e = .returned (.int .i64 (Lib.indexByte s.data.toList c.toNat.toUInt8)) ∧ w' = w := by
  go_enter Try.func62, Try.ntmps62
  go_wp2
  rw [run_callFunc_extern Try.func69 (by kernel_rfl) (by kernel_rfl) (by kernel_rfl) (e := Extern.BytealgIndexByte.indexByte) (by kernel_rfl), Lib.run_indexByteString]
  simp only [Result.andThen]
  rw [Oper.upon_value]
  go_wp2
  go_ret
  exact ⟨rfl, rfl⟩
theorem indexByte_go (s : ByteArray) (c : Int) (w : World) :
    Calls Try.prog 55 #[.string s, .int .u8 c] w fun e w' => e = .returned (.int .i64 (Lib.indexByte s.data.toList c.toNat.toUInt8)) ∧ w' = w := by
  have H := Lib.hid (liteIndexByte_go s c)
  go_enter Try.func55, Try.ntmps55
  go_wp2_with fail
  refine (H.out _).mono ?_
  rintro e w' ⟨rfl, rfl⟩
  go_wp2_with fail
  go_ret
  exact ⟨rfl, rfl⟩
theorem index_neg (l : List UInt8) (c : UInt8) : Lib.indexByte l c < 0 ↔ l.contains c = false := by
  induction l with
  | nil => simp [Lib.indexByte]
  | cons b l ih =>
    unfold Lib.indexByte
    by_cases h : b = c
    · subst h; simp
    · have h2 : ¬ c = b := fun e => h e.symm
      simp only [List.contains_cons, beq_eq_false_iff_ne.2 h2, Bool.false_or, ← ih]
      simp only [h, if_false, beq_iff_eq]
      first
        | (split <;> omega)
        | skip
/-- What package xattr asks of a name. -/
def nameOk (n : List UInt8) : Bool := decide (n ≠ []) && !n.contains 0 && decide ((EscM.put n).length ≤ 238)
/-- escape.Put. -/
def PutC : Prop := ∀ (s : ByteArray) (hs : s.size ≤ 30000) (w : World), Calls Try.prog 56 #[.string s] w fun e w' => e = .returned (.string ⟨(EscM.put s.data.toList).toArray⟩) ∧ Below w.heap.size w w'

theorem mayName_any (HP : PutC) (N : ByteArray) (w : World) :
    Calls Try.prog 51 #[.string N] w fun e w' => e = .returned (.bool (nameOk N.data.toList)) ∧ Below w.heap.size w w' := by
  have hNs : N.size = N.data.toList.length := rfl
  have hNe : N.toList = N.data.toList := Lib.toList_data N
  obtain ⟨n, hn⟩ : ∃ n, N.data.toList = n := ⟨_, rfl⟩
  have HP2 := Lib.hid (HP N)
  have HI := Lib.hid (indexByte_go N 0)
  simp only [hn] at HP2 HI
  rw [hn] at hNs hNe ⊢
  clear HP
  by_cases k1 : n = []
  · have HE := Lib.hid (show nameOk n = false by rw [k1]; rfl)
    have hq2 : N.toList.isEmpty = true := by rw [hNe, k1]; rfl
    clear k1 hn hNs hNe
    go_enter Try.func51, Try.ntmps51
    go_wp2_with fail
    go_ret
    exact ⟨ret_bool HE.out.symm, Below.refl _ _⟩
  have hq2 : N.toList.isEmpty = false := by rw [hNe]; cases n with | nil => exact absurd rfl k1 | cons => rfl
  by_cases k2 : 238 < n.length
  · have HE := Lib.hid (show nameOk n = false by unfold nameOk; rw [decide_eq_false (p := (EscM.put n).length ≤ 238) (by have := put_mono n; omega), Bool.and_false])
    have f3 : decide ((238 : Int) < (N.size : Int)) = true := decide_eq_true (by omega)
    have f4 : decide (238 < N.size) = true := decide_eq_true (by omega)
    clear k1 k2 hn hNs hNe
    go_enter Try.func51, Try.ntmps51
    go_wp2_with fail
    go_ret
    exact ⟨ret_bool HE.out.symm, Below.refl _ _⟩
  have f3 : decide ((238 : Int) < (N.size : Int)) = false := decide_eq_false (by omega)
  have f4 : decide (238 < N.size) = false := decide_eq_false (by omega)
  obtain ⟨q, hqi⟩ : ∃ q, Lib.indexByte n (0 : Int).toNat.toUInt8 = q := ⟨_, rfl⟩
  have hqn := index_neg n (0 : Int).toNat.toUInt8
  rw [hqi] at HI hqn
  by_cases k3 : n.contains 0 = true
  · have HE := Lib.hid (show nameOk n = false by unfold nameOk; rw [k3]; simp)
    have f5 : decide (q < 0) = false := decide_eq_false (by rw [hqn, show (0 : Int).toNat.toUInt8 = (0 : UInt8) from rfl, k3]; simp)
    clear k1 k2 k3 hn hNs hNe hqi hqn
    go_enter Try.func51, Try.ntmps51
    go_wp2_with fail
    refine (HI.out _).mono ?_
    rintro e w1 ⟨rfl, rfl⟩
    go_wp2_with fail
    go_ret
    exact ⟨ret_bool HE.out.symm, Below.refl _ _⟩
  · have k3' : n.contains 0 = false := by simpa using k3
    have f5 : decide (q < 0) = true := decide_eq_true (by rw [hqn]; exact k3')
    obtain ⟨P, hP⟩ : ∃ P : ByteArray, ⟨(EscM.put n).toArray⟩ = P := ⟨_, rfl⟩
    have hPs : P.size = (EscM.put n).length := by rw [← hP]; simp [ByteArray.size]
    have HP3 := Lib.hid (HP2.out (by omega))
    rw [hP] at HP3
    have HE := Lib.hid (show nameOk n = decide ((P.size : Int) ≤ 238) by
      unfold nameOk
      rw [decide_eq_true k1, k3', hPs, Bool.not_false, Bool.true_and, Bool.true_and]
      exact decide_eq_decide.2 (by omega))
    clear k1 k2 k3 k3' hn hNs hNe hqi hqn hP HP2 hPs
    go_enter Try.func51, Try.ntmps51
    go_wp2_with fail
    refine (HI.out _).mono ?_
    rintro e w1 ⟨rfl, rfl⟩
    go_wp2_with fail
    refine (HP3.out _).mono ?_
    rintro e w1 ⟨rfl, hb⟩
    go_wp2_with fail
    go_ret
    exact ⟨ret_bool HE.out.symm, hb⟩
end Go.Proofs.Ytajjhndpdjfcpaa.XatW

/- Package xattr: May (the loop). -/
namespace Go.Proofs.Ytajjhndpdjfcpaa.XatW
open Go.RowKit
open XatM
set_option linter.unusedVariables false
theorem okX_name (x : Xa) : okX x = (nameOk x.1 && decide (x.2.length ≤ 4096)) := rfl
attribute [local irreducible] Row At

set_option maxHeartbeats 3200000 in
set_option maxRecDepth 100000 in
theorem MayX_go (HP : PutC) (v : Value) (l : List Xa) (w : World) (hat : At xatE v l w) (hl : l.length ≤ 1000000) :
    Calls Try.prog 39 #[v] w fun e w' => e = .returned (.bool (mayL l)) ∧ Below w.heap.size w w' := by
  have HN := Lib.hid (mayName_any HP)
  clear HP
  have HA := Lib.hid (fun (h : ∀ i, i < l.length → okAt l i = true) => may_all h)
  have HB := Lib.hid (fun i (hi : i < l.length) (h : okAt l i = false) => may_bad hi h)
  obtain ⟨z, hz⟩ : ∃ z, l.length = z := ⟨_, rfl⟩
  obtain ⟨p, cap, rfl, hcap, hcell⟩ := two_look xat_two hat
  rw [hz] at hl hcap hat ⊢
  have Hcell := Lib.hid hcell
  have Hz := Lib.hid hz
  clear hcell hz hat
  by_cases k0 : 32 < z
  · have f0 : decide ((32 : Int) < (z : Int)) = true := decide_eq_true (by omega)
    have f1 : decide (32 < z) = true := decide_eq_true k0
    have HE := Lib.hid (show mayL l = false by unfold mayL; rw [decide_eq_false (by rw [Hz.out]; omega)]; rfl)
    clear k0 HA HB
    go_enter Try.func39, Try.ntmps39
    go_wp2_with fail
    go_ret
    exact ⟨ret_bool HE.out.symm, Below.refl _ _⟩
  have f0 : decide ((32 : Int) < (z : Int)) = false := decide_eq_false (by omega)
  have f1 : decide (32 < z) = false := decide_eq_false k0
  have K0 := Lib.hid k0
  clear k0
  go_enter Try.func39, Try.ntmps39
  go_wp2_with fail
  go_loopw [10] (fun iv wr => ∃ i : Nat, iv = .int .i64 (i : Int) ∧ i ≤ z ∧ Below w.heap.size w wr ∧ Hid (∀ j, j < i → okAt l j = true)) (fun iv _ => z - (intOf iv).toNat)
  case atStart => exact ⟨0, rfl, by omega, Below.refl _ _, Lib.hid (fun j h => by omega)⟩
  case round =>
    obtain ⟨i, rfl, hi, hbl, HR⟩ := hrel
    rename World => wr
    by_cases hlt : i < z
    · have hlt' : decide ((i : Int) < (z : Int)) = true := decide_eq_true (by omega)
      have hlt2 : decide (i < z) = true := decide_eq_true hlt
      have hi' : i < l.length := by rw [Hz.out]; exact hlt
      obtain ⟨g, off, rfl, hg, c0, c1⟩ := Hcell.out i hi'
      replace c0 := cell_kept hbl c0
      replace c1 := cell_kept hbl c1
      have hx : l[i]? = some l[i] := List.getElem?_eq_getElem hi'
      have HBx := Lib.hid (fun h => HB.out i hi' (okAt_x hx h))
      obtain ⟨x, hxx⟩ : ∃ x, l[i] = x := ⟨_, rfl⟩
      rw [hxx] at hx HBx c0 c1
      have Hx := Lib.hid hx
      obtain ⟨N, hN⟩ : ∃ N, strOf x.1 = N := ⟨_, rfl⟩
      obtain ⟨V, hV⟩ : ∃ V, strOf x.2 = V := ⟨_, rfl⟩
      have hNl : N.data.toList = x.1 := by rw [← hN, strOf_list]
      have hVl : V.size = x.2.length := by rw [← hV, strOf_size]
      rw [hN] at c0
      rw [hV] at c1
      have hn := Lib.hid (HN.out N)
      rw [hNl] at hn
      clear hN hV hx hxx hi'
      rcases k1 : nameOk x.1 with _ | _
      · have HE := Lib.hid (HBx.out (by rw [okX_name, k1]; rfl))
        rw [k1] at hn
        clear hNl hVl k1 HBx HR Hx
        go_wp2_with fail
        refine (hn.out _).mono ?_
        rintro e w2 ⟨rfl, hb2⟩
        replace hbl := gr_call hbl ((gr_alloc (Below.refl _ _) _).trans (hb2.mono (by simp)))
        have b0 : w2.cell? ⟨wr.heap.size, 0, none⟩ = some (.string N) := cell_kept hb2 (by rw [World.cell?_alloc_at (w := wr) _ _ wr.heap.size 0 rfl]; rfl)
        have b1 : w2.cell? ⟨wr.heap.size, 1, none⟩ = some (.string V) := cell_kept hb2 (by rw [World.cell?_alloc_at (w := wr) _ _ wr.heap.size 1 rfl]; rfl)
        clear hb2
        go_wp2_with fail
        go_ret
        exact ⟨ret_bool HE.out.symm, hbl⟩
      rw [k1] at hn
      by_cases k2 : 4096 < x.2.length
      · have HE := Lib.hid (HBx.out (by rw [okX_name, decide_eq_false (by omega), Bool.and_false]))
        have f2 : decide ((4096 : Int) < (V.size : Int)) = true := decide_eq_true (by omega)
        have f3 : decide (4096 < V.size) = true := decide_eq_true (by omega)
        clear hNl hVl k1 k2 HBx HR Hx
        go_wp2_with fail
        refine (hn.out _).mono ?_
        rintro e w2 ⟨rfl, hb2⟩
        replace hbl := gr_call hbl ((gr_alloc (Below.refl _ _) _).trans (hb2.mono (by simp)))
        have b0 : w2.cell? ⟨wr.heap.size, 0, none⟩ = some (.string N) := cell_kept hb2 (by rw [World.cell?_alloc_at (w := wr) _ _ wr.heap.size 0 rfl]; rfl)
        have b1 : w2.cell? ⟨wr.heap.size, 1, none⟩ = some (.string V) := cell_kept hb2 (by rw [World.cell?_alloc_at (w := wr) _ _ wr.heap.size 1 rfl]; rfl)
        clear hb2
        go_wp2_with fail
        go_ret
        exact ⟨ret_bool HE.out.symm, hbl⟩
      have f2 : decide ((4096 : Int) < (V.size : Int)) = false := decide_eq_false (by omega)
      have f3 : decide (4096 < V.size) = false := decide_eq_false (by omega)
      have HX := Lib.hid (show okX x = true by rw [okX_name, k1, decide_eq_true (by omega)]; rfl)
      clear k1 k2 HBx hVl
      rcases i with _ | j
      · have HN2 : Hid (∀ j, j < 0 + 1 → okAt l j = true) := Lib.hid (fun j hj => by
          obtain rfl : j = 0 := by omega
          exact okAt_zero Hx.out HX.out)
        clear HR Hx HX hNl
        rw [Nat.zero_mul, Nat.add_zero] at c0 c1
        go_wp2_with fail
        refine (hn.out _).mono ?_
        rintro e w2 ⟨rfl, hb2⟩
        replace hbl := gr_call hbl ((gr_alloc (Below.refl _ _) _).trans (hb2.mono (by simp)))
        have b0 : w2.cell? ⟨wr.heap.size, 0, none⟩ = some (.string N) := cell_kept hb2 (by rw [World.cell?_alloc_at (w := wr) _ _ wr.heap.size 0 rfl]; rfl)
        have b1 : w2.cell? ⟨wr.heap.size, 1, none⟩ = some (.string V) := cell_kept hb2 (by rw [World.cell?_alloc_at (w := wr) _ _ wr.heap.size 1 rfl]; rfl)
        clear hb2
        go_wp2_with fail
        go_quiet (fail)
        go_wp2_with fail
        go_roundw
        case rel => exact ⟨1, rfl, by omega, by (repeat' (first | exact Below.refl _ _ | assumption | refine gr_drew ?_ | refine gr_drewN ?_ _ | refine gr_alloc ?_ _ | refine gr_set ?_ ?_ _ | refine gr_call ?_ (by assumption)) <;> (try (simp; done)) <;> (try (simp; omega)) <;> (try omega)), HN2⟩
        case measure => simp only [intOf]; omega
      · have hj : j < l.length := by rw [Hz.out]; omega
        obtain ⟨g', off', e, hg', d0, d1⟩ := Hcell.out j hj
        cases e
        replace d0 := cell_kept hbl d0
        clear d1
        have hy : l[j]? = some l[j] := List.getElem?_eq_getElem hj
        obtain ⟨y, hyy⟩ : ∃ y, l[j] = y := ⟨_, rfl⟩
        rw [hyy] at hy d0
        have g0 : decide ((0 : Int) < ((j + 1 : Nat) : Int)) = true := decide_eq_true (by omega)
        have g1 : decide (0 < j + 1) = true := decide_eq_true (by omega)
        have hs1 : ((j + 1 : Nat) : Int) - 1 = (j : Int) := by omega
        have hcm : Op.bytesLess (strOf y.1).toList N.toList = decide (y.1 < x.1) := by rw [less_str, strOf_list, hNl]
        by_cases k6 : y.1 < x.1
        · rw [decide_eq_true k6] at hcm
          have HN2 : Hid (∀ i, i < j + 1 + 1 → okAt l i = true) := Lib.hid (fun i hj => by
            by_cases hji : i = j + 1
            · subst hji; exact okAt_succ Hx.out hy HX.out k6
            · exact HR.out i (by omega))
          clear HR Hx HX hNl hy hyy k6 hj
          generalize strOf y.1 = Y at *
          go_wp2_with fail
          refine (hn.out _).mono ?_
          rintro e w2 ⟨rfl, hb2⟩
          replace hbl := gr_call hbl ((gr_alloc (Below.refl _ _) _).trans (hb2.mono (by simp)))
          have b0 : w2.cell? ⟨wr.heap.size, 0, none⟩ = some (.string N) := cell_kept hb2 (by rw [World.cell?_alloc_at (w := wr) _ _ wr.heap.size 0 rfl]; rfl)
          have b1 : w2.cell? ⟨wr.heap.size, 1, none⟩ = some (.string V) := cell_kept hb2 (by rw [World.cell?_alloc_at (w := wr) _ _ wr.heap.size 1 rfl]; rfl)
          replace d0 := cell_kept (show Below wr.heap.size wr w2 from (gr_alloc (Below.refl _ _) _).trans (hb2.mono (by simp))) d0
          clear hb2
          go_wp2_with fail
          go_quiet (fail)
          go_wp2_with fail
          go_roundw
          case rel => exact ⟨j + 1 + 1, rfl, by omega, by (repeat' (first | exact Below.refl _ _ | assumption | refine gr_drew ?_ | refine gr_drewN ?_ _ | refine gr_alloc ?_ _ | refine gr_set ?_ ?_ _ | refine gr_call ?_ (by assumption)) <;> (try (simp; done)) <;> (try (simp; omega)) <;> (try omega)), HN2⟩
          case measure => simp only [intOf]; omega
        · rw [decide_eq_false k6] at hcm
          have HE := Lib.hid (HB.out (j + 1) (by rw [Hz.out]; exact hlt) (okAt_lt Hx.out hy k6))
          clear HR Hx HX hNl hy hyy k6 hj
          generalize strOf y.1 = Y at *
          go_wp2_with fail
          refine (hn.out _).mono ?_
          rintro e w2 ⟨rfl, hb2⟩
          replace hbl := gr_call hbl ((gr_alloc (Below.refl _ _) _).trans (hb2.mono (by simp)))
          have b0 : w2.cell? ⟨wr.heap.size, 0, none⟩ = some (.string N) := cell_kept hb2 (by rw [World.cell?_alloc_at (w := wr) _ _ wr.heap.size 0 rfl]; rfl)
          have b1 : w2.cell? ⟨wr.heap.size, 1, none⟩ = some (.string V) := cell_kept hb2 (by rw [World.cell?_alloc_at (w := wr) _ _ wr.heap.size 1 rfl]; rfl)
          replace d0 := cell_kept (show Below wr.heap.size wr w2 from (gr_alloc (Below.refl _ _) _).trans (hb2.mono (by simp))) d0
          clear hb2
          go_wp2_with fail
          go_quiet (fail)
          go_wp2_with fail
          go_ret
          exact ⟨ret_bool HE.out.symm, by (repeat' (first | exact Below.refl _ _ | assumption | refine gr_drew ?_ | refine gr_drewN ?_ _ | refine gr_alloc ?_ _ | refine gr_set ?_ ?_ _ | refine gr_call ?_ (by assumption)) <;> (try (simp; done)) <;> (try (simp; omega)) <;> (try omega))⟩
    · have hlt' : decide ((i : Int) < (z : Int)) = false := decide_eq_false (by omega)
      have hlt2 : decide (i < z) = false := decide_eq_false hlt
      have HE := Lib.hid (HA.out (fun j hj => HR.out j (by rw [Hz.out] at hj; omega)))
      rw [Hz.out] at HE
      clear HR HA HB Hcell
      go_wp2_with fail
      go_ret
      exact ⟨ret_bool (by rw [HE.out, decide_eq_true (by have := K0.out; omega)]), hbl⟩
end Go.Proofs.Ytajjhndpdjfcpaa.XatW
