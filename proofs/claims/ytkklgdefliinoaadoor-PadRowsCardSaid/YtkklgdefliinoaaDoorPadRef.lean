/- Walks: the document's answer for what stands at a place. -/
import Derived.Test.YtkklgdefliinoaaDoorPadPut
import Derived.Test.YtkklgdefliinoaaDoorLater
import Derived.Laws.Tables
namespace Go.Proofs.YtkklgdefliinoaaDoor
open Go.RowKit
open PadM
set_option linter.unusedVariables false

theorem idxAt {P : Program} {t : TypeId} (ht : P.underlying t = some .string) (S : ByteArray) (i : Nat) (h : i < S.size) : ∃ c : UInt8, (L S)[i]? = some c ∧ ∀ w, (Instr.index t (.string S) (.int .i64 (i : Int))).run P w = .ok (.int .u8 (c.toNat : Int)) w := by
  refine ⟨S[i], ?_, ?_⟩
  · rw [List.getElem?_eq_getElem (by rw [size_L]; exact h)]; rfl
  · intro w
    simp [go_sem, ht, h]
theorem all_zero {l : List UInt8} {i k q : Nat} (h : i + q ≤ l.length) : (((l.drop i).take q).drop k).all (· == 0) = true ↔ ∀ j, i + k ≤ j → j < i + q → l[j]? = some 0 := by
  rw [List.all_eq_true]
  constructor
  · intro hx j h1 h2
    have h3 : j < l.length := by omega
    rw [List.getElem?_eq_getElem h3]
    have h4 := hx l[j] (by
      apply List.mem_of_getElem? (i := j - i - k)
      rw [List.getElem?_drop, List.getElem?_take, if_pos (by omega), List.getElem?_drop, show i + (k + (j - i - k)) = j by omega, List.getElem?_eq_getElem h3])
    congr 1
    simpa using h4
  · intro hx x hm
    obtain ⟨j, hj⟩ := List.getElem?_of_mem hm
    rw [List.getElem?_drop, List.getElem?_take] at hj
    by_cases hq : k + j < q
    · rw [if_pos hq, List.getElem?_drop, hx (i + (k + j)) (by omega) (by omega)] at hj
      simp at hj
      simp [← hj]
    · rw [if_neg hq] at hj
      cases hj

theorem bld_err (x : Int) (w : World) : (Instr.build 27 #[(2, .int .i64 x)]).run Tryd.prog w = .ok (.agg #[.string ⟨#[]⟩, .int .i64 0, .int .i64 x]) w := run_build w _ _ _ (by kernel_rfl)
theorem bld_ok (D : ByteArray) (x : Int) (w : World) : (Instr.build 27 #[(0, .string D), (1, .int .i64 x)]).run Tryd.prog w = .ok (.agg #[.string D, .int .i64 x, .int .i64 0]) w := run_build w _ _ _ (by kernel_rfl)

theorem put3 {W : World} {B g : Nat} {w0 : World} {t : TypeId} {x y z : Value} (hT : BlkIs W g t #[x, y, z]) (hB : Below B w0 W) (hg : B ≤ g) (a b c : Value) :
    BlkIs (((W.setCell ⟨g, 0, none⟩ a).setCell ⟨g, 1, none⟩ b).setCell ⟨g, 2, none⟩ c) g t #[a, b, c] ∧ Below B w0 (((W.setCell ⟨g, 0, none⟩ a).setCell ⟨g, 1, none⟩ b).setCell ⟨g, 2, none⟩ c) := by
  refine ⟨?_, ((hB.setCell (p := ⟨g, 0, none⟩) hg a).setCell (p := ⟨g, 1, none⟩) hg b).setCell (p := ⟨g, 2, none⟩) hg c⟩
  have k := ((hT.put 0 a).put 1 b).put 2 c
  simp only [List.setIfInBounds_toArray, List.set_cons_zero, List.set_cons_succ] at k
  exact k

set_option maxHeartbeats 800000 in
theorem refGet_arg (S : ByteArray) (a n : Int) (hS : S.size ≤ 100000) (h : a < 0 ∨ (S.size : Int) < a ∨ n < 0 ∨ 4611686018427387904 < n) (w : World) :
    Calls Tryd.prog 9 #[.string S, .int .i64 a, .int .i64 n] w fun e w' => e = .returned (.agg #[.string ⟨#[]⟩, .int .i64 0, .int .i64 1]) ∧ Below w.heap.size w w' := by
  have hbe := bld_err 1
  by_cases c1 : a < 0
  · have d1 : decide (a < 0) = true := decide_eq_true c1
    clear c1 h
    go_enter Tryd.func9, Tryd.ntmps9
    go_wp2_with fail
    exact bodyPost_ret (v := .agg #[.string ⟨#[]⟩, .int .i64 0, .int .i64 1]) (by simp [results, Tryd.results9, go_sem, *]) rfl ⟨rfl, by (repeat' (first | exact Below.refl _ _ | assumption | refine gr_drew ?_ | refine gr_drewN ?_ _ | refine gr_alloc ?_ _ | refine gr_set ?_ ?_ _ | refine gr_call ?_ (by assumption)) <;> (try (simp; done)) <;> (try (simp; omega)) <;> (try omega))⟩
  have d1 : decide (a < 0) = false := decide_eq_false c1
  by_cases c2 : (S.size : Int) < a
  · have d2 : decide ((S.size : Int) < a) = true := decide_eq_true c2
    clear c1 c2 h
    go_enter Tryd.func9, Tryd.ntmps9
    go_wp2_with fail
    exact bodyPost_ret (v := .agg #[.string ⟨#[]⟩, .int .i64 0, .int .i64 1]) (by simp [results, Tryd.results9, go_sem, *]) rfl ⟨rfl, by (repeat' (first | exact Below.refl _ _ | assumption | refine gr_drew ?_ | refine gr_drewN ?_ _ | refine gr_alloc ?_ _ | refine gr_set ?_ ?_ _ | refine gr_call ?_ (by assumption)) <;> (try (simp; done)) <;> (try (simp; omega)) <;> (try omega))⟩
  have d2 : decide ((S.size : Int) < a) = false := decide_eq_false c2
  by_cases c3 : n < 0
  · have d3 : decide (n < 0) = true := decide_eq_true c3
    clear c1 c2 c3 h
    go_enter Tryd.func9, Tryd.ntmps9
    go_wp2_with fail
    exact bodyPost_ret (v := .agg #[.string ⟨#[]⟩, .int .i64 0, .int .i64 1]) (by simp [results, Tryd.results9, go_sem, *]) rfl ⟨rfl, by (repeat' (first | exact Below.refl _ _ | assumption | refine gr_drew ?_ | refine gr_drewN ?_ _ | refine gr_alloc ?_ _ | refine gr_set ?_ ?_ _ | refine gr_call ?_ (by assumption)) <;> (try (simp; done)) <;> (try (simp; omega)) <;> (try omega))⟩
  have d3 : decide (n < 0) = false := decide_eq_false c3
  have d4 : decide (4611686018427387904 < n) = true := decide_eq_true (by omega)
  clear c1 c2 c3 h
  go_enter Tryd.func9, Tryd.ntmps9
  go_wp2_with fail
  exact bodyPost_ret (v := .agg #[.string ⟨#[]⟩, .int .i64 0, .int .i64 1]) (by simp [results, Tryd.results9, go_sem, *]) rfl ⟨rfl, by (repeat' (first | exact Below.refl _ _ | assumption | refine gr_drew ?_ | refine gr_drewN ?_ _ | refine gr_alloc ?_ _ | refine gr_set ?_ ?_ _ | refine gr_call ?_ (by assumption)) <;> (try (simp; done)) <;> (try (simp; omega)) <;> (try omega))⟩

set_option maxHeartbeats 800000 in
theorem refGet_short (S : ByteArray) (i k q : Nat) (hi : i ≤ S.size) (hk : (k : Int) ≤ 4611686018427387904) (hq : sz (k : Int) = (q : Int)) (h : S.size - i < q) (hS : S.size ≤ 100000) (w : World) :
    Calls Tryd.prog 9 #[.string S, .int .i64 (i : Int), .int .i64 (k : Int)] w fun e w' => e = .returned (.agg #[.string ⟨#[]⟩, .int .i64 0, .int .i64 5]) ∧ Below w.heap.size w w' := by
  have hbe := bld_err 5
  have hsize := fun w => refSize_any (k : Int) w
  rw [hq] at hsize
  clear hq
  obtain ⟨z, hz⟩ : ∃ z, S.size = z := ⟨_, rfl⟩
  replace hsize := Lib.hid hsize
  rw [hz] at hi hS h
  obtain ⟨r, hr⟩ : ∃ r : Nat, (z : Int) - (i : Int) = (r : Int) := ⟨z - i, by omega⟩
  have d1 : decide ((i : Int) < 0) = false := decide_eq_false (by omega)
  have d2 : decide ((z : Int) < (i : Int)) = false := decide_eq_false (by omega)
  have d2' : decide (z < i) = false := decide_eq_false (by omega)
  have d3 : decide ((k : Int) < 0) = false := decide_eq_false (by omega)
  have d4 : decide (4611686018427387904 < (k : Int)) = false := decide_eq_false (by omega)
  have d4' : decide (4611686018427387904 < k) = false := decide_eq_false (by omega)
  have d5 : (r : Int) < (q : Int) := by omega
  have hr9 : r ≤ 100000 := by omega
  clear h hk
  go_enter Tryd.func9, Tryd.ntmps9
  go_wp2_with fail
  refine (hsize.out _).mono ?_
  rintro e w1 ⟨rfl, rfl⟩
  go_wp2_with fail
  exact bodyPost_ret (v := .agg #[.string ⟨#[]⟩, .int .i64 0, .int .i64 5]) (by simp [results, Tryd.results9, go_sem, *]) rfl ⟨rfl, by (repeat' (first | exact Below.refl _ _ | assumption | refine gr_drew ?_ | refine gr_drewN ?_ _ | refine gr_alloc ?_ _ | refine gr_set ?_ ?_ _ | refine gr_call ?_ (by assumption)) <;> (try (simp; done)) <;> (try (simp; omega)) <;> (try omega))⟩

/-- What the document's answer hands back. -/
def fullA (b : Bool) (D : ByteArray) (t : Int) : Value := if b = true then .agg #[.string D, .int .i64 t, .int .i64 0] else .agg #[.string ⟨#[]⟩, .int .i64 0, .int .i64 4]

set_option maxHeartbeats 3200000 in
set_option maxRecDepth 100000 in
theorem refGet_full (S : ByteArray) (i k q : Nat) (hi : i ≤ S.size) (hk : (k : Int) ≤ 4611686018427387904) (hq : sz (k : Int) = (q : Int)) (hkq : k ≤ q) (h : q ≤ S.size - i) (hS : S.size ≤ 100000) (D : ByteArray) (hD : S.extract i (i + k) = D) (w : World) :
    Calls Tryd.prog 9 #[.string S, .int .i64 (i : Int), .int .i64 (k : Int)] w fun e w' =>
      e = .returned (fullA (((((L S).drop i).take q).drop k).all (· == 0)) D ((i + q : Nat) : Int)) ∧ Below w.heap.size w w' := by
  have hbe := bld_err 4
  have hb2 := bld_ok
  have hsize := fun w => refSize_any (k : Int) w
  rw [hq] at hsize
  clear hq
  obtain ⟨z, hz⟩ : ∃ z, S.size = z := ⟨_, rfl⟩
  have hall := all_zero (l := L S) (i := i) (k := k) (q := q) (by rw [size_L]; omega)
  obtain ⟨B, hB⟩ : ∃ B, ((((L S).drop i).take q).drop k).all (· == 0) = B := ⟨_, rfl⟩
  rw [hB] at hall ⊢
  obtain ⟨V, hV⟩ : ∃ V, fullA B D ((i + q : Nat) : Int) = V := ⟨_, rfl⟩
  obtain ⟨t, ht⟩ : ∃ t, i + q = t := ⟨_, rfl⟩
  obtain ⟨c, hc⟩ : ∃ c, i + k = c := ⟨_, rfl⟩
  rw [hc] at hall hD
  have hV4 : ∀ j, c ≤ j → j < t → (L S)[j]? ≠ some 0 → V = .agg #[.string ⟨#[]⟩, .int .i64 0, .int .i64 4] := by
    intro j h1 h2 h3
    rw [← hV]
    unfold fullA
    rw [if_neg (fun hb => h3 (hall.1 hb j h1 (by omega)))]
  have hV0 : (∀ j, c ≤ j → j < t → (L S)[j]? = some 0) → V = .agg #[.string D, .int .i64 (t : Int), .int .i64 0] := by
    intro hx
    rw [← hV, ht]
    unfold fullA
    rw [if_pos (hall.2 (fun j h1 h2 => hx j h1 (by omega)))]
  rw [hV]
  have HI := Lib.hid (fun j (hj : j < S.size) => idxAt (P := Tryd.prog) Tryd.underlying9 S j hj)
  have HV4 := Lib.hid hV4
  have HV0 := Lib.hid hV0
  replace hsize := Lib.hid hsize
  rw [hz] at hi hS h
  obtain ⟨r, hr⟩ : ∃ r : Nat, (z : Int) - (i : Int) = (r : Int) := ⟨z - i, by omega⟩
  have d1 : decide ((i : Int) < 0) = false := decide_eq_false (by omega)
  have d2 : decide ((z : Int) < (i : Int)) = false := decide_eq_false (by omega)
  have d2' : decide (z < i) = false := decide_eq_false (by omega)
  have d3 : decide ((k : Int) < 0) = false := decide_eq_false (by omega)
  have d4 : decide (4611686018427387904 < (k : Int)) = false := decide_eq_false (by omega)
  have d4' : decide (4611686018427387904 < k) = false := decide_eq_false (by omega)
  have d5 : decide ((r : Int) < (q : Int)) = false := decide_eq_false (by omega)
  have d5' : decide (r < q) = false := decide_eq_false (by omega)
  have hc1 : (i : Int) + (k : Int) = (c : Int) := by omega
  have hc2 : IntKind.i64.wrap (c : Int) = (c : Int) := by rw [IntKind.wrap_i64]; omega
  have ht1 : (i : Int) + (q : Int) = (t : Int) := by omega
  have ht2 : IntKind.i64.wrap (t : Int) = (t : Int) := by rw [IntKind.wrap_i64]; omega
  have hct : c ≤ t := by omega
  have htz : t ≤ z := by omega
  have hic : i ≤ c := by omega
  have htz2 : c ≤ z := by omega
  have hsl : ∀ w, (Instr.slice 9 (.string S) (some (.int .i64 (i : Int))) (some (.int .i64 (c : Int))) none).run Tryd.prog w = .ok (.string D) w := fun w => by
    rw [← hD]
    simp [go_sem, Tryd.underlying9, hz]
    rw [if_pos htz2, if_pos hic]
  clear hall hB hV hV4 hV0 hD h hk hc ht hkq
  have hT := BlkIs.made w 27 #[.string ⟨#[]⟩, .int .i64 0, .int .i64 0]
  go_enter Tryd.func9, Tryd.ntmps9
  go_wp2_with fail
  refine (hsize.out _).mono ?_
  rintro e w1 ⟨rfl, rfl⟩
  go_wp2_with fail
  obtain ⟨W, hW⟩ : ∃ W, (w.alloc (.cells #[.string ⟨#[]⟩, .int .i64 0, .int .i64 0] 27)) = W := ⟨_, rfl⟩
  have hB : Below w.heap.size w W := by subst hW; (repeat' (first | exact Below.refl _ _ | assumption | refine gr_drew ?_ | refine gr_drewN ?_ _ | refine gr_alloc ?_ _ | refine gr_set ?_ ?_ _ | refine gr_call ?_ (by assumption)) <;> (try (simp; done)) <;> (try (simp; omega)) <;> (try omega))
  rw [hW] at hT ⊢
  clear hW
  go_loopw [7] (fun iv wr => ∃ j : Nat, iv = .int .i64 (j : Int) ∧ c ≤ j ∧ j ≤ t ∧ wr = W ∧ Hid (∀ x, c ≤ x → x < j → (L S)[x]? = some 0)) (fun iv _ => t - (intOf iv).toNat)
  case atStart => exact ⟨c, rfl, by omega, by omega, rfl, Lib.hid (fun x h1 h2 => by omega)⟩
  case round =>
    obtain ⟨j, rfl, hj1, hj2, rfl, HR⟩ := hrel
    rename_i wr
    by_cases hlt : j < t
    · have hlt' : (j : Int) < (t : Int) := by omega
      obtain ⟨d, hd, hidx⟩ := HI.out j (by omega)
      have hj9 : j ≤ 100000 := by omega
      go_wp2_with fail
      refine (hsize.out _).mono ?_
      rintro e w1 ⟨rfl, rfl⟩
      by_cases h0 : d = 0
      · have heq : ((d.toNat : Int) == 0) = true := by rw [h0]; rfl
        have HN := Lib.hid (show ∀ x, c ≤ x → x < j + 1 → (L S)[x]? = some 0 from fun x h1 h2 => by
          by_cases hx : x = j
          · rw [hx, hd, h0]
          · exact HR.out x h1 (by omega))
        clear HR hd h0
        go_wp2_with fail
        go_roundw
        case rel => exact ⟨j + 1, by first | rfl | go_num, by omega, by omega, by trivial, HN⟩
        case measure => simp only [intOf]; omega
      · have heq : ((d.toNat : Int) == 0) = false := by
          rw [beq_eq_false_iff_ne]; intro h; exact h0 (UInt8.toNat_inj.1 (by have : (0 : UInt8).toNat = 0 := rfl; omega))
        have HN := Lib.hid (HV4.out j hj1 hlt (by rw [hd]; simpa using h0))
        have k0 := hT.cell_some 0 _ rfl
        have k1 := hT.cell_some 1 _ rfl
        have k2 := hT.cell_some 2 _ rfl
        have f0 := hT.free 0
        have f1 := hT.free 1
        have f2 := hT.free 2
        clear HR hd h0 HV4 HV0
        go_wp2_with fail
        obtain ⟨j1, j2⟩ := put3 hT hB (Nat.le_refl _) (.string ⟨#[]⟩) (.int .i64 0) (.int .i64 4)
        obtain ⟨W9, hW9⟩ : ∃ W9, ((wr.setCell ⟨w.heap.size, 0, none⟩ (.string ⟨#[]⟩)).setCell ⟨w.heap.size, 1, none⟩ (.int .i64 0)).setCell ⟨w.heap.size, 2, none⟩ (.int .i64 4) = W9 := ⟨_, rfl⟩
        rw [hW9] at j1 j2 ⊢
        clear hW9 k0 k1 k2 f0 f1 f2
        have k0 := j1.cell_some 0 _ rfl
        have k1 := j1.cell_some 1 _ rfl
        have k2 := j1.cell_some 2 _ rfl
        refine bodyPost_ret (v := .agg #[.string ⟨#[]⟩, .int .i64 0, .int .i64 4]) ?_ rfl ⟨by rw [HN.out], j2⟩
        simp [results, Tryd.results9, go_sem, k0, k1, k2]
    · have hlt' : ¬ (j : Int) < (t : Int) := by omega
      obtain rfl : j = t := by omega
      have HN := Lib.hid (HV0.out HR.out)
      clear HR HV4 HV0 HI
      go_wp2_with fail
      refine (hsize.out _).mono ?_
      rintro e w1 ⟨rfl, rfl⟩
      go_wp2_with fail
      refine region_lastqL (S := fun W2 => Below w.heap.size w W2 ∧ BlkIs W2 w.heap.size 27 #[.string ⟨#[]⟩, .int .i64 0, .int .i64 0]) 11
            [(fun W2 v => v = .string S), (fun W2 v => v = .int .i64 (i : Int)), (fun W2 v => v = .int .i64 (i : Int)), (fun W2 v => v = .int .i64 (k : Int)), (fun W2 v => v = .int .i64 (c : Int)), (fun W2 v => v = .string D), (fun W2 v => v = .int .i64 (i : Int)), (fun W2 v => v = .int .i64 (k : Int)), (fun W2 v => v = .int .i64 (q : Int)), (fun W2 v => v = .int .i64 (j : Int)), (fun W2 v => v = .agg #[.string D, .int .i64 (j : Int), .int .i64 0])] (by rfl) (by kernel_rfl) (by kernel_rfl) (by kernel_rfl) (by kernel_rfl) (by rfl) (by kernel_rfl) ?hS ?hp ?hs ?he
      case hS => exact ⟨gr_drew hB, hT⟩
      case hp => repeat' (first | exact trivial | refine ⟨fun _ _ _ _ h => h, ?_⟩)
      case hs =>
            simp only [List.take_succ_cons, List.take_zero]
            refine ⟨?_, ?_, ?_, ?_, ?_, ?_, ?_, ?_, ?_, ?_, ?_, trivial⟩
            · intro a W2 K hS hd hf hK
              have e0 : a.tmps.getD 0 undef = .string S := hf 0 (by kernel_rfl)
              clear hd hf
              go_simp
              exact hK _ _ (Below.refl _ _) hS rfl
            · intro a W2 K hS hd hf hK
              have e1 : a.tmps.getD 1 undef = .int .i64 (i : Int) := hf 1 (by kernel_rfl)
              clear hd hf
              go_simp
              exact hK _ _ (Below.refl _ _) hS rfl
            · intro a W2 K hS hd hf hK
              have e1 : a.tmps.getD 1 undef = .int .i64 (i : Int) := hf 1 (by kernel_rfl)
              clear hd hf
              go_simp
              exact hK _ _ (Below.refl _ _) hS rfl
            · intro a W2 K hS hd hf hK
              have e2 : a.tmps.getD 2 undef = .int .i64 (k : Int) := hf 2 (by kernel_rfl)
              clear hd hf
              go_simp
              exact hK _ _ (Below.refl _ _) hS rfl
            · intro a W2 K hS hd hf hK
              have e51 : a.tmps.getD 51 undef = .int .i64 (i : Int) := hd ⟨2, .data⟩ (by simp) rfl
              have e52 : a.tmps.getD 52 undef = .int .i64 (k : Int) := hd ⟨3, .data⟩ (by simp) rfl
              have b1 := hc1
              have b2 := hc2
              clear hd hf
              go_simp
              exact hK _ _ (Below.refl _ _) hS rfl
            · intro a W2 K hS hd hf hK
              have e49 : a.tmps.getD 49 undef = .string S := hd ⟨0, .data⟩ (by simp) rfl
              have e50 : a.tmps.getD 50 undef = .int .i64 (i : Int) := hd ⟨1, .data⟩ (by simp) rfl
              have e53 : a.tmps.getD 53 undef = .int .i64 (c : Int) := hd ⟨4, .data⟩ (by simp) rfl
              have b1 := hsl
              clear hd hf
              go_simp
              exact hK _ _ (Below.refl _ _) hS rfl
            · intro a W2 K hS hd hf hK
              have e1 : a.tmps.getD 1 undef = .int .i64 (i : Int) := hf 1 (by kernel_rfl)
              clear hd hf
              go_simp
              exact hK _ _ (Below.refl _ _) hS rfl
            · intro a W2 K hS hd hf hK
              have e2 : a.tmps.getD 2 undef = .int .i64 (k : Int) := hf 2 (by kernel_rfl)
              clear hd hf
              go_simp
              exact hK _ _ (Below.refl _ _) hS rfl
            · intro a W2 K hS hd hf hK
              have e56 : a.tmps.getD 56 undef = .int .i64 (k : Int) := hd ⟨7, .data⟩ (by simp) rfl
              clear hd hf
              go_simp
              go_at_call 11
              refine (hsize.out _).mono ?_
              rintro e w1 ⟨rfl, rfl⟩
              exact hK _ _ (Below.refl _ _) hS rfl
            · intro a W2 K hS hd hf hK
              have e55 : a.tmps.getD 55 undef = .int .i64 (i : Int) := hd ⟨6, .data⟩ (by simp) rfl
              have e57 : a.tmps.getD 57 undef = .int .i64 (q : Int) := hd ⟨8, .data⟩ (by simp) rfl
              have b1 := ht1
              have b2 := ht2
              clear hd hf
              go_simp
              exact hK _ _ (Below.refl _ _) hS rfl
            · intro a W2 K hS hd hf hK
              have e54 : a.tmps.getD 54 undef = .string D := hd ⟨5, .data⟩ (by simp) rfl
              have e58 : a.tmps.getD 58 undef = .int .i64 (j : Int) := hd ⟨9, .data⟩ (by simp) rfl
              have hbd := hb2 D (j : Int)
              have f54 := e54
              rw [Array.getD_eq_getD_getElem?] at f54
              have f58 := e58
              rw [Array.getD_eq_getD_getElem?] at f58
              clear hd hf
              go_simp
              exact hK _ _ (Below.refl _ _) hS rfl
      case he =>
            intro vals W2 K hS2 hV hK
            have e10 := hV 10 (by omega)
            clear hV
            simp only [List.getD_cons_succ, List.getD_cons_zero] at e10
            obtain ⟨hB2, hT2⟩ := hS2
            have k0 := hT2.cell_some 0 _ rfl
            have k1 := hT2.cell_some 1 _ rfl
            have k2 := hT2.cell_some 2 _ rfl
            have f0 := hT2.free 0
            have f1 := hT2.free 1
            have f2 := hT2.free 2
            clear hc1 hc2 ht1 ht2 hsl
            refine Later.mk ?_
            simp only [setN, Nat.reduceAdd, List.setIfInBounds_toArray, List.set_cons_succ, List.set_cons_zero]
            rw [e10]
            go_simp
            obtain ⟨j1, j2⟩ := put3 hT2 hB2 (Nat.le_refl _) (.string D) (.int .i64 (j : Int)) (.int .i64 0)
            obtain ⟨W9, hW9⟩ : ∃ W9, (((W2.setCell ⟨w.heap.size, 0, none⟩ (.string D)).setCell ⟨w.heap.size, 1, none⟩ (.int .i64 (j : Int))).setCell ⟨w.heap.size, 2, none⟩ (.int .i64 0)) = W9 := ⟨_, rfl⟩
            rw [hW9] at j1 j2 ⊢
            clear hW9 k0 k1 k2 f0 f1 f2 hT2 hB2
            refine hK _ _ ?_
            clear hK
            have k0 := j1.cell_some 0 _ rfl
            have k1 := j1.cell_some 1 _ rfl
            have k2 := j1.cell_some 2 _ rfl
            go_wp2_with fail
            refine bodyPost_ret (v := .agg #[.string D, .int .i64 (j : Int), .int .i64 0]) ?_ rfl ⟨by rw [HN.out], j2⟩
            simp [results, Tryd.results9, go_sem, k0, k1, k2]
end Go.Proofs.YtkklgdefliinoaaDoor
