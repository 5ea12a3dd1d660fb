/- Walks: pad.take, pad.Get. -/
import Derived.Test.YtkklgdefliinoaaDoorPadPut
import Derived.Test.YtkklgdefliinoaaDoorRegionP
import Derived.Recover
namespace Go.Proofs.YtkklgdefliinoaaDoor
open Go.RowKit
open PadM
set_option linter.unusedVariables false

/-- What ends the reading. -/
def noMore : List PanicEntry := [{ v := .iface 52 (.agg #[]), recovered := false }]
theorem take_yes (S : ByteArray) (q : Nat) (h : q ≤ S.size) (w : World) :
    Calls Tryd.prog 16 #[.string S, .int .i64 (q : Int)] w fun e w' => e = .returned (.string (S.extract 0 q)) ∧ w = w' := by
  have h1 : ¬ (S.size : Int) < (q : Int) := by omega
  go_enter Tryd.func16, Tryd.ntmps16
  go_wp2_with fail
  go_ret
  exact ⟨rfl, rfl⟩
theorem take_no (S : ByteArray) (q : Nat) (h : S.size < q) (w : World) :
    Calls Tryd.prog 16 #[.string S, .int .i64 (q : Int)] w fun e w' => e = .panicked noMore ∧ w = w' := by
  have h1 : (S.size : Int) < (q : Int) := by omega
  go_enter Tryd.func16, Tryd.ntmps16
  go_wp2_with fail
  exact ⟨rfl, rfl, rfl⟩

theorem catch_panic (p : Addr) (x : Int) (u : TypeId) (pv : Value) (older : List PanicEntry) (w : World) (hc : w.cell? p = some (.int .i64 x)) (hz : w.frozen? p = false) :
    CallsD Tryd.prog 15 #[.pointer (some p)] (.panicking ({ v := .iface u pv, recovered := false } :: older)) w fun e u' w' =>
      e = .returned (.tuple #[]) ∧ u' = .panicking ({ v := .iface u pv, recovered := true } :: older) ∧ w' = w.setCell p (.int .i64 5) := by
  refine callsD_of_wpS Tryd.func15 rfl fun c₀ cs hu => ?_
  apply wpS_seq
  apply wpS_region
  simp [wpOpsS, go_sem, recoverD, hu, Tryd.ntmps15, Exit.thenS]
  refine wpS_cond (t := true) (by simp [Act.eval, Array.replicate]) ?_
  simp only [if_true]
  apply wpS_region
  simp [wpOpsS, go_sem, hc, hz, bodyPostS, results, Tryd.results15]
theorem catch_idle (p : Addr) (w : World) :
    CallsD Tryd.prog 15 #[.pointer (some p)] .returning w fun e u' w' => e = .returned (.tuple #[]) ∧ u' = .returning ∧ w' = w := by
  refine callsD_of_wpS Tryd.func15 rfl fun c₀ cs hu => ?_
  apply wpS_seq
  apply wpS_region
  simp [wpOpsS, go_sem, recoverD, hu, Tryd.ntmps15, Exit.thenS]
  refine wpS_cond (t := false) (by simp [Act.eval, Array.replicate]) ?_
  simp only [Bool.false_eq_true, if_false]
  refine wpS_of_wp (wp_skip ?_)
  cases c₀
  simp_all [bodyPostS, results, Tryd.results15]

/-- What Get hands back. -/
def getV (p : List UInt8 × Int × Int) : Value := .tuple #[.string (strOf p.1), .int .i64 p.2.1, .int .i64 p.2.2]

theorem get_err (w : World) (e : Ending) (p : List UInt8 × Int × Int) (hp : p = ([], 0, 1)) (he : e = .returned (.tuple #[.string ⟨#[]⟩, .int .i64 0, .int .i64 1])) : e = .returned (getV p) := by rw [he, hp]; rfl

set_option maxHeartbeats 800000 in
theorem get_arg (S : ByteArray) (a n : Int) (hS : S.size ≤ 100000) (h : a < 0 ∨ (S.size : Int) < a ∨ n < 0 ∨ 4611686018427387904 < n) (w : World) :
    Calls Tryd.prog 8 #[.string S, .int .i64 a, .int .i64 n] w fun e w' => e = .returned (.tuple #[.string ⟨#[]⟩, .int .i64 0, .int .i64 1]) ∧ Below w.heap.size w w' := by
  have hmf : ∀ (fn : Fn) (first cap : Array Value) (w : World), (Instr.makeFunc fn first cap).run Tryd.prog w = .ok (.func fn first cap) w := fun _ _ _ _ => rfl
  by_cases c1 : a < 0
  · have d1 : decide (a < 0) = true := decide_eq_true c1
    clear c1 h
    go_enter_defers Tryd.func8, Tryd.ntmps8
    go_wp2_with fail
    obtain ⟨W, hW⟩ : ∃ W, (w.alloc (.cells #[.int .i64 1] 23)) = W := ⟨_, rfl⟩
    have d2 : W.cell? ⟨w.heap.size, 0, none⟩ = some (.int .i64 1) := by subst hW; simp [go_sem, *]
    have hbW : Below w.heap.size w W := by subst hW; (repeat' (first | exact Below.refl _ _ | assumption | refine gr_drew ?_ | refine gr_drewN ?_ _ | refine gr_alloc ?_ _ | refine gr_set ?_ ?_ _ | refine gr_call ?_ (by assumption)) <;> (try (simp; done)) <;> (try (simp; omega)) <;> (try omega))
    rw [hW]
    clear hW
    simp [bodyPostD, Leaves, settle, results, Tryd.results8, go_sem, d2]
    first | exact hbW | exact ⟨rfl, hbW⟩
  have d1 : decide (a < 0) = false := decide_eq_false c1
  by_cases c2 : (S.size : Int) < a
  · have d2 : decide ((S.size : Int) < a) = true := decide_eq_true c2
    clear c1 c2 h
    go_enter_defers Tryd.func8, Tryd.ntmps8
    go_wp2_with fail
    obtain ⟨W, hW⟩ : ∃ W, (w.alloc (.cells #[.int .i64 1] 23)) = W := ⟨_, rfl⟩
    have d2 : W.cell? ⟨w.heap.size, 0, none⟩ = some (.int .i64 1) := by subst hW; simp [go_sem, *]
    have hbW : Below w.heap.size w W := by subst hW; (repeat' (first | exact Below.refl _ _ | assumption | refine gr_drew ?_ | refine gr_drewN ?_ _ | refine gr_alloc ?_ _ | refine gr_set ?_ ?_ _ | refine gr_call ?_ (by assumption)) <;> (try (simp; done)) <;> (try (simp; omega)) <;> (try omega))
    rw [hW]
    clear hW
    simp [bodyPostD, Leaves, settle, results, Tryd.results8, go_sem, d2]
    first | exact hbW | exact ⟨rfl, hbW⟩
  have d2 : decide ((S.size : Int) < a) = false := decide_eq_false c2
  by_cases c3 : n < 0
  · have d3 : decide (n < 0) = true := decide_eq_true c3
    clear c1 c2 c3 h
    go_enter_defers Tryd.func8, Tryd.ntmps8
    go_wp2_with fail
    obtain ⟨W, hW⟩ : ∃ W, (w.alloc (.cells #[.int .i64 1] 23)) = W := ⟨_, rfl⟩
    have d2 : W.cell? ⟨w.heap.size, 0, none⟩ = some (.int .i64 1) := by subst hW; simp [go_sem, *]
    have hbW : Below w.heap.size w W := by subst hW; (repeat' (first | exact Below.refl _ _ | assumption | refine gr_drew ?_ | refine gr_drewN ?_ _ | refine gr_alloc ?_ _ | refine gr_set ?_ ?_ _ | refine gr_call ?_ (by assumption)) <;> (try (simp; done)) <;> (try (simp; omega)) <;> (try omega))
    rw [hW]
    clear hW
    simp [bodyPostD, Leaves, settle, results, Tryd.results8, go_sem, d2]
    first | exact hbW | exact ⟨rfl, hbW⟩
  have d3 : decide (n < 0) = false := decide_eq_false c3
  have d4 : decide (4611686018427387904 < n) = true := decide_eq_true (by omega)
  clear c1 c2 c3 h
  go_enter_defers Tryd.func8, Tryd.ntmps8
  go_wp2_with fail
  obtain ⟨W, hW⟩ : ∃ W, (w.alloc (.cells #[.int .i64 1] 23)) = W := ⟨_, rfl⟩
  have d2 : W.cell? ⟨w.heap.size, 0, none⟩ = some (.int .i64 1) := by subst hW; simp [go_sem, *]
  have hbW : Below w.heap.size w W := by subst hW; (repeat' (first | exact Below.refl _ _ | assumption | refine gr_drew ?_ | refine gr_drewN ?_ _ | refine gr_alloc ?_ _ | refine gr_set ?_ ?_ _ | refine gr_call ?_ (by assumption)) <;> (try (simp; done)) <;> (try (simp; omega)) <;> (try omega))
  rw [hW]
  clear hW
  simp [bodyPostD, Leaves, settle, results, Tryd.results8, go_sem, d2]
  first | exact hbW | exact ⟨rfl, hbW⟩

set_option maxHeartbeats 800000 in
theorem get_short (S : ByteArray) (i k q : Nat) (hi : i ≤ S.size) (hk : (k : Int) ≤ 4611686018427387904) (hq : sz (k : Int) = (q : Int)) (h : S.size - i < q) (hS : S.size ≤ 100000) (w : World) :
    Calls Tryd.prog 8 #[.string S, .int .i64 (i : Int), .int .i64 (k : Int)] w fun e w' => e = .returned (.tuple #[.string ⟨#[]⟩, .int .i64 0, .int .i64 5]) ∧ Below w.heap.size w w' := by
  have hmf : ∀ (fn : Fn) (first cap : Array Value) (w : World), (Instr.makeFunc fn first cap).run Tryd.prog w = .ok (.func fn first cap) w := fun _ _ _ _ => rfl
  have hsize := fun w => size_any (k : Int) w
  rw [hq] at hsize
  clear hq
  obtain ⟨z, hz⟩ : ∃ z, S.size = z := ⟨_, rfl⟩
  have htake := fun w => take_no (S.extract i z) q (by rw [← size_L, L, Lib.extract_data]; simp; omega) w
  replace htake := Lib.hid htake
  replace hsize := Lib.hid hsize
  rw [hz] at hi hS
  have d1 : decide ((i : Int) < 0) = false := decide_eq_false (by omega)
  have d2 : decide ((z : Int) < (i : Int)) = false := decide_eq_false (by omega)
  have d2' : decide (z < i) = false := decide_eq_false (by omega)
  have d3 : decide ((k : Int) < 0) = false := decide_eq_false (by omega)
  have d4 : decide (4611686018427387904 < (k : Int)) = false := decide_eq_false (by omega)
  have d4' : decide (4611686018427387904 < k) = false := decide_eq_false (by omega)
  clear h hk
  go_enter_defers Tryd.func8, Tryd.ntmps8
  go_wp2_with fail
  obtain ⟨W, hW⟩ : ∃ W, (w.alloc (.cells #[.int .i64 0] 23)) = W := ⟨_, rfl⟩
  have e0 : W.drew.cell? ⟨w.heap.size, 0, none⟩ = some (.int .i64 0) := by subst hW; simp [go_sem, *]
  have e1 : W.drew.frozen? ⟨w.heap.size, 0, none⟩ = false := by subst hW; simp [go_sem, *]
  have hbW : Below w.heap.size w W.drew := by subst hW; (repeat' (first | exact Below.refl _ _ | assumption | refine gr_drew ?_ | refine gr_drewN ?_ _ | refine gr_alloc ?_ _ | refine gr_set ?_ ?_ _ | refine gr_call ?_ (by assumption)) <;> (try (simp; done)) <;> (try (simp; omega)) <;> (try omega))
  rw [hW]
  clear hW
  have hSlice : ∀ w, (Instr.slice 9 (.string S) (some (.int .i64 (i : Int))) none none).run Tryd.prog w = .ok (.string (S.extract i z)) w := fun w => by
    simp [go_sem, Tryd.underlying9, hz]
    omega
  refine region_listP (S := fun W => Below w.heap.size w W ∧ W.cell? ⟨w.heap.size, 0, none⟩ = some (.int .i64 0) ∧ W.frozen? ⟨w.heap.size, 0, none⟩ = false)
    [(fun W v => v = .string S),
     (fun W v => v = .int .i64 (i : Int)),
     (fun W v => v = .string (S.extract i z)),
     (fun W v => v = .int .i64 (k : Int)),
     (fun W v => v = .int .i64 (q : Int)),
     (fun W v => False),
     (fun W v => False)] (by kernel_rfl) (by kernel_rfl) (by kernel_rfl) ?hS ?hp ?hs ?he
  case hS => exact ⟨hbW, e0, e1⟩
  case hp => repeat' (first | exact trivial | refine ⟨fun _ _ _ _ h => h, ?_⟩)
  case hs =>
    refine ⟨?_, ?_, ?_, ?_, ?_, ?_, ?_, trivial⟩
    · intro a W K hS hd hD hZ hf hK
      have e0 : a.tmps.getD 0 undef = .string S := hf 0 (by kernel_rfl)
      clear hd hf hD hZ
      go_simp
      exact hK _ _ (Below.refl _ _) hS rfl
    · intro a W K hS hd hD hZ hf hK
      have e1 : a.tmps.getD 1 undef = .int .i64 (i : Int) := hf 1 (by kernel_rfl)
      clear hd hf hD hZ
      go_simp
      exact hK _ _ (Below.refl _ _) hS rfl
    · intro a W K hS hd hD hZ hf hK
      have e27 : a.tmps.getD 27 undef = .string S := hd ⟨0, .data⟩ (by simp) rfl
      have e28 : a.tmps.getD 28 undef = .int .i64 (i : Int) := hd ⟨1, .data⟩ (by simp) rfl
      clear hd hf hD hZ
      go_simp
      exact hK _ _ (Below.refl _ _) hS rfl
    · intro a W K hS hd hD hZ hf hK
      have e2 : a.tmps.getD 2 undef = .int .i64 (k : Int) := hf 2 (by kernel_rfl)
      clear hd hf hD hZ
      go_simp
      exact hK _ _ (Below.refl _ _) hS rfl
    · intro a W K hS hd hD hZ hf hK
      have e30 : a.tmps.getD 30 undef = .int .i64 (k : Int) := hd ⟨3, .data⟩ (by simp) rfl
      clear hd hf hD hZ
      go_simp
      go_at_call 10
      refine (hsize.out _).mono ?_
      rintro e w1 ⟨rfl, rfl⟩
      exact hK _ _ (Below.refl _ _) hS rfl
    · intro a W K hS hd hD hZ hf hK
      have e29 : a.tmps.getD 29 undef = .string (S.extract i z) := hd ⟨2, .data⟩ (by simp) rfl
      have e31 : a.tmps.getD 31 undef = .int .i64 (q : Int) := hd ⟨4, .data⟩ (by simp) rfl
      have e6 : a.tmps.getD 6 undef = .string ⟨#[]⟩ := hf 6 (by kernel_rfl)
      have e7 : a.tmps.getD 7 undef = .int .i64 0 := hf 7 (by kernel_rfl)
      have e8 : a.tmps.getD 8 undef = .pointer (some ⟨w.heap.size, 0, none⟩) := hf 8 (by kernel_rfl)
      have hD1 : a.defers = [{ target := .fn (.func 15) #[.pointer (some ⟨w.heap.size, 0, none⟩)], args := #[] }] := hD
      clear hd hf hD hZ hK
      go_simp
      go_at_call 16
      refine (htake.out _).mono ?_
      rintro e w1 ⟨rfl, rfl⟩
      show Leaves Tryd.prog _ a.tmps _ a.defers (.panicking noMore) W
      rw [hD1]
      have c2 := hS.2.1
      have f2 := hS.2.2
      refine leaves_cons (f := 15) (args := #[.pointer (some ⟨w.heap.size, 0, none⟩)]) (by simp) (by simp [go_sem]) ?_
      refine (catch_panic ⟨w.heap.size, 0, none⟩ 0 _ _ [] W c2 f2).mono ?_
      rintro e u' w'' ⟨rfl, rfl, rfl⟩
      rw [Array.getD_eq_getD_getElem?] at e6 e7 e8
      simp [Leaves, settle, results, Tryd.results8, go_sem, noMore, c2, f2, e6, e7, e8]
      exact hS.1.setCell (p := ⟨w.heap.size, 0, none⟩) (Nat.le_refl _) _
    · intro a W K hS hd hD hZ hf hK
      exact (hd ⟨5, .data⟩ (by simp) rfl).elim
  case he =>
    intro vals w2 hS2 hV
    exact (hV 5 (by decide)).elim

set_option maxHeartbeats 1600000 in
theorem get_full (S : ByteArray) (i k q : Nat) (hi : i ≤ S.size) (hk : (k : Int) ≤ 4611686018427387904) (hq : sz (k : Int) = (q : Int)) (hkq : k ≤ q) (h : q ≤ S.size - i) (hS : S.size ≤ 100000) (X : ByteArray) (hX : (S.extract i S.size).extract 0 q = X) (w : World) :
    Calls Tryd.prog 8 #[.string S, .int .i64 (i : Int), .int .i64 (k : Int)] w fun e w' =>
      e = .returned (if (L X).drop k |>.all (· == 0) then .tuple #[.string (X.extract 0 k), .int .i64 ((i : Int) + (q : Int)), .int .i64 0] else .tuple #[.string ⟨#[]⟩, .int .i64 0, .int .i64 4]) ∧ Below w.heap.size w w' := by
  have hmf : ∀ (fn : Fn) (first cap : Array Value) (w : World), (Instr.makeFunc fn first cap).run Tryd.prog w = .ok (.func fn first cap) w := fun _ _ _ _ => rfl
  have hsize := fun w => size_any (k : Int) w
  rw [hq] at hsize
  clear hq
  obtain ⟨z, hz⟩ : ∃ z, S.size = z := ⟨_, rfl⟩
  have hYs : (S.extract i z).size = z - i := by rw [← size_L, L, Lib.extract_data]; simp; omega
  have hXs : X.size = q := by rw [← hX, hz, ← size_L, L, Lib.extract_data]; simp; omega
  have htake := fun w => take_yes (S.extract i z) q (by omega) w
  rw [hz] at hX hi hS h
  rw [hX] at htake
  have hTs : (X.extract k q).size ≤ 9223372036854775807 := by rw [← size_L, L, Lib.extract_data]; simp; omega
  have htrim := fun w => trim_any (X.extract k q) hTs w
  have hTL : L (X.extract k q) = (L X).drop k := by
    unfold L
    rw [Lib.extract_data]
    rw [List.take_of_length_le (by simp; omega)]
  rw [hTL] at htrim
  have hnil := trim_nil ((L X).drop k)
  obtain ⟨T, hT⟩ : ∃ T, strOf (Lib.trimB ((L X).drop k) 0) = T := ⟨_, rfl⟩
  rw [hT] at htrim
  have hcl := fun w => clone_any (X.extract 0 k) w (by rw [← size_L, L, Lib.extract_data]; simp; omega)
  replace htake := Lib.hid htake
  replace hsize := Lib.hid hsize
  replace htrim := Lib.hid htrim
  replace hcl := Lib.hid hcl
  have d1 : decide ((i : Int) < 0) = false := decide_eq_false (by omega)
  have d2 : decide ((z : Int) < (i : Int)) = false := decide_eq_false (by omega)
  have d2' : decide (z < i) = false := decide_eq_false (by omega)
  have d3 : decide ((k : Int) < 0) = false := decide_eq_false (by omega)
  have d4 : decide (4611686018427387904 < (k : Int)) = false := decide_eq_false (by omega)
  have d4' : decide (4611686018427387904 < k) = false := decide_eq_false (by omega)
  have hsum : IntKind.i64.wrap ((i : Int) + (q : Int)) = (i : Int) + (q : Int) := by rw [IntKind.wrap_i64]; omega
  have hTe : T.toList = Lib.trimB ((L X).drop k) 0 := by rw [Lib.toList_data, ← hT]; exact L_strOf _
  have hTe2 : T.data.toList = Lib.trimB ((L X).drop k) 0 := by rw [← hT]; exact L_strOf _
  clear hX hT hTL hk
  rcases hall : ((L X).drop k).all (· == 0) with _ | _
  · have hne : ¬ T.toList = [] := by rw [hTe, hnil, hall]; decide
    have hn1 : (T.toList == []) = false := by rw [beq_eq_false_iff_ne]; exact hne
    have hn2 : T.toList.isEmpty = false := by cases hh : T.toList with | nil => exact absurd hh hne | cons => rfl
    clear hall hnil hTe hTe2
    rw [if_neg (by decide)]
    go_enter_defers Tryd.func8, Tryd.ntmps8
    go_wp2_with fail
    obtain ⟨W, hW⟩ : ∃ W, (w.alloc (.cells #[.int .i64 0] 23)) = W := ⟨_, rfl⟩
    have e0 : W.drew.cell? ⟨w.heap.size, 0, none⟩ = some (.int .i64 0) := by subst hW; simp [go_sem, *]
    have e1 : W.drew.frozen? ⟨w.heap.size, 0, none⟩ = false := by subst hW; simp [go_sem, *]
    have hbW : Below w.heap.size w W.drew := by subst hW; (repeat' (first | exact Below.refl _ _ | assumption | refine gr_drew ?_ | refine gr_drewN ?_ _ | refine gr_alloc ?_ _ | refine gr_set ?_ ?_ _ | refine gr_call ?_ (by assumption)) <;> (try (simp; done)) <;> (try (simp; omega)) <;> (try omega))
    rw [hW]
    clear hW
    go_region_held3 (fun w' => Below w.heap.size w w' ∧ w'.cell? ⟨w.heap.size, 0, none⟩ = some (.int .i64 0) ∧ w'.frozen? ⟨w.heap.size, 0, none⟩ = false)
      (first | (go_keep; done) | (go_split_ands; (repeat' apply And.intro) <;> (first | assumption | exact Amb.on (by assumption) hb1 | exact gr_call (by assumption) hb1 | exact cell_kept hb1 (by assumption) | exact free_kept hb1 (by assumption) (by assumption) | (show Below _ _ _; (repeat' (first | exact Below.refl _ _ | assumption | refine gr_drew ?_ | refine gr_drewN ?_ _ | refine gr_alloc ?_ _ | refine gr_set ?_ ?_ _ | refine gr_call ?_ (by assumption)) <;> (try (simp; done)) <;> (try (simp; omega)) <;> (try omega)); done) | (go_keep; done) | (simp [go_sem, *]; done))))
      (first
        | (go_at_call 10; go_split_ands; refine (hsize.out _).mono ?_; rintro e w1 ⟨rfl, rfl⟩)
        | (go_at_call 16; go_split_ands; refine (htake.out _).mono ?_; rintro e w1 ⟨rfl, rfl⟩))
    go_split_ands
    obtain ⟨V, hV⟩ : ∃ V, W.drew = V := ⟨_, rfl⟩
    rw [hV] at e0 e1 hbW ⊢
    clear hV
    go_wp2_with fail
    refine (htrim.out _).mono ?_
    rintro e w1 ⟨rfl, hb1⟩
    have hB1 := gr_call hbW hb1
    have g0 := cell_kept hb1 e0
    have g1 := free_kept hb1 e0 e1
    clear e0 e1 hbW hb1 htrim hsize htake
    go_wp2_with fail
    refine leaves_cons (f := 15) (args := #[.pointer (some ⟨w.heap.size, 0, none⟩)]) (by simp) (by simp [go_sem]) ?_
    refine (catch_idle ⟨w.heap.size, 0, none⟩ _).mono ?_
    rintro e u' w'' ⟨rfl, rfl, rfl⟩
    simp [Leaves, settle, results, Tryd.results8, go_sem, g0]
    exact hB1.setCell (p := ⟨w.heap.size, 0, none⟩) (Nat.le_refl _) _
  · have hne : T.toList = [] := by rw [hTe, hnil, hall]
    have hn1 : (T.toList == []) = true := by rw [hne]; rfl
    have hn2 : T.toList.isEmpty = true := by rw [hne]; rfl
    clear hall hnil hTe hTe2 hne
    rw [if_pos rfl]
    go_enter_defers Tryd.func8, Tryd.ntmps8
    go_wp2_with fail
    obtain ⟨W, hW⟩ : ∃ W, (w.alloc (.cells #[.int .i64 0] 23)) = W := ⟨_, rfl⟩
    have e0 : W.drew.cell? ⟨w.heap.size, 0, none⟩ = some (.int .i64 0) := by subst hW; simp [go_sem, *]
    have e1 : W.drew.frozen? ⟨w.heap.size, 0, none⟩ = false := by subst hW; simp [go_sem, *]
    have hbW : Below w.heap.size w W.drew := by subst hW; (repeat' (first | exact Below.refl _ _ | assumption | refine gr_drew ?_ | refine gr_drewN ?_ _ | refine gr_alloc ?_ _ | refine gr_set ?_ ?_ _ | refine gr_call ?_ (by assumption)) <;> (try (simp; done)) <;> (try (simp; omega)) <;> (try omega))
    rw [hW]
    clear hW
    go_region_held3 (fun w' => Below w.heap.size w w' ∧ w'.cell? ⟨w.heap.size, 0, none⟩ = some (.int .i64 0) ∧ w'.frozen? ⟨w.heap.size, 0, none⟩ = false)
      (first | (go_keep; done) | (go_split_ands; (repeat' apply And.intro) <;> (first | assumption | exact Amb.on (by assumption) hb1 | exact gr_call (by assumption) hb1 | exact cell_kept hb1 (by assumption) | exact free_kept hb1 (by assumption) (by assumption) | (show Below _ _ _; (repeat' (first | exact Below.refl _ _ | assumption | refine gr_drew ?_ | refine gr_drewN ?_ _ | refine gr_alloc ?_ _ | refine gr_set ?_ ?_ _ | refine gr_call ?_ (by assumption)) <;> (try (simp; done)) <;> (try (simp; omega)) <;> (try omega)); done) | (go_keep; done) | (simp [go_sem, *]; done))))
      (first
        | (go_at_call 10; go_split_ands; refine (hsize.out _).mono ?_; rintro e w1 ⟨rfl, rfl⟩)
        | (go_at_call 16; go_split_ands; refine (htake.out _).mono ?_; rintro e w1 ⟨rfl, rfl⟩))
    go_split_ands
    obtain ⟨V, hV⟩ : ∃ V, W.drew = V := ⟨_, rfl⟩
    rw [hV] at e0 e1 hbW ⊢
    clear hV
    go_wp2_with fail
    refine (htrim.out _).mono ?_
    rintro e w1 ⟨rfl, hb1⟩
    have hB1 := gr_call hbW hb1
    have g0 := cell_kept hb1 e0
    have g1 := free_kept hb1 e0 e1
    clear e0 e1 hbW hb1 htrim hsize htake
    go_wp2_with fail
    refine (hcl.out _).mono ?_
    rintro e w2 ⟨rfl, hb2⟩
    have hB2 := gr_call hB1 hb2
    have k0 := cell_kept hb2 g0
    have k1 := free_kept hb2 g0 g1
    clear g0 g1 hB1 hb2 hcl
    go_wp2_with fail
    refine leaves_cons (f := 15) (args := #[.pointer (some ⟨w.heap.size, 0, none⟩)]) (by simp) (by simp [go_sem]) ?_
    refine (catch_idle ⟨w.heap.size, 0, none⟩ _).mono ?_
    rintro e u' w'' ⟨rfl, rfl, rfl⟩
    simp [Leaves, settle, results, Tryd.results8, go_sem, k0]
    exact hB2.setCell (p := ⟨w.heap.size, 0, none⟩) (Nat.le_refl _) _
end Go.Proofs.YtkklgdefliinoaaDoor
