/- Walks over package rec: Get. -/
import Derived.Test.YtbjklpodkopgiaaDoorRecGet
namespace Go.Proofs.YtbjklpodkopgiaaDoor
open Go.RowKit
open RecM
open Go.Lib (decDigits)
set_option linter.unusedVariables false

theorem catch_panic (p : Addr) (x : Int) (u : TypeId) (pv : Value) (older : List PanicEntry) (w : World) (hc : w.cell? p = some (.int .i64 x)) (hz : w.frozen? p = false) :
    CallsD Tryd.prog 22 #[.pointer (some p)] (.panicking ({ v := .iface u pv, recovered := false } :: older)) w fun e u' w' =>
      e = .returned (.tuple #[]) ∧ u' = .panicking ({ v := .iface u pv, recovered := true } :: older) ∧ w' = w.setCell p (.int .i64 4) := by
  refine callsD_of_wpS Tryd.func22 rfl fun c₀ cs hu => ?_
  apply wpS_seq
  apply wpS_region
  simp [wpOpsS, go_sem, recoverD, hu, Tryd.ntmps22, Exit.thenS]
  refine wpS_cond (t := true) (by simp [Act.eval, Array.replicate]) ?_
  simp only [if_true]
  apply wpS_region
  simp [wpOpsS, go_sem, hc, hz, bodyPostS, results, Tryd.results22]
theorem catch_idle (p : Addr) (w : World) :
    CallsD Tryd.prog 22 #[.pointer (some p)] .returning w fun e u' w' => e = .returned (.tuple #[]) ∧ u' = .returning ∧ w' = w := by
  refine callsD_of_wpS Tryd.func22 rfl fun c₀ cs hu => ?_
  apply wpS_seq
  apply wpS_region
  simp [wpOpsS, go_sem, recoverD, hu, Tryd.ntmps22, Exit.thenS]
  refine wpS_cond (t := false) (by simp [Act.eval, Array.replicate]) ?_
  simp only [Bool.false_eq_true, if_false]
  refine wpS_of_wp (wp_skip ?_)
  cases c₀
  simp_all [bodyPostS, results, Tryd.results22]

/-- What Get hands back. -/
def getV (o : Option (List UInt8 × List UInt8 × Nat)) (at_ : Nat) : Value := match o with
  | some (k, v, n) => .tuple #[.agg #[.string (strOf k), .string (strOf v)], .int .i64 ((at_ + n : Nat) : Int), .int .i64 0]
  | none => .tuple #[.agg #[.string ⟨#[]⟩, .string ⟨#[]⟩], .int .i64 0, .int .i64 4]
def errV (e : Int) : Value := .tuple #[.agg #[.string ⟨#[]⟩, .string ⟨#[]⟩], .int .i64 0, .int .i64 e]

set_option maxHeartbeats 800000 in
theorem get_any (S : ByteArray) (i : Nat) (hi : i < S.size) (hS : S.size ≤ 90000) (w : World) (hA : Amb w) :
    Calls Tryd.prog 9 #[.string S, .int .i64 (i : Int)] w fun e w' => e = .returned (getV (getF (S.data.toList.drop i)) i) ∧ Below w.heap.size w w' := by
  have hmf : ∀ (fn : Fn) (first cap : Array Value) (w : World), (Instr.makeFunc fn first cap).run Tryd.prog w = .ok (.func fn first cap) w := fun _ _ _ _ => rfl
  obtain ⟨z, hz⟩ : ∃ z, S.size = z := ⟨_, rfl⟩
  have hdec := decode_any (S.extract i z) (by rw [← len_list, ext_mid, List.length_drop, List.length_take, len_list]; omega)
  have hex : (S.extract i z).data.toList = S.data.toList.drop i := by
    rw [ext_mid, List.take_of_length_le (by rw [len_list]; omega)]
  rw [hex] at hdec
  have hdec := Lib.hid hdec
  clear hex
  rw [hz] at hi hS
  have h1 : decide ((i : Int) < 0) = false := decide_eq_false (by omega)
  have h2 : decide ((z : Int) < (i : Int)) = false := by simp; omega
  have h3 : ((i : Int) == (z : Int)) = false := by rw [beq_eq_false_iff_ne]; omega
  have h4 : ¬ 9223372036854775807 < i + z := by omega
  go_enter_defers Tryd.func9, Tryd.ntmps9
  go_wp2_with fail
  refine (hdec.out _ (hA.on (by (repeat' (first | exact Below.refl _ _ | assumption | refine gr_drew ?_ | refine gr_drewN ?_ _ | refine gr_alloc ?_ _ | refine gr_set ?_ ?_ _ | refine gr_call ?_ (by assumption)) <;> (try (simp; done)) <;> (try (simp; omega)) <;> (try omega))))).mono ?_
  rintro e w1 ⟨he, hbw1⟩
  have hzw1 := hbw1.size
  try simp at hzw1
  have : w.heap.size < w1.heap.size := by omega
  have : w.heap.size ≤ w1.heap.size := by omega
  have : w1.cell? ⟨w.heap.size, 0, none⟩ = some (.string ⟨#[]⟩) := cell_kept hbw1 (by simp [go_sem, *])
  have : w1.frozen? ⟨w.heap.size, 0, none⟩ = false := free_kept hbw1 (v := .string ⟨#[]⟩) (by simp [go_sem, *]) (by simp [go_sem, *])
  have : w.heap.size < w1.heap.size := by omega
  have : w.heap.size ≤ w1.heap.size := by omega
  have : w1.cell? ⟨w.heap.size, 1, none⟩ = some (.string ⟨#[]⟩) := cell_kept hbw1 (by simp [go_sem, *])
  have : w1.frozen? ⟨w.heap.size, 1, none⟩ = false := free_kept hbw1 (v := .string ⟨#[]⟩) (by simp [go_sem, *]) (by simp [go_sem, *])
  have : w.heap.size + 1 < w1.heap.size := by omega
  have : w.heap.size + 1 ≤ w1.heap.size := by omega
  have : w1.cell? ⟨w.heap.size + 1, 0, none⟩ = some (.int .i64 0) := cell_kept hbw1 (by simp [go_sem, *])
  have : w1.frozen? ⟨w.heap.size + 1, 0, none⟩ = false := free_kept hbw1 (v := .int .i64 0) (by simp [go_sem, *]) (by simp [go_sem, *])
  have c0 : w1.cell? ⟨w.heap.size, 0, none⟩ = some (.string ⟨#[]⟩) := by assumption
  have c1 : w1.cell? ⟨w.heap.size, 1, none⟩ = some (.string ⟨#[]⟩) := by assumption
  have c2 : w1.cell? ⟨w.heap.size + 1, 0, none⟩ = some (.int .i64 0) := by assumption
  have f2 : w1.frozen? ⟨w.heap.size + 1, 0, none⟩ = false := by assumption
  have f0 : w1.frozen? ⟨w.heap.size, 0, none⟩ = false := by assumption
  have f1 : w1.frozen? ⟨w.heap.size, 1, none⟩ = false := by assumption
  have hb : Below w.heap.size w w1 := by (repeat' (first | exact Below.refl _ _ | assumption | refine gr_drew ?_ | refine gr_drewN ?_ _ | refine gr_alloc ?_ _ | refine gr_set ?_ ?_ _ | refine gr_call ?_ (by assumption)) <;> (try (simp; done)) <;> (try (simp; omega)) <;> (try omega))
  rcases hg : getF (S.data.toList.drop i) with _ | ⟨k, v, n⟩
  · rw [hg] at he
    obtain rfl : e = .panicked noRec := he
    have Hg := Lib.hid hg
    clear hg hbw1
    go_wp2_with fail
    refine leaves_cons (f := 22) (args := #[.pointer (some ⟨w.heap.size + 1, 0, none⟩)]) (by simp) (by simp [go_sem]) ?_
    refine (catch_panic ⟨w.heap.size + 1, 0, none⟩ 0 _ _ [] w1 c2 f2).mono ?_
    rintro e u' w'' ⟨rfl, rfl, rfl⟩
    simp [Leaves, settle, results, Tryd.results9, go_sem, noRec, c0, c1, c2, f2]
    rw [Hg.out]
    exact ⟨rfl, hb.setCell (by show w.heap.size ≤ w.heap.size + 1; omega) _⟩
  · rw [hg] at he
    have hp := get_pos hg
    rw [List.length_drop, len_list, hz] at hp
    obtain rfl : e = .returned (.tuple #[.agg #[.string (strOf k), .string (strOf v)], .int .i64 (n : Int)]) := he
    have hn2 : i + n ≤ 90000 := by omega
    have Hg := Lib.hid hg
    clear hg hbw1 hp
    go_wp2_with fail
    refine leaves_cons (f := 22) (args := #[.pointer (some ⟨w.heap.size + 1, 0, none⟩)]) (by simp) (by simp [go_sem]) ?_
    refine (catch_idle ⟨w.heap.size + 1, 0, none⟩ _).mono ?_
    rintro e u' w'' ⟨rfl, rfl, rfl⟩
    obtain ⟨W, hW⟩ : ∃ W, ((((w1.setCell ⟨w.heap.size, 0, none⟩ (.string (strOf k))).setCell ⟨w.heap.size, 1, none⟩ (.string (strOf v))).setCell ⟨w.heap.size + 1, 0, none⟩ (.int .i64 0)).alloc (.cells #[.string (strOf k), .string (strOf v)] 23)) = W := ⟨_, rfl⟩
    have d0 : W.cell? ⟨w.heap.size, 0, none⟩ = some (.string (strOf k)) := by subst hW; simp [go_sem, *]
    have d1 : W.cell? ⟨w.heap.size, 1, none⟩ = some (.string (strOf v)) := by subst hW; simp [go_sem, *]
    have d2 : W.cell? ⟨w.heap.size + 1, 0, none⟩ = some (.int .i64 0) := by subst hW; simp [go_sem, *]
    have hbW : Below w.heap.size w W := by subst hW; (repeat' (first | exact Below.refl _ _ | assumption | refine gr_drew ?_ | refine gr_drewN ?_ _ | refine gr_alloc ?_ _ | refine gr_set ?_ ?_ _ | refine gr_call ?_ (by assumption)) <;> (try (simp; done)) <;> (try (simp; omega)) <;> (try omega))
    rw [hW, Hg.out]
    clear hW
    simp [Leaves, settle, results, Tryd.results9, go_sem, d0, d1, d2]
    exact ⟨rfl, hbW⟩
theorem get_neg (S : ByteArray) (x : Int) (hx : x < 0) (hS : S.size ≤ 90000) (w : World) :
    Calls Tryd.prog 9 #[.string S, .int .i64 x] w fun e w' => e = .returned (errV 1) ∧ Below w.heap.size w w' := by
  have h1 : decide (x < 0) = true := decide_eq_true hx
  clear hx
  go_enter_defers Tryd.func9, Tryd.ntmps9
  go_wp2_with fail
  obtain ⟨W, hW⟩ : ∃ W, (((w.alloc (.cells #[.string ⟨#[]⟩, .string ⟨#[]⟩] 23)).alloc (.cells #[.int .i64 1] 25))) = W := ⟨_, rfl⟩
  have d0 : W.cell? ⟨w.heap.size, 0, none⟩ = some (.string ⟨#[]⟩) := by subst hW; simp [go_sem, *]
  have d1 : W.cell? ⟨w.heap.size, 1, none⟩ = some (.string ⟨#[]⟩) := by subst hW; simp [go_sem, *]
  have d2 : W.cell? ⟨w.heap.size + 1, 0, none⟩ = some (.int .i64 1) := by subst hW; simp [go_sem, *]
  have hbW : Below w.heap.size w W := by subst hW; (repeat' (first | exact Below.refl _ _ | assumption | refine gr_drew ?_ | refine gr_drewN ?_ _ | refine gr_alloc ?_ _ | refine gr_set ?_ ?_ _ | refine gr_call ?_ (by assumption)) <;> (try (simp; done)) <;> (try (simp; omega)) <;> (try omega))
  rw [hW]
  clear hW
  simp [bodyPostD, Leaves, settle, results, Tryd.results9, go_sem, d0, d1, d2]
  exact ⟨rfl, hbW⟩
theorem get_over (S : ByteArray) (x : Int) (hx : (S.size : Int) < x) (hS : S.size ≤ 90000) (w : World) :
    Calls Tryd.prog 9 #[.string S, .int .i64 x] w fun e w' => e = .returned (errV 1) ∧ Below w.heap.size w w' := by
  have h1 : decide (x < 0) = false := decide_eq_false (by omega)
  have h2 : decide ((S.size : Int) < x) = true := decide_eq_true hx
  clear hx
  go_enter_defers Tryd.func9, Tryd.ntmps9
  go_wp2_with fail
  obtain ⟨W, hW⟩ : ∃ W, (((w.alloc (.cells #[.string ⟨#[]⟩, .string ⟨#[]⟩] 23)).alloc (.cells #[.int .i64 1] 25))) = W := ⟨_, rfl⟩
  have d0 : W.cell? ⟨w.heap.size, 0, none⟩ = some (.string ⟨#[]⟩) := by subst hW; simp [go_sem, *]
  have d1 : W.cell? ⟨w.heap.size, 1, none⟩ = some (.string ⟨#[]⟩) := by subst hW; simp [go_sem, *]
  have d2 : W.cell? ⟨w.heap.size + 1, 0, none⟩ = some (.int .i64 1) := by subst hW; simp [go_sem, *]
  have hbW : Below w.heap.size w W := by subst hW; (repeat' (first | exact Below.refl _ _ | assumption | refine gr_drew ?_ | refine gr_drewN ?_ _ | refine gr_alloc ?_ _ | refine gr_set ?_ ?_ _ | refine gr_call ?_ (by assumption)) <;> (try (simp; done)) <;> (try (simp; omega)) <;> (try omega))
  rw [hW]
  clear hW
  simp [bodyPostD, Leaves, settle, results, Tryd.results9, go_sem, d0, d1, d2]
  exact ⟨rfl, hbW⟩
theorem get_end (S : ByteArray) (x : Int) (hx : x = (S.size : Int)) (hS : S.size ≤ 90000) (w : World) :
    Calls Tryd.prog 9 #[.string S, .int .i64 x] w fun e w' => e = .returned (errV 5) ∧ Below w.heap.size w w' := by
  have h1 : decide (x < 0) = false := decide_eq_false (by omega)
  have h2 : decide ((S.size : Int) < x) = false := decide_eq_false (by omega)
  have h3 : (x == (S.size : Int)) = true := by rw [hx]; simp
  clear hx
  go_enter_defers Tryd.func9, Tryd.ntmps9
  go_wp2_with fail
  obtain ⟨W, hW⟩ : ∃ W, (((w.alloc (.cells #[.string ⟨#[]⟩, .string ⟨#[]⟩] 23)).alloc (.cells #[.int .i64 5] 25))) = W := ⟨_, rfl⟩
  have d0 : W.cell? ⟨w.heap.size, 0, none⟩ = some (.string ⟨#[]⟩) := by subst hW; simp [go_sem, *]
  have d1 : W.cell? ⟨w.heap.size, 1, none⟩ = some (.string ⟨#[]⟩) := by subst hW; simp [go_sem, *]
  have d2 : W.cell? ⟨w.heap.size + 1, 0, none⟩ = some (.int .i64 5) := by subst hW; simp [go_sem, *]
  have hbW : Below w.heap.size w W := by subst hW; (repeat' (first | exact Below.refl _ _ | assumption | refine gr_drew ?_ | refine gr_drewN ?_ _ | refine gr_alloc ?_ _ | refine gr_set ?_ ?_ _ | refine gr_call ?_ (by assumption)) <;> (try (simp; done)) <;> (try (simp; omega)) <;> (try omega))
  rw [hW]
  clear hW
  simp [bodyPostD, Leaves, settle, results, Tryd.results9, go_sem, d0, d1, d2]
  exact ⟨rfl, hbW⟩
end Go.Proofs.YtbjklpodkopgiaaDoor
