/- Walks over package wide: Parse, its panic caught. -/
import Derived.Test.YtikdpoekjfbpaaaDoorWideParse
namespace Go.Proofs.YtikdpoekjfbpaaaDoor
open Go.RowKit
open WideM
set_option linter.unusedVariables false
attribute [local irreducible] Row At

theorem catch_panic (p : Addr) (x : Bool) (u : TypeId) (pv : Value) (older : List PanicEntry) (w : World) (hc : w.cell? p = some (.bool x)) (hz : w.frozen? p = false) :
    CallsD Tryd.prog 17 #[.pointer (some p)] (.panicking ({ v := .iface u pv, recovered := false } :: older)) w fun e u' w' =>
      e = .returned (.tuple #[]) ∧ u' = .panicking ({ v := .iface u pv, recovered := true } :: older) ∧ w' = w.setCell p (.bool false) := by
  refine callsD_of_wpS Tryd.func17 rfl fun c₀ cs hu => ?_
  apply wpS_region
  simp [wpOpsS, go_sem, recoverD, hu, Tryd.ntmps17, hc, hz, bodyPostS, results, Tryd.results17]
theorem catch_idle (p : Addr) (x : Bool) (w : World) (hc : w.cell? p = some (.bool x)) (hz : w.frozen? p = false) :
    CallsD Tryd.prog 17 #[.pointer (some p)] .returning w fun e u' w' => e = .returned (.tuple #[]) ∧ u' = .returning ∧ w' = w.setCell p (.bool true) := by
  refine callsD_of_wpS Tryd.func17 rfl fun c₀ cs hu => ?_
  apply wpS_region
  simp [wpOpsS, go_sem, recoverD, hu, Tryd.ntmps17, hc, hz, bodyPostS, results, Tryd.results17]
  cases c₀
  simp_all

/-- What Parse hands back. -/
def getEnd (B : Nat) (o : Option (List Wid)) (e : Ending) (w' : World) : Prop := match o with
  | some l => ∃ v, e = .returned (.tuple #[v, .bool true]) ∧ Row wideE B v l w'
  | none => e = .returned (.tuple #[.slice none 0 0, .bool false])

set_option maxHeartbeats 800000 in
theorem Parse_any (S : ByteArray) (hS : S.size ≤ 800000) (w : World) (hA : Amb w) :
    Calls Tryd.prog 7 #[.string S] w fun e w' => getEnd w.heap.size (getL S.data.toList) e w' ∧ Below w.heap.size w w' := by
  have hmf : ∀ (fn : Fn) (first cap : Array Value) (w : World), (Instr.makeFunc fn first cap).run Tryd.prog w = .ok (.func fn first cap) w := fun _ _ _ _ => rfl
  have hx0 : Below w.heap.size w (w.alloc (.cells #[.bool false] 4)) := by (repeat' (first | exact Below.refl _ _ | assumption | refine gr_drew ?_ | refine gr_drewN ?_ _ | refine gr_alloc ?_ _ | refine gr_set ?_ ?_ _ | refine gr_call ?_ (by assumption)) <;> (try (simp; done)) <;> (try (simp; omega)) <;> (try omega))
  by_cases h8992 : 8992 < S.size
  · have hd1 : decide ((8992 : Int) < (S.size : Int)) = true := decide_eq_true (by omega)
    have hd2 : decide (8992 < S.size) = true := decide_eq_true h8992
    rw [get_long (by rw [len_list]; exact h8992)]
    clear h8992
    go_enter_defers Tryd.func7, Tryd.ntmps7
    go_wp2_with fail
    obtain ⟨W, hW⟩ : ∃ W, (w.alloc (.cells #[.bool false] 4)) = W := ⟨_, rfl⟩
    have d2 : W.cell? ⟨w.heap.size, 0, none⟩ = some (.bool false) := by subst hW; simp [go_sem, *]
    rw [hW] at hx0 ⊢
    clear hW
    simp [bodyPostD, Leaves, settle, results, Tryd.results7, go_sem, d2, getEnd]
    exact hx0
  have hd1 : decide ((8992 : Int) < (S.size : Int)) = false := decide_eq_false (by omega)
  have hd2 : decide (8992 < S.size) = false := decide_eq_false h8992
  have hp := Lib.hid (parse_any S hS _ (hA.on hx0))
  clear hA
  generalize getL S.data.toList = o at *
  go_enter_defers Tryd.func7, Tryd.ntmps7
  go_wp2_with fail
  refine (hp.out).mono ?_
  rintro e w2 ⟨he, hb2⟩
  have hc2 : w2.cell? ⟨w.heap.size, 0, none⟩ = some (.bool false) := cell_kept hb2 (by simp [go_sem])
  have hf2 : w2.frozen? ⟨w.heap.size, 0, none⟩ = false := free_kept hb2 (v := .bool false) (by simp [go_sem]) (by simp [go_sem])
  have hs2 := hb2.size
  have hb : Below w.heap.size w w2 := gr_call hx0 hb2
  clear hp hx0
  rcases o with _ | l
  · obtain rfl : e = .panicked notPart := he
    clear hb2
    go_wp2_with fail
    refine leaves_cons (f := 17) (args := #[.pointer (some ⟨w.heap.size, 0, none⟩)]) (by simp) (by simp [go_sem]) ?_
    refine (catch_panic ⟨w.heap.size, 0, none⟩ false _ _ [] w2 hc2 hf2).mono ?_
    rintro e u' w'' ⟨rfl, rfl, rfl⟩
    simp [Leaves, settle, results, Tryd.results7, go_sem, notPart, hc2, hf2, getEnd]
    exact hb.setCell (Nat.le_refl _) _
  · obtain ⟨v, rfl, hR⟩ := he
    have hR' := hR.mono (B' := w.heap.size + 1) (by simp)
    have hown : v.ownBlock ≠ some w.heap.size := by
      intro e
      have := (hR'.lt _ e).1
      omega
    clear hb2 hR
    go_wp2_with fail
    refine leaves_cons (f := 17) (args := #[.pointer (some ⟨w.heap.size, 0, none⟩)]) (by simp) (by simp [go_sem]) ?_
    refine (catch_idle ⟨w.heap.size, 0, none⟩ true _ ?_ ?_).mono ?_
    · simp [go_sem, hc2]
    · simp [go_sem, hf2]
    rintro e u' w'' ⟨rfl, rfl, rfl⟩
    simp [Leaves, settle, results, Tryd.results7, go_sem, hc2, hf2, getEnd]
    exact ⟨((hR'.mono (Nat.le_succ _)).other (a := ⟨w.heap.size, 0, none⟩) hown _).other (a := ⟨w.heap.size, 0, none⟩) hown _, (hb.setCell (Nat.le_refl _) _).setCell (Nat.le_refl _) _⟩
end Go.Proofs.YtikdpoekjfbpaaaDoor
