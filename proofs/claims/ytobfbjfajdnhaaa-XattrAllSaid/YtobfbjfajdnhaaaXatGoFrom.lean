/- Package xattr: From, its panic caught. -/
import Derived.Test.YtobfbjfajdnhaaaXatGoRead
import Derived.Defers
import Derived.Recover
namespace Go.Proofs.Ytobfbjfajdnhaaa
open Go.RowKit
open XatM
set_option linter.unusedVariables false
attribute [local irreducible] Row At

theorem catch_panic (p : Addr) (x : Int) (u : TypeId) (pv : Value) (older : List PanicEntry) (w : World) (hc : w.cell? p = some (.int .i64 x)) (hz : w.frozen? p = false) :
    CallsD Try.prog 21 #[.pointer (some p)] (.panicking ({ v := .iface u pv, recovered := false } :: older)) w fun e u' w' =>
      e = .returned (.tuple #[]) ∧ u' = .panicking ({ v := .iface u pv, recovered := true } :: older) ∧ w' = w.setCell p (.int .i64 4) := by
  refine callsD_of_wpS Try.func21 rfl fun c₀ cs hu => ?_
  apply wpS_seq
  apply wpS_region
  simp [wpOpsS, go_sem, recoverD, hu, Try.ntmps21, Exit.thenS]
  refine wpS_cond (t := true) (by simp [Act.eval, Array.replicate]) ?_
  simp only [if_true]
  apply wpS_region
  simp [wpOpsS, go_sem, hc, hz, bodyPostS, results, Try.results21]
theorem catch_idle (p : Addr) (w : World) :
    CallsD Try.prog 21 #[.pointer (some p)] .returning w fun e u' w' => e = .returned (.tuple #[]) ∧ u' = .returning ∧ w' = w := by
  refine callsD_of_wpS Try.func21 rfl fun c₀ cs hu => ?_
  apply wpS_seq
  apply wpS_region
  simp [wpOpsS, go_sem, recoverD, hu, Try.ntmps21, Exit.thenS]
  refine wpS_cond (t := false) (by simp [Act.eval, Array.replicate]) ?_
  simp only [Bool.false_eq_true, if_false]
  refine wpS_of_wp (wp_skip ?_)
  cases c₀
  simp_all [bodyPostS, results, Try.results21]

/-- What From hands back. -/
def fromGoEnd (B : Nat) (o : Option (List Xa)) (e : Ending) (w' : World) : Prop := match o with
  | some l => ∃ v, e = .returned (.tuple #[v, .int .i64 0]) ∧ Row xatE B v l w'
  | none => e = .returned (.tuple #[.slice none 0 0, .int .i64 4])

set_option maxHeartbeats 1600000 in
theorem From_go (v : Value) (rs : List Xa) (w : World) (hat : At recE v rs w) (hl : rs.length ≤ 1000000) (hsz : ∀ x ∈ rs, x.1.length ≤ 20000 ∧ x.2.length ≤ 20000) :
    Calls Try.prog 9 #[v] w fun e w' => fromGoEnd w.heap.size (fromL rs) e w' ∧ Below w.heap.size w w' := by
  have hmf : ∀ (fn : Fn) (first cap : Array Value) (w : World), (Instr.makeFunc fn first cap).run Try.prog w = .ok (.func fn first cap) w := fun _ _ _ _ => rfl
  have hx0 : Below w.heap.size w (w.alloc (.cells #[.int .i64 0] 28)) := gr_alloc (Below.refl _ _) _
  have hp := Lib.hid (read_go v rs _ (hat.call hx0) hl hsz)
  clear hat hl hsz
  generalize fromL rs = o at *
  go_enter_defers Try.func9, Try.ntmps9
  go_wp2_with fail
  refine (hp.out).mono ?_
  rintro e w2 ⟨he, hb2⟩
  have hc2 : w2.cell? ⟨w.heap.size, 0, none⟩ = some (.int .i64 0) := cell_kept hb2 (by simp [go_sem])
  have hf2 : w2.frozen? ⟨w.heap.size, 0, none⟩ = false := free_kept hb2 (v := .int .i64 0) (by simp [go_sem]) (by simp [go_sem])
  have hs2 := hb2.size
  have hb : Below w.heap.size w w2 := gr_call hx0 hb2
  clear hp hx0
  rcases o with _ | l
  · obtain rfl : e = .panicked noXat := he
    clear hb2
    go_wp2_with fail
    refine leaves_cons (f := 21) (args := #[.pointer (some ⟨w.heap.size, 0, none⟩)]) (by simp) (by simp [go_sem]) ?_
    refine (catch_panic ⟨w.heap.size, 0, none⟩ 0 _ _ [] w2 hc2 hf2).mono ?_
    rintro e u' w'' ⟨rfl, rfl, rfl⟩
    simp [Leaves, settle, results, Try.results9, go_sem, noXat, hc2, hf2, fromGoEnd]
    exact hb.setCell (Nat.le_refl _) _
  · obtain ⟨v', rfl, hR⟩ := he
    have hR' := hR.mono (B' := w.heap.size + 1) (by simp)
    have hown : v'.ownBlock ≠ some w.heap.size := by
      intro e
      have := (hR'.lt _ e).1
      omega
    clear hb2 hR
    go_wp2_with fail
    refine leaves_cons (f := 21) (args := #[.pointer (some ⟨w.heap.size, 0, none⟩)]) (by simp) (by simp [go_sem]) ?_
    refine (catch_idle ⟨w.heap.size, 0, none⟩ _).mono ?_
    rintro e u' w'' ⟨rfl, rfl, rfl⟩
    simp [Leaves, settle, results, Try.results9, go_sem, hc2, hf2, fromGoEnd]
    exact ⟨(hR'.mono (Nat.le_succ _)).other (a := ⟨w.heap.size, 0, none⟩) hown _, hb.setCell (Nat.le_refl _) _⟩
end Go.Proofs.Ytobfbjfajdnhaaa
