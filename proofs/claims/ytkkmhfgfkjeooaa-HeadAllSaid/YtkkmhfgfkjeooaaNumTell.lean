/- Walks over package num: Octal, Base, Field. -/
import Derived.Test.YtkkmhfgfkjeooaaNumAttempt
namespace Go.Proofs.Ytkkmhfgfkjeooaa
open Go.RowKit
open NumM

theorem enterK (K : FuncId) (cap : Array Value) (h : ∀ w, (callFunc K cap).run Try.prog w = .ok (.enter K cap) w) : ∀ w, (callFunc K cap).run Try.prog w = .ok (.enter K cap) w := h

theorem Octal_clo_yes (n v : Int) (a b : Addr) (l : List UInt8) (w : World) (h : octO n v = some l) (ha : w.cell? a = some (.int .i64 n)) (hb : w.cell? b = some (.int .i64 v)) :
    Calls Try.prog 65 #[.pointer (some a), .pointer (some b)] w fun e w' => e = .returned (.string ⟨l.toArray⟩) ∧ Below w.heap.size w w' := by
  have H := Lib.hid h; clear h
  go_enter Try.func65, Try.ntmps65
  go_wp2_with fail
  refine (octal_yes n v l H.out _).mono ?_
  rintro e w' ⟨rfl, hbl⟩
  go_wp2_with fail
  go_ret
  exact ⟨rfl, hbl⟩
theorem Octal_clo_no (n v : Int) (a b : Addr) (w : World) (h : octO n v = none) (ha : w.cell? a = some (.int .i64 n)) (hb : w.cell? b = some (.int .i64 v)) :
    Calls Try.prog 65 #[.pointer (some a), .pointer (some b)] w fun e w' => e = noFieldPanic ∧ Below w.heap.size w w' := by
  have H := Lib.hid h; clear h
  go_enter Try.func65, Try.ntmps65
  go_wp2_with fail
  refine (octal_no n v H.out _).mono ?_
  rintro e w' ⟨rfl, hbl⟩
  go_wp2_with fail
  exact ⟨rfl, rfl, hbl⟩

/-- Octal: the field and true. -/
theorem Octal_yes (n v : Int) (l : List UInt8) (h : octO n v = some l) (w : World) :
    Calls Try.prog 50 #[.int .i64 n, .int .i64 v] w fun e w' => e = .returned (.tuple #[.string ⟨l.toArray⟩, .bool true]) ∧ Below w.heap.size w w' := by
  have hmf : ∀ (fn : Fn) (first cap : Array Value) (w : World), (Instr.makeFunc fn first cap).run Try.prog w = .ok (.func fn first cap) w := fun _ _ _ _ => rfl
  have H := Lib.hid h; clear h
  go_enter Try.func50, Try.ntmps50
  go_wp2_with fail
  refine (attemptS_ret 65 _ ⟨l.toArray⟩ _ (fun _ => by simp [go_sem]) (fun W hW => Octal_clo_yes n v _ _ l W H.out ((hW.cell (by simp <;> omega)).trans (by simp [go_sem])) ((hW.cell (by simp <;> omega)).trans (by simp [go_sem])))).mono ?_
  rintro e w' ⟨rfl, hbl⟩
  go_wp2_with fail
  go_ret2
  exact ⟨rfl, (((Below.refl _ _).alloc (Nat.le_refl _) _).alloc (by simp) _).trans (hbl.mono (by simp <;> omega))⟩
/-- Octal: nothing and false. -/
theorem Octal_no (n v : Int) (h : octO n v = none) (w : World) :
    Calls Try.prog 50 #[.int .i64 n, .int .i64 v] w fun e w' => e = .returned (.tuple #[.string { data := #[] }, .bool false]) ∧ Below w.heap.size w w' := by
  have hmf : ∀ (fn : Fn) (first cap : Array Value) (w : World), (Instr.makeFunc fn first cap).run Try.prog w = .ok (.func fn first cap) w := fun _ _ _ _ => rfl
  have H := Lib.hid h; clear h
  go_enter Try.func50, Try.ntmps50
  go_wp2_with fail
  refine (attemptS_panic 65 _ _ (fun _ => by simp [go_sem]) (fun W hW => Octal_clo_no n v _ _ W H.out ((hW.cell (by simp <;> omega)).trans (by simp [go_sem])) ((hW.cell (by simp <;> omega)).trans (by simp [go_sem])))).mono ?_
  rintro e w' ⟨rfl, hbl⟩
  go_wp2_with fail
  go_ret2
  exact ⟨rfl, (((Below.refl _ _).alloc (Nat.le_refl _) _).alloc (by simp) _).trans (hbl.mono (by simp <;> omega))⟩



theorem field_oct (n v : Int) (l : List UInt8) (h : octO n v = some l) (w : World) :
    Calls Try.prog 64 #[.int .i64 n, .int .i64 v] w fun e w' => e = .returned (.string ⟨l.toArray⟩) ∧ Below w.heap.size w w' := by
  have H := Lib.hid h; clear h
  go_enter Try.func64, Try.ntmps64
  go_wp2_with fail
  refine (Octal_yes n v l H.out _).mono ?_
  rintro e w' ⟨rfl, hbl⟩
  go_wp2_with fail
  go_ret
  exact ⟨rfl, hbl⟩
theorem field_bas (n v : Int) (l : List UInt8) (h : octO n v = none) (h2 : basO n v = some l) (w : World) :
    Calls Try.prog 64 #[.int .i64 n, .int .i64 v] w fun e w' => e = .returned (.string ⟨l.toArray⟩) ∧ Below w.heap.size w w' := by
  have H := Lib.hid h; clear h
  have H2 := Lib.hid h2; clear h2
  go_enter Try.func64, Try.ntmps64
  go_wp2_with fail
  refine (Octal_no n v H.out _).mono ?_
  rintro e w1 ⟨rfl, hbl⟩
  go_wp2_with fail
  refine (base_yes n v l H2.out _).mono ?_
  rintro e w2 ⟨rfl, hbl2⟩
  go_wp2_with fail
  go_ret
  exact ⟨rfl, hbl.trans (hbl2.mono hbl.size)⟩
theorem field_none (n v : Int) (h : octO n v = none) (h2 : basO n v = none) (w : World) :
    Calls Try.prog 64 #[.int .i64 n, .int .i64 v] w fun e w' => e = noFieldPanic ∧ Below w.heap.size w w' := by
  have H := Lib.hid h; clear h
  have H2 := Lib.hid h2; clear h2
  go_enter Try.func64, Try.ntmps64
  go_wp2_with fail
  refine (Octal_no n v H.out _).mono ?_
  rintro e w1 ⟨rfl, hbl⟩
  go_wp2_with fail
  refine (base_no n v H2.out _).mono ?_
  rintro e w2 ⟨rfl, hbl2⟩
  go_wp2_with fail
  exact ⟨rfl, rfl, hbl.trans (hbl2.mono hbl.size)⟩
theorem field_yes (n v : Int) (l : List UInt8) (h : fieldO n v = some l) (w : World) :
    Calls Try.prog 64 #[.int .i64 n, .int .i64 v] w fun e w' => e = .returned (.string ⟨l.toArray⟩) ∧ Below w.heap.size w w' := by
  unfold fieldO at h
  rcases ho : octO n v with _ | m
  · rw [ho] at h
    exact field_bas n v l ho h w
  · rw [ho] at h
    exact field_oct n v l (by rw [ho]; exact h) w
theorem field_no (n v : Int) (h : fieldO n v = none) (w : World) :
    Calls Try.prog 64 #[.int .i64 n, .int .i64 v] w fun e w' => e = noFieldPanic ∧ Below w.heap.size w w' := by
  unfold fieldO at h
  rcases ho : octO n v with _ | m
  · rw [ho] at h
    exact field_none n v ho h w
  · rw [ho] at h
    cases h

theorem Field_clo_yes (n v : Int) (a b : Addr) (l : List UInt8) (w : World) (h : fieldO n v = some l) (ha : w.cell? a = some (.int .i64 n)) (hb : w.cell? b = some (.int .i64 v)) :
    Calls Try.prog 63 #[.pointer (some a), .pointer (some b)] w fun e w' => e = .returned (.string ⟨l.toArray⟩) ∧ Below w.heap.size w w' := by
  have H := Lib.hid h; clear h
  go_enter Try.func63, Try.ntmps63
  go_wp2_with fail
  refine (field_yes n v l H.out _).mono ?_
  rintro e w' ⟨rfl, hbl⟩
  go_wp2_with fail
  go_ret
  exact ⟨rfl, hbl⟩
theorem Field_clo_no (n v : Int) (a b : Addr) (w : World) (h : fieldO n v = none) (ha : w.cell? a = some (.int .i64 n)) (hb : w.cell? b = some (.int .i64 v)) :
    Calls Try.prog 63 #[.pointer (some a), .pointer (some b)] w fun e w' => e = noFieldPanic ∧ Below w.heap.size w w' := by
  have H := Lib.hid h; clear h
  go_enter Try.func63, Try.ntmps63
  go_wp2_with fail
  refine (field_no n v H.out _).mono ?_
  rintro e w' ⟨rfl, hbl⟩
  go_wp2_with fail
  exact ⟨rfl, rfl, hbl⟩

/-- Field: the field and true. -/
theorem Field_yes (n v : Int) (l : List UInt8) (h : fieldO n v = some l) (w : World) :
    Calls Try.prog 49 #[.int .i64 n, .int .i64 v] w fun e w' => e = .returned (.tuple #[.string ⟨l.toArray⟩, .bool true]) ∧ Below w.heap.size w w' := by
  have hmf : ∀ (fn : Fn) (first cap : Array Value) (w : World), (Instr.makeFunc fn first cap).run Try.prog w = .ok (.func fn first cap) w := fun _ _ _ _ => rfl
  have H := Lib.hid h; clear h
  go_enter Try.func49, Try.ntmps49
  go_wp2_with fail
  refine (attemptS_ret 63 _ ⟨l.toArray⟩ _ (fun _ => by simp [go_sem]) (fun W hW => Field_clo_yes n v _ _ l W H.out ((hW.cell (by simp <;> omega)).trans (by simp [go_sem])) ((hW.cell (by simp <;> omega)).trans (by simp [go_sem])))).mono ?_
  rintro e w' ⟨rfl, hbl⟩
  go_wp2_with fail
  go_ret2
  exact ⟨rfl, (((Below.refl _ _).alloc (Nat.le_refl _) _).alloc (by simp) _).trans (hbl.mono (by simp <;> omega))⟩
/-- Field: nothing and false. -/
theorem Field_no (n v : Int) (h : fieldO n v = none) (w : World) :
    Calls Try.prog 49 #[.int .i64 n, .int .i64 v] w fun e w' => e = .returned (.tuple #[.string { data := #[] }, .bool false]) ∧ Below w.heap.size w w' := by
  have hmf : ∀ (fn : Fn) (first cap : Array Value) (w : World), (Instr.makeFunc fn first cap).run Try.prog w = .ok (.func fn first cap) w := fun _ _ _ _ => rfl
  have H := Lib.hid h; clear h
  go_enter Try.func49, Try.ntmps49
  go_wp2_with fail
  refine (attemptS_panic 63 _ _ (fun _ => by simp [go_sem]) (fun W hW => Field_clo_no n v _ _ W H.out ((hW.cell (by simp <;> omega)).trans (by simp [go_sem])) ((hW.cell (by simp <;> omega)).trans (by simp [go_sem])))).mono ?_
  rintro e w' ⟨rfl, hbl⟩
  go_wp2_with fail
  go_ret2
  exact ⟨rfl, (((Below.refl _ _).alloc (Nat.le_refl _) _).alloc (by simp) _).trans (hbl.mono (by simp <;> omega))⟩
end Go.Proofs.Ytkkmhfgfkjeooaa
