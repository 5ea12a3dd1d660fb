/- Bundle of 8 texts. -/
import Derived.Test.YtbhnhoenjoagbaaGreatDoorPk01
import Derived.Defers
import Derived.Recover
import Derived.Lib.Strings
import Derived.Shelf.Strings.BuilderF
import Derived.Lib.RepeatB
import Derived.Lib.CutLaws
import Derived.Deep.LoopGhost
import Derived.Deep.DeepCutAuto
import Derived.Deep.CutBlock
import Derived.Deep.QuietTactic
import Derived.Deep.RegionHeld3
import Derived.BigQuiet
import Derived.Below
import Derived.Outline
/- Walks over package num: attempt, its deferred closure. -/
namespace Go.Proofs.YtbhnhoenjoagbaaGreatDoor.HeadW
open Go.RowKit
open NumM

theorem catchS_panic (p : Addr) (x : Bool) (u : TypeId) (pv : Value) (older : List PanicEntry) (w : World) (hc : w.cell? p = some (.bool x)) (hz : w.frozen? p = false) :
    CallsD Tryz.prog 293 #[.pointer (some p)] (.panicking ({ v := .iface u pv, recovered := false } :: older)) w fun e u' w' =>
      e = .returned (.tuple #[]) ∧ u' = .panicking ({ v := .iface u pv, recovered := true } :: older) ∧ w' = w.setCell p (.bool false) := by
  refine callsD_of_wpS Tryz.func293 rfl fun c₀ cs hu => ?_
  apply wpS_region
  simp [wpOpsS, go_sem, recoverD, hu, Tryz.ntmps293, hc, hz, bodyPostS, results]

theorem catchS_idle (p : Addr) (x : Bool) (w : World) (hc : w.cell? p = some (.bool x)) (hz : w.frozen? p = false) :
    CallsD Tryz.prog 293 #[.pointer (some p)] .returning w fun e u' w' => e = .returned (.tuple #[]) ∧ u' = .returning ∧ w' = w.setCell p (.bool true) := by
  refine callsD_of_wpS Tryz.func293 rfl fun c₀ cs hu => ?_
  apply wpS_region
  simp [wpOpsS, go_sem, recoverD, hu, Tryz.ntmps293, hc, hz, bodyPostS, results]
  cases c₀
  simp_all

theorem attemptS_ret (K : FuncId) (cap : Array Value) (s : ByteArray) (w : World) (hK : ∀ w, (callFunc K cap).run Tryz.prog w = .ok (.enter K cap) w) (hc : ∀ W, Below w.heap.size w W → Calls Tryz.prog K cap W fun e W' => e = .returned (.string s) ∧ Below W.heap.size W W') :
    Calls Tryz.prog 253 #[.func (Fn.func K) #[] cap] w fun e w' => e = .returned (.tuple #[.string s, .bool true]) ∧ Below w.heap.size w w' := by
  have hmf : ∀ (fn : Fn) (first cap : Array Value) (w : World), (Instr.makeFunc fn first cap).run Tryz.prog w = .ok (.func fn first cap) w := fun _ _ _ _ => rfl
  have Hc := Lib.hid hc; clear hc
  go_enter_defers Tryz.func253, Tryz.ntmps253
  go_wp2_with fail
  refine (Hc.out _ ((Below.refl _ _).alloc (Nat.le_refl _) _)).mono ?_
  rintro e w1 ⟨rfl, hb⟩
  have h0 : w1.cell? ⟨w.heap.size, 0, none⟩ = some (.bool false) := (hb.cell (p := ⟨w.heap.size, 0, none⟩) (by simp)).trans (by simp [go_sem])
  have h1 : w1.frozen? ⟨w.heap.size, 0, none⟩ = false := (hb.frozen (p := ⟨w.heap.size, 0, none⟩) (by simp)).trans (by simp [go_sem])
  have hb0 : Below w.heap.size w w1 := ((Below.refl _ _).alloc (Nat.le_refl _) _).trans (hb.mono (by simp))
  have hsz : w.heap.size < w1.heap.size := by have := hb.size; simp at this; omega
  clear hb
  go_wp2_with fail
  refine leaves_cons (f := 293) (args := #[.pointer (some ⟨w.heap.size, 0, none⟩)]) (by simp) (by simp [go_sem]) ?_
  refine (catchS_idle ⟨w.heap.size, 0, none⟩ true _ ?_ ?_).mono ?_
  · simp [go_sem, h0]
  · simp [go_sem, h1]
  rintro e u' w'' ⟨rfl, rfl, rfl⟩
  simp [Leaves, settle, results, Tryz.results253, go_sem, h0]
  exact (hb0.setCell (Nat.le_refl _) _).setCell (Nat.le_refl _) _

theorem attemptS_panic (K : FuncId) (cap : Array Value) (w : World) (hK : ∀ w, (callFunc K cap).run Tryz.prog w = .ok (.enter K cap) w) (hc : ∀ W, Below w.heap.size w W → Calls Tryz.prog K cap W fun e W' => e = noFieldPanic ∧ Below W.heap.size W W') :
    Calls Tryz.prog 253 #[.func (Fn.func K) #[] cap] w fun e w' => e = .returned (.tuple #[.string { data := #[] }, .bool false]) ∧ Below w.heap.size w w' := by
  have hmf : ∀ (fn : Fn) (first cap : Array Value) (w : World), (Instr.makeFunc fn first cap).run Tryz.prog w = .ok (.func fn first cap) w := fun _ _ _ _ => rfl
  have Hc := Lib.hid hc; clear hc
  go_enter_defers Tryz.func253, Tryz.ntmps253
  go_wp2_with fail
  refine (Hc.out _ ((Below.refl _ _).alloc (Nat.le_refl _) _)).mono ?_
  rintro e w1 ⟨rfl, hb⟩
  have h0 : w1.cell? ⟨w.heap.size, 0, none⟩ = some (.bool false) := (hb.cell (p := ⟨w.heap.size, 0, none⟩) (by simp)).trans (by simp [go_sem])
  have h1 : w1.frozen? ⟨w.heap.size, 0, none⟩ = false := (hb.frozen (p := ⟨w.heap.size, 0, none⟩) (by simp)).trans (by simp [go_sem])
  have hb0 : Below w.heap.size w w1 := ((Below.refl _ _).alloc (Nat.le_refl _) _).trans (hb.mono (by simp))
  clear hb
  go_wp2_with fail
  refine leaves_cons (f := 293) (args := #[.pointer (some ⟨w.heap.size, 0, none⟩)]) (by simp) (by simp [go_sem]) ?_
  refine (catchS_panic ⟨w.heap.size, 0, none⟩ false _ _ [] _ h0 h1).mono ?_
  rintro e u' w'' ⟨rfl, rfl, rfl⟩
  simp [Leaves, settle, results, Tryz.results253, go_sem, h0]
  exact hb0.setCell (Nat.le_refl _) _

end Go.Proofs.YtbhnhoenjoagbaaGreatDoor.HeadW

/- Walks over package num: Octal, Base, Field. -/
namespace Go.Proofs.YtbhnhoenjoagbaaGreatDoor.HeadW
open Go.RowKit
open NumM

theorem Octal_clo_yes (n v : Int) (a b : Addr) (l : List UInt8) (w : World) (h : octO n v = some l) (ha : w.cell? a = some (.int .i64 n)) (hb : w.cell? b = some (.int .i64 v)) :
    Calls Tryz.prog 256 #[.pointer (some a), .pointer (some b)] w fun e w' => e = .returned (.string ⟨l.toArray⟩) ∧ Below w.heap.size w w' := by
  have H := Lib.hid h; clear h
  go_enter Tryz.func256, Tryz.ntmps256
  go_wp2_with fail
  refine (octal_yes n v l H.out _).mono ?_
  rintro e w' ⟨rfl, hbl⟩
  go_wp2_with fail
  go_ret
  exact ⟨rfl, hbl⟩
theorem Octal_clo_no (n v : Int) (a b : Addr) (w : World) (h : octO n v = none) (ha : w.cell? a = some (.int .i64 n)) (hb : w.cell? b = some (.int .i64 v)) :
    Calls Tryz.prog 256 #[.pointer (some a), .pointer (some b)] w fun e w' => e = noFieldPanic ∧ Below w.heap.size w w' := by
  have H := Lib.hid h; clear h
  go_enter Tryz.func256, Tryz.ntmps256
  go_wp2_with fail
  refine (octal_no n v H.out _).mono ?_
  rintro e w' ⟨rfl, hbl⟩
  go_wp2_with fail
  exact ⟨rfl, rfl, hbl⟩

theorem Octal_yes (n v : Int) (l : List UInt8) (h : octO n v = some l) (w : World) :
    Calls Tryz.prog 205 #[.int .i64 n, .int .i64 v] w fun e w' => e = .returned (.tuple #[.string ⟨l.toArray⟩, .bool true]) ∧ Below w.heap.size w w' := by
  have hmf : ∀ (fn : Fn) (first cap : Array Value) (w : World), (Instr.makeFunc fn first cap).run Tryz.prog w = .ok (.func fn first cap) w := fun _ _ _ _ => rfl
  have H := Lib.hid h; clear h
  go_enter Tryz.func205, Tryz.ntmps205
  go_wp2_with fail
  refine (attemptS_ret 256 _ ⟨l.toArray⟩ _ (fun _ => by simp [go_sem]) (fun W hW => Octal_clo_yes n v _ _ l W H.out ((hW.cell (by simp <;> omega)).trans (by simp [go_sem])) ((hW.cell (by simp <;> omega)).trans (by simp [go_sem])))).mono ?_
  rintro e w' ⟨rfl, hbl⟩
  go_wp2_with fail
  go_ret2
  exact ⟨rfl, (((Below.refl _ _).alloc (Nat.le_refl _) _).alloc (by simp) _).trans (hbl.mono (by simp <;> omega))⟩
theorem Octal_no (n v : Int) (h : octO n v = none) (w : World) :
    Calls Tryz.prog 205 #[.int .i64 n, .int .i64 v] w fun e w' => e = .returned (.tuple #[.string { data := #[] }, .bool false]) ∧ Below w.heap.size w w' := by
  have hmf : ∀ (fn : Fn) (first cap : Array Value) (w : World), (Instr.makeFunc fn first cap).run Tryz.prog w = .ok (.func fn first cap) w := fun _ _ _ _ => rfl
  have H := Lib.hid h; clear h
  go_enter Tryz.func205, Tryz.ntmps205
  go_wp2_with fail
  refine (attemptS_panic 256 _ _ (fun _ => by simp [go_sem]) (fun W hW => Octal_clo_no n v _ _ W H.out ((hW.cell (by simp <;> omega)).trans (by simp [go_sem])) ((hW.cell (by simp <;> omega)).trans (by simp [go_sem])))).mono ?_
  rintro e w' ⟨rfl, hbl⟩
  go_wp2_with fail
  go_ret2
  exact ⟨rfl, (((Below.refl _ _).alloc (Nat.le_refl _) _).alloc (by simp) _).trans (hbl.mono (by simp <;> omega))⟩



theorem field_oct (n v : Int) (l : List UInt8) (h : octO n v = some l) (w : World) :
    Calls Tryz.prog 255 #[.int .i64 n, .int .i64 v] w fun e w' => e = .returned (.string ⟨l.toArray⟩) ∧ Below w.heap.size w w' := by
  have H := Lib.hid h; clear h
  go_enter Tryz.func255, Tryz.ntmps255
  go_wp2_with fail
  refine (Octal_yes n v l H.out _).mono ?_
  rintro e w' ⟨rfl, hbl⟩
  go_wp2_with fail
  go_ret
  exact ⟨rfl, hbl⟩
theorem field_bas (n v : Int) (l : List UInt8) (h : octO n v = none) (h2 : basO n v = some l) (w : World) :
    Calls Tryz.prog 255 #[.int .i64 n, .int .i64 v] w fun e w' => e = .returned (.string ⟨l.toArray⟩) ∧ Below w.heap.size w w' := by
  have H := Lib.hid h; clear h
  have H2 := Lib.hid h2; clear h2
  go_enter Tryz.func255, Tryz.ntmps255
  go_wp2_with fail
  refine (Octal_no n v H.out _).mono ?_
  rintro e w1 ⟨rfl, hbl⟩
  go_wp2_with fail
  refine (base_yes n v l H2.out _).mono ?_
  rintro e w2 ⟨rfl, hbl2⟩
  go_wp2_with fail
  go_ret
  exact ⟨rfl, hbl.trans (hbl2.mono hbl.size)⟩
theorem field_none (n v : Int) (h : octO n v = none) (h2 : basO n v = none) (w : World) :
    Calls Tryz.prog 255 #[.int .i64 n, .int .i64 v] w fun e w' => e = noFieldPanic ∧ Below w.heap.size w w' := by
  have H := Lib.hid h; clear h
  have H2 := Lib.hid h2; clear h2
  go_enter Tryz.func255, Tryz.ntmps255
  go_wp2_with fail
  refine (Octal_no n v H.out _).mono ?_
  rintro e w1 ⟨rfl, hbl⟩
  go_wp2_with fail
  refine (base_no n v H2.out _).mono ?_
  rintro e w2 ⟨rfl, hbl2⟩
  go_wp2_with fail
  exact ⟨rfl, rfl, hbl.trans (hbl2.mono hbl.size)⟩
theorem field_yes (n v : Int) (l : List UInt8) (h : fieldO n v = some l) (w : World) :
    Calls Tryz.prog 255 #[.int .i64 n, .int .i64 v] w fun e w' => e = .returned (.string ⟨l.toArray⟩) ∧ Below w.heap.size w w' := by
  unfold fieldO at h
  rcases ho : octO n v with _ | m
  · rw [ho] at h
    exact field_bas n v l ho h w
  · rw [ho] at h
    exact field_oct n v l (by rw [ho]; exact h) w
theorem field_no (n v : Int) (h : fieldO n v = none) (w : World) :
    Calls Tryz.prog 255 #[.int .i64 n, .int .i64 v] w fun e w' => e = noFieldPanic ∧ Below w.heap.size w w' := by
  unfold fieldO at h
  rcases ho : octO n v with _ | m
  · rw [ho] at h
    exact field_none n v ho h w
  · rw [ho] at h
    cases h

theorem Field_clo_yes (n v : Int) (a b : Addr) (l : List UInt8) (w : World) (h : fieldO n v = some l) (ha : w.cell? a = some (.int .i64 n)) (hb : w.cell? b = some (.int .i64 v)) :
    Calls Tryz.prog 254 #[.pointer (some a), .pointer (some b)] w fun e w' => e = .returned (.string ⟨l.toArray⟩) ∧ Below w.heap.size w w' := by
  have H := Lib.hid h; clear h
  go_enter Tryz.func254, Tryz.ntmps254
  go_wp2_with fail
  refine (field_yes n v l H.out _).mono ?_
  rintro e w' ⟨rfl, hbl⟩
  go_wp2_with fail
  go_ret
  exact ⟨rfl, hbl⟩
theorem Field_clo_no (n v : Int) (a b : Addr) (w : World) (h : fieldO n v = none) (ha : w.cell? a = some (.int .i64 n)) (hb : w.cell? b = some (.int .i64 v)) :
    Calls Tryz.prog 254 #[.pointer (some a), .pointer (some b)] w fun e w' => e = noFieldPanic ∧ Below w.heap.size w w' := by
  have H := Lib.hid h; clear h
  go_enter Tryz.func254, Tryz.ntmps254
  go_wp2_with fail
  refine (field_no n v H.out _).mono ?_
  rintro e w' ⟨rfl, hbl⟩
  go_wp2_with fail
  exact ⟨rfl, rfl, hbl⟩

theorem Field_yes (n v : Int) (l : List UInt8) (h : fieldO n v = some l) (w : World) :
    Calls Tryz.prog 204 #[.int .i64 n, .int .i64 v] w fun e w' => e = .returned (.tuple #[.string ⟨l.toArray⟩, .bool true]) ∧ Below w.heap.size w w' := by
  have hmf : ∀ (fn : Fn) (first cap : Array Value) (w : World), (Instr.makeFunc fn first cap).run Tryz.prog w = .ok (.func fn first cap) w := fun _ _ _ _ => rfl
  have H := Lib.hid h; clear h
  go_enter Tryz.func204, Tryz.ntmps204
  go_wp2_with fail
  refine (attemptS_ret 254 _ ⟨l.toArray⟩ _ (fun _ => by simp [go_sem]) (fun W hW => Field_clo_yes n v _ _ l W H.out ((hW.cell (by simp <;> omega)).trans (by simp [go_sem])) ((hW.cell (by simp <;> omega)).trans (by simp [go_sem])))).mono ?_
  rintro e w' ⟨rfl, hbl⟩
  go_wp2_with fail
  go_ret2
  exact ⟨rfl, (((Below.refl _ _).alloc (Nat.le_refl _) _).alloc (by simp) _).trans (hbl.mono (by simp <;> omega))⟩
theorem Field_no (n v : Int) (h : fieldO n v = none) (w : World) :
    Calls Tryz.prog 204 #[.int .i64 n, .int .i64 v] w fun e w' => e = .returned (.tuple #[.string { data := #[] }, .bool false]) ∧ Below w.heap.size w w' := by
  have hmf : ∀ (fn : Fn) (first cap : Array Value) (w : World), (Instr.makeFunc fn first cap).run Tryz.prog w = .ok (.func fn first cap) w := fun _ _ _ _ => rfl
  have H := Lib.hid h; clear h
  go_enter Tryz.func204, Tryz.ntmps204
  go_wp2_with fail
  refine (attemptS_panic 254 _ _ (fun _ => by simp [go_sem]) (fun W hW => Field_clo_no n v _ _ W H.out ((hW.cell (by simp <;> omega)).trans (by simp [go_sem])) ((hW.cell (by simp <;> omega)).trans (by simp [go_sem])))).mono ?_
  rintro e w' ⟨rfl, hbl⟩
  go_wp2_with fail
  go_ret2
  exact ⟨rfl, (((Below.refl _ _).alloc (Nat.le_refl _) _).alloc (by simp) _).trans (hbl.mono (by simp <;> omega))⟩
end Go.Proofs.YtbhnhoenjoagbaaGreatDoor.HeadW

/- Walks over package num: what a string is as a number. -/
namespace Go.Proofs.YtbhnhoenjoagbaaGreatDoor.HeadW
open Go.RowKit
open NumM

def octV (l : List UInt8) : Int := l.foldl (fun a c => a * 8 + (c.toNat : Int) - 48) 0
end Go.Proofs.YtbhnhoenjoagbaaGreatDoor.HeadW

/- Walks over package num: what a string is as a binary number. -/
namespace Go.Proofs.YtbhnhoenjoagbaaGreatDoor.HeadW
open Go.RowKit
open NumM

def basVs (a : Int) (l : List UInt8) : Int := l.foldl (fun a c => wrap64 (a * 256 + (c.toNat : Int))) a
def basStart (l : List UInt8) : Int := if l.head? = some 255 then -1 else 0
def basV (l : List UInt8) : Int := basVs (basStart l) (l.drop 1)

end Go.Proofs.YtbhnhoenjoagbaaGreatDoor.HeadW

/- Walks over package num: readAs, ReadOctal, ReadBase, ReadField. -/
namespace Go.Proofs.YtbhnhoenjoagbaaGreatDoor.HeadW
open Go.RowKit
open NumM

def fldV (l : List UInt8) : Int := if (l.head?.getD 0).toNat < 128 then octV (l.take (l.length - 1)) else basV l

def rdO (enc : Int → Int → Option (List UInt8)) (v : Int) (l : List UInt8) : Option Int := if enc v l.length = some l then some v else none
def octW (l : List UInt8) : Int := octV (l.take (l.length - 1))
def rdOct (l : List UInt8) : Option Int := rdO octO (octW l) l
def rdBas (l : List UInt8) : Option Int := rdO basO (basV l) l
def rdFld (l : List UInt8) : Option Int := rdO fieldO (fldV l) l

end Go.Proofs.YtbhnhoenjoagbaaGreatDoor.HeadW

/- What the fields are, as plain mathematics: a field is read again. -/
namespace Go.Proofs.YtbhnhoenjoagbaaGreatDoor.HeadW
open Go.RowKit
open NumM

theorem octO_form {n v : Int} {l : List UInt8} (h : octO n v = some l) : ∃ (m d : Nat), n = m ∧ v = (d : Int) + 1 ∧ (d = 7 ∨ d = 11) ∧ m < 8 ^ d ∧ l = digs d m ++ [0] := by
  unfold octO at h
  split at h
  · rename_i hc
    injection h with h
    subst h
    simp only [Bool.and_eq_true, decide_eq_true_eq] at hc
    obtain ⟨⟨hv, h0⟩, h1⟩ := hc
    obtain ⟨m, rfl⟩ := Int.eq_ofNat_of_zero_le h0
    have h : v = 8 ∨ v = 12 := by simpa [isW] using hv
    rcases h with rfl | rfl
    · exact ⟨m, 7, rfl, rfl, .inl rfl, by have h2 : (m : Int) < 2097152 := h1; omega, rfl⟩
    · exact ⟨m, 11, rfl, rfl, .inr rfl, by have h2 : (m : Int) < 8589934592 := h1; omega, rfl⟩
  · cases h
theorem basO_form {n v : Int} {l : List UInt8} (h : basO n v = some l) : ∃ d : Nat, v = (d : Int) + 1 ∧ ((d = 7 ∧ -72057594037927936 ≤ n ∧ n < 72057594037927936) ∨ d = 11) ∧ l = (if n < 0 then 255 else 128) :: bes d n := by
  unfold basO at h
  split at h
  · rename_i hc
    injection h with h
    subst h
    simp only [Bool.and_eq_true, Bool.or_eq_true, decide_eq_true_eq, beq_iff_eq] at hc
    obtain ⟨hv, hr⟩ := hc
    have h : v = 8 ∨ v = 12 := by simpa [isW] using hv
    rcases h with rfl | rfl
    · exact ⟨7, rfl, .inl ⟨rfl, by omega, by omega⟩, rfl⟩
    · exact ⟨11, rfl, .inr rfl, rfl⟩
  · cases h

theorem octO_length {n v : Int} {l : List UInt8} (h : octO n v = some l) : (l.length : Int) = v := by
  obtain ⟨m, d, _, rfl, _, _, rfl⟩ := octO_form h
  simp [digs_length]
theorem basO_length {n v : Int} {l : List UInt8} (h : basO n v = some l) : (l.length : Int) = v := by
  obtain ⟨d, rfl, _, rfl⟩ := basO_form h
  simp [bes_length]
theorem fieldO_cases {n v : Int} {l : List UInt8} (h : fieldO n v = some l) : octO n v = some l ∨ (octO n v = none ∧ basO n v = some l) := by
  unfold fieldO at h
  rcases ho : octO n v with _ | m
  · rw [ho] at h; exact .inr ⟨rfl, h⟩
  · rw [ho] at h; exact .inl h
theorem fieldO_length {n v : Int} {l : List UInt8} (h : fieldO n v = some l) : (l.length : Int) = v := by
  rcases fieldO_cases h with h | ⟨_, h⟩
  · exact octO_length h
  · exact basO_length h

theorem fieldO_none {n v : Int} (hv : isW v = true) (h : fieldO n v = none) : v = 8 ∧ (n < -72057594037927936 ∨ 72057594037927936 ≤ n) := by
  have h2 : basO n v = none := by
    unfold fieldO at h
    rcases ho : octO n v with _ | m
    · rw [ho] at h; exact h
    · rw [ho] at h; cases h
  have hv' : v = 8 ∨ v = 12 := by simpa [isW] using hv
  rcases hv' with rfl | rfl
  · simp [basO, hv] at h2
    exact ⟨rfl, by omega⟩
  · simp [basO, hv] at h2
end Go.Proofs.YtbhnhoenjoagbaaGreatDoor.HeadW

/- Header blocks, as plain mathematics: what is valid, the block, what a block says. -/
namespace Go.Proofs.YtbhnhoenjoagbaaGreatDoor.HeadM
open Go.Proofs.YtbhnhoenjoagbaaGreatDoor.HeadW
open NumM

structure Hd where
  name : ByteArray
  mode : Int
  uid : Int
  gid : Int
  size : Int
  mtime : Int
  typ : UInt8
  link : ByteArray
  uname : ByteArray
  gname : ByteArray
  major : Int
  minor : Int
  pre : ByteArray

def L (s : ByteArray) : List UInt8 := s.data.toList
def strOf (l : List UInt8) : ByteArray := ⟨l.toArray⟩
theorem strOf_L (s : ByteArray) : strOf (L s) = s := by cases s; simp [strOf, L]
theorem L_strOf (l : List UInt8) : L (strOf l) = l := by simp [strOf, L]

def padL (l : List UInt8) (n : Nat) : List UInt8 := l ++ List.replicate (n - l.length) 0
def fl (n w : Int) : List UInt8 := (fieldO n w).getD []
def sumL (l : List UInt8) : Nat := (l.map (·.toNat)).sum
def magicL : List UInt8 := [117, 115, 116, 97, 114, 0, 48, 48]
def blanks : List UInt8 := [32, 32, 32, 32, 32, 32, 32, 32]
def chkL (n : Nat) : List UInt8 := digs 6 n ++ [0, 32]

def aheadL (h : Hd) : List UInt8 := padL (L h.name) 100 ++ (fl h.mode 8 ++ (fl h.uid 8 ++ (fl h.gid 8 ++ (fl h.size 12 ++ fl h.mtime 12))))
def behindL (h : Hd) : List UInt8 := [h.typ] ++ (padL (L h.link) 100 ++ (magicL ++ (padL (L h.uname) 32 ++ (padL (L h.gname) 32 ++ (fl h.major 8 ++ (fl h.minor 8 ++ (padL (L h.pre) 155 ++ List.replicate 12 0)))))))
def putL (h : Hd) : List UInt8 := aheadL h ++ (chkL (sumL (aheadL h) + 256 + sumL (behindL h)) ++ behindL h)

def mayT (l : List UInt8) (n : Nat) : Bool := decide (l.length ≤ n) && !l.contains 0
def hasF (n w : Int) : Bool := (fieldO n w).isSome
def mayN (n w : Int) : Bool := decide (0 ≤ n) && hasF n w
def mayTs (h : Hd) : Bool := mayT (L h.name) 100 && (mayT (L h.link) 100 && (mayT (L h.uname) 32 && (mayT (L h.gname) 32 && mayT (L h.pre) 155)))
def mayNs (h : Hd) : Bool := mayN h.mode 8 && (mayN h.uid 8 && (mayN h.gid 8 && (mayN h.major 8 && (mayN h.minor 8 && (mayN h.size 12 && hasF h.mtime 12)))))
def mayH (h : Hd) : Bool := mayTs h && mayNs h
def putH (h : Hd) : List UInt8 := if mayH h = true then putL h else []

def cut (b : List UInt8) (i j : Nat) : List UInt8 := (b.take j).drop i
def upto (l : List UInt8) : List UInt8 := l.takeWhile (· != 0)
def rd (l : List UInt8) : Int := numOf (rdFld l)
def guess (b : List UInt8) : Hd where
  name := strOf (upto (cut b 0 100))
  mode := rd (cut b 100 108)
  uid := rd (cut b 108 116)
  gid := rd (cut b 116 124)
  size := rd (cut b 124 136)
  mtime := rd (cut b 136 148)
  typ := b.getD 156 0
  link := strOf (upto (cut b 157 257))
  uname := strOf (upto (cut b 265 297))
  gname := strOf (upto (cut b 297 329))
  major := rd (cut b 329 337)
  minor := rd (cut b 337 345)
  pre := strOf (upto (cut b 345 500))
def okB (b : List UInt8) : Bool := decide (putH (guess b) = b)

theorem padL_length {l : List UInt8} {n : Nat} (h : l.length ≤ n) : (padL l n).length = n := by simp [padL]; omega
theorem mayT_iff {l : List UInt8} {n : Nat} : mayT l n = true ↔ l.length ≤ n ∧ (0 : UInt8) ∉ l := by simp [mayT]
theorem hasF_fl {n w : Int} (h : hasF n w = true) : fieldO n w = some (fl n w) := by
  unfold hasF at h
  unfold fl
  rcases hx : fieldO n w with _ | l
  · rw [hx] at h; cases h
  · rfl
theorem mayN_hasF {n w : Int} (h : mayN n w = true) : hasF n w = true ∧ 0 ≤ n := by
  simp [mayN] at h
  exact ⟨h.2, h.1⟩
theorem fl_length {n w : Int} (h : hasF n w = true) : ((fl n w).length : Int) = w := fieldO_length (hasF_fl h)
structure Parts (h : Hd) : Prop where
  t1 : mayT (L h.name) 100 = true
  t2 : mayT (L h.link) 100 = true
  t3 : mayT (L h.uname) 32 = true
  t4 : mayT (L h.gname) 32 = true
  t5 : mayT (L h.pre) 155 = true
  n1 : mayN h.mode 8 = true
  n2 : mayN h.uid 8 = true
  n3 : mayN h.gid 8 = true
  n4 : mayN h.major 8 = true
  n5 : mayN h.minor 8 = true
  n6 : mayN h.size 12 = true
  n7 : hasF h.mtime 12 = true
theorem parts_of {h : Hd} (H : mayH h = true) : Parts h := by
  simp only [mayH, mayTs, mayNs, Bool.and_eq_true] at H
  obtain ⟨⟨t1, t2, t3, t4, t5⟩, n1, n2, n3, n4, n5, n6, n7⟩ := H
  exact ⟨t1, t2, t3, t4, t5, n1, n2, n3, n4, n5, n6, n7⟩
structure Lens (h : Hd) : Prop where
  a1 : (padL (L h.name) 100).length = 100
  a2 : (fl h.mode 8).length = 8
  a3 : (fl h.uid 8).length = 8
  a4 : (fl h.gid 8).length = 8
  a5 : (fl h.size 12).length = 12
  a6 : (fl h.mtime 12).length = 12
  b1 : (padL (L h.link) 100).length = 100
  b2 : (padL (L h.uname) 32).length = 32
  b3 : (padL (L h.gname) 32).length = 32
  b4 : (fl h.major 8).length = 8
  b5 : (fl h.minor 8).length = 8
  b6 : (padL (L h.pre) 155).length = 155
theorem lens_of {h : Hd} (H : mayH h = true) : Lens h := by
  have P := parts_of H
  refine ⟨padL_length (mayT_iff.1 P.t1).1, ?_, ?_, ?_, ?_, ?_, padL_length (mayT_iff.1 P.t2).1, padL_length (mayT_iff.1 P.t3).1, padL_length (mayT_iff.1 P.t4).1, ?_, ?_, padL_length (mayT_iff.1 P.t5).1⟩
  · have := fl_length (mayN_hasF P.n1).1; omega
  · have := fl_length (mayN_hasF P.n2).1; omega
  · have := fl_length (mayN_hasF P.n3).1; omega
  · have := fl_length (mayN_hasF P.n6).1; omega
  · have := fl_length P.n7; omega
  · have := fl_length (mayN_hasF P.n4).1; omega
  · have := fl_length (mayN_hasF P.n5).1; omega
theorem ahead_length {h : Hd} (H : mayH h = true) : (aheadL h).length = 148 := by
  have l := lens_of H
  simp [aheadL, l.a1, l.a2, l.a3, l.a4, l.a5, l.a6]
theorem behind_length {h : Hd} (H : mayH h = true) : (behindL h).length = 356 := by
  have l := lens_of H
  simp [behindL, magicL, l.b1, l.b2, l.b3, l.b4, l.b5, l.b6]
theorem chk_length (n : Nat) : (chkL n).length = 8 := by simp [chkL, digs_length]
theorem put_length {h : Hd} (H : mayH h = true) : (putL h).length = 512 := by
  simp [putL, ahead_length H, behind_length H, chk_length]

structure Stands (h : Hd) (b : List UInt8) : Prop where
  c1 : cut b 0 100 = padL (L h.name) 100
  c2 : cut b 100 108 = fl h.mode 8
  c3 : cut b 108 116 = fl h.uid 8
  c4 : cut b 116 124 = fl h.gid 8
  c5 : cut b 124 136 = fl h.size 12
  c6 : cut b 136 148 = fl h.mtime 12
  c7 : cut b 148 156 = chkL (sumL (aheadL h) + 256 + sumL (behindL h))
  c8 : b.getD 156 0 = h.typ
  c9 : cut b 157 257 = padL (L h.link) 100
  c10 : cut b 257 265 = magicL
  c11 : cut b 265 297 = padL (L h.uname) 32
  c12 : cut b 297 329 = padL (L h.gname) 32
  c13 : cut b 329 337 = fl h.major 8
  c14 : cut b 337 345 = fl h.minor 8
  c15 : cut b 345 500 = padL (L h.pre) 155
  c16 : cut b 500 512 = List.replicate 12 0
  c17 : b.take 148 = aheadL h
  c18 : b.drop 156 = behindL h
structure Ints (h : Hd) : Prop where
  i1 : -9223372036854775808 ≤ h.mode ∧ h.mode ≤ 9223372036854775807
  i2 : -9223372036854775808 ≤ h.uid ∧ h.uid ≤ 9223372036854775807
  i3 : -9223372036854775808 ≤ h.gid ∧ h.gid ≤ 9223372036854775807
  i4 : -9223372036854775808 ≤ h.size ∧ h.size ≤ 9223372036854775807
  i5 : -9223372036854775808 ≤ h.mtime ∧ h.mtime ≤ 9223372036854775807
  i6 : -9223372036854775808 ≤ h.major ∧ h.major ≤ 9223372036854775807
  i7 : -9223372036854775808 ≤ h.minor ∧ h.minor ≤ 9223372036854775807
theorem put_may {h : Hd} (H : mayH h = true) : putH h = putL h := if_pos H
theorem put_not {h : Hd} (H : mayH h = false) : putH h = [] := by unfold putH; rw [H]; rfl
structure Reads (b : List UInt8) : Prop where
  r1 : ∃ v, rdFld (cut b 100 108) = some v
  r2 : ∃ v, rdFld (cut b 108 116) = some v
  r3 : ∃ v, rdFld (cut b 116 124) = some v
  r4 : ∃ v, rdFld (cut b 124 136) = some v
  r5 : ∃ v, rdFld (cut b 136 148) = some v
  r6 : ∃ v, rdFld (cut b 329 337) = some v
  r7 : ∃ v, rdFld (cut b 337 345) = some v
end Go.Proofs.YtbhnhoenjoagbaaGreatDoor.HeadM

/- The library's functions that package head calls: strings.IndexByte, Clone, Cut at a byte 0, Repeat of one byte 0. -/
namespace Go.Proofs.YtbhnhoenjoagbaaGreatDoor.HeadW
open Go.RowKit
open HeadM
set_option linter.unusedVariables false

theorem size_L (s : ByteArray) : (L s).length = s.size := by simp [L]
theorem strOf_sz (l : List UInt8) : (strOf l).size = l.length := by rw [← size_L, L_strOf]
theorem L_app (a b : ByteArray) : L (a ++ b) = L a ++ L b := bytes_list a b
theorem strOf_app (a b : List UInt8) : strOf a ++ strOf b = strOf (a ++ b) := bytes_ext (by rw [bytes_list]; simp [strOf])
theorem str_L {s : ByteArray} {l : List UInt8} (h : L s = l) : s = strOf l := by rw [← h, strOf_L]
theorem indexByte_any (s : ByteArray) (c : UInt8) (x : Int) (hx : x = (c.toNat : Int)) (w : World) :
    Calls Tryz.prog 144 #[.string s, .int .u8 x] w fun e w' => e = .returned (.int .i64 (Lib.indexByte (L s) c)) ∧ w = w' := by
  subst hx
  refine (Tryz.strings_IndexByte s (c.toNat : Int) w).mono ?_
  rintro e w' ⟨rfl, rfl⟩
  refine ⟨?_, rfl⟩
  rw [show ((c.toNat : Int).toNat).toUInt8 = c by simp]
  rfl
theorem clone_any (s : ByteArray) (w : World) (hs : s.size ≤ 281474976710656) :
    Calls Tryz.prog 63 #[.string s] w fun e w' => e = .returned (.string s) ∧ Below w.heap.size w w' := by
  have h := Tryz.stringslite_Clone s
  go_enter Tryz.func63, Tryz.ntmps63
  go_wp2_with fail
  refine (h _ hs).mono ?_
  rintro e w' ⟨rfl, hb⟩
  go_wp2_with fail
  go_ret
  exact ⟨rfl, hb⟩
theorem mayT_index (l : List UInt8) (n : Nat) : mayT l n = (decide (l.length ≤ n) && decide (Lib.indexByte l 0 < 0)) := by
  unfold mayT
  congr 1
  have : l.contains 0 = !decide (Lib.indexByte l 0 < 0) := by
    rcases h : decide (Lib.indexByte l 0 < 0) with _ | _
    · have h1 := of_decide_eq_false h
      obtain ⟨o, ho⟩ := Int.eq_ofNat_of_zero_le (show 0 ≤ Lib.indexByte l 0 by omega)
      have h2 := (Lib.indexByte_some ho).1
      simp only [Bool.not_false, List.contains_iff_mem]
      exact List.mem_of_getElem? h2
    · have h1 := of_decide_eq_true h
      have h2 := Lib.indexByte_ge l 0
      have h3 := Lib.indexByte_none (show Lib.indexByte l 0 = -1 by omega)
      rw [Bool.not_true]
      rw [Bool.eq_false_iff]
      intro h4
      have h5 := List.contains_iff_mem.1 h4
      obtain ⟨k, hk⟩ := List.getElem?_of_mem h5
      exact h3 k hk
  rw [this, Bool.not_not]
end Go.Proofs.YtbhnhoenjoagbaaGreatDoor.HeadW
