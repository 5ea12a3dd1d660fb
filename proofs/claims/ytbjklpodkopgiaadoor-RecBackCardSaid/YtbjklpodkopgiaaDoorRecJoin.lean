/- Walks over package rec: Join. -/
import Derived.Test.YtbjklpodkopgiaaDoorRecWalk
import Derived.Test.YtbjklpodkopgiaaDoorRecRow
import Derived.Test.YtbjklpodkopgiaaDoorBld
namespace Go.Proofs.YtbjklpodkopgiaaDoor
open Go.RowKit
open RecM
set_option linter.unusedVariables false

theorem Bld.keep {b : Nat} {l : List UInt8} {w w1 : World} (h : Bld b l w) (hb : Below w.heap.size w w1) : Bld b l w1 := by
  have key : ∀ p, Lib.BuilderAt 59 5 b b p (Lib.byteCells l) w → Lib.BuilderAt 59 5 b b p (Lib.byteCells l) w1 := by
    rintro p ⟨hB, v, hbk, hown, hne⟩
    refine ⟨hB, v, (hb.block b (Array.getElem?_eq_some_iff.1 hbk).1).trans hbk, ?_, hne⟩
    refine World.ownsRow.kept hown (row := none) ⟨hb.os, hb.tape, hb.output, hb.size, fun k hk _ => hb.block k hk⟩ ?_
    cases hv : v.ownBlock with
    | none => exact Or.inl rfl
    | some k => exact Or.inr (by simp)
  exact h.elim (fun h => .inl (key _ h)) (fun h => .inr (key _ h))
theorem Bld.alloc {b : Nat} {l : List UInt8} {w : World} (h : Bld b l w) (o : Obj) : Bld b l (w.alloc o) := h.keep (gr_alloc (Below.refl _ w) o)
theorem join_succ (l : List (List UInt8 × List UInt8)) (i : Nat) (h : i < l.length) : joinF (l.take (i + 1)) = joinF (l.take i) ++ putF l[i].1 l[i].2 := by
  rw [List.take_succ_eq_append_getElem h]
  unfold joinF
  rw [List.map_append, List.flatten_append, List.map_cons, List.map_nil, List.flatten_cons, List.flatten_nil, List.append_nil]
theorem put_len (k v : List UInt8) (h : k.length + v.length ≤ 1000) : (putF k v).length ≤ 1009 := by
  unfold putF
  split
  · have h1 := enc_length k v (by omega)
    have h2 := (lenF_bounds (3 + k.length + v.length)).2
    omega
  · simp
theorem join_len (l : List (List UInt8 × List UInt8)) (h : ∀ r ∈ l, r.1.length + r.2.length ≤ 1000) : (joinF l).length ≤ l.length * 1009 := by
  induction l with
  | nil => simp [joinF]
  | cons r l ih =>
    have h1 := put_len r.1 r.2 (h r (List.mem_cons_self ..))
    have h2 := ih (fun y hy => h y (List.mem_cons_of_mem _ hy))
    have e : joinF (r :: l) = putF r.1 r.2 ++ joinF l := by unfold joinF; rw [List.map_cons, List.flatten_cons]
    rw [e, List.length_append, List.length_cons]
    omega

set_option maxHeartbeats 1600000 in
theorem join_any (v : Value) (l : List (List UInt8 × List UInt8)) (w : World) (hA : Amb w) (hat : RecAt v l w) (hs : ∀ r ∈ l, r.1.length + r.2.length ≤ 1000) (hl : l.length ≤ 100) :
    Calls Tryd.prog 20 #[v] w fun e w' => e = .returned (.string (strOf (joinF l))) ∧ Below w.heap.size w w' := by
  obtain ⟨p, cap, rfl⟩ := hat.shape
  obtain ⟨n, hn⟩ : ∃ n, l.length = n := ⟨_, rfl⟩
  have HN := Lib.hid hn
  have HS := Lib.hid hs
  have Hat := Lib.hid hat
  rw [hn] at hl ⊢
  clear hs hat hn
  go_enter Tryd.func20, Tryd.ntmps20
  go_wp2_with fail
  go_loopw [8] (fun iv wr => ∃ i : Nat, iv = .int .i64 (i : Int) ∧ i ≤ n ∧ Bld w.heap.size (joinF (l.take i)) wr ∧ Below w.heap.size w wr) (fun iv _ => n - (intOf iv).toNat)
  case atStart => exact ⟨0, rfl, by omega, newBld w, by (repeat' (first | exact Below.refl _ _ | assumption | refine gr_drew ?_ | refine gr_drewN ?_ _ | refine gr_alloc ?_ _ | refine gr_set ?_ ?_ _ | refine gr_call ?_ (by assumption)) <;> (try (simp; done)) <;> (try (simp; omega)) <;> (try omega))⟩
  case round =>
    obtain ⟨i, rfl, hi, hB, hbl⟩ := hrel
    rename_i wr
    by_cases hlt : i < n
    · have hlt' : decide ((i : Int) < (n : Int)) = true := decide_eq_true (by omega)
      have hlt2 : decide (i < n) = true := decide_eq_true hlt
      have hil : i < l.length := by rw [HN.out]; exact hlt
      obtain ⟨g, cap', ev, hc, hg, hj⟩ := Hat.out.open (by intro e; rw [e] at hil; simp at hil)
      simp only [Value.slice.injEq] at ev
      obtain ⟨rfl, _, rfl⟩ := ev
      have c0 := cell_kept hbl (hj i hil).1
      have c1 := cell_kept hbl (hj i hil).2
      rw [Nat.mul_comm 2 i] at c0 c1
      have hsz := HS.out l[i] (List.getElem_mem hil)
      have Hsucc := Lib.hid (join_succ l i hil)
      have hjl := join_len (l.take (i + 1)) (fun r hr => HS.out r (List.mem_of_mem_take hr))
      rw [Hsucc.out, List.length_append, List.length_take] at hjl
      obtain ⟨r, hr⟩ : ∃ r, l[i] = r := ⟨_, rfl⟩
      rw [hr] at c0 c1 hsz Hsucc hjl
      obtain ⟨k, u⟩ := r
      dsimp only at c0 c1 hsz Hsucc hjl
      have hp := Lib.hid (fun W h => put_any (strOf k) (strOf u) (by rw [strOf_size, strOf_size]; omega) W h)
      rw [strOf_list, strOf_list] at hp
      have hw1 : (joinF (l.take i)).length + (strOf (putF k u)).size ≤ 1000000 := by rw [strOf_size]; omega
      have HP := Lib.hid (strOf_list (putF k u))
      have i1 : (i : Int) < (n : Int) := by omega
      have i0 : (0 : Int) ≤ (i : Int) := by omega
      generalize putF k u = P at *
      have hB2 := hB.alloc (.cells #[.string (strOf k), .string (strOf u)] 23)
      clear hj hr hsz hjl hlt hB
      go_wp2_with fail
      refine (hp.out _ (hA.on (by (repeat' (first | exact Below.refl _ _ | assumption | refine gr_drew ?_ | refine gr_drewN ?_ _ | refine gr_alloc ?_ _ | refine gr_set ?_ ?_ _ | refine gr_call ?_ (by assumption)) <;> (try (simp; done)) <;> (try (simp; omega)) <;> (try omega))))).mono ?_
      rintro e w1 ⟨rfl, hb1⟩
      have hB3 := hB2.keep hb1
      have hbl1 : Below w.heap.size w w1 := by (repeat' (first | exact Below.refl _ _ | assumption | refine gr_drew ?_ | refine gr_drewN ?_ _ | refine gr_alloc ?_ _ | refine gr_set ?_ ?_ _ | refine gr_call ?_ (by assumption)) <;> (try (simp; done)) <;> (try (simp; omega)) <;> (try omega))
      clear hB2 hb1
      go_wp2_with fail
      refine (writeStr_b w.heap.size _ (strOf P) w1 hB3 hw1 (bld_lt hB3)).mono ?_
      rintro e w2 ⟨rfl, hB4, hb2⟩
      rw [HP.out, ← Hsucc.out] at hB4
      have hbl2 : Below w.heap.size w w2 := hbl1.trans hb2
      clear hB3 hb2
      go_wp2_with fail
      go_roundw
      case rel => exact ⟨i + 1, by go_num, by omega, hB4, hbl2⟩
      case measure => simp only [intOf]; omega
    · have hlt' : decide ((i : Int) < (n : Int)) = false := decide_eq_false (by omega)
      have hlt2 : decide (i < n) = false := decide_eq_false hlt
      rw [List.take_of_length_le (by rw [HN.out]; omega)] at hB
      clear hlt
      go_wp2_with fail
      refine (string_b _ _ _ hB).mono ?_
      rintro e w2 ⟨rfl, hb2⟩
      go_wp2_with fail
      go_ret
      exact ⟨rfl, hbl.trans hb2⟩
end Go.Proofs.YtbjklpodkopgiaaDoor
