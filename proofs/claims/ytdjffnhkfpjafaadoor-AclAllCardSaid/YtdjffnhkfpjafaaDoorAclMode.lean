/- Walks over package acl: May, Mode, From, Same. -/
import Derived.Test.YtdjffnhkfpjafaaDoorAclFind
namespace Go.Proofs.YtdjffnhkfpjafaaDoor
open Go.RowKit
open AclM
set_option linter.unusedVariables false

theorem may_any (v : Value) (l : List Ace) (w : World) (hat : At aceE v l w) (hl : l.length ≤ 1000000) :
    Calls Tryd.prog 11 #[v] w fun e w' => e = .returned (.bool (may l)) ∧ Below w.heap.size w w' := by
  have q1 := Lib.hid (mayParts_any v l w hat hl)
  have q2 := Lib.hid (fun w' (hb : Below w.heap.size w w') => mayOrder_any v l w' (hat.call hb) hl)
  have q3 := Lib.hid (fun w' (hb : Below w.heap.size w w') => mayTags_any v l w' (hat.call hb) hl)
  unfold may
  obtain ⟨p, cap, rfl, hcap⟩ := hat.shape
  obtain ⟨z, hz⟩ : ∃ z, l.length = z := ⟨_, rfl⟩
  rw [hz] at q1 q2 q3 hl ⊢
  generalize l.all okPart = b1 at *
  generalize order l = b2 at *
  generalize tags l = b3 at *
  clear hat hcap hz
  have hbl := Below.refl w.heap.size w
  by_cases h32 : z ≤ 32
  · have f1 : decide ((z : Int) ≤ 32) = true := decide_eq_true (by omega)
    have f2 : decide (z ≤ 32) = true := decide_eq_true h32
    rw [f2]
    rcases b1 with _ | _
    · go_enter Tryd.func11, Tryd.ntmps11
      go_wp2_with fail
      refine (q1.out).mono ?_
      rintro e w1 ⟨rfl, hb1⟩
      go_wp2_with fail
      go_ret
      exact ⟨rfl, hb1⟩
    · rcases b2 with _ | _
      · go_enter Tryd.func11, Tryd.ntmps11
        go_wp2_with fail
        refine (q1.out).mono ?_
        rintro e w1 ⟨rfl, hb1⟩
        go_wp2_with fail
        refine (q2.out _ hb1).mono ?_
        rintro e w2 ⟨rfl, hb2⟩
        go_wp2_with fail
        go_ret
        exact ⟨rfl, gr_call hb1 hb2⟩
      · go_enter Tryd.func11, Tryd.ntmps11
        go_wp2_with fail
        refine (q1.out).mono ?_
        rintro e w1 ⟨rfl, hb1⟩
        go_wp2_with fail
        refine (q2.out _ hb1).mono ?_
        rintro e w2 ⟨rfl, hb2⟩
        replace hb2 := gr_call hb1 hb2
        clear hb1
        go_wp2_with fail
        refine (q3.out _ hb2).mono ?_
        rintro e w3 ⟨rfl, hb3⟩
        replace hb3 := gr_call hb2 hb3
        clear hb2
        go_wp2_with fail
        go_ret
        exact ⟨rfl, hb3⟩
  · have f1 : decide ((z : Int) ≤ 32) = false := decide_eq_false (by omega)
    have f2 : decide (z ≤ 32) = false := decide_eq_false h32
    rw [f2]
    go_enter Tryd.func11, Tryd.ntmps11
    go_wp2_with fail
    go_ret
    exact ⟨rfl, Below.refl _ _⟩

/-! ### Mode -/
def permN (l : List Ace) (t : Int) : Int := if findN t l 0 < 0 then 0 else (l.getD (findN t l 0).toNat (0, 0, 0)).2.2
theorem findN_in (t : Int) : ∀ (l : List Ace) (i : Nat), findN t l i = -1 ∨ ∃ k, k < l.length ∧ findN t l i = ((i + k : Nat) : Int)
  | [], i => .inl rfl
  | a :: l, i => by
    unfold findN
    by_cases h : a.1 = t
    · rw [if_pos h]; exact .inr ⟨0, by simp, by simp⟩
    · rw [if_neg h]
      rcases findN_in t l (i + 1) with h1 | ⟨k, h1, h2⟩
      · exact .inl h1
      · exact .inr ⟨k + 1, by simpa using h1, by rw [h2]; congr 1; omega⟩
def modeL (l : List Ace) : Int := 64 * permN l 1 + 8 * permN l (if has l 5 = true then 5 else 3) + permN l 6
theorem permN_in {l : List Ace} (h : ∀ a ∈ l, okPart a = true) (t : Int) : 0 ≤ permN l t ∧ permN l t ≤ 7 := by
  unfold permN
  rcases findN_in t l 0 with h1 | ⟨k, h1, h2⟩
  · rw [h1, if_pos (by decide)]; decide
  · rw [h2, if_neg (by omega)]
    have := okPart_iff (h l[k] (List.getElem_mem h1))
    simp only [Nat.zero_add, Int.toNat_natCast, List.getD, List.getElem?_eq_getElem h1, Option.getD_some]
    omega
set_option maxHeartbeats 800000 in
theorem permOf_any (v : Value) (l : List Ace) (t : Int) (w : World) (hat : At aceE v l w) (hl : l.length ≤ 1000000) :
    Calls Tryd.prog 38 #[v, .int .i64 t] w fun e w' => e = .returned (.int .i64 (permN l t)) ∧ Below w.heap.size w w' := by
  have hf := Lib.hid (find_any v l t w hat hl)
  unfold permN
  rcases findN_in t l 0 with h1 | ⟨k, h1, h2⟩
  · rw [h1] at hf ⊢
    clear h1
    rw [if_pos (by decide)]
    go_enter Tryd.func38, Tryd.ntmps38
    go_wp2_with fail
    refine (hf.out).mono ?_
    rintro e w1 ⟨rfl, hb1⟩
    go_wp2_with fail
    go_ret
    exact ⟨rfl, hb1⟩
  · rw [h2] at hf ⊢
    rw [Nat.zero_add] at hf ⊢
    rw [if_neg (by omega), Int.toNat_natCast]
    obtain ⟨p, cap, rfl, hcap, hcell⟩ := ace_look hat
    obtain ⟨g, off, rfl, hg, c0, c1, c2⟩ := hcell k h1
    have e1 : (l.getD k (0, 0, 0)).2.2 = l[k].2.2 := by simp [List.getD, h1]
    rw [e1]
    generalize l[k].2.2 = q at *
    have hk : decide ((k : Int) < 0) = false := decide_eq_false (by omega)
    have hlt : decide (k < l.length) = true := decide_eq_true h1
    clear hcell c0 c1 hat h2 e1
    generalize l.length = z at *
    have hlt' : decide ((k : Int) < (z : Int)) = true := decide_eq_true (by omega)
    go_enter Tryd.func38, Tryd.ntmps38
    go_wp2_with fail
    refine (hf.out).mono ?_
    rintro e w1 ⟨rfl, hb1⟩
    have c3 := cell_kept hb1 c2
    go_wp2_with fail
    go_ret
    exact ⟨rfl, hb1⟩
theorem mode_any (v : Value) (l : List Ace) (w : World) (hat : At aceE v l w) (hl : l.length ≤ 1000000) (hok : ∀ a ∈ l, okPart a = true) :
    Calls Tryd.prog 19 #[v] w fun e w' => e = .returned (.int .i64 (modeL l)) ∧ Below w.heap.size w w' := by
  have q0 := Lib.hid (has_any v l 5 w hat hl)
  have q := Lib.hid (fun t w' (hb : Below w.heap.size w w') => permOf_any v l t w' (hat.call hb) hl)
  unfold modeL
  have r1 := permN_in hok 1
  have r6 := permN_in hok 6
  have q1 := Lib.hid (q.out 1)
  have q6 := Lib.hid (q.out 6)
  obtain ⟨t, ht⟩ : ∃ t : Int, (if has l 5 = true then (5 : Int) else 3) = t := ⟨_, rfl⟩
  rw [ht]
  have r2 := permN_in hok t
  have q2 := Lib.hid (q.out t)
  generalize permN l 1 = p1 at *
  generalize permN l 6 = p6 at *
  generalize permN l t = p2 at *
  clear q
  rcases hb : has l 5 with _ | _ <;> rw [hb] at q0 ht
  all_goals
    simp at ht
    subst ht
    clear hb hok
    go_enter Tryd.func19, Tryd.ntmps19
    go_wp2_with fail
    refine (q0.out).mono ?_
    rintro e w1 ⟨rfl, hb1⟩
    go_wp2_with fail
    refine (q1.out _ hb1).mono ?_
    rintro e w2 ⟨rfl, hb2⟩
    replace hb2 := gr_call hb1 hb2
    clear hb1
    go_wp2_with fail
    refine (q2.out _ hb2).mono ?_
    rintro e w3 ⟨rfl, hb3⟩
    replace hb3 := gr_call hb2 hb3
    clear hb2
    go_wp2_with fail
    refine (q6.out _ hb3).mono ?_
    rintro e w4 ⟨rfl, hb4⟩
    replace hb4 := gr_call hb3 hb4
    clear hb3
    go_wp2_with fail
    go_ret
    exact ⟨rfl, hb4⟩
theorem and7 (n : Int) : bits .and .i64 n 7 = n % 8 := by
  have key : (BitVec.ofInt 64 n &&& BitVec.ofInt 64 7).toNat = (n % ((2 ^ 64 : Nat) : Int)).toNat % 2 ^ 3 := by
    rw [BitVec.toNat_and, BitVec.toNat_ofInt, show (BitVec.ofInt 64 7).toNat = 2 ^ 3 - 1 by decide, Nat.and_two_pow_sub_one_eq_mod]
  show IntKind.i64.wrap ((BitVec.ofInt 64 n &&& BitVec.ofInt 64 7).toNat : Int) = _
  rw [key, IntKind.wrap_i64]
  omega
/-- What From makes of a mode. -/
def fromL (m : Int) : List Ace := [(1, 0, m / 64 % 8), (3, 0, m / 8 % 8), (6, 0, m % 8)]
theorem from_row (m : Int) (w : World) : Row aceE w.heap.size (.slice (some ⟨w.heap.size, 0, none⟩) 3 3) (fromL m) (w.alloc (.cells #[.int .i64 1, .int .i64 0, .int .i64 (bits .and .i64 (m / 64) 7), .int .i64 3, .int .i64 0, .int .i64 (bits .and .i64 (m / 8) 7), .int .i64 6, .int .i64 0, .int .i64 (bits .and .i64 m 7)] 39)) := by
  rw [and7, and7, and7]
  exact lit_row (E := aceE) w (fromL m) _ w.heap.size 3 rfl (Nat.le_refl _) (by simp [fromL]) rfl
theorem from_any (m : Int) (w : World) (h0 : -9223372036854775808 ≤ m) (h1 : m ≤ 9223372036854775807) :
    Calls Tryd.prog 15 #[.int .i64 m] w fun e w' => (∃ v, e = .returned v ∧ Row aceE w.heap.size v (fromL m) w') ∧ Below w.heap.size w w' := by
  go_enter Tryd.func15, Tryd.ntmps15
  go_wp2_with fail
  go_ret
  exact ⟨⟨_, rfl, from_row m w⟩, by (repeat' (first | exact Below.refl _ _ | assumption | refine gr_drew ?_ | refine gr_drewN ?_ _ | refine gr_alloc ?_ _ | refine gr_set ?_ ?_ _ | refine gr_call ?_ (by assumption)) <;> (try (simp; done)) <;> (try (simp; omega)) <;> (try omega))⟩
theorem refFrom_any (m : Int) (w : World) (h0 : -9223372036854775808 ≤ m) (h1 : m ≤ 9223372036854775807) :
    Calls Tryd.prog 16 #[.int .i64 m] w fun e w' => (∃ v, e = .returned v ∧ Row aceE w.heap.size v (fromL m) w') ∧ Below w.heap.size w w' := by
  go_enter Tryd.func16, Tryd.ntmps16
  go_wp2_with fail
  go_ret
  exact ⟨⟨_, rfl, from_row m w⟩, by (repeat' (first | exact Below.refl _ _ | assumption | refine gr_drew ?_ | refine gr_drewN ?_ _ | refine gr_alloc ?_ _ | refine gr_set ?_ ?_ _ | refine gr_call ?_ (by assumption)) <;> (try (simp; done)) <;> (try (simp; omega)) <;> (try omega))⟩
end Go.Proofs.YtdjffnhkfpjafaaDoor
