/- Walks over the document's answer for package num: its readers. -/
import Derived.Test.YtkkmhfgfkjeooaaRefBase
import Derived.StillTailTactics
namespace Go.Proofs.Ytkkmhfgfkjeooaa
open Go.RowKit
open NumM
set_option linter.unusedVariables false

/-- A Num as the document's answer has it. -/
def numV (o : Option Int) : Value := .agg #[.int .i64 (o.getD 0), .bool o.isSome]

theorem truth_any (b : Bool) (w : World) : Calls Try.prog 60 #[.bool b] w fun e w' => e = .returned (.int .i64 (if b then 1 else 0)) ∧ w = w' := by
  rcases b with _ | _
  all_goals
    go_enter Try.func60, Try.ntmps60
    go_wp2
    go_ret
    exact ⟨rfl, rfl⟩

theorem truth_no (w : World) : Calls Try.prog 60 #[.bool false] w fun e w' => e = .returned (.int .i64 0) ∧ w' = w := (truth_any false w).mono fun _ _ h => ⟨h.1, h.2.symm⟩
theorem truth_yes (w : World) : Calls Try.prog 60 #[.bool true] w fun e w' => e = .returned (.int .i64 1) ∧ w' = w := (truth_any true w).mono fun _ _ h => ⟨h.1, h.2.symm⟩

def rOctV (l : List UInt8) : Int := l.foldl (fun a c => a * 8 + ((c &&& 7).toNat : Int)) 0
theorem rOctV_snoc (l : List UInt8) (c : UInt8) : rOctV (l ++ [c]) = rOctV l * 8 + ((c &&& 7).toNat : Int) := by simp [rOctV]
theorem and7 (c : UInt8) : bits .and .u8 (c.toNat : Int) 7 = ((c &&& 7).toNat : Int) := by
  have := u8_and_nat c.toNat 7 c.toNat_lt (by decide)
  rw [UInt8.toNat_and]
  exact this
theorem and7_le (c : UInt8) : (c &&& 7).toNat ≤ 7 := by
  rw [UInt8.toNat_and]
  exact Nat.and_le_right
theorem rOctV_bound (l : List UInt8) : 0 ≤ rOctV l ∧ rOctV l ≤ 8 ^ l.length - 1 := by
  rw [← List.reverse_reverse l]
  generalize l.reverse = r
  induction r with
  | nil => simp [rOctV]
  | cons c r ih =>
    have hc := and7_le c
    rw [List.reverse_cons, rOctV_snoc, List.length_append, List.length_singleton, Int.pow_succ]
    omega
theorem rOctV_small (l : List UInt8) (h : l.length ≤ 11) : 0 ≤ rOctV l ∧ rOctV l ≤ 1000000000000 := by
  have hb := rOctV_bound l
  have hp : (8 : Int) ^ l.length ≤ 8 ^ 11 := by
    have := Nat.pow_le_pow_right (n := 8) (by decide) h
    exact_mod_cast this
  omega

/-- The tests ahead of a reader. -/
def LenOk (s : ByteArray) : Prop := ((s.size : Int) != 8) = false ∨ (((s.size : Int) != 8) = true ∧ ((s.size : Int) != 12) = false)
theorem lenOk_of {s : ByteArray} (h : isW (s.size : Int) = true) : LenOk s := by
  have : (s.size : Int) = 8 ∨ (s.size : Int) = 12 := by simpa [isW] using h
  rcases this with h | h
  · left; simp [h]
  · right; simp [h]

theorem refReadOctal_bad (s : ByteArray) (w : World) (h : isW (s.size : Int) = false) :
    Calls Try.prog 43 #[.string s] w fun e w' => e = .returned (numV none) ∧ Below w.heap.size w w' := by
  have h : (s.size : Int) ≠ 8 ∧ (s.size : Int) ≠ 12 := by simpa [isW] using h
  have h1 : ((s.size : Int) != 8) = true := by simpa using h.1
  have h2 : ((s.size : Int) != 12) = true := by simpa using h.2
  clear h
  go_enter Try.func43, Try.ntmps43
  go_wp2
  refine bodyPost_ret (v := .agg #[.int .i64 0, .bool false]) (by simp [results, Try.results43, go_sem]) rfl ⟨rfl, ?_⟩
  exact (Below.refl _ _).alloc (Nat.le_refl _) _

set_option maxHeartbeats 3200000 in
set_option maxRecDepth 100000 in
theorem refReadOctal_core (s b : ByteArray) (is : Bool) (w : World) (hz1 : 1 ≤ s.size) (hz2 : s.size ≤ 12) (hok : LenOk s)
    (h1 : ∀ W, Calls Try.prog 36 #[.int .i64 (rOctV (s.data.toList.take (s.size - 1))), .int .i64 (s.size : Int)] W fun e w' => e = .returned (.agg #[.string b, .bool is]) ∧ Below W.heap.size W w')
    (o : Option Int) (hyes : is = true → (b.toList == s.toList) = true → o = some (rOctV (s.data.toList.take (s.size - 1)))) (hno : is = false ∨ (b.toList == s.toList) = false → o = none) :
    Calls Try.prog 43 #[.string s] w fun e w' => e = .returned (numV o) ∧ Below w.heap.size w w' := by
  have H1 := Lib.hid h1; clear h1
  have Hyes := Lib.hid hyes; clear hyes
  have Hno := Lib.hid hno; clear hno
  rcases hok with hl1 | ⟨hl1, hl2⟩
  all_goals
    go_enter Try.func43, Try.ntmps43
    go_wp2_with fail
    go_loop [3, 4] (fun nv iv => ∃ k : Nat, k + 1 ≤ s.size ∧ iv = .int .i64 k ∧ nv = .int .i64 (rOctV (s.data.toList.take k))) (fun _ iv => s.size - (intOf iv).toNat)
    case atStart => exact ⟨0, hz1, rfl, rfl⟩
    case round =>
      obtain ⟨k, hk, rfl, rfl⟩ := hrel
      have hb := rOctV_small (s.data.toList.take k) (by have := List.length_take_le k s.data.toList; omega)
      by_cases hlt : k + 1 < s.size
      · have Hs := Lib.hid (rOctV_snoc (s.data.toList.take k) (s[k]'(by omega)))
        rw [← take_more s k (by omega)] at Hs
        have h7 := and7 (s[k]'(by omega))
        have h7b : (((s[k]'(by omega)) &&& 7).toNat : Int) ≤ 7 := by have := and7_le (s[k]'(by omega)); omega
        generalize rOctV (s.data.toList.take k) = m at *
        generalize hq : (((s[k]'(by omega)) &&& 7).toNat : Int) = q at *
        have hq0 : 0 ≤ q := by omega
        have Hq := Lib.hid hq; clear hq
        have hd : (k : Int) + 1 < (s.size : Int) := by omega
        go_wp2
        all_goals
          go_round
          case rel => exact ⟨k + 1, by omega, by go_num, by rw [Hs.out]⟩
          case measure => simp [intOf]; omega
      · have hd : decide ((k : Int) + 1 < (s.size : Int)) = false := decide_eq_false (by omega)
        have hk2 : s.size - 1 = k := by omega
        rw [hk2] at H1 Hyes
        generalize rOctV (s.data.toList.take k) = m at *
        clear hlt hk2
        go_wp2_with fail
        refine (H1.out _).mono ?_
        rintro e w1 ⟨rfl, hb1⟩
        have hs1 := (BlkIs.made w 55 #[.int .i64 0, .bool false]).kept hb1 (by simp)
        have hb2 : Below w.heap.size w w1 := ((Below.refl _ _).alloc (Nat.le_refl _) _).trans (hb1.mono (by simp))
        clear hb1
        go_wp2_with fail
        have hx := BlkIs.made w1 48 #[.string b, .bool is]
        have hs2 := hs1.alloc (.cells #[.string b, .bool is] 48)
        have hb3 := hb2.alloc hb2.size (.cells #[.string b, .bool is] 48)
        clear hb2 hs1
        generalize w1.alloc (.cells #[.string b, .bool is] 48) = w2 at *
        refine wp_region_still_tail 20 (by kernel_rfl) (by kernel_rfl) ?_
        simp only [List.take_succ_cons, List.take_zero, List.drop_succ_cons, List.drop_zero]
        have hx3 : BlkIs w2.drew w1.heap.size 48 #[.string b, .bool is] := hx
        have hs3 : BlkIs w2.drew w.heap.size 55 #[.int .i64 0, .bool false] := hs2
        have hb4 := hb3.drew
        change wpStill _ _ w2.drew (fun a' => wpList _ _ _ _ a' w2.drew) _ _
        generalize w2.drew = w3 at *
        have hx0 := hx3.cell_some 0 (.string b) rfl
        have hx1 := hx3.cell_some 1 (.bool is) rfl
        have hc0 := hs3.cell_some 0 (.int .i64 0) rfl
        have hc1 := hs3.cell_some 1 (.bool false) rfl
        have hf0 := hs3.free 0
        have hf1 := hs3.free 1
        clear hx hs2 hb3 hx3 hs3
        rcases is with _ | _
        · have ho := Hno.out (.inl rfl)
          subst ho
          repeat still_step
          still_call (truth_no _)
          repeat still_step
          refine wpStill_nil ?_
          go_wp2
          refine bodyPost_ret (v := .agg #[.int .i64 0, .bool false]) (by simp [results, Try.results43, go_sem, hc0, hc1]) rfl ⟨rfl, ?_⟩
          exact (hb4.setCell (Nat.le_refl _) _).setCell (Nat.le_refl _) _
        · rcases heq : (b.toList == s.toList) with _ | _
          · have ho := Hno.out (.inr heq)
            subst ho
            repeat still_step
            still_call (truth_no _)
            repeat still_step
            refine wpStill_nil ?_
            go_wp2
            refine bodyPost_ret (v := .agg #[.int .i64 0, .bool false]) (by simp [results, Try.results43, go_sem, hc0, hc1]) rfl ⟨rfl, ?_⟩
            exact (hb4.setCell (Nat.le_refl _) _).setCell (Nat.le_refl _) _
          · have ho := Hyes.out rfl heq
            subst ho
            repeat still_step
            still_call (truth_yes _)
            repeat still_step
            refine wpStill_nil ?_
            go_wp2
            refine bodyPost_ret (v := .agg #[.int .i64 m, .bool true]) (by simp [results, Try.results43, go_sem, hc0, hc1]) rfl ⟨rfl, ?_⟩
            exact (hb4.setCell (Nat.le_refl _) _).setCell (Nat.le_refl _) _
end Go.Proofs.Ytkkmhfgfkjeooaa
