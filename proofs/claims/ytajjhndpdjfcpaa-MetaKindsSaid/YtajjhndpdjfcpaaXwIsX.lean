/- The document's answer: is a key one of an attribute's? And the laws' own: are there few, and short? -/
import Derived.Test.YtajjhndpdjfcpaaXwPackSame
import Derived.Deep.QuietTactic
namespace Go.Proofs.Ytajjhndpdjfcpaa.XatW
open Go.RowKit
open XatM
set_option linter.unusedVariables false

theorem slice_to (S : ByteArray) (n : Nat) (h : n ≤ S.size) : ∃ A : ByteArray, A.data.toList = S.data.toList.take n ∧ ∀ W, (Instr.slice 9 (.string S) none (some (.int .i64 (n : Int))) none).run Try.prog W = .ok (.string A) W := by
  refine ⟨S.extract 0 n, ?_, fun W => ?_⟩
  · simp [ByteArray.data_extract, Array.toList_extract, List.extract]
  · simp [go_sem, h]
theorem slice_off (S : ByteArray) (n : Nat) (h : n ≤ S.size) : ∃ A : ByteArray, A.data.toList = S.data.toList.drop n ∧ A.size ≤ S.size ∧ ∀ W, (Instr.slice 9 (.string S) (some (.int .i64 (n : Int))) none none).run Try.prog W = .ok (.string A) W := by
  refine ⟨S.extract n S.size, ?_, ?_, fun W => ?_⟩
  · simp only [ByteArray.data_extract, Array.toList_extract, List.extract]
    exact List.take_of_length_le (by rw [List.length_drop, len_list]; exact Nat.le_refl _)
  · rw [ByteArray.size_extract]; omega
  · simp [go_sem, h]

/-- Few, and short. -/
def short (x : Xa) : Bool := decide (x.1.length ≤ 400) && decide (x.2.length ≤ 5000)
def few (l : List Xa) : Bool := (l.take 40).all short && decide (l.length ≤ 40)
theorem few_parts {l : List Xa} (h : few l = true) : l.length ≤ 40 ∧ ∀ x ∈ l, x.1.length ≤ 400 ∧ x.2.length ≤ 5000 := by
  unfold few at h
  rw [Bool.and_eq_true, decide_eq_true_eq] at h
  refine ⟨h.2, fun x hx => ?_⟩
  rw [List.take_of_length_le h.2] at h
  have := List.all_eq_true.1 h.1 x hx
  unfold short at this
  rw [Bool.and_eq_true, decide_eq_true_eq, decide_eq_true_eq] at this
  exact this
theorem few_bad {l : List Xa} {i : Nat} {x : Xa} (hi : i < 40) (hx : l[i]? = some x) (h : short x = false) : few l = false := by
  rw [Bool.eq_false_iff]
  intro hf
  unfold few at hf
  rw [Bool.and_eq_true] at hf
  have := List.all_eq_true.1 hf.1 x (List.mem_of_getElem? (i := i) (by rw [List.getElem?_take_of_lt hi]; exact hx))
  rw [h] at this
  cases this
theorem few_all {l : List Xa} (h : ∀ j x, j < 40 → l[j]? = some x → short x = true) : few l = decide (l.length ≤ 40) := by
  unfold few
  rw [show (l.take 40).all short = true from List.all_eq_true.2 fun x hx => by
    obtain ⟨j, hj, he⟩ := List.getElem_of_mem hx
    rw [List.length_take] at hj
    rw [List.getElem_take] at he
    exact h j x (by omega) (by rw [List.getElem?_eq_getElem (by omega), he])]
  rfl
attribute [local irreducible] Row At

set_option maxHeartbeats 1600000 in
theorem few_any (v : Value) (l : List Xa) (w : World) (hat : At xatE v l w) :
    Calls Try.prog 17 #[v] w fun e w' => e = .returned (.bool (few l)) ∧ w' = w := by
  have HA := Lib.hid (fun h => few_all (l := l) h)
  have HB := Lib.hid (fun i x hi hx h => few_bad (l := l) (i := i) (x := x) hi hx h)
  obtain ⟨z, hz⟩ : ∃ z, l.length = z := ⟨_, rfl⟩
  obtain ⟨p, cap, rfl, hcap, hcell⟩ := two_look xat_two hat
  rw [hz] at hcap hat ⊢
  have Hcell := Lib.hid hcell
  have Hz := Lib.hid hz
  clear hcell hz hat
  go_enter Try.func17, Try.ntmps17
  go_wp2_with fail
  go_loopw [3] (fun iv wr => ∃ i : Nat, iv = .int .i64 (i : Int) ∧ i ≤ z ∧ i ≤ 40 ∧ wr = w ∧ Hid (∀ j x, j < i → l[j]? = some x → short x = true)) (fun iv _ => 40 - (intOf iv).toNat)
  case atStart => exact ⟨0, rfl, by omega, by omega, rfl, Lib.hid (fun j x h => by omega)⟩
  case round =>
    obtain ⟨i, rfl, hi, hi4, rfl, HR⟩ := hrel
    by_cases hlt : i < z
    · have hlt' : decide ((i : Int) < (z : Int)) = true := decide_eq_true (by omega)
      have hlt2 : decide (i < z) = true := decide_eq_true hlt
      by_cases hl4 : i < 40
      · have hm1 : decide ((i : Int) < 40) = true := decide_eq_true (by omega)
        have hm2 : decide (i < 40) = true := decide_eq_true hl4
        have hi' : i < l.length := by rw [Hz.out]; exact hlt
        obtain ⟨g, off, rfl, hg, c0, c1⟩ := Hcell.out i hi'
        have hx : l[i]? = some l[i] := List.getElem?_eq_getElem hi'
        generalize l[i] = x at *
        obtain ⟨N, hN⟩ : ∃ N, strOf x.1 = N := ⟨_, rfl⟩
        obtain ⟨V, hV⟩ : ∃ V, strOf x.2 = V := ⟨_, rfl⟩
        have hNs : N.size = x.1.length := by rw [← hN, strOf_size]
        have hVs : V.size = x.2.length := by rw [← hV, strOf_size]
        rw [hN] at c0
        rw [hV] at c1
        clear hN hV hi'
        by_cases k1 : 400 < N.size
        · have HE := Lib.hid (HB.out i x hl4 hx (by unfold short; rw [decide_eq_false (show ¬ x.1.length ≤ 400 by omega)]; rfl))
          have d1 : decide ((400 : Int) < (N.size : Int)) = true := decide_eq_true (by omega)
          have d2 : decide (400 < N.size) = true := decide_eq_true k1
          clear hNs hVs k1 hx HR HA HB
          go_wp2_with fail
          go_ret
          exact ⟨by rw [HE.out]; rfl, rfl⟩
        · have d1 : decide ((400 : Int) < (N.size : Int)) = false := decide_eq_false (by omega)
          have d2 : decide (400 < N.size) = false := decide_eq_false k1
          by_cases k2 : 5000 < V.size
          · have HE := Lib.hid (HB.out i x hl4 hx (by unfold short; rw [decide_eq_false (show ¬ x.2.length ≤ 5000 by omega), Bool.and_false]))
            have d3 : decide ((5000 : Int) < (V.size : Int)) = true := decide_eq_true (by omega)
            have d4 : decide (5000 < V.size) = true := decide_eq_true k2
            clear hNs hVs k1 k2 hx HR HA HB
            go_wp2_with fail
            go_ret
            exact ⟨by rw [HE.out]; rfl, rfl⟩
          · have d3 : decide ((5000 : Int) < (V.size : Int)) = false := decide_eq_false (by omega)
            have d4 : decide (5000 < V.size) = false := decide_eq_false k2
            have HN : Hid (∀ j x, j < i + 1 → l[j]? = some x → short x = true) := Lib.hid (fun j y hj hy => by
              by_cases hji : j = i
              · subst hji
                rw [hx] at hy
                obtain rfl := Option.some.inj hy
                unfold short
                rw [decide_eq_true (show x.1.length ≤ 400 by omega), decide_eq_true (show x.2.length ≤ 5000 by omega)]; rfl
              · exact HR.out j y (by omega) hy)
            clear hNs hVs k1 k2 hx HR HA HB
            go_wp2_with fail
            go_roundw
            case rel => exact ⟨i + 1, rfl, by omega, by omega, by first | trivial | rfl, HN⟩
            case measure => simp only [intOf]; omega
      · have hm1 : decide ((i : Int) < 40) = false := decide_eq_false (by omega)
        have hm2 : decide (i < 40) = false := decide_eq_false hl4
        obtain rfl : i = 40 := by omega
        have HE := Lib.hid (HA.out (fun j x hj hx => HR.out j x hj hx))
        rw [Hz.out] at HE
        clear HR HA HB Hcell
        go_wp2_with fail
        go_ret
        exact ⟨ret_bool (by rw [HE.out, Bool.eq_iff_iff, decide_eq_true_eq, decide_eq_true_eq]; omega), rfl⟩
    · have hlt' : decide ((i : Int) < (z : Int)) = false := decide_eq_false (by omega)
      have hlt2 : decide (i < z) = false := decide_eq_false hlt
      have HE := Lib.hid (HA.out (fun j x hj hx => HR.out j x (by
        have := (List.getElem?_eq_some_iff.1 hx).1
        rw [Hz.out] at this
        omega) hx))
      rw [Hz.out] at HE
      clear HR HA HB Hcell
      go_wp2_with fail
      go_ret
      exact ⟨ret_bool (by rw [HE.out, Bool.eq_iff_iff, decide_eq_true_eq, decide_eq_true_eq]; omega), rfl⟩
end Go.Proofs.Ytajjhndpdjfcpaa.XatW
