/- The laws of package rec: awake; an error's number. -/
import Derived.Test.YtbjklpodkopgiaaDoorRecGet2
namespace Go.Proofs.YtbjklpodkopgiaaDoor
open Go.RowKit
open RecM
open Go.Lib (decDigits)
set_option linter.unusedVariables false

theorem err_any (x : Int) (w : World) :
    Calls Tryd.prog 17 #[.int .i64 x] w fun e w' => e = .returned (.int .i64 x) ∧ w = w' := by
  go_enter Tryd.func17, Tryd.ntmps17
  go_wp2_with fail
  go_ret
  exact ⟨rfl, rfl⟩
theorem enc_ab : encF [97] [98] = [54, 32, 97, 61, 98, 10] := by
  simp [encF, lenF, decDigits]
theorem may_ab : mayB [97] [98] = true := by decide
theorem awake_true (w : World) (hA : Amb w) :
    Calls Tryd.prog 8 #[] w fun e w' => e = .returned (.bool true) ∧ Below w.heap.size w w' := by
  have hg : getF ((strOf [54, 32, 97, 61, 98, 10]).data.toList.drop 0) = some ([97], [98], 6) :=
    get_of ⟨may_ab, [], by rw [strOf_list, enc_ab]; rfl, by rw [enc_ab]; rfl⟩
  have H1 := fun W h => get_any (strOf [54, 32, 97, 61, 98, 10]) 0 (by decide) (by decide) W h
  rw [hg] at H1
  have H1 := Lib.hid H1
  have H2 := fun W h => put_any (strOf [97]) (strOf [98]) (by decide) W h
  have hp : putF (strOf [97]).data.toList (strOf [98]).data.toList = [54, 32, 97, 61, 98, 10] := by rw [strOf_list, strOf_list, put_may may_ab, enc_ab]
  rw [hp] at H2
  have H2 := Lib.hid H2
  clear hg hp
  simp only [strOf, List.toArray] at H1 H2
  go_enter Tryd.func8, Tryd.ntmps8
  go_wp2_with fail
  refine (H1.out _ hA).mono ?_
  rintro e w1 ⟨rfl, hbw1⟩
  simp only [getV, strOf]
  have hzw1 := hbw1.size
  go_wp2_with fail
  refine (H2.out _ (hA.on (by (repeat' (first | exact Below.refl _ _ | assumption | refine gr_drew ?_ | refine gr_drewN ?_ _ | refine gr_alloc ?_ _ | refine gr_set ?_ ?_ _ | refine gr_call ?_ (by assumption)) <;> (try (simp; done)) <;> (try (simp; omega)) <;> (try omega))))).mono ?_
  rintro e w2 ⟨rfl, hbw2⟩
  have hzw2 := hbw2.size
  try simp at hzw2
  have : w1.heap.size < w2.heap.size := by omega
  have : w1.heap.size ≤ w2.heap.size := by omega
  have : w2.cell? ⟨w1.heap.size, 0, none⟩ = some (.string ⟨#[97]⟩) := cell_kept hbw2 (by simp [go_sem, *])
  have : w2.frozen? ⟨w1.heap.size, 0, none⟩ = false := free_kept hbw2 (v := .string ⟨#[97]⟩) (by simp [go_sem, *]) (by simp [go_sem, *])
  have : w1.heap.size < w2.heap.size := by omega
  have : w1.heap.size ≤ w2.heap.size := by omega
  have : w2.cell? ⟨w1.heap.size, 1, none⟩ = some (.string ⟨#[98]⟩) := cell_kept hbw2 (by simp [go_sem, *])
  have : w2.frozen? ⟨w1.heap.size, 1, none⟩ = false := free_kept hbw2 (v := .string ⟨#[98]⟩) (by simp [go_sem, *]) (by simp [go_sem, *])
  go_wp2_with fail
  go_wp2_with fail
  refine (err_any _ _).mono ?_
  rintro e w' ⟨rfl, rfl⟩
  go_wp2_with fail
  go_ret
  exact ⟨rfl, by (repeat' (first | exact Below.refl _ _ | assumption | refine gr_drew ?_ | refine gr_drewN ?_ _ | refine gr_alloc ?_ _ | refine gr_set ?_ ?_ _ | refine gr_call ?_ (by assumption)) <;> (try (simp; done)) <;> (try (simp; omega)) <;> (try omega))⟩

/-- What Get hands back at whatever place: the record, the index, the error's number. -/
def gotF (L : List UInt8) (x : Int) : List UInt8 × List UInt8 × Int × Int :=
  if x < 0 ∨ (L.length : Int) < x then ([], [], 0, 1) else
  if x = (L.length : Int) then ([], [], 0, 5) else
  match getF (L.drop x.toNat) with
  | none => ([], [], 0, 4)
  | some (k, v, n) => (k, v, ((x.toNat + n : Nat) : Int), 0)
theorem getU (S : ByteArray) (x : Int) (hS : S.size ≤ 90000) (w : World) (hA : Amb w) :
    Calls Tryd.prog 9 #[.string S, .int .i64 x] w fun e w' => e = .returned (.tuple #[.agg #[.string (strOf (gotF S.data.toList x).1), .string (strOf (gotF S.data.toList x).2.1)], .int .i64 (gotF S.data.toList x).2.2.1, .int .i64 (gotF S.data.toList x).2.2.2]) ∧ Below w.heap.size w w' := by
  have hl := len_list S
  by_cases h1 : x < 0
  · have e : gotF S.data.toList x = ([], [], 0, 1) := by unfold gotF; rw [if_pos (Or.inl h1)]
    rw [e]
    exact get_neg S x h1 hS w
  · by_cases h2 : (S.size : Int) < x
    · have e : gotF S.data.toList x = ([], [], 0, 1) := by unfold gotF; rw [if_pos (Or.inr (by rw [hl]; exact h2))]
      rw [e]
      exact get_over S x h2 hS w
    · by_cases h3 : x = (S.size : Int)
      · have e : gotF S.data.toList x = ([], [], 0, 5) := by unfold gotF; rw [if_neg (by rw [hl]; omega), if_pos (by rw [hl]; exact h3)]
        rw [e]
        exact get_end S x h3 hS w
      · obtain ⟨i, rfl⟩ : ∃ i : Nat, x = (i : Int) := ⟨_, (Int.toNat_of_nonneg (by omega)).symm⟩
        have h := get_any S i (by omega) hS w hA
        unfold gotF
        rw [if_neg (by rw [hl]; omega), if_neg (by rw [hl]; exact h3), Int.toNat_natCast]
        revert h
        rcases getF (S.data.toList.drop i) with _ | ⟨k, v, n⟩
        · exact fun h => h
        · exact fun h => h
theorem all_length {s : List UInt8} {l : List (List UInt8 × List UInt8)} (h : allF s = some l) : l.length ≤ s.length := by
  obtain ⟨h1, h2⟩ := join_all h
  rw [← h1]
  clear h h1
  induction l with
  | nil => simp
  | cons r l ih =>
    have h3 := ih (fun y hy => h2 y (List.mem_cons_of_mem _ hy))
    have h4 := h2 r (List.mem_cons_self ..)
    have h5 := List.length_pos_iff.2 (enc_ne r.1 r.2)
    have e : joinF (r :: l) = encF r.1 r.2 ++ joinF l := by unfold joinF; rw [List.map_cons, List.flatten_cons, put_may h4]
    rw [e, List.length_append, List.length_cons]
    omega
end Go.Proofs.YtbjklpodkopgiaaDoor
