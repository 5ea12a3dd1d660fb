/- The walk of the law EscapeBack. -/
import Derived.Test.YtnopldeiadfhiaaWEscapeBytes
namespace Go.Proofs.Ytnopldeiadfhiaa
open Go.RowKit
open EscM
set_option linter.unusedVariables false

theorem get_put_app (l r : List UInt8) : EscM.get (put l ++ r) = (EscM.get r).map (l ++ ·) := by
  induction l with
  | nil => rw [put_nil, List.nil_append]; cases EscM.get r <;> rfl
  | cons c l ih =>
    rw [put_cons, List.append_assoc]
    unfold enc
    by_cases h : self c = true
    · have h37 : c.toNat ≠ 37 := by intro h2; simp [self, h2] at h
      rw [if_pos h, List.singleton_append, get_plain c _ h37, if_pos h, ih, Option.map_map]
      rfl
    · rw [if_neg h]
      have hc := c.toNat_lt
      have h1 := dig_H (c.toNat / 16) (by omega)
      have h2 := dig_H (c.toNat % 16) (by omega)
      simp only [List.cons_append, List.nil_append]
      rw [get_mark _ _ _ _ (by decide +kernel), h1, h2]
      simp only [hexOf_split, ih]
      rw [if_neg h, Option.map_map]
      rfl
theorem enc_plain_all : ∀ i : Fin 256, ∀ b ∈ enc (UInt8.ofNat i.val), 33 ≤ b.toNat ∧ b.toNat ≤ 126 ∧ b.toNat ≠ 61 := by decide +kernel
theorem put_plain (l : List UInt8) : ∀ b ∈ put l, 33 ≤ b.toNat ∧ b.toNat ≤ 126 ∧ b.toNat ≠ 61 := by
  intro b hb
  obtain ⟨c, _, hb⟩ := List.mem_flatMap.1 hb
  have := enc_plain_all ⟨c.toNat, c.toNat_lt⟩ b (by simpa using hb)
  exact this

set_option maxHeartbeats 1600000 in
theorem escapeBack_walk (a0 : ByteArray) (a1 : ByteArray) (w : World) (w0 : a0.size ≤ maxLen) (w1 : a1.size ≤ maxLen) :
    Calls Try.prog 4 #[.string a0, .string a1] w fun e w' => e = .returned (.bool true) ∧ Below w.heap.size w w' := by
  obtain ⟨n, hn⟩ : ∃ n, a0.size = n := ⟨_, rfl⟩
  obtain ⟨m, hm⟩ : ∃ m, a1.size = m := ⟨_, rfl⟩
  by_cases hle : n ≤ 200 ∧ m ≤ 200
  · obtain ⟨hn2, hm2⟩ := hle
    have h1 : ¬ (200 : Int) < (n : Int) := by omega
    have h2 : ¬ (200 : Int) < (m : Int) := by omega
    obtain ⟨P, hP⟩ : ∃ P : ByteArray, P = ⟨(put a0.data.toList).toArray⟩ := ⟨_, rfl⟩
    have hPl : P.data.toList = put a0.data.toList := by rw [hP]
    obtain ⟨Q, hQ⟩ : ∃ Q : ByteArray, Q = ⟨(put a1.data.toList).toArray⟩ := ⟨_, rfl⟩
    have hQl : Q.data.toList = put a1.data.toList := by rw [hQ]
    obtain ⟨N, hN⟩ : ∃ N, P.size = N := ⟨_, rfl⟩
    obtain ⟨M, hM⟩ : ∃ M, Q.size = M := ⟨_, rfl⟩
    have hN6 : N ≤ 600 := by
      have h3 : P.data.toList.length = P.size := by simp
      have h4 : a0.data.toList.length = n := by rw [← hn]; simp
      have h5 := put_len a0.data.toList
      rw [← hPl] at h5
      omega
    have hM6 : M ≤ 600 := by
      have h3 : Q.data.toList.length = Q.size := by simp
      have h4 : a1.data.toList.length = m := by rw [← hm]; simp
      have h5 := put_len a1.data.toList
      rw [← hQl] at h5
      omega
    have hno : ∀ (r : ByteArray), EscM.get r.data.toList = none → r.size ≤ 10 → ∀ W, Calls Try.prog 7 #[.string (P ++ r)] W fun e w' => e = .returned (.tuple #[.string ⟨#[]⟩, .bool false]) ∧ Below W.heap.size W w' := fun r hr hr10 W => by
      refine Get_no (P ++ r) (by rw [ByteArray.size_append, hN]; omega) ?_ W
      rw [bytes_list, hPl, get_put_app, hr]
      rfl
    have H1 := Lib.hid (fun W => Put_is a0 (by omega) P hPl W)
    have H2 := Lib.hid (fun W => Get_is P (by omega) a0 hPl.symm W)
    have H3 := Lib.hid (hno ⟨#[37, 51, 100]⟩ (by decide +kernel) (by decide))
    have H4 := Lib.hid (hno ⟨#[37, 52, 49]⟩ (by decide +kernel) (by decide))
    have H5 := Lib.hid (hno ⟨#[32]⟩ (by decide +kernel) (by decide))
    have H6 := Lib.hid (hno ⟨#[37, 52]⟩ (by decide +kernel) (by decide))
    have H7 := Lib.hid (fun W => Put_is (a0 ++ a1) (by rw [ByteArray.size_append]; omega) (P ++ Q) (by rw [bytes_list, bytes_list, hPl, hQl, put_append]) W)
    have H8 := Lib.hid (fun W => Put_is a1 (by omega) Q hQl W)
    have HP := Lib.hid hPl
    clear hPl hP hQ hQl hno
    go_enter Try.func4, Try.ntmps4
    go_wp2_with fail
    refine (H1.out _).mono ?_
    rintro e w3 ⟨rfl, hb3⟩
    go_wp2_with fail
    refine (H2.out _).mono ?_
    rintro e w4 ⟨rfl, hb4⟩
    have hb := bthen hb3 hb4
    clear hb3 hb4
    go_wp2_with fail
    go_loop [8] (fun iv => ∃ i : Nat, iv = .int .i64 (i : Int) ∧ i ≤ N) (fun iv => N - (intOf iv).toNat)
    case atStart => exact ⟨0, rfl, by omega⟩
    case round =>
      obtain ⟨i, rfl, hi⟩ := hrel
      by_cases hlt : i < N
      · have hlt' : (i : Int) < (N : Int) := by omega
        obtain ⟨c, hc, hidx⟩ := idx_at Try.underlying9 P i (by omega)
        have hpl := put_plain a0.data.toList c (by rw [← HP.out]; exact List.mem_of_getElem? hc)
        obtain ⟨k1, k2, k3⟩ := hpl
        obtain ⟨x, hx⟩ : ∃ x : Int, x = (c.toNat : Int) := ⟨_, rfl⟩
        rw [← hx] at hidx
        have g1 : ¬ x < 33 := by omega
        have g2 : ¬ 126 < x := by omega
        have g3 : (x == 61) = false := by rw [beq_eq_false_iff_ne]; omega
        clear hx k1 k2 k3 hc
        go_wp2_with fail
        go_round
        case rel => exact ⟨i + 1, rfl, by omega⟩
        case measure => simp only [intOf]; omega
      · have hlt' : ¬ (i : Int) < (N : Int) := by omega
        clear HP
        go_wp2_with fail
        refine (H3.out _).mono ?_
        rintro e w5 ⟨rfl, hb5⟩
        have hb5 := bthen hb hb5
        go_wp2_with fail
        refine (H4.out _).mono ?_
        rintro e w6 ⟨rfl, hb6⟩
        have hb6 := bthen hb5 hb6
        clear hb5
        go_wp2_with fail
        refine (H5.out _).mono ?_
        rintro e w7 ⟨rfl, hb7⟩
        have hb7 := bthen hb6 hb7
        clear hb6
        go_wp2_with fail
        refine (H6.out _).mono ?_
        rintro e w8 ⟨rfl, hb8⟩
        have hb8 := bthen hb7 hb8
        clear hb7
        go_wp2_with fail
        refine (H7.out _).mono ?_
        rintro e w9 ⟨rfl, hb9⟩
        have hb9 := bthen hb8 hb9
        clear hb8
        go_wp2_with fail
        refine (H8.out _).mono ?_
        rintro e wa ⟨rfl, hba⟩
        have hba := bthen hb9 hba
        clear hb9
        go_wp2_with fail
        refine (awake_true _).mono ?_
        rintro e wb ⟨rfl, hbb⟩
        go_wp2_with fail
        go_ret
        exact ⟨rfl, bthen hba hbb⟩
  · rcases Classical.em (n ≤ 200) with h4 | h4
    · have h1 : ¬ (200 : Int) < (n : Int) := by omega
      have h2 : (200 : Int) < (m : Int) := by omega
      clear hle
      go_enter Try.func4, Try.ntmps4
      go_wp2_with fail
      refine (awake_true _).mono ?_
      rintro e w6 ⟨rfl, hb6⟩
      go_wp2_with fail
      go_ret
      exact ⟨rfl, hb6⟩
    · have h1 : (200 : Int) < (n : Int) := by omega
      clear hle
      go_enter Try.func4, Try.ntmps4
      go_wp2_with fail
      refine (awake_true _).mono ?_
      rintro e w6 ⟨rfl, hb6⟩
      go_wp2_with fail
      go_ret
      exact ⟨rfl, hb6⟩
end Go.Proofs.Ytnopldeiadfhiaa
