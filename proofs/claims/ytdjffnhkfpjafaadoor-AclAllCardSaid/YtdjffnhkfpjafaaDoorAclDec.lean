/- The document's answer: a number in decimal digits. -/
import Derived.Test.YtdjffnhkfpjafaaDoorAclRef1
import Derived.Test.YtdjffnhkfpjafaaDoorAclRow
import Derived.Deep.QuietTactic
namespace Go.Proofs.YtdjffnhkfpjafaaDoor
open Go.RowKit
open AclM DecM
set_option linter.unusedVariables false

/-- What Decimal hands back. -/
def decEnd (s : List UInt8) (e : Ending) : Prop := ∃ m : Int, e = .returned (.int .i64 m) ∧ -1 ≤ m ∧ m ≤ 2147483647 ∧ ∀ k : Nat, k ≤ 2147483647 → s = Lib.decDigits k → m = (k : Int)
theorem val_take (s : List UInt8) (i : Nat) : valN (s.take i) ≤ valN s := by
  conv => rhs; rw [← List.take_append_drop i s, valN_append]
  have : 1 ≤ 10 ^ (s.drop i).length := Nat.one_le_pow _ _ (by decide)
  have := Nat.le_mul_of_pos_right (valN (s.take i)) this
  omega
set_option maxHeartbeats 1600000 in
theorem refDecimal_any (S : ByteArray) (hS : S.size ≤ 100000) (w : World) :
    Calls Tryd.prog 26 #[.string S] w fun e w' => decEnd S.data.toList e ∧ Below w.heap.size w w' := by
  obtain ⟨n, hn⟩ : ∃ n, S.size = n := ⟨_, rfl⟩
  have Hlen := Lib.hid (show S.data.toList.length = n by rw [len_list, hn])
  have Hidx := Lib.hid (fun i h => idxAt (P := Tryd.prog) Tryd.underlying9 S i (by rw [hn]; exact h))
  rw [hn] at hS
  have hSe : S.toList = S.data.toList := Lib.toList_data S
  have hdg := Lib.hid refDigits_any
  go_enter Tryd.func26, Tryd.ntmps26
  go_wp2_with fail
  go_loopw [3, 4] (fun mv iv wr => ∃ (i N : Nat), iv = .int .i64 (i : Int) ∧ mv = .int .i64 (N : Int) ∧ i ≤ n ∧ N ≤ 21474836479 ∧ Below w.heap.size w wr ∧ Hid ((∀ c ∈ S.data.toList.take i, isDig c = true) ∧ valN (S.data.toList.take i) = N)) (fun _ iv _ => n - (intOf iv).toNat)
  case atStart => exact ⟨0, 0, rfl, rfl, by omega, by omega, Below.refl _ _, Lib.hid ⟨by simp, rfl⟩⟩
  case round =>
    obtain ⟨i, N, rfl, rfl, hi, hN, hbl, HR⟩ := hrel
    rename World => wr
    by_cases hbig : N ≤ 2147483647
    · by_cases hlt : i < n
      · have e1 : decide ((i : Int) < (n : Int)) = true := decide_eq_true (by omega)
        have e1' : decide (i < n) = true := decide_eq_true hlt
        have e2 : decide ((N : Int) ≤ 2147483647) = true := decide_eq_true (by omega)
        have e2' : decide (N ≤ 2147483647) = true := decide_eq_true hbig
        obtain ⟨c, hc, hidx⟩ := Hidx.out i hlt
        have hc255 := c.toNat_lt
        by_cases hd : 48 ≤ c.toNat ∧ c.toNat ≤ 57
        · have f1 : decide ((c.toNat : Int) < 48) = false := decide_eq_false (by omega)
          have f2 : decide (57 < (c.toNat : Int)) = false := decide_eq_false (by omega)
          have f1' : decide (c.toNat < 48) = false := decide_eq_false (by omega)
          have f2' : decide (57 < c.toNat) = false := decide_eq_false (by omega)
          have HN : Hid ((∀ x ∈ S.data.toList.take (i + 1), isDig x = true) ∧ valN (S.data.toList.take (i + 1)) = N * 10 + (c.toNat - 48)) := Lib.hid (by
            have hlt2 : i < S.data.toList.length := by rw [Hlen.out]; exact hlt
            have he : S.data.toList[i] = c := by rw [List.getElem?_eq_getElem hlt2] at hc; exact Option.some.inj hc
            rw [List.take_succ_eq_append_getElem hlt2, he]
            refine ⟨fun x hx => ?_, by rw [valN_snoc, HR.out.2]⟩
            rcases List.mem_append.1 hx with hx | hx
            · exact HR.out.1 x hx
            · simp at hx; subst hx; simp [isDig]; omega)
          have hv : (N : Int) * 10 + ((c.toNat : Int) - 48) = ((N * 10 + (c.toNat - 48) : Nat) : Int) := by omega
          clear HR hc
          go_wp2_with fail
          go_roundw
          case rel => exact ⟨i + 1, N * 10 + (c.toNat - 48), rfl, by congr 1, by omega, by omega, by (repeat' (first | exact Below.refl _ _ | assumption | refine gr_drew ?_ | refine gr_drewN ?_ _ | refine gr_alloc ?_ _ | refine gr_set ?_ ?_ _ | refine gr_call ?_ (by assumption)) <;> (try (simp; done)) <;> (try (simp; omega)) <;> (try omega)), HN⟩
          case measure => simp only [intOf]; omega
        · have HE : Hid (∀ k : Nat, S.data.toList ≠ Lib.decDigits k) := Lib.hid (fun k hk => by
            have hm : c ∈ Lib.decDigits k := by rw [← hk]; exact List.mem_of_getElem? hc
            exact hd (isDig_of (dec_dig k c hm)))
          by_cases h48 : c.toNat < 48
          · have f1 : decide ((c.toNat : Int) < 48) = true := decide_eq_true (by omega)
            have f1' : decide (c.toNat < 48) = true := decide_eq_true h48
            clear HR hc
            go_wp2_with fail
            go_ret
            exact ⟨⟨-1, rfl, by omega, by omega, fun k _ hk => absurd hk (HE.out k)⟩, by (repeat' (first | exact Below.refl _ _ | assumption | refine gr_drew ?_ | refine gr_drewN ?_ _ | refine gr_alloc ?_ _ | refine gr_set ?_ ?_ _ | refine gr_call ?_ (by assumption)) <;> (try (simp; done)) <;> (try (simp; omega)) <;> (try omega))⟩
          · have f1 : decide ((c.toNat : Int) < 48) = false := decide_eq_false (by omega)
            have f1' : decide (c.toNat < 48) = false := decide_eq_false h48
            have f2 : decide (57 < (c.toNat : Int)) = true := decide_eq_true (by omega)
            have f2' : decide (57 < c.toNat) = true := decide_eq_true (by omega)
            clear HR hc
            go_wp2_with fail
            go_ret
            exact ⟨⟨-1, rfl, by omega, by omega, fun k _ hk => absurd hk (HE.out k)⟩, by (repeat' (first | exact Below.refl _ _ | assumption | refine gr_drew ?_ | refine gr_drewN ?_ _ | refine gr_alloc ?_ _ | refine gr_set ?_ ?_ _ | refine gr_call ?_ (by assumption)) <;> (try (simp; done)) <;> (try (simp; omega)) <;> (try omega))⟩
      · have e1 : decide ((i : Int) < (n : Int)) = false := decide_eq_false (by omega)
        have e1' : decide (i < n) = false := decide_eq_false hlt
        have e3 : decide (2147483647 < (N : Int)) = false := decide_eq_false (by omega)
        have e3' : decide (2147483647 < N) = false := decide_eq_false (by omega)
        have hv : valN S.data.toList = N := by
          have := HR.out.2
          rwa [List.take_of_length_le (by rw [Hlen.out]; omega)] at this
        have hd := Lib.hid (hdg.out N wr (by omega))
        obtain ⟨T, hT⟩ : ∃ T, strOf (Lib.decDigits N) = T := ⟨_, rfl⟩
        rw [hT] at hd
        have hTe : T.toList = Lib.decDigits N := by rw [← hT, Lib.toList_data, strOf_list]
        by_cases hq : T.toList = S.toList
        · have HE : Hid (∀ k : Nat, k ≤ 2147483647 → S.data.toList = Lib.decDigits k → (N : Int) = (k : Int)) := Lib.hid (fun k _ hk => by
            have := dec_val k
            rw [← hk, hv] at this
            omega)
          have hq2 : (T.toList == S.toList) = true := by rw [hq]; exact beq_self_eq_true _
          clear HR hv hTe hSe hT hq
          go_wp2_with fail
          refine (hd.out).mono ?_
          rintro e w2 ⟨rfl, hb2⟩
          go_wp2_with fail
          go_ret
          exact ⟨⟨N, rfl, by omega, by omega, HE.out⟩, gr_call hbl hb2⟩
        · have HE : Hid (∀ k : Nat, S.data.toList ≠ Lib.decDigits k) := Lib.hid (fun k hk => by
            have := dec_val k
            rw [← hk, hv] at this
            subst this
            exact hq (by rw [hTe, hSe, hk]))
          have hq2 : (T.toList == S.toList) = false := beq_eq_false_iff_ne.2 hq
          clear HR hv hTe hSe hT hq
          go_wp2_with fail
          refine (hd.out).mono ?_
          rintro e w2 ⟨rfl, hb2⟩
          go_wp2_with fail
          go_ret
          exact ⟨⟨-1, rfl, by omega, by omega, fun k _ hk => absurd hk (HE.out k)⟩, gr_call hbl hb2⟩
    · have e2 : decide ((N : Int) ≤ 2147483647) = false := decide_eq_false (by omega)
      have e2' : decide (N ≤ 2147483647) = false := decide_eq_false hbig
      have e3 : decide (2147483647 < (N : Int)) = true := decide_eq_true (by omega)
      have e3' : decide (2147483647 < N) = true := decide_eq_true (by omega)
      have HE : Hid (∀ k : Nat, k ≤ 2147483647 → S.data.toList ≠ Lib.decDigits k) := Lib.hid (fun k hk1 hk => by
        have h1 := dec_val k
        have h2 := val_take S.data.toList i
        rw [← hk] at h1
        rw [HR.out.2, h1] at h2
        omega)
      clear HR
      by_cases hlt : i < n
      · have e1 : decide ((i : Int) < (n : Int)) = true := decide_eq_true (by omega)
        have e1' : decide (i < n) = true := decide_eq_true hlt
        go_wp2_with fail
        go_ret
        exact ⟨⟨-1, rfl, by omega, by omega, fun k h1 hk => absurd hk (HE.out k h1)⟩, by (repeat' (first | exact Below.refl _ _ | assumption | refine gr_drew ?_ | refine gr_drewN ?_ _ | refine gr_alloc ?_ _ | refine gr_set ?_ ?_ _ | refine gr_call ?_ (by assumption)) <;> (try (simp; done)) <;> (try (simp; omega)) <;> (try omega))⟩
      · have e1 : decide ((i : Int) < (n : Int)) = false := decide_eq_false (by omega)
        have e1' : decide (i < n) = false := decide_eq_false hlt
        go_wp2_with fail
        go_ret
        exact ⟨⟨-1, rfl, by omega, by omega, fun k h1 hk => absurd hk (HE.out k h1)⟩, by (repeat' (first | exact Below.refl _ _ | assumption | refine gr_drew ?_ | refine gr_drewN ?_ _ | refine gr_alloc ?_ _ | refine gr_set ?_ ?_ _ | refine gr_call ?_ (by assumption)) <;> (try (simp; done)) <;> (try (simp; omega)) <;> (try omega))⟩
end Go.Proofs.YtdjffnhkfpjafaaDoor
