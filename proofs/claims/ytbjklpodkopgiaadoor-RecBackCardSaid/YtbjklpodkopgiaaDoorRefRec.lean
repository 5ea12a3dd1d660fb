/- Walks over the document's answer for records: digits, a byte of a text, a record's bytes, whether it may be. -/
import Derived.Test.YtbjklpodkopgiaaDoorRecKit
namespace Go.Proofs.YtbjklpodkopgiaaDoor
open Go.RowKit
open DecM
open RecM
open Go.Lib (decDigits itoa)
set_option linter.unusedVariables false

theorem dec_step (m : Nat) (h : 10 ≤ m) : decDigits m = decDigits (m / 10) ++ [UInt8.ofNat (48 + m % 10)] := by
  rw [decDigits, dif_neg (by omega)]
theorem refDigits_any (n : Nat) (w : World) (hn : n < 9223372036854775808) :
    Calls Tryd.prog 21 #[.int .i64 n] w fun e w' => e = .returned (.string (strOf (decDigits n))) ∧ Below w.heap.size w w' := by
  have hl : (decDigits n).length ≤ 19 := dec_len 18 n (by omega)
  have Hl := Lib.hid hl
  clear hl
  go_enter Tryd.func21, Tryd.ntmps21
  go_wp2_with fail
  go_loopw [0, 3] (fun nv sv wr => ∃ (m : Nat) (S : List UInt8), m ≤ n ∧ nv = .int .i64 m ∧ sv = .string ⟨S.toArray⟩ ∧ Hid (decDigits m ++ S = decDigits n) ∧ Below w.heap.size w wr) (fun nv _ _ => (intOf nv).toNat)
  case atStart => exact ⟨n, [], Nat.le_refl _, rfl, rfl, by simp [Hid], Below.refl _ _⟩
  case round =>
    obtain ⟨m, S, hm, rfl, rfl, HS, hbl⟩ := hrel
    have hS : S.length ≤ 19 := by
      have := congrArg List.length HS.out
      have h2 := Hl.out
      simp at this; omega
    by_cases hgo : 10 ≤ m
    · have hu : (48 + (m : Int) % 10) = ((UInt8.ofNat (48 + m % 10)).toNat : Int) := by simp; omega
      have HS' := Lib.hid (show decDigits (m / 10) ++ (UInt8.ofNat (48 + m % 10) :: S) = decDigits n by rw [← HS.out, dec_step m hgo]; simp)
      generalize UInt8.ofNat (48 + m % 10) = u at *
      have hcv := fun W => conv_one (P := Tryd.prog) (src := 46) (dst := 9) Tryd.underlying46 Tryd.underlying5 Tryd.underlying9 u (48 + (m : Int) % 10) hu W
      clear hu HS
      have hbl2 := gr_alloc hbl (.cells #[.int .u8 (48 + (m : Int) % 10)] 5)
      go_wp2
      all_goals
        go_roundw
        case rel => exact ⟨m / 10, u :: S, by omega, by go_num, by rw [one_more], HS', hbl2⟩
        case measure => simp [intOf]; omega
    · have hu : (48 + (m : Int)) = ((UInt8.ofNat (48 + m)).toNat : Int) := by simp; omega
      have Hd := Lib.hid (show decDigits n = UInt8.ofNat (48 + m) :: S by rw [← HS.out, decDigits, dif_pos (by omega)]; rfl)
      generalize UInt8.ofNat (48 + m) = u at *
      have hcv := fun W => conv_one (P := Tryd.prog) (src := 46) (dst := 9) Tryd.underlying46 Tryd.underlying5 Tryd.underlying9 u (48 + (m : Int)) hu W
      have hlt : decide ((10 : Int) ≤ (m : Int)) = false := by simp; omega
      clear hu HS
      go_wp2
      go_ret
      exact ⟨ret_bytes (by rw [Hd.out]; simp), by (repeat' (first | exact Below.refl _ _ | assumption | refine gr_drew ?_ | refine gr_drewN ?_ _ | refine gr_alloc ?_ _ | refine gr_set ?_ ?_ _ | refine gr_call ?_ (by assumption)) <;> (try (simp; done)) <;> (try (simp; omega)) <;> (try omega))⟩

theorem refHas_any (S : ByteArray) (c : UInt8) (x : Int) (hx : x = (c.toNat : Int)) (hS : S.size ≤ 1000000) (w : World) :
    Calls Tryd.prog 26 #[.string S, .int .u8 x] w fun e w' => e = .returned (.bool (S.data.toList.contains c)) ∧ w' = w := by
  obtain ⟨n, hn⟩ : ∃ n, S.size = n := ⟨_, rfl⟩
  have Hx := Lib.hid hx
  obtain ⟨L, hL⟩ : ∃ L, S.data.toList = L := ⟨_, rfl⟩
  have hln := Lib.hid (show L.length = n by rw [← hL, ← hn]; simp)
  have HI := Lib.hid (fun i (h : i < n) => idxAt Tryd.underlying9 S i (by omega))
  rw [hL] at HI ⊢
  rw [hn] at hS
  obtain ⟨r, hr⟩ : ∃ r, L.contains c = r := ⟨_, rfl⟩
  have Hrr := Lib.hid hr
  rw [hr]
  clear hx hL hr
  go_enter Tryd.func26, Tryd.ntmps26
  go_wp2_with fail
  go_loopw [5] (fun iv wr => ∃ i : Nat, iv = .int .i64 (i : Int) ∧ i ≤ n ∧ wr = w ∧ Hid (r = (L.drop i).contains c)) (fun iv _ => n - (intOf iv).toNat)
  case atStart => exact ⟨0, rfl, by omega, rfl, Lib.hid (by simp [← Hrr.out])⟩
  case round =>
    obtain ⟨i, rfl, hi, rfl, HR⟩ := hrel
    by_cases hlt : i < n
    · have hlt' : (i : Int) < (n : Int) := by omega
      obtain ⟨d, hd, hidx⟩ := HI.out i hlt
      by_cases hdc : d = c
      · have heq : ((d.toNat : Int) == x) = true := by rw [hdc, Hx.out]; simp
        have Hr := Lib.hid (show r = true by rw [HR.out, dropAt hd, hdc]; simp)
        clear hd hdc HR
        go_wp2
        go_ret
        exact ⟨ret_bool Hr.out.symm, rfl⟩
      · have heq : ((d.toNat : Int) == x) = false := by rw [Hx.out]; exact toNat_ne hdc
        have Hr := Lib.hid (show r = (L.drop (i + 1)).contains c by rw [HR.out, dropAt hd, List.contains_cons]; simp [Ne.symm hdc])
        clear hd hdc HR
        go_wp2
        go_roundw
        case rel => exact ⟨i + 1, by go_num, by omega, by trivial, Hr⟩
        case measure => simp [intOf]; omega
    · have hlt' : ¬ (i : Int) < (n : Int) := by omega
      have Hr := Lib.hid (show r = false by rw [HR.out, List.drop_eq_nil_of_le (by rw [hln.out]; omega)]; rfl)
      clear HR
      go_wp2
      go_ret
      exact ⟨ret_bool Hr.out.symm, rfl⟩
end Go.Proofs.YtbjklpodkopgiaaDoor
