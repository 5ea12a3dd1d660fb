/- Walks over package caps: what the reader gives away. -/
import Derived.Test.YtijagjahocjaaaaCapsPut
import Derived.Recover
namespace Go.Proofs.Ytijagjahocjaaaa
open Go.RowKit
open CapsM
set_option linter.unusedVariables false

/-- What ends the decoding. -/
def noCaps : List PanicEntry := [{ v := .iface 50 (.agg #[]), recovered := false }]

theorem number_no (g : Nat) (S : ByteArray) (h : S.size < 4) (w : World) (hc : w.cell? ⟨g, 0, none⟩ = some (.string S)) :
    Calls Try.prog 20 #[.pointer (some ⟨g, 0, none⟩)] w fun e w' => e = .panicked noCaps ∧ w' = w := by
  obtain ⟨n, hn⟩ : ∃ n, S.size = n := ⟨_, rfl⟩
  rw [hn] at h
  have h1 : decide ((n : Int) < 4) = true := decide_eq_true (by omega)
  have h2 : decide (n < 4) = true := decide_eq_true h
  go_enter Try.func20, Try.ntmps20
  go_wp2_with fail
  exact ⟨rfl, rfl, rfl⟩

/-- The number that the first bytes say. -/
def part (l : List UInt8) : Nat → Nat
  | 0 => 0
  | i + 1 => part l i + ((l[i]?).map (·.toNat)).getD 0 * 256 ^ i
theorem part_lt (l : List UInt8) : ∀ i, part l i < 256 ^ i
  | 0 => by simp [part]
  | i + 1 => by
    have h1 := part_lt l i
    have h2 : ((l[i]?).map (·.toNat)).getD 0 ≤ 255 := by
      cases l[i]? with
      | none => simp
      | some c => have := c.toNat_lt; simp; omega
    have h3 : ((l[i]?).map (·.toNat)).getD 0 * 256 ^ i ≤ 255 * 256 ^ i := Nat.mul_le_mul_right _ h2
    simp only [part, Nat.pow_succ]
    omega
theorem part_four {l : List UInt8} (h : 4 ≤ l.length) : part l 4 = le4 l := by
  match l, h with
  | a :: b :: c :: d :: r, _ => simp [part, le4]
theorem part_next {l : List UInt8} {i : Nat} {c : UInt8} (h : l[i]? = some c) : part l (i + 1) = part l i + c.toNat * 256 ^ i := by simp [part, h]
theorem or_add (p c i : Nat) (hp : p < 256 ^ i) (hc : c < 256) (hi : i < 4) (x : Int) (hx : x = ((c * 256 ^ i : Nat) : Int)) : bits .or .u32 (p : Int) x = ((p + c * 256 ^ i : Nat) : Int) := by
  subst hx
  have h4 : 256 ^ i ≤ 16777216 := by
    have : i = 0 ∨ i = 1 ∨ i = 2 ∨ i = 3 := by omega
    rcases this with rfl | rfl | rfl | rfl <;> decide
  have h5 : c * 256 ^ i ≤ 255 * 16777216 := Nat.mul_le_mul (by omega) h4
  rw [u32_or_nat _ _ (by omega) (by omega)]
  have e : (256 : Nat) ^ i = 2 ^ (8 * i) := by rw [show (256 : Nat) = 2 ^ 8 from rfl, ← Nat.pow_mul]
  rw [e] at hp ⊢
  have := Nat.two_pow_add_eq_or_of_lt hp c
  rw [Nat.mul_comm c, Nat.or_comm, ← this, Nat.add_comm]

theorem extract_str (S : ByteArray) (f i : Nat) : S.extract f i = strOf ((S.data.toList.drop f).take (i - f)) := by
  apply str_eq
  simp [ByteArray.data_extract, Array.toList_extract, List.extract]
theorem extract_end (S : ByteArray) (f n : Nat) (hn : S.size = n) : S.extract f n = strOf (S.data.toList.drop f) := by
  rw [extract_str, List.take_of_length_le]
  rw [List.length_drop, len_list, hn]
  exact Nat.le_refl _
theorem byte_at (S : ByteArray) (i : Nat) (h : i < S.size) : S.data.toList[i]? = some S[i] := by
  rw [List.getElem?_eq_getElem (by simpa using h)]; rfl

set_option maxHeartbeats 1600000 in
theorem number_yes (g : Nat) (S : ByteArray) (h : 4 ≤ S.size) (hS : S.size ≤ 800000) (w : World) (hc : w.cell? ⟨g, 0, none⟩ = some (.string S)) (hz : w.frozen? ⟨g, 0, none⟩ = false) :
    Calls Try.prog 20 #[.pointer (some ⟨g, 0, none⟩)] w fun e w' => e = .returned (.int .u32 (le4 S.data.toList : Int)) ∧ w' = w.setCell ⟨g, 0, none⟩ (.string (strOf (S.data.toList.drop 4))) := by
  have HP := Lib.hid (part_four (l := S.data.toList) (by rw [len_list]; exact h))
  have HB := Lib.hid (fun i h => byte_at S i h)
  obtain ⟨n, hn⟩ : ∃ n, S.size = n := ⟨_, rfl⟩
  have hex := Lib.hid (extract_end S 4 n hn)
  rw [hn] at h hS
  have h1 : decide ((n : Int) < 4) = false := decide_eq_false (by omega)
  have h2 : decide (n < 4) = false := decide_eq_false (by omega)
  have HX := Lib.hid (part_lt S.data.toList)
  go_enter Try.func20, Try.ntmps20
  go_wp2_with fail
  go_loopw [3, 13] (fun nv iv wr => wr = w ∧ ∃ i p : Nat, iv = .int .i64 (i : Int) ∧ i ≤ 4 ∧ nv = .int .u32 (p : Int) ∧ Hid (p = part S.data.toList i)) (fun _ iv _ => 4 - (intOf iv).toNat)
  case atStart => exact ⟨rfl, 0, 0, rfl, by omega, rfl, Lib.hid rfl⟩
  case round =>
    obtain ⟨rfl, i, p, rfl, hi, rfl, HR⟩ := hrel
    by_cases h4 : i < 4
    · have : i = 0 ∨ i = 1 ∨ i = 2 ∨ i = 3 := by omega
      rcases this with rfl | rfl | rfl | rfl
      · go_wp2_with fail
        go_roundw
        case rel =>
          have hlt := S[0].toNat_lt
          have hor := or_add p S[0].toNat 0 (by rw [HR.out]; exact HX.out 0) (by omega) (by omega)
          exact ⟨trivial, 0 + 1, p + S[0].toNat * 256 ^ 0, rfl, by omega, by rw [hor _ (by omega)], Lib.hid (by rw [part_next (HB.out 0 (by omega)), HR.out])⟩
        case measure => simp only [intOf]; omega
      · go_wp2_with fail
        go_roundw
        case rel =>
          have hlt := S[1].toNat_lt
          have hor := or_add p S[1].toNat 1 (by rw [HR.out]; exact HX.out 1) (by omega) (by omega)
          exact ⟨trivial, 1 + 1, p + S[1].toNat * 256 ^ 1, rfl, by omega, by rw [hor _ (by omega)], Lib.hid (by rw [part_next (HB.out 1 (by omega)), HR.out])⟩
        case measure => simp only [intOf]; omega
      · go_wp2_with fail
        go_roundw
        case rel =>
          have hlt := S[2].toNat_lt
          have hor := or_add p S[2].toNat 2 (by rw [HR.out]; exact HX.out 2) (by omega) (by omega)
          exact ⟨trivial, 2 + 1, p + S[2].toNat * 256 ^ 2, rfl, by omega, by rw [hor _ (by omega)], Lib.hid (by rw [part_next (HB.out 2 (by omega)), HR.out])⟩
        case measure => simp only [intOf]; omega
      · go_wp2_with fail
        go_roundw
        case rel =>
          have hlt := S[3].toNat_lt
          have hor := or_add p S[3].toNat 3 (by rw [HR.out]; exact HX.out 3) (by omega) (by omega)
          exact ⟨trivial, 3 + 1, p + S[3].toNat * 256 ^ 3, rfl, by omega, by rw [hor _ (by omega)], Lib.hid (by rw [part_next (HB.out 3 (by omega)), HR.out])⟩
        case measure => simp only [intOf]; omega
    · obtain rfl : i = 4 := by omega
      have HE := Lib.hid (HR.out.trans HP.out)
      clear HR
      go_wp2_with fail
      go_ret
      exact ⟨by rw [← HE.out]; rfl, by rw [hex.out]⟩
end Go.Proofs.Ytijagjahocjaaaa
