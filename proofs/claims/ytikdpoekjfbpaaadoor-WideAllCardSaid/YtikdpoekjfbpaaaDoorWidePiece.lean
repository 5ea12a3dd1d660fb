/- Walks over package wide: what the pieces of a part say. -/
import Derived.Test.YtikdpoekjfbpaaaDoorWideTextL
import Derived.Test.YtikdpoekjfbpaaaDoorRegionQ
import Derived.Recover
namespace Go.Proofs.YtikdpoekjfbpaaaDoor
open Go.RowKit
open WideM
set_option linter.unusedVariables false
attribute [local irreducible] Row At

/-- What ends the parsing. -/
def notPart : List PanicEntry := [{ v := .iface 64 (.agg #[]), recovered := false }]
/-- How a piece's reading ends. -/
def intEnd (o : Option Int) (e : Ending) : Prop := match o with
  | some n => e = .returned (.int .i64 n)
  | none => e = .panicked notPart
def natEnd (o : Option Nat) (e : Ending) : Prop := match o with
  | some n => e = .returned (.int .i64 (n : Int))
  | none => e = .panicked notPart

theorem bits_step {ls s : List UInt8} {i : Nat} {c : UInt8} {n : Nat} (hc : s[i]? = some c) (h : 0 ≤ Lib.indexByte ls c) : bitsOf ls (s.drop i) n = bitsOf ls (s.drop (i + 1)) (n ||| 2 ^ (Lib.indexByte ls c).toNat) := by
  rw [dropAt hc]
  conv => lhs; unfold bitsOf
  rw [if_neg (by omega)]
theorem bits_bad {ls s : List UInt8} {i : Nat} {c : UInt8} {n : Nat} (hc : s[i]? = some c) (h : Lib.indexByte ls c < 0) : bitsOf ls (s.drop i) n = none := by
  rw [dropAt hc]
  unfold bitsOf
  rw [if_pos h]

theorem or_shift (m q : Nat) (hm : m < 9223372036854775808) (hq : q < 14) : bits .or .i64 (m : Int) (wrap64 (2 ^ q)) = ((m ||| 2 ^ q : Nat) : Int) := by
  have hp : (2 : Nat) ^ q < 16384 := Nat.pow_lt_pow_right (n := 14) (by decide) hq
  have e : wrap64 ((2 : Int) ^ q) = ((2 ^ q : Nat) : Int) := by
    rw [show ((2 : Int) ^ q) = ((2 ^ q : Nat) : Int) by simp]
    generalize (2 : Nat) ^ q = x at *
    unfold wrap64
    omega
  rw [e, or_i64 _ _ hm (by omega)]
set_option maxHeartbeats 1600000 in
theorem parseBits_any (S L : ByteArray) (hS : S.size ≤ 1000000) (hL : L.size ≤ 14) (w : World) :
    Calls Tryd.prog 40 #[.string S, .string L] w fun e w' => natEnd (bitsOf L.data.toList S.data.toList 0) e ∧ w = w' := by
  obtain ⟨z, hz⟩ : ∃ z, S.size = z := ⟨_, rfl⟩
  have Hlen := Lib.hid (show S.data.toList.length = z by rw [len_list, hz])
  have Hidx := Lib.hid (fun i h => idxAt (P := Tryd.prog) Tryd.underlying9 S i (by rw [hz]; exact h))
  have Hib := Lib.hid (fun (c : UInt8) W => by
    have := Tryd.strings_IndexByte L (c.toNat : Int) W
    rw [show ((c.toNat : Int)).toNat.toUInt8 = c by simp] at this
    exact this)
  have Hlt := Lib.hid (fun c h => index_lt L.data.toList c h)
  rw [len_list] at Hlt
  rw [hz] at hS
  go_enter Tryd.func40, Tryd.ntmps40
  go_wp2_with fail
  go_loopw [5, 10] (fun nv iv wr => ∃ (i m : Nat), iv = .int .i64 (i : Int) ∧ i ≤ z ∧ nv = .int .i64 (m : Int) ∧ m < 16384 ∧ wr = w ∧ Hid (bitsOf L.data.toList S.data.toList 0 = bitsOf L.data.toList (S.data.toList.drop i) m)) (fun _ iv _ => z - (intOf iv).toNat)
  case atStart => exact ⟨0, 0, rfl, by omega, rfl, by omega, rfl, Lib.hid (by simp)⟩
  case round =>
    obtain ⟨i, m, rfl, hi, rfl, hm, rfl, HR⟩ := hrel
    by_cases hlt : i < z
    · have hlt' : decide ((i : Int) < (z : Int)) = true := decide_eq_true (by omega)
      have hlt2 : decide (i < z) = true := decide_eq_true hlt
      obtain ⟨c, hc, hidx⟩ := Hidx.out i hlt
      have hib := Lib.hid (Hib.out c)
      have HB := Lib.hid (fun h => bits_bad (ls := L.data.toList) (n := m) hc h)
      have HS := Lib.hid (fun h => bits_step (ls := L.data.toList) (n := m) hc h)
      have HL := Lib.hid (Hlt.out c)
      generalize Lib.indexByte L.data.toList c = k at *
      clear hc
      by_cases hk : k < 0
      · have hd : decide (k < 0) = true := decide_eq_true hk
        have HE := Lib.hid (show bitsOf L.data.toList S.data.toList 0 = none by rw [HR.out, HB.out hk])
        clear HB HS HL HR
        go_wp2_with fail
        refine (hib.out _).mono ?_
        rintro e w1 ⟨rfl, rfl⟩
        go_wp2_with fail
        exact ⟨rfl, by rw [HE.out]; rfl, rfl⟩
      · have hd : decide (k < 0) = false := decide_eq_false hk
        have hk14 := HL.out (by omega)
        obtain ⟨q, rfl⟩ : ∃ q : Nat, k = (q : Int) := ⟨k.toNat, by omega⟩
        have HE := Lib.hid (show bitsOf L.data.toList S.data.toList 0 = bitsOf L.data.toList (S.data.toList.drop (i + 1)) (m ||| 2 ^ q) by rw [HR.out, HS.out (by omega), Int.toNat_natCast])
        have hq : q < 14 := by omega
        have hm2 : m ||| 2 ^ q < 16384 := Nat.or_lt_two_pow (n := 14) hm (Nat.pow_lt_pow_right (by decide) hq)
        clear HB HS HL HR hk14
        go_wp2_with fail
        refine (hib.out _).mono ?_
        rintro e w1 ⟨rfl, rfl⟩
        go_wp2_with fail
        go_roundw
        case rel => exact ⟨i + 1, m ||| 2 ^ q, rfl, by omega, by rw [or_shift m q (by omega) hq], hm2, trivial, HE⟩
        case measure => simp only [intOf]; omega
    · have hlt' : decide ((i : Int) < (z : Int)) = false := decide_eq_false (by omega)
      have hlt2 : decide (i < z) = false := decide_eq_false hlt
      have HE := Lib.hid (show bitsOf L.data.toList S.data.toList 0 = some m by rw [HR.out, List.drop_eq_nil_of_le (by rw [Hlen.out]; omega)]; rfl)
      clear HR
      go_wp2_with fail
      go_ret
      exact ⟨by rw [HE.out]; rfl, rfl⟩

/-! ### The type -/
theorem type_yes {s : List UInt8} {k : Int} (h1 : k = 1 ∨ k = 2) (h : [letter k] = s) : typeOf s = some k := by
  subst h
  rcases h1 with rfl | rfl <;> rfl
theorem type_no {s : List UInt8} (h1 : ¬ [letter 1] = s) (h2 : ¬ [letter 2] = s) : typeOf s = none := by
  unfold typeOf
  rw [if_neg (fun e => h1 e.symm), if_neg (fun e => h2 e.symm)]
theorem adLit (k : Nat) (hk : k = 1 ∨ k = 2) : ((⟨#[32, 65, 68]⟩ : ByteArray).extract k (k + 1)).toList = [letter (k : Int)] := by
  rw [Lib.toList_data]
  rcases hk with rfl | rfl <;> rfl
set_option maxHeartbeats 1600000 in
theorem parseType_any (L : ByteArray) (w : World) :
    Calls Tryd.prog 39 #[.string L] w fun e w' => intEnd (typeOf L.data.toList) e ∧ w = w' := by
  have hLe : L.toList = L.data.toList := Lib.toList_data L
  have a1 : ((⟨#[32, 65, 68]⟩ : ByteArray).extract 1 2).toList = [letter 1] := adLit 1 (.inl rfl)
  have a2 : ((⟨#[32, 65, 68]⟩ : ByteArray).extract 2 3).toList = [letter 2] := adLit 2 (.inr rfl)
  obtain ⟨X1, hX1⟩ : ∃ X, (⟨#[32, 65, 68]⟩ : ByteArray).extract 1 2 = X := ⟨_, rfl⟩
  obtain ⟨X2, hX2⟩ : ∃ X, (⟨#[32, 65, 68]⟩ : ByteArray).extract 2 3 = X := ⟨_, rfl⟩
  have s1 : ∀ W, (Instr.slice 9 (.string ⟨#[32, 65, 68]⟩) (some (.int .i64 1)) (some (.int .i64 2)) none).run Tryd.prog W = .ok (.string X1) W := by intro W; rw [← hX1]; simp [go_sem]
  have s2 : ∀ W, (Instr.slice 9 (.string ⟨#[32, 65, 68]⟩) (some (.int .i64 2)) (some (.int .i64 3)) none).run Tryd.prog W = .ok (.string X2) W := by intro W; rw [← hX2]; simp [go_sem]
  rw [hX1] at a1
  rw [hX2] at a2
  clear hX1 hX2
  by_cases h1 : [letter 1] = L.data.toList
  · have hq : (X1.toList == L.toList) = true := by rw [a1, h1, hLe]; exact beq_self_eq_true _
    have hq2 : X1.toList = L.toList := by rw [a1, h1, hLe]
    have HE := Lib.hid (type_yes (.inl rfl) h1)
    clear a1 a2 h1 hLe
    go_enter Tryd.func39, Tryd.ntmps39
    go_wp2_with fail
    go_loopw [3] (fun iv wr => iv = .int .i64 1 ∧ wr = w) (fun _ _ => 0)
    case atStart => exact ⟨rfl, rfl⟩
    case round =>
      obtain ⟨rfl, rfl⟩ := hrel
      go_wp2_with fail
      go_ret
      exact ⟨by rw [HE.out]; rfl, rfl⟩
  · have hq : (X1.toList == L.toList) = false := by rw [a1, hLe]; exact beq_eq_false_iff_ne.2 h1
    have hq2 : ¬ X1.toList = L.toList := by rw [a1, hLe]; exact h1
    by_cases h2 : [letter 2] = L.data.toList
    · have hr : (X2.toList == L.toList) = true := by rw [a2, h2, hLe]; exact beq_self_eq_true _
      have hr2 : X2.toList = L.toList := by rw [a2, h2, hLe]
      have HE := Lib.hid (type_yes (.inr rfl) h2)
      clear a1 a2 h1 h2 hLe
      go_enter Tryd.func39, Tryd.ntmps39
      go_wp2_with fail
      go_loopw [3] (fun iv wr => ∃ k : Nat, iv = .int .i64 (k : Int) ∧ (k = 1 ∨ k = 2) ∧ wr = w) (fun iv _ => 3 - (intOf iv).toNat)
      case atStart => exact ⟨1, rfl, .inl rfl, rfl⟩
      case round =>
        obtain ⟨k, rfl, hk, rfl⟩ := hrel
        rcases hk with rfl | rfl
        · go_wp2_with fail
          go_roundw
          case rel => exact ⟨2, rfl, .inr rfl, trivial⟩
          case measure => simp only [intOf]; omega
        · go_wp2_with fail
          go_ret
          exact ⟨by rw [HE.out]; rfl, rfl⟩
    · have hr : (X2.toList == L.toList) = false := by rw [a2, hLe]; exact beq_eq_false_iff_ne.2 h2
      have hr2 : ¬ X2.toList = L.toList := by rw [a2, hLe]; exact h2
      have HE := Lib.hid (type_no h1 h2)
      clear a1 a2 h1 h2 hLe
      go_enter Tryd.func39, Tryd.ntmps39
      go_wp2_with fail
      go_loopw [3] (fun iv wr => ∃ k : Nat, iv = .int .i64 (k : Int) ∧ (k = 1 ∨ k = 2 ∨ k = 3) ∧ wr = w) (fun iv _ => 3 - (intOf iv).toNat)
      case atStart => exact ⟨1, rfl, .inl rfl, rfl⟩
      case round =>
        obtain ⟨k, rfl, hk, rfl⟩ := hrel
        rcases hk with rfl | rfl | rfl
        · go_wp2_with fail
          go_roundw
          case rel => exact ⟨2, rfl, .inr (.inl rfl), trivial⟩
          case measure => simp only [intOf]; omega
        · go_wp2_with fail
          go_roundw
          case rel => exact ⟨3, rfl, .inr (.inr rfl), trivial⟩
          case measure => simp only [intOf]; omega
        · go_wp2_with fail
          exact ⟨rfl, by rw [HE.out]; rfl, rfl⟩
end Go.Proofs.YtikdpoekjfbpaaaDoor
