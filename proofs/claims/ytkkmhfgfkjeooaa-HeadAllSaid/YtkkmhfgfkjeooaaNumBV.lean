/- Walks over package num: what a string is as a binary number. -/
import Derived.Test.YtkkmhfgfkjeooaaNumVal
namespace Go.Proofs.Ytkkmhfgfkjeooaa
open Go.RowKit
open NumM

def basVs (a : Int) (l : List UInt8) : Int := l.foldl (fun a c => wrap64 (a * 256 + (c.toNat : Int))) a
theorem basVs_snoc (a : Int) (l : List UInt8) (c : UInt8) : basVs a (l ++ [c]) = wrap64 (basVs a l * 256 + (c.toNat : Int)) := by simp [basVs]
def basStart (l : List UInt8) : Int := if l.head? = some 255 then -1 else 0
def basV (l : List UInt8) : Int := basVs (basStart l) (l.drop 1)

theorem or_shift (x : Int) (c : Nat) (hc : c < 256) : bits .or .i64 (wrap64 (x * 256)) (c : Int) = wrap64 (x * 256 + c) := by
  show IntKind.i64.wrap ((BitVec.ofInt 64 (wrap64 (x * 256)) ||| BitVec.ofInt 64 (c : Int)).toNat : Int) = _
  have e : BitVec.ofInt 64 (wrap64 (x * 256)) = BitVec.ofInt 64 x <<< 8 := by
    apply BitVec.eq_of_toInt_eq
    rw [BitVec.toInt_ofInt, BitVec.shiftLeft_eq_mul_twoPow, BitVec.toInt_mul, BitVec.toInt_ofInt]
    unfold wrap64
    simp [Int.bmod_def, BitVec.toInt_twoPow]
    omega
  have e2 : BitVec.ofInt 64 (c : Int) &&& (BitVec.ofInt 64 x <<< 8) = 0#64 := by
    have h : BitVec.ofInt 64 (c : Int) = (BitVec.ofNat 8 c).setWidth 64 := by
      apply BitVec.eq_of_toNat_eq
      rw [BitVec.ofInt_natCast]
      simp
      omega
    rw [h]
    apply BitVec.eq_of_getLsbD_eq
    intro i hi
    simp
    intro _ hx _ h8
    have := BitVec.lt_of_getLsbD hx
    omega
  have e3 := BitVec.add_eq_or_of_and_eq_zero _ _ e2
  rw [e, BitVec.or_comm, ← e3, ← e, IntKind.wrap_i64, BitVec.toNat_add, BitVec.toNat_ofInt, BitVec.toNat_ofInt]
  unfold wrap64
  simp
  omega

theorem drop_take_more (s : ByteArray) (k : Nat) (h1 : 1 ≤ k) (h : k < s.size) : (s.data.toList.take (k + 1)).drop 1 = (s.data.toList.take k).drop 1 ++ [s[k]] := by
  rw [take_more s k h, List.drop_append_of_le_length (by simp; omega)]

theorem baseValue_any (s : ByteArray) (w : World) (h1 : 1 ≤ s.size) (h2 : s.size ≤ 12) :
    Calls Try.prog 86 #[.string s] w fun e w' => e = .returned (.int .i64 (basV s.data.toList)) ∧ w = w' := by
  have hst : ∃ a : Int, a = basStart s.data.toList ∧ ((((s[0]'(by omega)).toNat : Int) == 255) = true ∧ a = -1 ∨ (((s[0]'(by omega)).toNat : Int) == 255) = false ∧ a = 0) := by
    refine ⟨_, rfl, ?_⟩
    have hh : s.data.toList.head? = some (s[0]'(by omega)) := by
      rw [List.head?_eq_getElem?, List.getElem?_eq_getElem (by simp; omega)]; rfl
    unfold basStart
    rw [hh]
    generalize s[0]'(by omega) = c
    by_cases h : c = 255
    · left; subst h; exact ⟨rfl, by simp⟩
    · right
      refine ⟨?_, by simp [h]⟩
      have : c.toNat ≠ 255 := fun e => h (UInt8.toNat_inj.1 e)
      simp; omega
  obtain ⟨a, ha, hcase⟩ := hst
  have Ha := Lib.hid ha; clear ha
  rcases hcase with ⟨h0, hx⟩ | ⟨h0, hx⟩
  all_goals
    have Hx := Lib.hid hx; clear hx
    go_enter Try.func86, Try.ntmps86
    go_wp2
    go_loop [3, 4] (fun n i => ∃ k : Nat, 1 ≤ k ∧ k ≤ s.size ∧ i = .int .i64 k ∧ n = .int .i64 (basVs a ((s.data.toList.take k).drop 1))) (fun _ i => s.size - (intOf i).toNat)
    case atStart => exact ⟨1, Nat.le_refl _, h1, rfl, by rw [List.drop_of_length_le (by simp; omega), ← Hx.out]; rfl⟩
    case round =>
      obtain ⟨k, hk1, hk, rfl, rfl⟩ := hrel
      by_cases hlt : k < s.size
      · have Hs := Lib.hid (basVs_snoc a ((s.data.toList.take k).drop 1) s[k])
        rw [← drop_take_more s k hk1 hlt] at Hs
        have hc := (s[k]'hlt).toNat_lt
        have hor := or_shift (basVs a ((s.data.toList.take k).drop 1)) (s[k]'hlt).toNat hc
        have hcc : ((s[k]'hlt).toNat : Int) ≤ 255 := by omega
        rw [← Hs.out] at hor
        clear Hs
        generalize basVs a ((s.data.toList.take k).drop 1) = m at *
        generalize hm' : basVs a ((s.data.toList.take (k + 1)).drop 1) = m' at *
        have Hm' := Lib.hid hm'; clear hm'
        go_wp2
        all_goals
          go_round
          case rel => exact ⟨k + 1, by omega, by omega, by go_num, by rw [Hm'.out]⟩
          case measure => simp [intOf]; omega
      · have Hk := Lib.hid (show k = s.size by omega)
        have hd : ¬ (k : Int) < (s.size : Int) := by omega
        clear hlt
        go_wp2
        go_ret
        refine ⟨ret_num ?_, rfl⟩
        rw [basV, ← Ha.out, Hk.out, List.take_of_length_le (by simp), List.drop_one]
end Go.Proofs.Ytkkmhfgfkjeooaa
