/- Walks over the statements of layer 2: what they share. -/
import Derived.Test.YtaobkniecgiplaaDoorRefStamp3
namespace Go.Proofs.YtaobkniecgiplaaDoor
open Go.RowKit
open StampM

theorem bounds64 {n : Int} (h : (Lit.int .i64 n).wf = true) : -9223372036854775808 ≤ n ∧ n ≤ 9223372036854775807 := by
  have hmin : IntKind.i64.min = -9223372036854775808 := rfl
  have hmax : IntKind.i64.max = 9223372036854775807 := rfl
  simp only [Lit.wf, Bool.and_eq_true, decide_eq_true_eq] at h
  omega
theorem boundsU8 {n : Int} (h : (Lit.int .u8 n).wf = true) : 0 ≤ n ∧ n ≤ 255 := by
  have hmin : IntKind.u8.min = 0 := rfl
  have hmax : IntKind.u8.max = 255 := rfl
  simp only [Lit.wf, Bool.and_eq_true, decide_eq_true_eq] at h
  omega
theorem boundsU16 {n : Int} (h : (Lit.int .u16 n).wf = true) : 0 ≤ n ∧ n ≤ 65535 := by
  have hmin : IntKind.u16.min = 0 := rfl
  have hmax : IntKind.u16.max = 65535 := rfl
  simp only [Lit.wf, Bool.and_eq_true, decide_eq_true_eq] at h
  omega
theorem boundsU32 {n : Int} (h : (Lit.int .u32 n).wf = true) : 0 ≤ n ∧ n ≤ 4294967295 := by
  have hmin : IntKind.u32.min = 0 := rfl
  have hmax : IntKind.u32.max = 4294967295 := rfl
  simp only [Lit.wf, Bool.and_eq_true, decide_eq_true_eq] at h
  omega
theorem boundsI32 {n : Int} (h : (Lit.int .i32 n).wf = true) : -2147483648 ≤ n ∧ n ≤ 2147483647 := by
  have hmin : IntKind.i32.min = -2147483648 := rfl
  have hmax : IntKind.i32.max = 2147483647 := rfl
  simp only [Lit.wf, Bool.and_eq_true, decide_eq_true_eq] at h
  omega

theorem awake_text : textF (-2) 500000000 = [45, 49, 46, 53] := by
  have h1 : oppS (-2) 500000000 = 1 := by decide +kernel
  have h2 : oppN 500000000 = 500000000 := by decide +kernel
  have h3 : Lib.itoa 1 = [49] := by
    show (if (1 : Int) < 0 then _ else _) = _
    rw [if_neg (by omega)]; exact Lib.decDigits_one (by omega)
  have h4 : fracF 500000000 = [46, 53] := by
    obtain ⟨k1, _⟩ := nine_of 500000000 (by omega)
    show (if (500000000 : Int) = 0 then _ else _) = _
    rw [if_neg (by omega)]
    have : Lib.itoa (1000000000 + 500000000) = [49, 53, 48, 48, 48, 48, 48, 48, 48, 48] := by
      show (if (1500000000 : Int) < 0 then _ else _) = _
      rw [if_neg (by omega)]
      show Lib.decDigits 1500000000 = _
      have d1 := fun m (h : 10 ≤ m) => (show Lib.decDigits m = Lib.decDigits (m / 10) ++ [UInt8.ofNat (48 + m % 10)] by rw [Lib.decDigits, dif_neg (by omega)])
      rw [d1 1500000000 (by omega), d1 (1500000000 / 10) (by omega), d1 (1500000000 / 10 / 10) (by omega), d1 (1500000000 / 10 / 10 / 10) (by omega), d1 (1500000000 / 10 / 10 / 10 / 10) (by omega), d1 (1500000000 / 10 / 10 / 10 / 10 / 10) (by omega), d1 (1500000000 / 10 / 10 / 10 / 10 / 10 / 10) (by omega), d1 (1500000000 / 10 / 10 / 10 / 10 / 10 / 10 / 10) (by omega), d1 (1500000000 / 10 / 10 / 10 / 10 / 10 / 10 / 10 / 10) (by omega), Lib.decDigits_one (by omega)]
      decide
    rw [this]
    decide
  unfold textF
  rw [if_pos (by omega), h1, h2, h3, h4]
  rfl
theorem awake_any (w : World) (hA : Amb w) : Calls Tryd.prog 10 #[] w fun e w' => e = .returned (.bool true) ∧ Below w.heap.size w w' := by
  have hm : mayF (-2) 500000000 = true := by decide
  have hp := parse_text _ _ hm
  obtain ⟨g1, g2⟩ := guess_text _ _ hm
  rw [awake_text] at hp g1 g2
  have HP := Lib.hid (fun W hA => by
    have := parse_yes ⟨#[45, 49, 46, 53]⟩ W hA (by decide) hp
    rw [show (⟨#[45, 49, 46, 53]⟩ : ByteArray).data.toList = [45, 49, 46, 53] from rfl, g1, g2] at this
    exact this)
  have HT := Lib.hid (fun W hA => by
    have := text_any (-2) 500000000 W hA hm
    rw [awake_text] at this
    exact this)
  clear hm hp g1 g2
  go_enter Tryd.func10, Tryd.ntmps10
  go_wp2_with fail
  refine (HP.out _ hA).mono ?_
  rintro e w1 ⟨rfl, hbw1⟩
  have hzw1 := hbw1.size
  try simp at hzw1
  go_wp2_with fail
  refine (HT.out _ (hA.on (by (repeat' (first | exact Below.refl _ _ | assumption | refine gr_drew ?_ | refine gr_drewN ?_ _ | refine gr_alloc ?_ _ | refine gr_set ?_ ?_ _ | refine gr_call ?_ (by assumption)) <;> (try (simp; done)) <;> (try (simp; omega)) <;> (try omega))))).mono ?_
  rintro e w2 ⟨rfl, hbw2⟩
  have hzw2 := hbw2.size
  try simp at hzw2
  go_wp2_with fail
  go_ret
  exact ⟨rfl, by (repeat' (first | exact Below.refl _ _ | assumption | refine gr_drew ?_ | refine gr_drewN ?_ _ | refine gr_alloc ?_ _ | refine gr_set ?_ ?_ _ | refine gr_call ?_ (by assumption)) <;> (try (simp; done)) <;> (try (simp; omega)) <;> (try omega))⟩
end Go.Proofs.YtaobkniecgiplaaDoor
