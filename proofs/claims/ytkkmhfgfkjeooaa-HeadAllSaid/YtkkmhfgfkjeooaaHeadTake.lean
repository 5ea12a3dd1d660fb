/- Walks over package head: take, text and number of a block's fields. -/
import Derived.Test.YtkkmhfgfkjeooaaHeadPut
namespace Go.Proofs.Ytkkmhfgfkjeooaa
open Go.RowKit
open HeadM NumM
set_option linter.unusedVariables false

/-- What the decoding panics with. -/
abbrev noHdrPanic : Ending := .panicked [{ v := .iface 68 (.agg #[]), recovered := false }]

theorem cut_drop (b : List UInt8) (a n : Nat) : (b.drop a).take n = cut b a (a + n) := by
  unfold cut
  rw [List.drop_take, Nat.add_sub_cancel_left]
theorem cut_length {b : List UInt8} {i j : Nat} (hj : j ≤ b.length) : (cut b i j).length = j - i := by simp [cut]; omega

theorem take_any (b : List UInt8) (a c n : Nat) (hc : a + n = c) (x : Int) (hx : x = (n : Int)) (hb : c ≤ b.length) (hl : b.length ≤ 8000) (p : Nat) (W : World) (hp : BlkIs W p 64 #[.string (strOf (b.drop a))]) :
    Calls Try.prog 42 #[.pointer (some ⟨p, 0, none⟩), .int .i64 x] W fun e w' => e = .returned (.string (strOf (cut b a c))) ∧ w' = W.setCell ⟨p, 0, none⟩ (.string (strOf (b.drop c))) := by
  subst hx
  obtain ⟨R, hR⟩ : ∃ R : ByteArray, strOf (b.drop a) = R := ⟨_, rfl⟩
  rw [hR] at hp
  have hz : R.size = b.length - a := by rw [← hR, strOf_sz, List.length_drop]
  have h1 : (0 : Int) ≤ (n : Int) := by omega
  have h2 : (n : Int) ≤ (R.size : Int) := by omega
  have h3 : n ≤ R.size := by omega
  have c0 := hp.cell_some 0 _ rfl
  have f0 := hp.free 0
  have e1 : R.extract 0 n = strOf (cut b a c) := by
    apply str_L
    show (R.extract 0 n).data.toList = _
    rw [Lib.extract_data, ← hc, ← cut_drop, ← hR]
    simp [strOf]
  have e2 : R.extract n R.size = strOf (b.drop c) := by
    apply str_L
    show (R.extract n R.size).data.toList = _
    rw [Lib.extract_data, ← hR, strOf_sz]
    simp [strOf, ← hc]
    exact List.take_of_length_le (by simp; omega)
  rw [← e1, ← e2]
  clear e1 e2 hR hp hc hb hz
  go_enter Try.func42, Try.ntmps42
  go_wp2_with fail
  go_ret
  exact ⟨rfl, rfl⟩

theorem ftext_any (b : List UInt8) (a c n : Nat) (hc : a + n = c) (x : Int) (hx : x = (n : Int)) (hb : c ≤ b.length) (hl : b.length ≤ 8000) (p : Nat) (W : World) (hp : BlkIs W p 64 #[.string (strOf (b.drop a))]) :
    Calls Try.prog 40 #[.pointer (some ⟨p, 0, none⟩), .int .i64 x] W fun e w' => e = .returned (.string (strOf (upto (cut b a c)))) ∧ Below W.heap.size (W.setCell ⟨p, 0, none⟩ (.string (strOf (b.drop c)))) w' := by
  have ht := Lib.hid (take_any b a c n hc x hx hb hl p W hp)
  have hz : (strOf (cut b a c)).size ≤ 8000 := by rw [strOf_sz, cut_length hb]; omega
  have hL : L (strOf (cut b a c)) = cut b a c := L_strOf _
  obtain ⟨S, hS⟩ : ∃ S : ByteArray, strOf (cut b a c) = S := ⟨_, rfl⟩
  rw [hS] at ht hz hL
  obtain ⟨t, f, hcut⟩ := cut0_any S (by omega)
  rw [hL] at hcut
  have hz2 : (strOf (upto (cut b a c))).size ≤ 281474976710656 := by
    rw [strOf_sz]
    have h1 := (List.takeWhile_sublist (l := cut b a c) (fun x => x != 0)).length_le
    have h2 : (cut b a c).length = S.size := by rw [← hL, size_L]
    unfold upto
    omega
  obtain ⟨T, hT⟩ : ∃ T : ByteArray, strOf (upto (cut b a c)) = T := ⟨_, rfl⟩
  rw [hT] at hcut hz2 ⊢
  replace hcut := Lib.hid hcut
  have hcl := Lib.hid (fun w => clone_any T w hz2)
  obtain ⟨Y, hY⟩ : ∃ Y : ByteArray, (⟨#[0]⟩ : ByteArray) = Y := ⟨_, rfl⟩
  rw [hY] at hcut
  obtain ⟨V, hV⟩ : ∃ V, W.setCell ⟨p, 0, none⟩ (.string (strOf (b.drop c))) = V := ⟨_, rfl⟩
  rw [hV] at ht ⊢
  have hsz : V.heap.size = W.heap.size := by rw [← hV]; simp
  rw [← hsz]
  clear hT hS hL hb hx hp hc hz hz2
  go_enter Try.func40, Try.ntmps40
  rw [hY]
  go_wp2_with fail
  refine ht.out.mono ?_
  rintro e w1 ⟨rfl, rfl⟩
  go_wp2_with fail
  refine (hcut.out _).mono ?_
  rintro e w2 ⟨rfl, hbw2⟩
  have hzw2 := hbw2.size
  try simp at hzw2
  go_wp2_with fail
  refine (hcl.out _).mono ?_
  rintro e w3 ⟨rfl, hbw3⟩
  have hzw3 := hbw3.size
  try simp at hzw3
  go_wp2_with fail
  go_ret
  exact ⟨rfl, by (repeat' (first | exact Below.refl _ _ | assumption | refine gr_drew ?_ | refine gr_drewN ?_ _ | refine gr_alloc ?_ _ | refine gr_set ?_ ?_ _ | refine gr_call ?_ (by assumption)) <;> (try (simp; done)) <;> (try (simp; omega)) <;> (try omega))⟩

theorem fnumber_yes (b : List UInt8) (a c n : Nat) (hc : a + n = c) (x : Int) (hx : x = (n : Int)) (hb : c ≤ b.length) (hl : b.length ≤ 8000) (hr : ∃ v, rdFld (cut b a c) = some v) (p : Nat) (W : World) (hp : BlkIs W p 64 #[.string (strOf (b.drop a))]) :
    Calls Try.prog 41 #[.pointer (some ⟨p, 0, none⟩), .int .i64 x] W fun e w' => e = .returned (.int .i64 (rd (cut b a c))) ∧ Below W.heap.size (W.setCell ⟨p, 0, none⟩ (.string (strOf (b.drop c)))) w' := by
  obtain ⟨v, hv⟩ := hr
  have ht := Lib.hid (take_any b a c n hc x hx hb hl p W hp)
  have e : rd (cut b a c) = v := by unfold rd; rw [hv]; rfl
  rw [e]
  have hL : L (strOf (cut b a c)) = cut b a c := L_strOf _
  obtain ⟨S, hS⟩ : ∃ S : ByteArray, strOf (cut b a c) = S := ⟨_, rfl⟩
  rw [hS] at ht hL
  have hrd := Lib.hid (ReadField_yes S v (by rw [← hv, ← hL]; rfl))
  obtain ⟨V, hV⟩ : ∃ V, W.setCell ⟨p, 0, none⟩ (.string (strOf (b.drop c))) = V := ⟨_, rfl⟩
  rw [hV] at ht ⊢
  have hsz : V.heap.size = W.heap.size := by rw [← hV]; simp
  rw [← hsz]
  clear hS hL hb hx hp hc hv e
  go_enter Try.func41, Try.ntmps41
  go_wp2_with fail
  refine ht.out.mono ?_
  rintro e w1 ⟨rfl, rfl⟩
  go_wp2_with fail
  refine (hrd.out _).mono ?_
  rintro e w2 ⟨rfl, hbw2⟩
  have hzw2 := hbw2.size
  try simp at hzw2
  go_wp2_with fail
  go_ret
  exact ⟨rfl, by (repeat' (first | exact Below.refl _ _ | assumption | refine gr_drew ?_ | refine gr_drewN ?_ _ | refine gr_alloc ?_ _ | refine gr_set ?_ ?_ _ | refine gr_call ?_ (by assumption)) <;> (try (simp; done)) <;> (try (simp; omega)) <;> (try omega))⟩
theorem fnumber_no (b : List UInt8) (a c n : Nat) (hc : a + n = c) (x : Int) (hx : x = (n : Int)) (hb : c ≤ b.length) (hl : b.length ≤ 8000) (hr : rdFld (cut b a c) = none) (p : Nat) (W : World) (hp : BlkIs W p 64 #[.string (strOf (b.drop a))]) :
    Calls Try.prog 41 #[.pointer (some ⟨p, 0, none⟩), .int .i64 x] W fun e w' => e = noHdrPanic ∧ Below W.heap.size (W.setCell ⟨p, 0, none⟩ (.string (strOf (b.drop c)))) w' := by
  have ht := Lib.hid (take_any b a c n hc x hx hb hl p W hp)
  have hL : L (strOf (cut b a c)) = cut b a c := L_strOf _
  obtain ⟨S, hS⟩ : ∃ S : ByteArray, strOf (cut b a c) = S := ⟨_, rfl⟩
  rw [hS] at ht hL
  have hrd := Lib.hid (ReadField_no S (by rw [← hr, ← hL]; rfl))
  obtain ⟨V, hV⟩ : ∃ V, W.setCell ⟨p, 0, none⟩ (.string (strOf (b.drop c))) = V := ⟨_, rfl⟩
  rw [hV] at ht ⊢
  have hsz : V.heap.size = W.heap.size := by rw [← hV]; simp
  rw [← hsz]
  clear hS hL hb hx hp hc hr
  go_enter Try.func41, Try.ntmps41
  go_wp2_with fail
  refine ht.out.mono ?_
  rintro e w1 ⟨rfl, rfl⟩
  go_wp2_with fail
  refine (hrd.out _).mono ?_
  rintro e w2 ⟨rfl, hbw2⟩
  have hzw2 := hbw2.size
  try simp at hzw2
  go_wp2_with fail
  exact ⟨rfl, rfl, by (repeat' (first | exact Below.refl _ _ | assumption | refine gr_drew ?_ | refine gr_drewN ?_ _ | refine gr_alloc ?_ _ | refine gr_set ?_ ?_ _ | refine gr_call ?_ (by assumption)) <;> (try (simp; done)) <;> (try (simp; omega)) <;> (try omega))⟩
end Go.Proofs.Ytkkmhfgfkjeooaa
