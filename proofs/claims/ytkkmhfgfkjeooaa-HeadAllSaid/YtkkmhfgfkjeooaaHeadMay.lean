/- Walks over package head: mayText, hasField, text, number, checksum, mayTexts, mayNumbers, May. -/
import Derived.Test.YtkkmhfgfkjeooaaHeadRep
namespace Go.Proofs.Ytkkmhfgfkjeooaa
open Go.RowKit
open HeadM NumM
set_option linter.unusedVariables false

theorem mayText_any (s : ByteArray) (n : Nat) (x : Int) (hx : x = (n : Int)) (w : World) :
    Calls Try.prog 46 #[.string s, .int .i64 x] w fun e w' => e = .returned (.bool (mayT (L s) n)) ∧ w' = w := by
  have hc := Lib.hid (fun w => indexByte_any s 0 0 rfl w)
  have hr := mayT_index (L s) n
  rw [size_L] at hr
  generalize Lib.indexByte (L s) 0 = I at *
  rw [hr]
  clear hr
  subst hx
  rcases h : decide (s.size ≤ n) with _ | _
  · have h1 := of_decide_eq_false h
    have h2 : decide ((s.size : Int) ≤ (n : Int)) = false := decide_eq_false (by omega)
    clear h1
    go_enter Try.func46, Try.ntmps46
    go_wp2_with fail
    go_ret
    exact ⟨rfl, rfl⟩
  · have h1 := of_decide_eq_true h
    have h2 : decide ((s.size : Int) ≤ (n : Int)) = true := decide_eq_true (by omega)
    clear h1
    go_enter Try.func46, Try.ntmps46
    go_wp2_with fail
    refine (hc.out _).mono ?_
    rintro e w' ⟨rfl, rfl⟩
    go_wp2_with fail
    go_ret
    exact ⟨rfl, rfl⟩

theorem hasField_any (n v : Int) (w : World) :
    Calls Try.prog 47 #[.int .i64 n, .int .i64 v] w fun e w' => e = .returned (.bool (hasF n v)) ∧ Below w.heap.size w w' := by
  unfold hasF
  rcases h : fieldO n v with _ | l
  · have hc := Lib.hid (Field_no n v h)
    go_enter Try.func47, Try.ntmps47
    go_wp2_with fail
    refine (hc.out _).mono ?_
    rintro e w1 ⟨rfl, hbw1⟩
    have hzw1 := hbw1.size
    try simp at hzw1
    go_wp2_with fail
    go_ret
    exact ⟨rfl, hbw1⟩
  · have hc := Lib.hid (Field_yes n v l h)
    go_enter Try.func47, Try.ntmps47
    go_wp2_with fail
    refine (hc.out _).mono ?_
    rintro e w1 ⟨rfl, hbw1⟩
    have hzw1 := hbw1.size
    try simp at hzw1
    go_wp2_with fail
    go_ret
    exact ⟨rfl, hbw1⟩

theorem number_any (n v : Int) (w : World) :
    Calls Try.prog 33 #[.int .i64 n, .int .i64 v] w fun e w' => e = .returned (.string (strOf (fl n v))) ∧ Below w.heap.size w w' := by
  unfold fl
  rcases h : fieldO n v with _ | l
  · have hc := Lib.hid (Field_no n v h)
    go_enter Try.func33, Try.ntmps33
    go_wp2_with fail
    refine (hc.out _).mono ?_
    rintro e w1 ⟨rfl, hbw1⟩
    have hzw1 := hbw1.size
    try simp at hzw1
    go_wp2_with fail
    go_ret
    exact ⟨rfl, hbw1⟩
  · have hc := Lib.hid (Field_yes n v l h)
    go_enter Try.func33, Try.ntmps33
    go_wp2_with fail
    refine (hc.out _).mono ?_
    rintro e w1 ⟨rfl, hbw1⟩
    have hzw1 := hbw1.size
    try simp at hzw1
    go_wp2_with fail
    go_ret
    exact ⟨rfl, hbw1⟩

theorem text_any (s : ByteArray) (n : Nat) (x : Int) (hx : x = (n : Int)) (hs : s.size ≤ n) (hn : n ≤ 8000) (w : World) :
    Calls Try.prog 23 #[.string s, .int .i64 x] w fun e w' => e = .returned (.string (strOf (padL (L s) n))) ∧ Below w.heap.size w w' := by
  subst hx
  have hc := Lib.hid (rep_any (n - s.size) ((n : Int) - (s.size : Int)) (by omega) (by omega))
  have hsz : (strOf (List.replicate (n - s.size) 0)).size = n - s.size := by rw [strOf_sz, List.length_replicate]
  have he : s ++ strOf (List.replicate (n - s.size) 0) = strOf (padL (L s) n) := by
    unfold padL
    rw [← strOf_app, strOf_L, size_L]
  generalize strOf (List.replicate (n - s.size) 0) = Z at *
  have hlen : ¬ 9223372036854775807 < s.size + Z.size := by omega
  have hlen2 : s.size + Z.size ≤ 9223372036854775807 := by omega
  rw [← he]
  clear he hsz
  obtain ⟨Y, hY⟩ : ∃ Y : ByteArray, (⟨#[0]⟩ : ByteArray) = Y := ⟨_, rfl⟩
  rw [hY] at hc
  go_enter Try.func23, Try.ntmps23
  rw [hY]
  go_wp2_with fail
  refine (hc.out _).mono ?_
  rintro e w1 ⟨rfl, hbw1⟩
  have hzw1 := hbw1.size
  try simp at hzw1
  go_wp2_with fail
  go_ret
  exact ⟨rfl, hbw1⟩
end Go.Proofs.Ytkkmhfgfkjeooaa
