/- The walk of the law StampOrder. -/
import Derived.Test.YtaobkniecgiplaaDoorStampAwake
namespace Go.Proofs.YtaobkniecgiplaaDoor
open Go.RowKit
open StampM
open Go.Lib (itoa decDigits)

theorem quarter : fracF 250000000 = [46, 50, 53] := by
  show (if (250000000 : Int) = 0 then _ else _) = _
  rw [if_neg (by omega)]
  have : Lib.itoa (1000000000 + 250000000) = [49, 50, 53, 48, 48, 48, 48, 48, 48, 48] := by
    show (if (1250000000 : Int) < 0 then _ else _) = _
    rw [if_neg (by omega)]
    show Lib.decDigits 1250000000 = _
    have d1 := fun m (h : 10 ≤ m) => (show Lib.decDigits m = Lib.decDigits (m / 10) ++ [UInt8.ofNat (48 + m % 10)] by rw [Lib.decDigits, dif_neg (by omega)])
    rw [d1 1250000000 (by omega), d1 (1250000000 / 10) (by omega), d1 (1250000000 / 10 / 10) (by omega), d1 (1250000000 / 10 / 10 / 10) (by omega), d1 (1250000000 / 10 / 10 / 10 / 10) (by omega), d1 (1250000000 / 10 / 10 / 10 / 10 / 10) (by omega), d1 (1250000000 / 10 / 10 / 10 / 10 / 10 / 10) (by omega), d1 (1250000000 / 10 / 10 / 10 / 10 / 10 / 10 / 10) (by omega), d1 (1250000000 / 10 / 10 / 10 / 10 / 10 / 10 / 10 / 10) (by omega), Lib.decDigits_one (by omega)]
    decide
  rw [this]
  decide
theorem text_quarter (q : Int) (h0 : 0 ≤ q) : textF q 250000000 = itoa q ++ [46, 50, 53] := by
  unfold textF; rw [if_neg (by omega), quarter]
theorem cmpF_cases (a M b N : Int) : (cmpF a M b N = 1 ∧ cmpF b N a M = -1 ∧ (b < a ∨ a = b ∧ N < M)) ∨ (cmpF a M b N = -1 ∧ cmpF b N a M = 1 ∧ (a < b ∨ a = b ∧ M < N)) ∨ (cmpF a M b N = 0 ∧ cmpF b N a M = 0 ∧ a = b ∧ M = N) := by
  unfold cmpF orF Lib.compareInt
  rcases Int.lt_trichotomy a b with h | h | h
  · have h1 : ¬ b < a := by omega
    right; left; simp [h, h1]
  · subst h
    rcases Int.lt_trichotomy M N with k | k | k
    · have k1 : ¬ N < M := by omega
      right; left; simp [k, k1]
    · subst k
      right; right; simp
    · have k1 : ¬ M < N := by omega
      left; simp [k, k1]
  · have h1 : ¬ a < b := by omega
    left; simp [h, h1]

set_option maxRecDepth 100000 in
set_option maxHeartbeats 1000000 in
theorem ord_ga (a b c m n M N q : Int) (w : World) (hA : Amb w) (hb3 : 0 ≤ m ∧ m ≤ 4294967295) (hb4 : 0 ≤ n ∧ n ≤ 4294967295) (ha : -2147483648 ≤ a ∧ a ≤ 2147483647) (hb : -2147483648 ≤ b ∧ b ≤ 2147483647) (hc : -2147483648 ≤ c ∧ c ≤ 2147483647)
    (hM : m % 1000000000 = M) (hN : n % 1000000000 = N) (hq : m % 1000 = q) (hk : cmpF a M b N = 1) (hk2 : cmpF b N a M = -1) (ho : b < a) :
    Calls Tryd.prog 7 #[.int .i32 a, .int .i32 b, .int .i32 c, .int .u32 m, .int .u32 n] w fun e w' => e = .returned (.bool true) ∧ Below w.heap.size w w' := by
  have hq0 : 0 ≤ q ∧ q < 1000 := by omega
  have HC1 := Lib.hid (fun W => by have := cmp_any a M b N W; rw [hk] at this; exact this)
  have HC2 := Lib.hid (fun W => by have := cmp_any b N a M W; rw [hk2] at this; exact this)
  have HC3 := Lib.hid (fun W => cmp_any b N c 5 W)
  have HC4 := Lib.hid (fun W => cmp_any a M c 5 W)
  have HD := Lib.hid (fun W => refDigits_int q W hq0.1 (by omega))
  have hmt : mayF q 250000000 = true := by rw [may_iff]; omega
  have hP : ∀ W, Amb W → Calls Tryd.prog 11 #[.string ((⟨(itoa q).toArray⟩ : ByteArray) ++ ⟨#[46, 50, 53]⟩)] W fun e w' => e = .returned (.tuple #[.agg #[.int .i64 q, .int .i64 250000000], .bool true]) ∧ Below W.heap.size W w' := by
    intro W hA
    have e1 : ((⟨(itoa q).toArray⟩ : ByteArray) ++ ⟨#[46, 50, 53]⟩).data.toList = textF q 250000000 := by rw [bytes_list, text_quarter q hq0.1]
    have hl := DecM.itoa_len q (by omega) (by omega)
    have := parse_yes ((⟨(itoa q).toArray⟩ : ByteArray) ++ ⟨#[46, 50, 53]⟩) W hA (by rw [ByteArray.size_append, Lib.size_mk]; have : (⟨#[46, 50, 53]⟩ : ByteArray).size = 3 := rfl; omega) (by rw [e1]; exact parse_text _ _ hmt)
    obtain ⟨g1, g2⟩ := guess_text _ _ hmt
    rw [e1, g1, g2] at this
    exact this
  have HP := Lib.hid hP
  have hil := (DecM.itoa_len q (by omega) (by omega)).2
  clear hmt hP hk hk2
  generalize itoa q = L at *
  have : (a == b) = false := by rw [beq_eq_false_iff_ne]; omega
  clear ho
  generalize cmpF b N c 5 = J at *
  generalize cmpF a M c 5 = L2 at *
  go_enter Tryd.func7, Tryd.ntmps7
  go_wp2_with fail
  refine (HC1.out _).mono ?_
  rintro e w1 ⟨rfl, hbw1⟩
  have hzw1 := hbw1.size
  try simp at hzw1
  have : w.heap.size < w1.heap.size := by omega
  have : w.heap.size ≤ w1.heap.size := by omega
  have : w1.cell? ⟨w.heap.size, 0, none⟩ = some (.int .i64 a) := cell_kept hbw1 (by simp [go_sem, *])
  have : w1.frozen? ⟨w.heap.size, 0, none⟩ = false := free_kept hbw1 (v := .int .i64 a) (by simp [go_sem, *]) (by simp [go_sem, *])
  have : w.heap.size < w1.heap.size := by omega
  have : w.heap.size ≤ w1.heap.size := by omega
  have : w1.cell? ⟨w.heap.size, 1, none⟩ = some (.int .i64 M) := cell_kept hbw1 (by simp [go_sem, *])
  have : w1.frozen? ⟨w.heap.size, 1, none⟩ = false := free_kept hbw1 (v := .int .i64 M) (by simp [go_sem, *]) (by simp [go_sem, *])
  have : w.heap.size + 1 < w1.heap.size := by omega
  have : w.heap.size + 1 ≤ w1.heap.size := by omega
  have : w1.cell? ⟨w.heap.size + 1, 0, none⟩ = some (.int .i64 b) := cell_kept hbw1 (by simp [go_sem, *])
  have : w1.frozen? ⟨w.heap.size + 1, 0, none⟩ = false := free_kept hbw1 (v := .int .i64 b) (by simp [go_sem, *]) (by simp [go_sem, *])
  have : w.heap.size + 1 < w1.heap.size := by omega
  have : w.heap.size + 1 ≤ w1.heap.size := by omega
  have : w1.cell? ⟨w.heap.size + 1, 1, none⟩ = some (.int .i64 N) := cell_kept hbw1 (by simp [go_sem, *])
  have : w1.frozen? ⟨w.heap.size + 1, 1, none⟩ = false := free_kept hbw1 (v := .int .i64 N) (by simp [go_sem, *]) (by simp [go_sem, *])
  have : w.heap.size + 1 + 1 < w1.heap.size := by omega
  have : w.heap.size + 1 + 1 ≤ w1.heap.size := by omega
  have : w1.cell? ⟨w.heap.size + 1 + 1, 0, none⟩ = some (.int .i64 c) := cell_kept hbw1 (by simp [go_sem, *])
  have : w1.frozen? ⟨w.heap.size + 1 + 1, 0, none⟩ = false := free_kept hbw1 (v := .int .i64 c) (by simp [go_sem, *]) (by simp [go_sem, *])
  have : w.heap.size + 1 + 1 < w1.heap.size := by omega
  have : w.heap.size + 1 + 1 ≤ w1.heap.size := by omega
  have : w1.cell? ⟨w.heap.size + 1 + 1, 1, none⟩ = some (.int .i64 5) := cell_kept hbw1 (by simp [go_sem, *])
  have : w1.frozen? ⟨w.heap.size + 1 + 1, 1, none⟩ = false := free_kept hbw1 (v := .int .i64 5) (by simp [go_sem, *]) (by simp [go_sem, *])
  go_wp2_with fail
  refine (HD.out _).mono ?_
  rintro e w2 ⟨rfl, hbw2⟩
  have hzw2 := hbw2.size
  try simp at hzw2
  have : w.heap.size < w2.heap.size := by omega
  have : w.heap.size ≤ w2.heap.size := by omega
  have : w2.cell? ⟨w.heap.size, 0, none⟩ = some (.int .i64 a) := cell_kept hbw2 (by simp [go_sem, *])
  have : w2.frozen? ⟨w.heap.size, 0, none⟩ = false := free_kept hbw2 (v := .int .i64 a) (by simp [go_sem, *]) (by simp [go_sem, *])
  have : w.heap.size < w2.heap.size := by omega
  have : w.heap.size ≤ w2.heap.size := by omega
  have : w2.cell? ⟨w.heap.size, 1, none⟩ = some (.int .i64 M) := cell_kept hbw2 (by simp [go_sem, *])
  have : w2.frozen? ⟨w.heap.size, 1, none⟩ = false := free_kept hbw2 (v := .int .i64 M) (by simp [go_sem, *]) (by simp [go_sem, *])
  have : w.heap.size + 1 < w2.heap.size := by omega
  have : w.heap.size + 1 ≤ w2.heap.size := by omega
  have : w2.cell? ⟨w.heap.size + 1, 0, none⟩ = some (.int .i64 b) := cell_kept hbw2 (by simp [go_sem, *])
  have : w2.frozen? ⟨w.heap.size + 1, 0, none⟩ = false := free_kept hbw2 (v := .int .i64 b) (by simp [go_sem, *]) (by simp [go_sem, *])
  have : w.heap.size + 1 < w2.heap.size := by omega
  have : w.heap.size + 1 ≤ w2.heap.size := by omega
  have : w2.cell? ⟨w.heap.size + 1, 1, none⟩ = some (.int .i64 N) := cell_kept hbw2 (by simp [go_sem, *])
  have : w2.frozen? ⟨w.heap.size + 1, 1, none⟩ = false := free_kept hbw2 (v := .int .i64 N) (by simp [go_sem, *]) (by simp [go_sem, *])
  have : w.heap.size + 1 + 1 < w2.heap.size := by omega
  have : w.heap.size + 1 + 1 ≤ w2.heap.size := by omega
  have : w2.cell? ⟨w.heap.size + 1 + 1, 0, none⟩ = some (.int .i64 c) := cell_kept hbw2 (by simp [go_sem, *])
  have : w2.frozen? ⟨w.heap.size + 1 + 1, 0, none⟩ = false := free_kept hbw2 (v := .int .i64 c) (by simp [go_sem, *]) (by simp [go_sem, *])
  have : w.heap.size + 1 + 1 < w2.heap.size := by omega
  have : w.heap.size + 1 + 1 ≤ w2.heap.size := by omega
  have : w2.cell? ⟨w.heap.size + 1 + 1, 1, none⟩ = some (.int .i64 5) := cell_kept hbw2 (by simp [go_sem, *])
  have : w2.frozen? ⟨w.heap.size + 1 + 1, 1, none⟩ = false := free_kept hbw2 (v := .int .i64 5) (by simp [go_sem, *]) (by simp [go_sem, *])
  go_wp2_with fail
  refine (HP.out _ (hA.on (by (repeat' (first | exact Below.refl _ _ | assumption | refine gr_drew ?_ | refine gr_drewN ?_ _ | refine gr_alloc ?_ _ | refine gr_set ?_ ?_ _ | refine gr_call ?_ (by assumption)) <;> (try (simp; done)) <;> (try (simp; omega)) <;> (try omega))))).mono ?_
  rintro e w3 ⟨rfl, hbw3⟩
  have hzw3 := hbw3.size
  try simp at hzw3
  have : w.heap.size < w3.heap.size := by omega
  have : w.heap.size ≤ w3.heap.size := by omega
  have : w3.cell? ⟨w.heap.size, 0, none⟩ = some (.int .i64 a) := cell_kept hbw3 (by simp [go_sem, *])
  have : w3.frozen? ⟨w.heap.size, 0, none⟩ = false := free_kept hbw3 (v := .int .i64 a) (by simp [go_sem, *]) (by simp [go_sem, *])
  have : w.heap.size < w3.heap.size := by omega
  have : w.heap.size ≤ w3.heap.size := by omega
  have : w3.cell? ⟨w.heap.size, 1, none⟩ = some (.int .i64 M) := cell_kept hbw3 (by simp [go_sem, *])
  have : w3.frozen? ⟨w.heap.size, 1, none⟩ = false := free_kept hbw3 (v := .int .i64 M) (by simp [go_sem, *]) (by simp [go_sem, *])
  have : w.heap.size + 1 < w3.heap.size := by omega
  have : w.heap.size + 1 ≤ w3.heap.size := by omega
  have : w3.cell? ⟨w.heap.size + 1, 0, none⟩ = some (.int .i64 b) := cell_kept hbw3 (by simp [go_sem, *])
  have : w3.frozen? ⟨w.heap.size + 1, 0, none⟩ = false := free_kept hbw3 (v := .int .i64 b) (by simp [go_sem, *]) (by simp [go_sem, *])
  have : w.heap.size + 1 < w3.heap.size := by omega
  have : w.heap.size + 1 ≤ w3.heap.size := by omega
  have : w3.cell? ⟨w.heap.size + 1, 1, none⟩ = some (.int .i64 N) := cell_kept hbw3 (by simp [go_sem, *])
  have : w3.frozen? ⟨w.heap.size + 1, 1, none⟩ = false := free_kept hbw3 (v := .int .i64 N) (by simp [go_sem, *]) (by simp [go_sem, *])
  have : w.heap.size + 1 + 1 < w3.heap.size := by omega
  have : w.heap.size + 1 + 1 ≤ w3.heap.size := by omega
  have : w3.cell? ⟨w.heap.size + 1 + 1, 0, none⟩ = some (.int .i64 c) := cell_kept hbw3 (by simp [go_sem, *])
  have : w3.frozen? ⟨w.heap.size + 1 + 1, 0, none⟩ = false := free_kept hbw3 (v := .int .i64 c) (by simp [go_sem, *]) (by simp [go_sem, *])
  have : w.heap.size + 1 + 1 < w3.heap.size := by omega
  have : w.heap.size + 1 + 1 ≤ w3.heap.size := by omega
  have : w3.cell? ⟨w.heap.size + 1 + 1, 1, none⟩ = some (.int .i64 5) := cell_kept hbw3 (by simp [go_sem, *])
  have : w3.frozen? ⟨w.heap.size + 1 + 1, 1, none⟩ = false := free_kept hbw3 (v := .int .i64 5) (by simp [go_sem, *]) (by simp [go_sem, *])
  go_wp2_with fail
  refine (HC2.out _).mono ?_
  rintro e w4 ⟨rfl, hbw4⟩
  have hzw4 := hbw4.size
  try simp at hzw4
  have : w.heap.size < w4.heap.size := by omega
  have : w.heap.size ≤ w4.heap.size := by omega
  have : w4.cell? ⟨w.heap.size, 0, none⟩ = some (.int .i64 a) := cell_kept hbw4 (by simp [go_sem, *])
  have : w4.frozen? ⟨w.heap.size, 0, none⟩ = false := free_kept hbw4 (v := .int .i64 a) (by simp [go_sem, *]) (by simp [go_sem, *])
  have : w.heap.size < w4.heap.size := by omega
  have : w.heap.size ≤ w4.heap.size := by omega
  have : w4.cell? ⟨w.heap.size, 1, none⟩ = some (.int .i64 M) := cell_kept hbw4 (by simp [go_sem, *])
  have : w4.frozen? ⟨w.heap.size, 1, none⟩ = false := free_kept hbw4 (v := .int .i64 M) (by simp [go_sem, *]) (by simp [go_sem, *])
  have : w.heap.size + 1 < w4.heap.size := by omega
  have : w.heap.size + 1 ≤ w4.heap.size := by omega
  have : w4.cell? ⟨w.heap.size + 1, 0, none⟩ = some (.int .i64 b) := cell_kept hbw4 (by simp [go_sem, *])
  have : w4.frozen? ⟨w.heap.size + 1, 0, none⟩ = false := free_kept hbw4 (v := .int .i64 b) (by simp [go_sem, *]) (by simp [go_sem, *])
  have : w.heap.size + 1 < w4.heap.size := by omega
  have : w.heap.size + 1 ≤ w4.heap.size := by omega
  have : w4.cell? ⟨w.heap.size + 1, 1, none⟩ = some (.int .i64 N) := cell_kept hbw4 (by simp [go_sem, *])
  have : w4.frozen? ⟨w.heap.size + 1, 1, none⟩ = false := free_kept hbw4 (v := .int .i64 N) (by simp [go_sem, *]) (by simp [go_sem, *])
  have : w.heap.size + 1 + 1 < w4.heap.size := by omega
  have : w.heap.size + 1 + 1 ≤ w4.heap.size := by omega
  have : w4.cell? ⟨w.heap.size + 1 + 1, 0, none⟩ = some (.int .i64 c) := cell_kept hbw4 (by simp [go_sem, *])
  have : w4.frozen? ⟨w.heap.size + 1 + 1, 0, none⟩ = false := free_kept hbw4 (v := .int .i64 c) (by simp [go_sem, *]) (by simp [go_sem, *])
  have : w.heap.size + 1 + 1 < w4.heap.size := by omega
  have : w.heap.size + 1 + 1 ≤ w4.heap.size := by omega
  have : w4.cell? ⟨w.heap.size + 1 + 1, 1, none⟩ = some (.int .i64 5) := cell_kept hbw4 (by simp [go_sem, *])
  have : w4.frozen? ⟨w.heap.size + 1 + 1, 1, none⟩ = false := free_kept hbw4 (v := .int .i64 5) (by simp [go_sem, *]) (by simp [go_sem, *])
  have : w3.heap.size < w4.heap.size := by omega
  have : w3.heap.size ≤ w4.heap.size := by omega
  have : w4.cell? ⟨w3.heap.size, 0, none⟩ = some (.int .i64 q) := cell_kept hbw4 (by simp [go_sem, *])
  have : w4.frozen? ⟨w3.heap.size, 0, none⟩ = false := free_kept hbw4 (v := .int .i64 q) (by simp [go_sem, *]) (by simp [go_sem, *])
  have : w3.heap.size < w4.heap.size := by omega
  have : w3.heap.size ≤ w4.heap.size := by omega
  have : w4.cell? ⟨w3.heap.size, 1, none⟩ = some (.int .i64 250000000) := cell_kept hbw4 (by simp [go_sem, *])
  have : w4.frozen? ⟨w3.heap.size, 1, none⟩ = false := free_kept hbw4 (v := .int .i64 250000000) (by simp [go_sem, *]) (by simp [go_sem, *])
  go_wp2_with fail
  refine (awake_any _ (hA.on (by (repeat' (first | exact Below.refl _ _ | assumption | refine gr_drew ?_ | refine gr_drewN ?_ _ | refine gr_alloc ?_ _ | refine gr_set ?_ ?_ _ | refine gr_call ?_ (by assumption)) <;> (try (simp; done)) <;> (try (simp; omega)) <;> (try omega))))).mono ?_
  rintro e w5 ⟨rfl, hbw5⟩
  have hzw5 := hbw5.size
  try simp at hzw5
  go_wp2_with fail
  go_ret
  exact ⟨rfl, by (repeat' (first | exact Below.refl _ _ | assumption | refine gr_drew ?_ | refine gr_drewN ?_ _ | refine gr_alloc ?_ _ | refine gr_set ?_ ?_ _ | refine gr_call ?_ (by assumption)) <;> (try (simp; done)) <;> (try (simp; omega)) <;> (try omega))⟩

set_option maxRecDepth 100000 in
set_option maxHeartbeats 1000000 in
theorem ord_gm (a b c m n M N q : Int) (w : World) (hA : Amb w) (hb3 : 0 ≤ m ∧ m ≤ 4294967295) (hb4 : 0 ≤ n ∧ n ≤ 4294967295) (ha : -2147483648 ≤ a ∧ a ≤ 2147483647) (hb : -2147483648 ≤ b ∧ b ≤ 2147483647) (hc : -2147483648 ≤ c ∧ c ≤ 2147483647)
    (hM : m % 1000000000 = M) (hN : n % 1000000000 = N) (hq : m % 1000 = q) (hk : cmpF a M b N = 1) (hk2 : cmpF b N a M = -1) (ho : a = b ∧ N < M) :
    Calls Tryd.prog 7 #[.int .i32 a, .int .i32 b, .int .i32 c, .int .u32 m, .int .u32 n] w fun e w' => e = .returned (.bool true) ∧ Below w.heap.size w w' := by
  have hq0 : 0 ≤ q ∧ q < 1000 := by omega
  have HC1 := Lib.hid (fun W => by have := cmp_any a M b N W; rw [hk] at this; exact this)
  have HC2 := Lib.hid (fun W => by have := cmp_any b N a M W; rw [hk2] at this; exact this)
  have HC3 := Lib.hid (fun W => cmp_any b N c 5 W)
  have HC4 := Lib.hid (fun W => cmp_any a M c 5 W)
  have HD := Lib.hid (fun W => refDigits_int q W hq0.1 (by omega))
  have hmt : mayF q 250000000 = true := by rw [may_iff]; omega
  have hP : ∀ W, Amb W → Calls Tryd.prog 11 #[.string ((⟨(itoa q).toArray⟩ : ByteArray) ++ ⟨#[46, 50, 53]⟩)] W fun e w' => e = .returned (.tuple #[.agg #[.int .i64 q, .int .i64 250000000], .bool true]) ∧ Below W.heap.size W w' := by
    intro W hA
    have e1 : ((⟨(itoa q).toArray⟩ : ByteArray) ++ ⟨#[46, 50, 53]⟩).data.toList = textF q 250000000 := by rw [bytes_list, text_quarter q hq0.1]
    have hl := DecM.itoa_len q (by omega) (by omega)
    have := parse_yes ((⟨(itoa q).toArray⟩ : ByteArray) ++ ⟨#[46, 50, 53]⟩) W hA (by rw [ByteArray.size_append, Lib.size_mk]; have : (⟨#[46, 50, 53]⟩ : ByteArray).size = 3 := rfl; omega) (by rw [e1]; exact parse_text _ _ hmt)
    obtain ⟨g1, g2⟩ := guess_text _ _ hmt
    rw [e1, g1, g2] at this
    exact this
  have HP := Lib.hid hP
  have hil := (DecM.itoa_len q (by omega) (by omega)).2
  clear hmt hP hk hk2
  generalize itoa q = L at *
  have : (a == b) = true := by rw [beq_iff_eq]; omega
  have : (M == N) = false := by rw [beq_eq_false_iff_ne]; omega
  clear ho
  generalize cmpF b N c 5 = J at *
  generalize cmpF a M c 5 = L2 at *
  go_enter Tryd.func7, Tryd.ntmps7
  go_wp2_with fail
  refine (HC1.out _).mono ?_
  rintro e w1 ⟨rfl, hbw1⟩
  have hzw1 := hbw1.size
  try simp at hzw1
  have : w.heap.size < w1.heap.size := by omega
  have : w.heap.size ≤ w1.heap.size := by omega
  have : w1.cell? ⟨w.heap.size, 0, none⟩ = some (.int .i64 a) := cell_kept hbw1 (by simp [go_sem, *])
  have : w1.frozen? ⟨w.heap.size, 0, none⟩ = false := free_kept hbw1 (v := .int .i64 a) (by simp [go_sem, *]) (by simp [go_sem, *])
  have : w.heap.size < w1.heap.size := by omega
  have : w.heap.size ≤ w1.heap.size := by omega
  have : w1.cell? ⟨w.heap.size, 1, none⟩ = some (.int .i64 M) := cell_kept hbw1 (by simp [go_sem, *])
  have : w1.frozen? ⟨w.heap.size, 1, none⟩ = false := free_kept hbw1 (v := .int .i64 M) (by simp [go_sem, *]) (by simp [go_sem, *])
  have : w.heap.size + 1 < w1.heap.size := by omega
  have : w.heap.size + 1 ≤ w1.heap.size := by omega
  have : w1.cell? ⟨w.heap.size + 1, 0, none⟩ = some (.int .i64 b) := cell_kept hbw1 (by simp [go_sem, *])
  have : w1.frozen? ⟨w.heap.size + 1, 0, none⟩ = false := free_kept hbw1 (v := .int .i64 b) (by simp [go_sem, *]) (by simp [go_sem, *])
  have : w.heap.size + 1 < w1.heap.size := by omega
  have : w.heap.size + 1 ≤ w1.heap.size := by omega
  have : w1.cell? ⟨w.heap.size + 1, 1, none⟩ = some (.int .i64 N) := cell_kept hbw1 (by simp [go_sem, *])
  have : w1.frozen? ⟨w.heap.size + 1, 1, none⟩ = false := free_kept hbw1 (v := .int .i64 N) (by simp [go_sem, *]) (by simp [go_sem, *])
  have : w.heap.size + 1 + 1 < w1.heap.size := by omega
  have : w.heap.size + 1 + 1 ≤ w1.heap.size := by omega
  have : w1.cell? ⟨w.heap.size + 1 + 1, 0, none⟩ = some (.int .i64 c) := cell_kept hbw1 (by simp [go_sem, *])
  have : w1.frozen? ⟨w.heap.size + 1 + 1, 0, none⟩ = false := free_kept hbw1 (v := .int .i64 c) (by simp [go_sem, *]) (by simp [go_sem, *])
  have : w.heap.size + 1 + 1 < w1.heap.size := by omega
  have : w.heap.size + 1 + 1 ≤ w1.heap.size := by omega
  have : w1.cell? ⟨w.heap.size + 1 + 1, 1, none⟩ = some (.int .i64 5) := cell_kept hbw1 (by simp [go_sem, *])
  have : w1.frozen? ⟨w.heap.size + 1 + 1, 1, none⟩ = false := free_kept hbw1 (v := .int .i64 5) (by simp [go_sem, *]) (by simp [go_sem, *])
  go_wp2_with fail
  refine (HD.out _).mono ?_
  rintro e w2 ⟨rfl, hbw2⟩
  have hzw2 := hbw2.size
  try simp at hzw2
  have : w.heap.size < w2.heap.size := by omega
  have : w.heap.size ≤ w2.heap.size := by omega
  have : w2.cell? ⟨w.heap.size, 0, none⟩ = some (.int .i64 a) := cell_kept hbw2 (by simp [go_sem, *])
  have : w2.frozen? ⟨w.heap.size, 0, none⟩ = false := free_kept hbw2 (v := .int .i64 a) (by simp [go_sem, *]) (by simp [go_sem, *])
  have : w.heap.size < w2.heap.size := by omega
  have : w.heap.size ≤ w2.heap.size := by omega
  have : w2.cell? ⟨w.heap.size, 1, none⟩ = some (.int .i64 M) := cell_kept hbw2 (by simp [go_sem, *])
  have : w2.frozen? ⟨w.heap.size, 1, none⟩ = false := free_kept hbw2 (v := .int .i64 M) (by simp [go_sem, *]) (by simp [go_sem, *])
  have : w.heap.size + 1 < w2.heap.size := by omega
  have : w.heap.size + 1 ≤ w2.heap.size := by omega
  have : w2.cell? ⟨w.heap.size + 1, 0, none⟩ = some (.int .i64 b) := cell_kept hbw2 (by simp [go_sem, *])
  have : w2.frozen? ⟨w.heap.size + 1, 0, none⟩ = false := free_kept hbw2 (v := .int .i64 b) (by simp [go_sem, *]) (by simp [go_sem, *])
  have : w.heap.size + 1 < w2.heap.size := by omega
  have : w.heap.size + 1 ≤ w2.heap.size := by omega
  have : w2.cell? ⟨w.heap.size + 1, 1, none⟩ = some (.int .i64 N) := cell_kept hbw2 (by simp [go_sem, *])
  have : w2.frozen? ⟨w.heap.size + 1, 1, none⟩ = false := free_kept hbw2 (v := .int .i64 N) (by simp [go_sem, *]) (by simp [go_sem, *])
  have : w.heap.size + 1 + 1 < w2.heap.size := by omega
  have : w.heap.size + 1 + 1 ≤ w2.heap.size := by omega
  have : w2.cell? ⟨w.heap.size + 1 + 1, 0, none⟩ = some (.int .i64 c) := cell_kept hbw2 (by simp [go_sem, *])
  have : w2.frozen? ⟨w.heap.size + 1 + 1, 0, none⟩ = false := free_kept hbw2 (v := .int .i64 c) (by simp [go_sem, *]) (by simp [go_sem, *])
  have : w.heap.size + 1 + 1 < w2.heap.size := by omega
  have : w.heap.size + 1 + 1 ≤ w2.heap.size := by omega
  have : w2.cell? ⟨w.heap.size + 1 + 1, 1, none⟩ = some (.int .i64 5) := cell_kept hbw2 (by simp [go_sem, *])
  have : w2.frozen? ⟨w.heap.size + 1 + 1, 1, none⟩ = false := free_kept hbw2 (v := .int .i64 5) (by simp [go_sem, *]) (by simp [go_sem, *])
  go_wp2_with fail
  refine (HP.out _ (hA.on (by (repeat' (first | exact Below.refl _ _ | assumption | refine gr_drew ?_ | refine gr_drewN ?_ _ | refine gr_alloc ?_ _ | refine gr_set ?_ ?_ _ | refine gr_call ?_ (by assumption)) <;> (try (simp; done)) <;> (try (simp; omega)) <;> (try omega))))).mono ?_
  rintro e w3 ⟨rfl, hbw3⟩
  have hzw3 := hbw3.size
  try simp at hzw3
  have : w.heap.size < w3.heap.size := by omega
  have : w.heap.size ≤ w3.heap.size := by omega
  have : w3.cell? ⟨w.heap.size, 0, none⟩ = some (.int .i64 a) := cell_kept hbw3 (by simp [go_sem, *])
  have : w3.frozen? ⟨w.heap.size, 0, none⟩ = false := free_kept hbw3 (v := .int .i64 a) (by simp [go_sem, *]) (by simp [go_sem, *])
  have : w.heap.size < w3.heap.size := by omega
  have : w.heap.size ≤ w3.heap.size := by omega
  have : w3.cell? ⟨w.heap.size, 1, none⟩ = some (.int .i64 M) := cell_kept hbw3 (by simp [go_sem, *])
  have : w3.frozen? ⟨w.heap.size, 1, none⟩ = false := free_kept hbw3 (v := .int .i64 M) (by simp [go_sem, *]) (by simp [go_sem, *])
  have : w.heap.size + 1 < w3.heap.size := by omega
  have : w.heap.size + 1 ≤ w3.heap.size := by omega
  have : w3.cell? ⟨w.heap.size + 1, 0, none⟩ = some (.int .i64 b) := cell_kept hbw3 (by simp [go_sem, *])
  have : w3.frozen? ⟨w.heap.size + 1, 0, none⟩ = false := free_kept hbw3 (v := .int .i64 b) (by simp [go_sem, *]) (by simp [go_sem, *])
  have : w.heap.size + 1 < w3.heap.size := by omega
  have : w.heap.size + 1 ≤ w3.heap.size := by omega
  have : w3.cell? ⟨w.heap.size + 1, 1, none⟩ = some (.int .i64 N) := cell_kept hbw3 (by simp [go_sem, *])
  have : w3.frozen? ⟨w.heap.size + 1, 1, none⟩ = false := free_kept hbw3 (v := .int .i64 N) (by simp [go_sem, *]) (by simp [go_sem, *])
  have : w.heap.size + 1 + 1 < w3.heap.size := by omega
  have : w.heap.size + 1 + 1 ≤ w3.heap.size := by omega
  have : w3.cell? ⟨w.heap.size + 1 + 1, 0, none⟩ = some (.int .i64 c) := cell_kept hbw3 (by simp [go_sem, *])
  have : w3.frozen? ⟨w.heap.size + 1 + 1, 0, none⟩ = false := free_kept hbw3 (v := .int .i64 c) (by simp [go_sem, *]) (by simp [go_sem, *])
  have : w.heap.size + 1 + 1 < w3.heap.size := by omega
  have : w.heap.size + 1 + 1 ≤ w3.heap.size := by omega
  have : w3.cell? ⟨w.heap.size + 1 + 1, 1, none⟩ = some (.int .i64 5) := cell_kept hbw3 (by simp [go_sem, *])
  have : w3.frozen? ⟨w.heap.size + 1 + 1, 1, none⟩ = false := free_kept hbw3 (v := .int .i64 5) (by simp [go_sem, *]) (by simp [go_sem, *])
  go_wp2_with fail
  refine (HC2.out _).mono ?_
  rintro e w4 ⟨rfl, hbw4⟩
  have hzw4 := hbw4.size
  try simp at hzw4
  have : w.heap.size < w4.heap.size := by omega
  have : w.heap.size ≤ w4.heap.size := by omega
  have : w4.cell? ⟨w.heap.size, 0, none⟩ = some (.int .i64 a) := cell_kept hbw4 (by simp [go_sem, *])
  have : w4.frozen? ⟨w.heap.size, 0, none⟩ = false := free_kept hbw4 (v := .int .i64 a) (by simp [go_sem, *]) (by simp [go_sem, *])
  have : w.heap.size < w4.heap.size := by omega
  have : w.heap.size ≤ w4.heap.size := by omega
  have : w4.cell? ⟨w.heap.size, 1, none⟩ = some (.int .i64 M) := cell_kept hbw4 (by simp [go_sem, *])
  have : w4.frozen? ⟨w.heap.size, 1, none⟩ = false := free_kept hbw4 (v := .int .i64 M) (by simp [go_sem, *]) (by simp [go_sem, *])
  have : w.heap.size + 1 < w4.heap.size := by omega
  have : w.heap.size + 1 ≤ w4.heap.size := by omega
  have : w4.cell? ⟨w.heap.size + 1, 0, none⟩ = some (.int .i64 b) := cell_kept hbw4 (by simp [go_sem, *])
  have : w4.frozen? ⟨w.heap.size + 1, 0, none⟩ = false := free_kept hbw4 (v := .int .i64 b) (by simp [go_sem, *]) (by simp [go_sem, *])
  have : w.heap.size + 1 < w4.heap.size := by omega
  have : w.heap.size + 1 ≤ w4.heap.size := by omega
  have : w4.cell? ⟨w.heap.size + 1, 1, none⟩ = some (.int .i64 N) := cell_kept hbw4 (by simp [go_sem, *])
  have : w4.frozen? ⟨w.heap.size + 1, 1, none⟩ = false := free_kept hbw4 (v := .int .i64 N) (by simp [go_sem, *]) (by simp [go_sem, *])
  have : w.heap.size + 1 + 1 < w4.heap.size := by omega
  have : w.heap.size + 1 + 1 ≤ w4.heap.size := by omega
  have : w4.cell? ⟨w.heap.size + 1 + 1, 0, none⟩ = some (.int .i64 c) := cell_kept hbw4 (by simp [go_sem, *])
  have : w4.frozen? ⟨w.heap.size + 1 + 1, 0, none⟩ = false := free_kept hbw4 (v := .int .i64 c) (by simp [go_sem, *]) (by simp [go_sem, *])
  have : w.heap.size + 1 + 1 < w4.heap.size := by omega
  have : w.heap.size + 1 + 1 ≤ w4.heap.size := by omega
  have : w4.cell? ⟨w.heap.size + 1 + 1, 1, none⟩ = some (.int .i64 5) := cell_kept hbw4 (by simp [go_sem, *])
  have : w4.frozen? ⟨w.heap.size + 1 + 1, 1, none⟩ = false := free_kept hbw4 (v := .int .i64 5) (by simp [go_sem, *]) (by simp [go_sem, *])
  have : w3.heap.size < w4.heap.size := by omega
  have : w3.heap.size ≤ w4.heap.size := by omega
  have : w4.cell? ⟨w3.heap.size, 0, none⟩ = some (.int .i64 q) := cell_kept hbw4 (by simp [go_sem, *])
  have : w4.frozen? ⟨w3.heap.size, 0, none⟩ = false := free_kept hbw4 (v := .int .i64 q) (by simp [go_sem, *]) (by simp [go_sem, *])
  have : w3.heap.size < w4.heap.size := by omega
  have : w3.heap.size ≤ w4.heap.size := by omega
  have : w4.cell? ⟨w3.heap.size, 1, none⟩ = some (.int .i64 250000000) := cell_kept hbw4 (by simp [go_sem, *])
  have : w4.frozen? ⟨w3.heap.size, 1, none⟩ = false := free_kept hbw4 (v := .int .i64 250000000) (by simp [go_sem, *]) (by simp [go_sem, *])
  go_wp2_with fail
  refine (awake_any _ (hA.on (by (repeat' (first | exact Below.refl _ _ | assumption | refine gr_drew ?_ | refine gr_drewN ?_ _ | refine gr_alloc ?_ _ | refine gr_set ?_ ?_ _ | refine gr_call ?_ (by assumption)) <;> (try (simp; done)) <;> (try (simp; omega)) <;> (try omega))))).mono ?_
  rintro e w5 ⟨rfl, hbw5⟩
  have hzw5 := hbw5.size
  try simp at hzw5
  go_wp2_with fail
  go_ret
  exact ⟨rfl, by (repeat' (first | exact Below.refl _ _ | assumption | refine gr_drew ?_ | refine gr_drewN ?_ _ | refine gr_alloc ?_ _ | refine gr_set ?_ ?_ _ | refine gr_call ?_ (by assumption)) <;> (try (simp; done)) <;> (try (simp; omega)) <;> (try omega))⟩

set_option maxRecDepth 100000 in
set_option maxHeartbeats 1000000 in
theorem ord_e_p (a b c m n M N q : Int) (w : World) (hA : Amb w) (hb3 : 0 ≤ m ∧ m ≤ 4294967295) (hb4 : 0 ≤ n ∧ n ≤ 4294967295) (ha : -2147483648 ≤ a ∧ a ≤ 2147483647) (hb : -2147483648 ≤ b ∧ b ≤ 2147483647) (hc : -2147483648 ≤ c ∧ c ≤ 2147483647)
    (hM : m % 1000000000 = M) (hN : n % 1000000000 = N) (hq : m % 1000 = q) (hk : cmpF a M b N = 0) (hk2 : cmpF b N a M = 0) (ho : a = b ∧ M = N) (hJ : 0 < cmpF b N c 5) :
    Calls Tryd.prog 7 #[.int .i32 a, .int .i32 b, .int .i32 c, .int .u32 m, .int .u32 n] w fun e w' => e = .returned (.bool true) ∧ Below w.heap.size w w' := by
  have hq0 : 0 ≤ q ∧ q < 1000 := by omega
  have HC1 := Lib.hid (fun W => by have := cmp_any a M b N W; rw [hk] at this; exact this)
  have HC2 := Lib.hid (fun W => by have := cmp_any b N a M W; rw [hk2] at this; exact this)
  have HC3 := Lib.hid (fun W => cmp_any b N c 5 W)
  have HC4 := Lib.hid (fun W => cmp_any a M c 5 W)
  have HD := Lib.hid (fun W => refDigits_int q W hq0.1 (by omega))
  have hmt : mayF q 250000000 = true := by rw [may_iff]; omega
  have hP : ∀ W, Amb W → Calls Tryd.prog 11 #[.string ((⟨(itoa q).toArray⟩ : ByteArray) ++ ⟨#[46, 50, 53]⟩)] W fun e w' => e = .returned (.tuple #[.agg #[.int .i64 q, .int .i64 250000000], .bool true]) ∧ Below W.heap.size W w' := by
    intro W hA
    have e1 : ((⟨(itoa q).toArray⟩ : ByteArray) ++ ⟨#[46, 50, 53]⟩).data.toList = textF q 250000000 := by rw [bytes_list, text_quarter q hq0.1]
    have hl := DecM.itoa_len q (by omega) (by omega)
    have := parse_yes ((⟨(itoa q).toArray⟩ : ByteArray) ++ ⟨#[46, 50, 53]⟩) W hA (by rw [ByteArray.size_append, Lib.size_mk]; have : (⟨#[46, 50, 53]⟩ : ByteArray).size = 3 := rfl; omega) (by rw [e1]; exact parse_text _ _ hmt)
    obtain ⟨g1, g2⟩ := guess_text _ _ hmt
    rw [e1, g1, g2] at this
    exact this
  have HP := Lib.hid hP
  have hil := (DecM.itoa_len q (by omega) (by omega)).2
  clear hmt hP hk hk2
  generalize itoa q = L at *
  have : (a == b) = true := by rw [beq_iff_eq]; omega
  have : (M == N) = true := by rw [beq_iff_eq]; omega
  have : decide (0 < cmpF b N c 5) = true := by simpa using hJ
  clear ho
  generalize cmpF b N c 5 = J at *
  generalize cmpF a M c 5 = L2 at *
  go_enter Tryd.func7, Tryd.ntmps7
  go_wp2_with fail
  refine (HC1.out _).mono ?_
  rintro e w1 ⟨rfl, hbw1⟩
  have hzw1 := hbw1.size
  try simp at hzw1
  have : w.heap.size < w1.heap.size := by omega
  have : w.heap.size ≤ w1.heap.size := by omega
  have : w1.cell? ⟨w.heap.size, 0, none⟩ = some (.int .i64 a) := cell_kept hbw1 (by simp [go_sem, *])
  have : w1.frozen? ⟨w.heap.size, 0, none⟩ = false := free_kept hbw1 (v := .int .i64 a) (by simp [go_sem, *]) (by simp [go_sem, *])
  have : w.heap.size < w1.heap.size := by omega
  have : w.heap.size ≤ w1.heap.size := by omega
  have : w1.cell? ⟨w.heap.size, 1, none⟩ = some (.int .i64 M) := cell_kept hbw1 (by simp [go_sem, *])
  have : w1.frozen? ⟨w.heap.size, 1, none⟩ = false := free_kept hbw1 (v := .int .i64 M) (by simp [go_sem, *]) (by simp [go_sem, *])
  have : w.heap.size + 1 < w1.heap.size := by omega
  have : w.heap.size + 1 ≤ w1.heap.size := by omega
  have : w1.cell? ⟨w.heap.size + 1, 0, none⟩ = some (.int .i64 b) := cell_kept hbw1 (by simp [go_sem, *])
  have : w1.frozen? ⟨w.heap.size + 1, 0, none⟩ = false := free_kept hbw1 (v := .int .i64 b) (by simp [go_sem, *]) (by simp [go_sem, *])
  have : w.heap.size + 1 < w1.heap.size := by omega
  have : w.heap.size + 1 ≤ w1.heap.size := by omega
  have : w1.cell? ⟨w.heap.size + 1, 1, none⟩ = some (.int .i64 N) := cell_kept hbw1 (by simp [go_sem, *])
  have : w1.frozen? ⟨w.heap.size + 1, 1, none⟩ = false := free_kept hbw1 (v := .int .i64 N) (by simp [go_sem, *]) (by simp [go_sem, *])
  have : w.heap.size + 1 + 1 < w1.heap.size := by omega
  have : w.heap.size + 1 + 1 ≤ w1.heap.size := by omega
  have : w1.cell? ⟨w.heap.size + 1 + 1, 0, none⟩ = some (.int .i64 c) := cell_kept hbw1 (by simp [go_sem, *])
  have : w1.frozen? ⟨w.heap.size + 1 + 1, 0, none⟩ = false := free_kept hbw1 (v := .int .i64 c) (by simp [go_sem, *]) (by simp [go_sem, *])
  have : w.heap.size + 1 + 1 < w1.heap.size := by omega
  have : w.heap.size + 1 + 1 ≤ w1.heap.size := by omega
  have : w1.cell? ⟨w.heap.size + 1 + 1, 1, none⟩ = some (.int .i64 5) := cell_kept hbw1 (by simp [go_sem, *])
  have : w1.frozen? ⟨w.heap.size + 1 + 1, 1, none⟩ = false := free_kept hbw1 (v := .int .i64 5) (by simp [go_sem, *]) (by simp [go_sem, *])
  go_wp2_with fail
  refine (HD.out _).mono ?_
  rintro e w2 ⟨rfl, hbw2⟩
  have hzw2 := hbw2.size
  try simp at hzw2
  have : w.heap.size < w2.heap.size := by omega
  have : w.heap.size ≤ w2.heap.size := by omega
  have : w2.cell? ⟨w.heap.size, 0, none⟩ = some (.int .i64 a) := cell_kept hbw2 (by simp [go_sem, *])
  have : w2.frozen? ⟨w.heap.size, 0, none⟩ = false := free_kept hbw2 (v := .int .i64 a) (by simp [go_sem, *]) (by simp [go_sem, *])
  have : w.heap.size < w2.heap.size := by omega
  have : w.heap.size ≤ w2.heap.size := by omega
  have : w2.cell? ⟨w.heap.size, 1, none⟩ = some (.int .i64 M) := cell_kept hbw2 (by simp [go_sem, *])
  have : w2.frozen? ⟨w.heap.size, 1, none⟩ = false := free_kept hbw2 (v := .int .i64 M) (by simp [go_sem, *]) (by simp [go_sem, *])
  have : w.heap.size + 1 < w2.heap.size := by omega
  have : w.heap.size + 1 ≤ w2.heap.size := by omega
  have : w2.cell? ⟨w.heap.size + 1, 0, none⟩ = some (.int .i64 b) := cell_kept hbw2 (by simp [go_sem, *])
  have : w2.frozen? ⟨w.heap.size + 1, 0, none⟩ = false := free_kept hbw2 (v := .int .i64 b) (by simp [go_sem, *]) (by simp [go_sem, *])
  have : w.heap.size + 1 < w2.heap.size := by omega
  have : w.heap.size + 1 ≤ w2.heap.size := by omega
  have : w2.cell? ⟨w.heap.size + 1, 1, none⟩ = some (.int .i64 N) := cell_kept hbw2 (by simp [go_sem, *])
  have : w2.frozen? ⟨w.heap.size + 1, 1, none⟩ = false := free_kept hbw2 (v := .int .i64 N) (by simp [go_sem, *]) (by simp [go_sem, *])
  have : w.heap.size + 1 + 1 < w2.heap.size := by omega
  have : w.heap.size + 1 + 1 ≤ w2.heap.size := by omega
  have : w2.cell? ⟨w.heap.size + 1 + 1, 0, none⟩ = some (.int .i64 c) := cell_kept hbw2 (by simp [go_sem, *])
  have : w2.frozen? ⟨w.heap.size + 1 + 1, 0, none⟩ = false := free_kept hbw2 (v := .int .i64 c) (by simp [go_sem, *]) (by simp [go_sem, *])
  have : w.heap.size + 1 + 1 < w2.heap.size := by omega
  have : w.heap.size + 1 + 1 ≤ w2.heap.size := by omega
  have : w2.cell? ⟨w.heap.size + 1 + 1, 1, none⟩ = some (.int .i64 5) := cell_kept hbw2 (by simp [go_sem, *])
  have : w2.frozen? ⟨w.heap.size + 1 + 1, 1, none⟩ = false := free_kept hbw2 (v := .int .i64 5) (by simp [go_sem, *]) (by simp [go_sem, *])
  go_wp2_with fail
  refine (HP.out _ (hA.on (by (repeat' (first | exact Below.refl _ _ | assumption | refine gr_drew ?_ | refine gr_drewN ?_ _ | refine gr_alloc ?_ _ | refine gr_set ?_ ?_ _ | refine gr_call ?_ (by assumption)) <;> (try (simp; done)) <;> (try (simp; omega)) <;> (try omega))))).mono ?_
  rintro e w3 ⟨rfl, hbw3⟩
  have hzw3 := hbw3.size
  try simp at hzw3
  have : w.heap.size < w3.heap.size := by omega
  have : w.heap.size ≤ w3.heap.size := by omega
  have : w3.cell? ⟨w.heap.size, 0, none⟩ = some (.int .i64 a) := cell_kept hbw3 (by simp [go_sem, *])
  have : w3.frozen? ⟨w.heap.size, 0, none⟩ = false := free_kept hbw3 (v := .int .i64 a) (by simp [go_sem, *]) (by simp [go_sem, *])
  have : w.heap.size < w3.heap.size := by omega
  have : w.heap.size ≤ w3.heap.size := by omega
  have : w3.cell? ⟨w.heap.size, 1, none⟩ = some (.int .i64 M) := cell_kept hbw3 (by simp [go_sem, *])
  have : w3.frozen? ⟨w.heap.size, 1, none⟩ = false := free_kept hbw3 (v := .int .i64 M) (by simp [go_sem, *]) (by simp [go_sem, *])
  have : w.heap.size + 1 < w3.heap.size := by omega
  have : w.heap.size + 1 ≤ w3.heap.size := by omega
  have : w3.cell? ⟨w.heap.size + 1, 0, none⟩ = some (.int .i64 b) := cell_kept hbw3 (by simp [go_sem, *])
  have : w3.frozen? ⟨w.heap.size + 1, 0, none⟩ = false := free_kept hbw3 (v := .int .i64 b) (by simp [go_sem, *]) (by simp [go_sem, *])
  have : w.heap.size + 1 < w3.heap.size := by omega
  have : w.heap.size + 1 ≤ w3.heap.size := by omega
  have : w3.cell? ⟨w.heap.size + 1, 1, none⟩ = some (.int .i64 N) := cell_kept hbw3 (by simp [go_sem, *])
  have : w3.frozen? ⟨w.heap.size + 1, 1, none⟩ = false := free_kept hbw3 (v := .int .i64 N) (by simp [go_sem, *]) (by simp [go_sem, *])
  have : w.heap.size + 1 + 1 < w3.heap.size := by omega
  have : w.heap.size + 1 + 1 ≤ w3.heap.size := by omega
  have : w3.cell? ⟨w.heap.size + 1 + 1, 0, none⟩ = some (.int .i64 c) := cell_kept hbw3 (by simp [go_sem, *])
  have : w3.frozen? ⟨w.heap.size + 1 + 1, 0, none⟩ = false := free_kept hbw3 (v := .int .i64 c) (by simp [go_sem, *]) (by simp [go_sem, *])
  have : w.heap.size + 1 + 1 < w3.heap.size := by omega
  have : w.heap.size + 1 + 1 ≤ w3.heap.size := by omega
  have : w3.cell? ⟨w.heap.size + 1 + 1, 1, none⟩ = some (.int .i64 5) := cell_kept hbw3 (by simp [go_sem, *])
  have : w3.frozen? ⟨w.heap.size + 1 + 1, 1, none⟩ = false := free_kept hbw3 (v := .int .i64 5) (by simp [go_sem, *]) (by simp [go_sem, *])
  go_wp2_with fail
  refine (HC2.out _).mono ?_
  rintro e w4 ⟨rfl, hbw4⟩
  have hzw4 := hbw4.size
  try simp at hzw4
  have : w.heap.size < w4.heap.size := by omega
  have : w.heap.size ≤ w4.heap.size := by omega
  have : w4.cell? ⟨w.heap.size, 0, none⟩ = some (.int .i64 a) := cell_kept hbw4 (by simp [go_sem, *])
  have : w4.frozen? ⟨w.heap.size, 0, none⟩ = false := free_kept hbw4 (v := .int .i64 a) (by simp [go_sem, *]) (by simp [go_sem, *])
  have : w.heap.size < w4.heap.size := by omega
  have : w.heap.size ≤ w4.heap.size := by omega
  have : w4.cell? ⟨w.heap.size, 1, none⟩ = some (.int .i64 M) := cell_kept hbw4 (by simp [go_sem, *])
  have : w4.frozen? ⟨w.heap.size, 1, none⟩ = false := free_kept hbw4 (v := .int .i64 M) (by simp [go_sem, *]) (by simp [go_sem, *])
  have : w.heap.size + 1 < w4.heap.size := by omega
  have : w.heap.size + 1 ≤ w4.heap.size := by omega
  have : w4.cell? ⟨w.heap.size + 1, 0, none⟩ = some (.int .i64 b) := cell_kept hbw4 (by simp [go_sem, *])
  have : w4.frozen? ⟨w.heap.size + 1, 0, none⟩ = false := free_kept hbw4 (v := .int .i64 b) (by simp [go_sem, *]) (by simp [go_sem, *])
  have : w.heap.size + 1 < w4.heap.size := by omega
  have : w.heap.size + 1 ≤ w4.heap.size := by omega
  have : w4.cell? ⟨w.heap.size + 1, 1, none⟩ = some (.int .i64 N) := cell_kept hbw4 (by simp [go_sem, *])
  have : w4.frozen? ⟨w.heap.size + 1, 1, none⟩ = false := free_kept hbw4 (v := .int .i64 N) (by simp [go_sem, *]) (by simp [go_sem, *])
  have : w.heap.size + 1 + 1 < w4.heap.size := by omega
  have : w.heap.size + 1 + 1 ≤ w4.heap.size := by omega
  have : w4.cell? ⟨w.heap.size + 1 + 1, 0, none⟩ = some (.int .i64 c) := cell_kept hbw4 (by simp [go_sem, *])
  have : w4.frozen? ⟨w.heap.size + 1 + 1, 0, none⟩ = false := free_kept hbw4 (v := .int .i64 c) (by simp [go_sem, *]) (by simp [go_sem, *])
  have : w.heap.size + 1 + 1 < w4.heap.size := by omega
  have : w.heap.size + 1 + 1 ≤ w4.heap.size := by omega
  have : w4.cell? ⟨w.heap.size + 1 + 1, 1, none⟩ = some (.int .i64 5) := cell_kept hbw4 (by simp [go_sem, *])
  have : w4.frozen? ⟨w.heap.size + 1 + 1, 1, none⟩ = false := free_kept hbw4 (v := .int .i64 5) (by simp [go_sem, *]) (by simp [go_sem, *])
  have : w3.heap.size < w4.heap.size := by omega
  have : w3.heap.size ≤ w4.heap.size := by omega
  have : w4.cell? ⟨w3.heap.size, 0, none⟩ = some (.int .i64 q) := cell_kept hbw4 (by simp [go_sem, *])
  have : w4.frozen? ⟨w3.heap.size, 0, none⟩ = false := free_kept hbw4 (v := .int .i64 q) (by simp [go_sem, *]) (by simp [go_sem, *])
  have : w3.heap.size < w4.heap.size := by omega
  have : w3.heap.size ≤ w4.heap.size := by omega
  have : w4.cell? ⟨w3.heap.size, 1, none⟩ = some (.int .i64 250000000) := cell_kept hbw4 (by simp [go_sem, *])
  have : w4.frozen? ⟨w3.heap.size, 1, none⟩ = false := free_kept hbw4 (v := .int .i64 250000000) (by simp [go_sem, *]) (by simp [go_sem, *])
  go_wp2_with fail
  refine (HC3.out _).mono ?_
  rintro e w5 ⟨rfl, hbw5⟩
  have hzw5 := hbw5.size
  try simp at hzw5
  have : w.heap.size < w5.heap.size := by omega
  have : w.heap.size ≤ w5.heap.size := by omega
  have : w5.cell? ⟨w.heap.size, 0, none⟩ = some (.int .i64 a) := cell_kept hbw5 (by simp [go_sem, *])
  have : w5.frozen? ⟨w.heap.size, 0, none⟩ = false := free_kept hbw5 (v := .int .i64 a) (by simp [go_sem, *]) (by simp [go_sem, *])
  have : w.heap.size < w5.heap.size := by omega
  have : w.heap.size ≤ w5.heap.size := by omega
  have : w5.cell? ⟨w.heap.size, 1, none⟩ = some (.int .i64 M) := cell_kept hbw5 (by simp [go_sem, *])
  have : w5.frozen? ⟨w.heap.size, 1, none⟩ = false := free_kept hbw5 (v := .int .i64 M) (by simp [go_sem, *]) (by simp [go_sem, *])
  have : w.heap.size + 1 < w5.heap.size := by omega
  have : w.heap.size + 1 ≤ w5.heap.size := by omega
  have : w5.cell? ⟨w.heap.size + 1, 0, none⟩ = some (.int .i64 b) := cell_kept hbw5 (by simp [go_sem, *])
  have : w5.frozen? ⟨w.heap.size + 1, 0, none⟩ = false := free_kept hbw5 (v := .int .i64 b) (by simp [go_sem, *]) (by simp [go_sem, *])
  have : w.heap.size + 1 < w5.heap.size := by omega
  have : w.heap.size + 1 ≤ w5.heap.size := by omega
  have : w5.cell? ⟨w.heap.size + 1, 1, none⟩ = some (.int .i64 N) := cell_kept hbw5 (by simp [go_sem, *])
  have : w5.frozen? ⟨w.heap.size + 1, 1, none⟩ = false := free_kept hbw5 (v := .int .i64 N) (by simp [go_sem, *]) (by simp [go_sem, *])
  have : w.heap.size + 1 + 1 < w5.heap.size := by omega
  have : w.heap.size + 1 + 1 ≤ w5.heap.size := by omega
  have : w5.cell? ⟨w.heap.size + 1 + 1, 0, none⟩ = some (.int .i64 c) := cell_kept hbw5 (by simp [go_sem, *])
  have : w5.frozen? ⟨w.heap.size + 1 + 1, 0, none⟩ = false := free_kept hbw5 (v := .int .i64 c) (by simp [go_sem, *]) (by simp [go_sem, *])
  have : w.heap.size + 1 + 1 < w5.heap.size := by omega
  have : w.heap.size + 1 + 1 ≤ w5.heap.size := by omega
  have : w5.cell? ⟨w.heap.size + 1 + 1, 1, none⟩ = some (.int .i64 5) := cell_kept hbw5 (by simp [go_sem, *])
  have : w5.frozen? ⟨w.heap.size + 1 + 1, 1, none⟩ = false := free_kept hbw5 (v := .int .i64 5) (by simp [go_sem, *]) (by simp [go_sem, *])
  have : w3.heap.size < w5.heap.size := by omega
  have : w3.heap.size ≤ w5.heap.size := by omega
  have : w5.cell? ⟨w3.heap.size, 0, none⟩ = some (.int .i64 q) := cell_kept hbw5 (by simp [go_sem, *])
  have : w5.frozen? ⟨w3.heap.size, 0, none⟩ = false := free_kept hbw5 (v := .int .i64 q) (by simp [go_sem, *]) (by simp [go_sem, *])
  have : w3.heap.size < w5.heap.size := by omega
  have : w3.heap.size ≤ w5.heap.size := by omega
  have : w5.cell? ⟨w3.heap.size, 1, none⟩ = some (.int .i64 250000000) := cell_kept hbw5 (by simp [go_sem, *])
  have : w5.frozen? ⟨w3.heap.size, 1, none⟩ = false := free_kept hbw5 (v := .int .i64 250000000) (by simp [go_sem, *]) (by simp [go_sem, *])
  go_wp2_with fail
  refine (awake_any _ (hA.on (by (repeat' (first | exact Below.refl _ _ | assumption | refine gr_drew ?_ | refine gr_drewN ?_ _ | refine gr_alloc ?_ _ | refine gr_set ?_ ?_ _ | refine gr_call ?_ (by assumption)) <;> (try (simp; done)) <;> (try (simp; omega)) <;> (try omega))))).mono ?_
  rintro e w6 ⟨rfl, hbw6⟩
  have hzw6 := hbw6.size
  try simp at hzw6
  go_wp2_with fail
  go_ret
  exact ⟨rfl, by (repeat' (first | exact Below.refl _ _ | assumption | refine gr_drew ?_ | refine gr_drewN ?_ _ | refine gr_alloc ?_ _ | refine gr_set ?_ ?_ _ | refine gr_call ?_ (by assumption)) <;> (try (simp; done)) <;> (try (simp; omega)) <;> (try omega))⟩

set_option maxRecDepth 100000 in
set_option maxHeartbeats 1000000 in
theorem ord_e_n (a b c m n M N q : Int) (w : World) (hA : Amb w) (hb3 : 0 ≤ m ∧ m ≤ 4294967295) (hb4 : 0 ≤ n ∧ n ≤ 4294967295) (ha : -2147483648 ≤ a ∧ a ≤ 2147483647) (hb : -2147483648 ≤ b ∧ b ≤ 2147483647) (hc : -2147483648 ≤ c ∧ c ≤ 2147483647)
    (hM : m % 1000000000 = M) (hN : n % 1000000000 = N) (hq : m % 1000 = q) (hk : cmpF a M b N = 0) (hk2 : cmpF b N a M = 0) (ho : a = b ∧ M = N) (hJ : cmpF b N c 5 ≤ 0) (hL : cmpF a M c 5 ≤ 0) :
    Calls Tryd.prog 7 #[.int .i32 a, .int .i32 b, .int .i32 c, .int .u32 m, .int .u32 n] w fun e w' => e = .returned (.bool true) ∧ Below w.heap.size w w' := by
  have hq0 : 0 ≤ q ∧ q < 1000 := by omega
  have HC1 := Lib.hid (fun W => by have := cmp_any a M b N W; rw [hk] at this; exact this)
  have HC2 := Lib.hid (fun W => by have := cmp_any b N a M W; rw [hk2] at this; exact this)
  have HC3 := Lib.hid (fun W => cmp_any b N c 5 W)
  have HC4 := Lib.hid (fun W => cmp_any a M c 5 W)
  have HD := Lib.hid (fun W => refDigits_int q W hq0.1 (by omega))
  have hmt : mayF q 250000000 = true := by rw [may_iff]; omega
  have hP : ∀ W, Amb W → Calls Tryd.prog 11 #[.string ((⟨(itoa q).toArray⟩ : ByteArray) ++ ⟨#[46, 50, 53]⟩)] W fun e w' => e = .returned (.tuple #[.agg #[.int .i64 q, .int .i64 250000000], .bool true]) ∧ Below W.heap.size W w' := by
    intro W hA
    have e1 : ((⟨(itoa q).toArray⟩ : ByteArray) ++ ⟨#[46, 50, 53]⟩).data.toList = textF q 250000000 := by rw [bytes_list, text_quarter q hq0.1]
    have hl := DecM.itoa_len q (by omega) (by omega)
    have := parse_yes ((⟨(itoa q).toArray⟩ : ByteArray) ++ ⟨#[46, 50, 53]⟩) W hA (by rw [ByteArray.size_append, Lib.size_mk]; have : (⟨#[46, 50, 53]⟩ : ByteArray).size = 3 := rfl; omega) (by rw [e1]; exact parse_text _ _ hmt)
    obtain ⟨g1, g2⟩ := guess_text _ _ hmt
    rw [e1, g1, g2] at this
    exact this
  have HP := Lib.hid hP
  have hil := (DecM.itoa_len q (by omega) (by omega)).2
  clear hmt hP hk hk2
  generalize itoa q = L at *
  have : (a == b) = true := by rw [beq_iff_eq]; omega
  have : (M == N) = true := by rw [beq_iff_eq]; omega
  have : decide (0 < cmpF b N c 5) = false := by simp; omega
  have : decide (cmpF a M c 5 ≤ 0) = true := by simpa using hL
  clear ho
  generalize cmpF b N c 5 = J at *
  generalize cmpF a M c 5 = L2 at *
  go_enter Tryd.func7, Tryd.ntmps7
  go_wp2_with fail
  refine (HC1.out _).mono ?_
  rintro e w1 ⟨rfl, hbw1⟩
  have hzw1 := hbw1.size
  try simp at hzw1
  have : w.heap.size < w1.heap.size := by omega
  have : w.heap.size ≤ w1.heap.size := by omega
  have : w1.cell? ⟨w.heap.size, 0, none⟩ = some (.int .i64 a) := cell_kept hbw1 (by simp [go_sem, *])
  have : w1.frozen? ⟨w.heap.size, 0, none⟩ = false := free_kept hbw1 (v := .int .i64 a) (by simp [go_sem, *]) (by simp [go_sem, *])
  have : w.heap.size < w1.heap.size := by omega
  have : w.heap.size ≤ w1.heap.size := by omega
  have : w1.cell? ⟨w.heap.size, 1, none⟩ = some (.int .i64 M) := cell_kept hbw1 (by simp [go_sem, *])
  have : w1.frozen? ⟨w.heap.size, 1, none⟩ = false := free_kept hbw1 (v := .int .i64 M) (by simp [go_sem, *]) (by simp [go_sem, *])
  have : w.heap.size + 1 < w1.heap.size := by omega
  have : w.heap.size + 1 ≤ w1.heap.size := by omega
  have : w1.cell? ⟨w.heap.size + 1, 0, none⟩ = some (.int .i64 b) := cell_kept hbw1 (by simp [go_sem, *])
  have : w1.frozen? ⟨w.heap.size + 1, 0, none⟩ = false := free_kept hbw1 (v := .int .i64 b) (by simp [go_sem, *]) (by simp [go_sem, *])
  have : w.heap.size + 1 < w1.heap.size := by omega
  have : w.heap.size + 1 ≤ w1.heap.size := by omega
  have : w1.cell? ⟨w.heap.size + 1, 1, none⟩ = some (.int .i64 N) := cell_kept hbw1 (by simp [go_sem, *])
  have : w1.frozen? ⟨w.heap.size + 1, 1, none⟩ = false := free_kept hbw1 (v := .int .i64 N) (by simp [go_sem, *]) (by simp [go_sem, *])
  have : w.heap.size + 1 + 1 < w1.heap.size := by omega
  have : w.heap.size + 1 + 1 ≤ w1.heap.size := by omega
  have : w1.cell? ⟨w.heap.size + 1 + 1, 0, none⟩ = some (.int .i64 c) := cell_kept hbw1 (by simp [go_sem, *])
  have : w1.frozen? ⟨w.heap.size + 1 + 1, 0, none⟩ = false := free_kept hbw1 (v := .int .i64 c) (by simp [go_sem, *]) (by simp [go_sem, *])
  have : w.heap.size + 1 + 1 < w1.heap.size := by omega
  have : w.heap.size + 1 + 1 ≤ w1.heap.size := by omega
  have : w1.cell? ⟨w.heap.size + 1 + 1, 1, none⟩ = some (.int .i64 5) := cell_kept hbw1 (by simp [go_sem, *])
  have : w1.frozen? ⟨w.heap.size + 1 + 1, 1, none⟩ = false := free_kept hbw1 (v := .int .i64 5) (by simp [go_sem, *]) (by simp [go_sem, *])
  go_wp2_with fail
  refine (HD.out _).mono ?_
  rintro e w2 ⟨rfl, hbw2⟩
  have hzw2 := hbw2.size
  try simp at hzw2
  have : w.heap.size < w2.heap.size := by omega
  have : w.heap.size ≤ w2.heap.size := by omega
  have : w2.cell? ⟨w.heap.size, 0, none⟩ = some (.int .i64 a) := cell_kept hbw2 (by simp [go_sem, *])
  have : w2.frozen? ⟨w.heap.size, 0, none⟩ = false := free_kept hbw2 (v := .int .i64 a) (by simp [go_sem, *]) (by simp [go_sem, *])
  have : w.heap.size < w2.heap.size := by omega
  have : w.heap.size ≤ w2.heap.size := by omega
  have : w2.cell? ⟨w.heap.size, 1, none⟩ = some (.int .i64 M) := cell_kept hbw2 (by simp [go_sem, *])
  have : w2.frozen? ⟨w.heap.size, 1, none⟩ = false := free_kept hbw2 (v := .int .i64 M) (by simp [go_sem, *]) (by simp [go_sem, *])
  have : w.heap.size + 1 < w2.heap.size := by omega
  have : w.heap.size + 1 ≤ w2.heap.size := by omega
  have : w2.cell? ⟨w.heap.size + 1, 0, none⟩ = some (.int .i64 b) := cell_kept hbw2 (by simp [go_sem, *])
  have : w2.frozen? ⟨w.heap.size + 1, 0, none⟩ = false := free_kept hbw2 (v := .int .i64 b) (by simp [go_sem, *]) (by simp [go_sem, *])
  have : w.heap.size + 1 < w2.heap.size := by omega
  have : w.heap.size + 1 ≤ w2.heap.size := by omega
  have : w2.cell? ⟨w.heap.size + 1, 1, none⟩ = some (.int .i64 N) := cell_kept hbw2 (by simp [go_sem, *])
  have : w2.frozen? ⟨w.heap.size + 1, 1, none⟩ = false := free_kept hbw2 (v := .int .i64 N) (by simp [go_sem, *]) (by simp [go_sem, *])
  have : w.heap.size + 1 + 1 < w2.heap.size := by omega
  have : w.heap.size + 1 + 1 ≤ w2.heap.size := by omega
  have : w2.cell? ⟨w.heap.size + 1 + 1, 0, none⟩ = some (.int .i64 c) := cell_kept hbw2 (by simp [go_sem, *])
  have : w2.frozen? ⟨w.heap.size + 1 + 1, 0, none⟩ = false := free_kept hbw2 (v := .int .i64 c) (by simp [go_sem, *]) (by simp [go_sem, *])
  have : w.heap.size + 1 + 1 < w2.heap.size := by omega
  have : w.heap.size + 1 + 1 ≤ w2.heap.size := by omega
  have : w2.cell? ⟨w.heap.size + 1 + 1, 1, none⟩ = some (.int .i64 5) := cell_kept hbw2 (by simp [go_sem, *])
  have : w2.frozen? ⟨w.heap.size + 1 + 1, 1, none⟩ = false := free_kept hbw2 (v := .int .i64 5) (by simp [go_sem, *]) (by simp [go_sem, *])
  go_wp2_with fail
  refine (HP.out _ (hA.on (by (repeat' (first | exact Below.refl _ _ | assumption | refine gr_drew ?_ | refine gr_drewN ?_ _ | refine gr_alloc ?_ _ | refine gr_set ?_ ?_ _ | refine gr_call ?_ (by assumption)) <;> (try (simp; done)) <;> (try (simp; omega)) <;> (try omega))))).mono ?_
  rintro e w3 ⟨rfl, hbw3⟩
  have hzw3 := hbw3.size
  try simp at hzw3
  have : w.heap.size < w3.heap.size := by omega
  have : w.heap.size ≤ w3.heap.size := by omega
  have : w3.cell? ⟨w.heap.size, 0, none⟩ = some (.int .i64 a) := cell_kept hbw3 (by simp [go_sem, *])
  have : w3.frozen? ⟨w.heap.size, 0, none⟩ = false := free_kept hbw3 (v := .int .i64 a) (by simp [go_sem, *]) (by simp [go_sem, *])
  have : w.heap.size < w3.heap.size := by omega
  have : w.heap.size ≤ w3.heap.size := by omega
  have : w3.cell? ⟨w.heap.size, 1, none⟩ = some (.int .i64 M) := cell_kept hbw3 (by simp [go_sem, *])
  have : w3.frozen? ⟨w.heap.size, 1, none⟩ = false := free_kept hbw3 (v := .int .i64 M) (by simp [go_sem, *]) (by simp [go_sem, *])
  have : w.heap.size + 1 < w3.heap.size := by omega
  have : w.heap.size + 1 ≤ w3.heap.size := by omega
  have : w3.cell? ⟨w.heap.size + 1, 0, none⟩ = some (.int .i64 b) := cell_kept hbw3 (by simp [go_sem, *])
  have : w3.frozen? ⟨w.heap.size + 1, 0, none⟩ = false := free_kept hbw3 (v := .int .i64 b) (by simp [go_sem, *]) (by simp [go_sem, *])
  have : w.heap.size + 1 < w3.heap.size := by omega
  have : w.heap.size + 1 ≤ w3.heap.size := by omega
  have : w3.cell? ⟨w.heap.size + 1, 1, none⟩ = some (.int .i64 N) := cell_kept hbw3 (by simp [go_sem, *])
  have : w3.frozen? ⟨w.heap.size + 1, 1, none⟩ = false := free_kept hbw3 (v := .int .i64 N) (by simp [go_sem, *]) (by simp [go_sem, *])
  have : w.heap.size + 1 + 1 < w3.heap.size := by omega
  have : w.heap.size + 1 + 1 ≤ w3.heap.size := by omega
  have : w3.cell? ⟨w.heap.size + 1 + 1, 0, none⟩ = some (.int .i64 c) := cell_kept hbw3 (by simp [go_sem, *])
  have : w3.frozen? ⟨w.heap.size + 1 + 1, 0, none⟩ = false := free_kept hbw3 (v := .int .i64 c) (by simp [go_sem, *]) (by simp [go_sem, *])
  have : w.heap.size + 1 + 1 < w3.heap.size := by omega
  have : w.heap.size + 1 + 1 ≤ w3.heap.size := by omega
  have : w3.cell? ⟨w.heap.size + 1 + 1, 1, none⟩ = some (.int .i64 5) := cell_kept hbw3 (by simp [go_sem, *])
  have : w3.frozen? ⟨w.heap.size + 1 + 1, 1, none⟩ = false := free_kept hbw3 (v := .int .i64 5) (by simp [go_sem, *]) (by simp [go_sem, *])
  go_wp2_with fail
  refine (HC2.out _).mono ?_
  rintro e w4 ⟨rfl, hbw4⟩
  have hzw4 := hbw4.size
  try simp at hzw4
  have : w.heap.size < w4.heap.size := by omega
  have : w.heap.size ≤ w4.heap.size := by omega
  have : w4.cell? ⟨w.heap.size, 0, none⟩ = some (.int .i64 a) := cell_kept hbw4 (by simp [go_sem, *])
  have : w4.frozen? ⟨w.heap.size, 0, none⟩ = false := free_kept hbw4 (v := .int .i64 a) (by simp [go_sem, *]) (by simp [go_sem, *])
  have : w.heap.size < w4.heap.size := by omega
  have : w.heap.size ≤ w4.heap.size := by omega
  have : w4.cell? ⟨w.heap.size, 1, none⟩ = some (.int .i64 M) := cell_kept hbw4 (by simp [go_sem, *])
  have : w4.frozen? ⟨w.heap.size, 1, none⟩ = false := free_kept hbw4 (v := .int .i64 M) (by simp [go_sem, *]) (by simp [go_sem, *])
  have : w.heap.size + 1 < w4.heap.size := by omega
  have : w.heap.size + 1 ≤ w4.heap.size := by omega
  have : w4.cell? ⟨w.heap.size + 1, 0, none⟩ = some (.int .i64 b) := cell_kept hbw4 (by simp [go_sem, *])
  have : w4.frozen? ⟨w.heap.size + 1, 0, none⟩ = false := free_kept hbw4 (v := .int .i64 b) (by simp [go_sem, *]) (by simp [go_sem, *])
  have : w.heap.size + 1 < w4.heap.size := by omega
  have : w.heap.size + 1 ≤ w4.heap.size := by omega
  have : w4.cell? ⟨w.heap.size + 1, 1, none⟩ = some (.int .i64 N) := cell_kept hbw4 (by simp [go_sem, *])
  have : w4.frozen? ⟨w.heap.size + 1, 1, none⟩ = false := free_kept hbw4 (v := .int .i64 N) (by simp [go_sem, *]) (by simp [go_sem, *])
  have : w.heap.size + 1 + 1 < w4.heap.size := by omega
  have : w.heap.size + 1 + 1 ≤ w4.heap.size := by omega
  have : w4.cell? ⟨w.heap.size + 1 + 1, 0, none⟩ = some (.int .i64 c) := cell_kept hbw4 (by simp [go_sem, *])
  have : w4.frozen? ⟨w.heap.size + 1 + 1, 0, none⟩ = false := free_kept hbw4 (v := .int .i64 c) (by simp [go_sem, *]) (by simp [go_sem, *])
  have : w.heap.size + 1 + 1 < w4.heap.size := by omega
  have : w.heap.size + 1 + 1 ≤ w4.heap.size := by omega
  have : w4.cell? ⟨w.heap.size + 1 + 1, 1, none⟩ = some (.int .i64 5) := cell_kept hbw4 (by simp [go_sem, *])
  have : w4.frozen? ⟨w.heap.size + 1 + 1, 1, none⟩ = false := free_kept hbw4 (v := .int .i64 5) (by simp [go_sem, *]) (by simp [go_sem, *])
  have : w3.heap.size < w4.heap.size := by omega
  have : w3.heap.size ≤ w4.heap.size := by omega
  have : w4.cell? ⟨w3.heap.size, 0, none⟩ = some (.int .i64 q) := cell_kept hbw4 (by simp [go_sem, *])
  have : w4.frozen? ⟨w3.heap.size, 0, none⟩ = false := free_kept hbw4 (v := .int .i64 q) (by simp [go_sem, *]) (by simp [go_sem, *])
  have : w3.heap.size < w4.heap.size := by omega
  have : w3.heap.size ≤ w4.heap.size := by omega
  have : w4.cell? ⟨w3.heap.size, 1, none⟩ = some (.int .i64 250000000) := cell_kept hbw4 (by simp [go_sem, *])
  have : w4.frozen? ⟨w3.heap.size, 1, none⟩ = false := free_kept hbw4 (v := .int .i64 250000000) (by simp [go_sem, *]) (by simp [go_sem, *])
  go_wp2_with fail
  refine (HC3.out _).mono ?_
  rintro e w5 ⟨rfl, hbw5⟩
  have hzw5 := hbw5.size
  try simp at hzw5
  have : w.heap.size < w5.heap.size := by omega
  have : w.heap.size ≤ w5.heap.size := by omega
  have : w5.cell? ⟨w.heap.size, 0, none⟩ = some (.int .i64 a) := cell_kept hbw5 (by simp [go_sem, *])
  have : w5.frozen? ⟨w.heap.size, 0, none⟩ = false := free_kept hbw5 (v := .int .i64 a) (by simp [go_sem, *]) (by simp [go_sem, *])
  have : w.heap.size < w5.heap.size := by omega
  have : w.heap.size ≤ w5.heap.size := by omega
  have : w5.cell? ⟨w.heap.size, 1, none⟩ = some (.int .i64 M) := cell_kept hbw5 (by simp [go_sem, *])
  have : w5.frozen? ⟨w.heap.size, 1, none⟩ = false := free_kept hbw5 (v := .int .i64 M) (by simp [go_sem, *]) (by simp [go_sem, *])
  have : w.heap.size + 1 < w5.heap.size := by omega
  have : w.heap.size + 1 ≤ w5.heap.size := by omega
  have : w5.cell? ⟨w.heap.size + 1, 0, none⟩ = some (.int .i64 b) := cell_kept hbw5 (by simp [go_sem, *])
  have : w5.frozen? ⟨w.heap.size + 1, 0, none⟩ = false := free_kept hbw5 (v := .int .i64 b) (by simp [go_sem, *]) (by simp [go_sem, *])
  have : w.heap.size + 1 < w5.heap.size := by omega
  have : w.heap.size + 1 ≤ w5.heap.size := by omega
  have : w5.cell? ⟨w.heap.size + 1, 1, none⟩ = some (.int .i64 N) := cell_kept hbw5 (by simp [go_sem, *])
  have : w5.frozen? ⟨w.heap.size + 1, 1, none⟩ = false := free_kept hbw5 (v := .int .i64 N) (by simp [go_sem, *]) (by simp [go_sem, *])
  have : w.heap.size + 1 + 1 < w5.heap.size := by omega
  have : w.heap.size + 1 + 1 ≤ w5.heap.size := by omega
  have : w5.cell? ⟨w.heap.size + 1 + 1, 0, none⟩ = some (.int .i64 c) := cell_kept hbw5 (by simp [go_sem, *])
  have : w5.frozen? ⟨w.heap.size + 1 + 1, 0, none⟩ = false := free_kept hbw5 (v := .int .i64 c) (by simp [go_sem, *]) (by simp [go_sem, *])
  have : w.heap.size + 1 + 1 < w5.heap.size := by omega
  have : w.heap.size + 1 + 1 ≤ w5.heap.size := by omega
  have : w5.cell? ⟨w.heap.size + 1 + 1, 1, none⟩ = some (.int .i64 5) := cell_kept hbw5 (by simp [go_sem, *])
  have : w5.frozen? ⟨w.heap.size + 1 + 1, 1, none⟩ = false := free_kept hbw5 (v := .int .i64 5) (by simp [go_sem, *]) (by simp [go_sem, *])
  have : w3.heap.size < w5.heap.size := by omega
  have : w3.heap.size ≤ w5.heap.size := by omega
  have : w5.cell? ⟨w3.heap.size, 0, none⟩ = some (.int .i64 q) := cell_kept hbw5 (by simp [go_sem, *])
  have : w5.frozen? ⟨w3.heap.size, 0, none⟩ = false := free_kept hbw5 (v := .int .i64 q) (by simp [go_sem, *]) (by simp [go_sem, *])
  have : w3.heap.size < w5.heap.size := by omega
  have : w3.heap.size ≤ w5.heap.size := by omega
  have : w5.cell? ⟨w3.heap.size, 1, none⟩ = some (.int .i64 250000000) := cell_kept hbw5 (by simp [go_sem, *])
  have : w5.frozen? ⟨w3.heap.size, 1, none⟩ = false := free_kept hbw5 (v := .int .i64 250000000) (by simp [go_sem, *]) (by simp [go_sem, *])
  go_wp2_with fail
  refine (HC4.out _).mono ?_
  rintro e w6 ⟨rfl, hbw6⟩
  have hzw6 := hbw6.size
  try simp at hzw6
  have : w.heap.size < w6.heap.size := by omega
  have : w.heap.size ≤ w6.heap.size := by omega
  have : w6.cell? ⟨w.heap.size, 0, none⟩ = some (.int .i64 a) := cell_kept hbw6 (by simp [go_sem, *])
  have : w6.frozen? ⟨w.heap.size, 0, none⟩ = false := free_kept hbw6 (v := .int .i64 a) (by simp [go_sem, *]) (by simp [go_sem, *])
  have : w.heap.size < w6.heap.size := by omega
  have : w.heap.size ≤ w6.heap.size := by omega
  have : w6.cell? ⟨w.heap.size, 1, none⟩ = some (.int .i64 M) := cell_kept hbw6 (by simp [go_sem, *])
  have : w6.frozen? ⟨w.heap.size, 1, none⟩ = false := free_kept hbw6 (v := .int .i64 M) (by simp [go_sem, *]) (by simp [go_sem, *])
  have : w.heap.size + 1 < w6.heap.size := by omega
  have : w.heap.size + 1 ≤ w6.heap.size := by omega
  have : w6.cell? ⟨w.heap.size + 1, 0, none⟩ = some (.int .i64 b) := cell_kept hbw6 (by simp [go_sem, *])
  have : w6.frozen? ⟨w.heap.size + 1, 0, none⟩ = false := free_kept hbw6 (v := .int .i64 b) (by simp [go_sem, *]) (by simp [go_sem, *])
  have : w.heap.size + 1 < w6.heap.size := by omega
  have : w.heap.size + 1 ≤ w6.heap.size := by omega
  have : w6.cell? ⟨w.heap.size + 1, 1, none⟩ = some (.int .i64 N) := cell_kept hbw6 (by simp [go_sem, *])
  have : w6.frozen? ⟨w.heap.size + 1, 1, none⟩ = false := free_kept hbw6 (v := .int .i64 N) (by simp [go_sem, *]) (by simp [go_sem, *])
  have : w.heap.size + 1 + 1 < w6.heap.size := by omega
  have : w.heap.size + 1 + 1 ≤ w6.heap.size := by omega
  have : w6.cell? ⟨w.heap.size + 1 + 1, 0, none⟩ = some (.int .i64 c) := cell_kept hbw6 (by simp [go_sem, *])
  have : w6.frozen? ⟨w.heap.size + 1 + 1, 0, none⟩ = false := free_kept hbw6 (v := .int .i64 c) (by simp [go_sem, *]) (by simp [go_sem, *])
  have : w.heap.size + 1 + 1 < w6.heap.size := by omega
  have : w.heap.size + 1 + 1 ≤ w6.heap.size := by omega
  have : w6.cell? ⟨w.heap.size + 1 + 1, 1, none⟩ = some (.int .i64 5) := cell_kept hbw6 (by simp [go_sem, *])
  have : w6.frozen? ⟨w.heap.size + 1 + 1, 1, none⟩ = false := free_kept hbw6 (v := .int .i64 5) (by simp [go_sem, *]) (by simp [go_sem, *])
  have : w3.heap.size < w6.heap.size := by omega
  have : w3.heap.size ≤ w6.heap.size := by omega
  have : w6.cell? ⟨w3.heap.size, 0, none⟩ = some (.int .i64 q) := cell_kept hbw6 (by simp [go_sem, *])
  have : w6.frozen? ⟨w3.heap.size, 0, none⟩ = false := free_kept hbw6 (v := .int .i64 q) (by simp [go_sem, *]) (by simp [go_sem, *])
  have : w3.heap.size < w6.heap.size := by omega
  have : w3.heap.size ≤ w6.heap.size := by omega
  have : w6.cell? ⟨w3.heap.size, 1, none⟩ = some (.int .i64 250000000) := cell_kept hbw6 (by simp [go_sem, *])
  have : w6.frozen? ⟨w3.heap.size, 1, none⟩ = false := free_kept hbw6 (v := .int .i64 250000000) (by simp [go_sem, *]) (by simp [go_sem, *])
  go_wp2_with fail
  refine (awake_any _ (hA.on (by (repeat' (first | exact Below.refl _ _ | assumption | refine gr_drew ?_ | refine gr_drewN ?_ _ | refine gr_alloc ?_ _ | refine gr_set ?_ ?_ _ | refine gr_call ?_ (by assumption)) <;> (try (simp; done)) <;> (try (simp; omega)) <;> (try omega))))).mono ?_
  rintro e w7 ⟨rfl, hbw7⟩
  have hzw7 := hbw7.size
  try simp at hzw7
  go_wp2_with fail
  go_ret
  exact ⟨rfl, by (repeat' (first | exact Below.refl _ _ | assumption | refine gr_drew ?_ | refine gr_drewN ?_ _ | refine gr_alloc ?_ _ | refine gr_set ?_ ?_ _ | refine gr_call ?_ (by assumption)) <;> (try (simp; done)) <;> (try (simp; omega)) <;> (try omega))⟩

set_option maxRecDepth 100000 in
set_option maxHeartbeats 1000000 in
theorem ord_la_p (a b c m n M N q : Int) (w : World) (hA : Amb w) (hb3 : 0 ≤ m ∧ m ≤ 4294967295) (hb4 : 0 ≤ n ∧ n ≤ 4294967295) (ha : -2147483648 ≤ a ∧ a ≤ 2147483647) (hb : -2147483648 ≤ b ∧ b ≤ 2147483647) (hc : -2147483648 ≤ c ∧ c ≤ 2147483647)
    (hM : m % 1000000000 = M) (hN : n % 1000000000 = N) (hq : m % 1000 = q) (hk : cmpF a M b N = -1) (hk2 : cmpF b N a M = 1) (ho : a < b) (hJ : 0 < cmpF b N c 5) :
    Calls Tryd.prog 7 #[.int .i32 a, .int .i32 b, .int .i32 c, .int .u32 m, .int .u32 n] w fun e w' => e = .returned (.bool true) ∧ Below w.heap.size w w' := by
  have hq0 : 0 ≤ q ∧ q < 1000 := by omega
  have HC1 := Lib.hid (fun W => by have := cmp_any a M b N W; rw [hk] at this; exact this)
  have HC2 := Lib.hid (fun W => by have := cmp_any b N a M W; rw [hk2] at this; exact this)
  have HC3 := Lib.hid (fun W => cmp_any b N c 5 W)
  have HC4 := Lib.hid (fun W => cmp_any a M c 5 W)
  have HD := Lib.hid (fun W => refDigits_int q W hq0.1 (by omega))
  have hmt : mayF q 250000000 = true := by rw [may_iff]; omega
  have hP : ∀ W, Amb W → Calls Tryd.prog 11 #[.string ((⟨(itoa q).toArray⟩ : ByteArray) ++ ⟨#[46, 50, 53]⟩)] W fun e w' => e = .returned (.tuple #[.agg #[.int .i64 q, .int .i64 250000000], .bool true]) ∧ Below W.heap.size W w' := by
    intro W hA
    have e1 : ((⟨(itoa q).toArray⟩ : ByteArray) ++ ⟨#[46, 50, 53]⟩).data.toList = textF q 250000000 := by rw [bytes_list, text_quarter q hq0.1]
    have hl := DecM.itoa_len q (by omega) (by omega)
    have := parse_yes ((⟨(itoa q).toArray⟩ : ByteArray) ++ ⟨#[46, 50, 53]⟩) W hA (by rw [ByteArray.size_append, Lib.size_mk]; have : (⟨#[46, 50, 53]⟩ : ByteArray).size = 3 := rfl; omega) (by rw [e1]; exact parse_text _ _ hmt)
    obtain ⟨g1, g2⟩ := guess_text _ _ hmt
    rw [e1, g1, g2] at this
    exact this
  have HP := Lib.hid hP
  have hil := (DecM.itoa_len q (by omega) (by omega)).2
  clear hmt hP hk hk2
  generalize itoa q = L at *
  have : (a == b) = false := by rw [beq_eq_false_iff_ne]; omega
  have : decide (0 < cmpF b N c 5) = true := by simpa using hJ
  clear ho
  generalize cmpF b N c 5 = J at *
  generalize cmpF a M c 5 = L2 at *
  go_enter Tryd.func7, Tryd.ntmps7
  go_wp2_with fail
  refine (HC1.out _).mono ?_
  rintro e w1 ⟨rfl, hbw1⟩
  have hzw1 := hbw1.size
  try simp at hzw1
  have : w.heap.size < w1.heap.size := by omega
  have : w.heap.size ≤ w1.heap.size := by omega
  have : w1.cell? ⟨w.heap.size, 0, none⟩ = some (.int .i64 a) := cell_kept hbw1 (by simp [go_sem, *])
  have : w1.frozen? ⟨w.heap.size, 0, none⟩ = false := free_kept hbw1 (v := .int .i64 a) (by simp [go_sem, *]) (by simp [go_sem, *])
  have : w.heap.size < w1.heap.size := by omega
  have : w.heap.size ≤ w1.heap.size := by omega
  have : w1.cell? ⟨w.heap.size, 1, none⟩ = some (.int .i64 M) := cell_kept hbw1 (by simp [go_sem, *])
  have : w1.frozen? ⟨w.heap.size, 1, none⟩ = false := free_kept hbw1 (v := .int .i64 M) (by simp [go_sem, *]) (by simp [go_sem, *])
  have : w.heap.size + 1 < w1.heap.size := by omega
  have : w.heap.size + 1 ≤ w1.heap.size := by omega
  have : w1.cell? ⟨w.heap.size + 1, 0, none⟩ = some (.int .i64 b) := cell_kept hbw1 (by simp [go_sem, *])
  have : w1.frozen? ⟨w.heap.size + 1, 0, none⟩ = false := free_kept hbw1 (v := .int .i64 b) (by simp [go_sem, *]) (by simp [go_sem, *])
  have : w.heap.size + 1 < w1.heap.size := by omega
  have : w.heap.size + 1 ≤ w1.heap.size := by omega
  have : w1.cell? ⟨w.heap.size + 1, 1, none⟩ = some (.int .i64 N) := cell_kept hbw1 (by simp [go_sem, *])
  have : w1.frozen? ⟨w.heap.size + 1, 1, none⟩ = false := free_kept hbw1 (v := .int .i64 N) (by simp [go_sem, *]) (by simp [go_sem, *])
  have : w.heap.size + 1 + 1 < w1.heap.size := by omega
  have : w.heap.size + 1 + 1 ≤ w1.heap.size := by omega
  have : w1.cell? ⟨w.heap.size + 1 + 1, 0, none⟩ = some (.int .i64 c) := cell_kept hbw1 (by simp [go_sem, *])
  have : w1.frozen? ⟨w.heap.size + 1 + 1, 0, none⟩ = false := free_kept hbw1 (v := .int .i64 c) (by simp [go_sem, *]) (by simp [go_sem, *])
  have : w.heap.size + 1 + 1 < w1.heap.size := by omega
  have : w.heap.size + 1 + 1 ≤ w1.heap.size := by omega
  have : w1.cell? ⟨w.heap.size + 1 + 1, 1, none⟩ = some (.int .i64 5) := cell_kept hbw1 (by simp [go_sem, *])
  have : w1.frozen? ⟨w.heap.size + 1 + 1, 1, none⟩ = false := free_kept hbw1 (v := .int .i64 5) (by simp [go_sem, *]) (by simp [go_sem, *])
  go_wp2_with fail
  refine (HD.out _).mono ?_
  rintro e w2 ⟨rfl, hbw2⟩
  have hzw2 := hbw2.size
  try simp at hzw2
  have : w.heap.size < w2.heap.size := by omega
  have : w.heap.size ≤ w2.heap.size := by omega
  have : w2.cell? ⟨w.heap.size, 0, none⟩ = some (.int .i64 a) := cell_kept hbw2 (by simp [go_sem, *])
  have : w2.frozen? ⟨w.heap.size, 0, none⟩ = false := free_kept hbw2 (v := .int .i64 a) (by simp [go_sem, *]) (by simp [go_sem, *])
  have : w.heap.size < w2.heap.size := by omega
  have : w.heap.size ≤ w2.heap.size := by omega
  have : w2.cell? ⟨w.heap.size, 1, none⟩ = some (.int .i64 M) := cell_kept hbw2 (by simp [go_sem, *])
  have : w2.frozen? ⟨w.heap.size, 1, none⟩ = false := free_kept hbw2 (v := .int .i64 M) (by simp [go_sem, *]) (by simp [go_sem, *])
  have : w.heap.size + 1 < w2.heap.size := by omega
  have : w.heap.size + 1 ≤ w2.heap.size := by omega
  have : w2.cell? ⟨w.heap.size + 1, 0, none⟩ = some (.int .i64 b) := cell_kept hbw2 (by simp [go_sem, *])
  have : w2.frozen? ⟨w.heap.size + 1, 0, none⟩ = false := free_kept hbw2 (v := .int .i64 b) (by simp [go_sem, *]) (by simp [go_sem, *])
  have : w.heap.size + 1 < w2.heap.size := by omega
  have : w.heap.size + 1 ≤ w2.heap.size := by omega
  have : w2.cell? ⟨w.heap.size + 1, 1, none⟩ = some (.int .i64 N) := cell_kept hbw2 (by simp [go_sem, *])
  have : w2.frozen? ⟨w.heap.size + 1, 1, none⟩ = false := free_kept hbw2 (v := .int .i64 N) (by simp [go_sem, *]) (by simp [go_sem, *])
  have : w.heap.size + 1 + 1 < w2.heap.size := by omega
  have : w.heap.size + 1 + 1 ≤ w2.heap.size := by omega
  have : w2.cell? ⟨w.heap.size + 1 + 1, 0, none⟩ = some (.int .i64 c) := cell_kept hbw2 (by simp [go_sem, *])
  have : w2.frozen? ⟨w.heap.size + 1 + 1, 0, none⟩ = false := free_kept hbw2 (v := .int .i64 c) (by simp [go_sem, *]) (by simp [go_sem, *])
  have : w.heap.size + 1 + 1 < w2.heap.size := by omega
  have : w.heap.size + 1 + 1 ≤ w2.heap.size := by omega
  have : w2.cell? ⟨w.heap.size + 1 + 1, 1, none⟩ = some (.int .i64 5) := cell_kept hbw2 (by simp [go_sem, *])
  have : w2.frozen? ⟨w.heap.size + 1 + 1, 1, none⟩ = false := free_kept hbw2 (v := .int .i64 5) (by simp [go_sem, *]) (by simp [go_sem, *])
  go_wp2_with fail
  refine (HP.out _ (hA.on (by (repeat' (first | exact Below.refl _ _ | assumption | refine gr_drew ?_ | refine gr_drewN ?_ _ | refine gr_alloc ?_ _ | refine gr_set ?_ ?_ _ | refine gr_call ?_ (by assumption)) <;> (try (simp; done)) <;> (try (simp; omega)) <;> (try omega))))).mono ?_
  rintro e w3 ⟨rfl, hbw3⟩
  have hzw3 := hbw3.size
  try simp at hzw3
  have : w.heap.size < w3.heap.size := by omega
  have : w.heap.size ≤ w3.heap.size := by omega
  have : w3.cell? ⟨w.heap.size, 0, none⟩ = some (.int .i64 a) := cell_kept hbw3 (by simp [go_sem, *])
  have : w3.frozen? ⟨w.heap.size, 0, none⟩ = false := free_kept hbw3 (v := .int .i64 a) (by simp [go_sem, *]) (by simp [go_sem, *])
  have : w.heap.size < w3.heap.size := by omega
  have : w.heap.size ≤ w3.heap.size := by omega
  have : w3.cell? ⟨w.heap.size, 1, none⟩ = some (.int .i64 M) := cell_kept hbw3 (by simp [go_sem, *])
  have : w3.frozen? ⟨w.heap.size, 1, none⟩ = false := free_kept hbw3 (v := .int .i64 M) (by simp [go_sem, *]) (by simp [go_sem, *])
  have : w.heap.size + 1 < w3.heap.size := by omega
  have : w.heap.size + 1 ≤ w3.heap.size := by omega
  have : w3.cell? ⟨w.heap.size + 1, 0, none⟩ = some (.int .i64 b) := cell_kept hbw3 (by simp [go_sem, *])
  have : w3.frozen? ⟨w.heap.size + 1, 0, none⟩ = false := free_kept hbw3 (v := .int .i64 b) (by simp [go_sem, *]) (by simp [go_sem, *])
  have : w.heap.size + 1 < w3.heap.size := by omega
  have : w.heap.size + 1 ≤ w3.heap.size := by omega
  have : w3.cell? ⟨w.heap.size + 1, 1, none⟩ = some (.int .i64 N) := cell_kept hbw3 (by simp [go_sem, *])
  have : w3.frozen? ⟨w.heap.size + 1, 1, none⟩ = false := free_kept hbw3 (v := .int .i64 N) (by simp [go_sem, *]) (by simp [go_sem, *])
  have : w.heap.size + 1 + 1 < w3.heap.size := by omega
  have : w.heap.size + 1 + 1 ≤ w3.heap.size := by omega
  have : w3.cell? ⟨w.heap.size + 1 + 1, 0, none⟩ = some (.int .i64 c) := cell_kept hbw3 (by simp [go_sem, *])
  have : w3.frozen? ⟨w.heap.size + 1 + 1, 0, none⟩ = false := free_kept hbw3 (v := .int .i64 c) (by simp [go_sem, *]) (by simp [go_sem, *])
  have : w.heap.size + 1 + 1 < w3.heap.size := by omega
  have : w.heap.size + 1 + 1 ≤ w3.heap.size := by omega
  have : w3.cell? ⟨w.heap.size + 1 + 1, 1, none⟩ = some (.int .i64 5) := cell_kept hbw3 (by simp [go_sem, *])
  have : w3.frozen? ⟨w.heap.size + 1 + 1, 1, none⟩ = false := free_kept hbw3 (v := .int .i64 5) (by simp [go_sem, *]) (by simp [go_sem, *])
  go_wp2_with fail
  refine (HC2.out _).mono ?_
  rintro e w4 ⟨rfl, hbw4⟩
  have hzw4 := hbw4.size
  try simp at hzw4
  have : w.heap.size < w4.heap.size := by omega
  have : w.heap.size ≤ w4.heap.size := by omega
  have : w4.cell? ⟨w.heap.size, 0, none⟩ = some (.int .i64 a) := cell_kept hbw4 (by simp [go_sem, *])
  have : w4.frozen? ⟨w.heap.size, 0, none⟩ = false := free_kept hbw4 (v := .int .i64 a) (by simp [go_sem, *]) (by simp [go_sem, *])
  have : w.heap.size < w4.heap.size := by omega
  have : w.heap.size ≤ w4.heap.size := by omega
  have : w4.cell? ⟨w.heap.size, 1, none⟩ = some (.int .i64 M) := cell_kept hbw4 (by simp [go_sem, *])
  have : w4.frozen? ⟨w.heap.size, 1, none⟩ = false := free_kept hbw4 (v := .int .i64 M) (by simp [go_sem, *]) (by simp [go_sem, *])
  have : w.heap.size + 1 < w4.heap.size := by omega
  have : w.heap.size + 1 ≤ w4.heap.size := by omega
  have : w4.cell? ⟨w.heap.size + 1, 0, none⟩ = some (.int .i64 b) := cell_kept hbw4 (by simp [go_sem, *])
  have : w4.frozen? ⟨w.heap.size + 1, 0, none⟩ = false := free_kept hbw4 (v := .int .i64 b) (by simp [go_sem, *]) (by simp [go_sem, *])
  have : w.heap.size + 1 < w4.heap.size := by omega
  have : w.heap.size + 1 ≤ w4.heap.size := by omega
  have : w4.cell? ⟨w.heap.size + 1, 1, none⟩ = some (.int .i64 N) := cell_kept hbw4 (by simp [go_sem, *])
  have : w4.frozen? ⟨w.heap.size + 1, 1, none⟩ = false := free_kept hbw4 (v := .int .i64 N) (by simp [go_sem, *]) (by simp [go_sem, *])
  have : w.heap.size + 1 + 1 < w4.heap.size := by omega
  have : w.heap.size + 1 + 1 ≤ w4.heap.size := by omega
  have : w4.cell? ⟨w.heap.size + 1 + 1, 0, none⟩ = some (.int .i64 c) := cell_kept hbw4 (by simp [go_sem, *])
  have : w4.frozen? ⟨w.heap.size + 1 + 1, 0, none⟩ = false := free_kept hbw4 (v := .int .i64 c) (by simp [go_sem, *]) (by simp [go_sem, *])
  have : w.heap.size + 1 + 1 < w4.heap.size := by omega
  have : w.heap.size + 1 + 1 ≤ w4.heap.size := by omega
  have : w4.cell? ⟨w.heap.size + 1 + 1, 1, none⟩ = some (.int .i64 5) := cell_kept hbw4 (by simp [go_sem, *])
  have : w4.frozen? ⟨w.heap.size + 1 + 1, 1, none⟩ = false := free_kept hbw4 (v := .int .i64 5) (by simp [go_sem, *]) (by simp [go_sem, *])
  have : w3.heap.size < w4.heap.size := by omega
  have : w3.heap.size ≤ w4.heap.size := by omega
  have : w4.cell? ⟨w3.heap.size, 0, none⟩ = some (.int .i64 q) := cell_kept hbw4 (by simp [go_sem, *])
  have : w4.frozen? ⟨w3.heap.size, 0, none⟩ = false := free_kept hbw4 (v := .int .i64 q) (by simp [go_sem, *]) (by simp [go_sem, *])
  have : w3.heap.size < w4.heap.size := by omega
  have : w3.heap.size ≤ w4.heap.size := by omega
  have : w4.cell? ⟨w3.heap.size, 1, none⟩ = some (.int .i64 250000000) := cell_kept hbw4 (by simp [go_sem, *])
  have : w4.frozen? ⟨w3.heap.size, 1, none⟩ = false := free_kept hbw4 (v := .int .i64 250000000) (by simp [go_sem, *]) (by simp [go_sem, *])
  go_wp2_with fail
  refine (HC3.out _).mono ?_
  rintro e w5 ⟨rfl, hbw5⟩
  have hzw5 := hbw5.size
  try simp at hzw5
  have : w.heap.size < w5.heap.size := by omega
  have : w.heap.size ≤ w5.heap.size := by omega
  have : w5.cell? ⟨w.heap.size, 0, none⟩ = some (.int .i64 a) := cell_kept hbw5 (by simp [go_sem, *])
  have : w5.frozen? ⟨w.heap.size, 0, none⟩ = false := free_kept hbw5 (v := .int .i64 a) (by simp [go_sem, *]) (by simp [go_sem, *])
  have : w.heap.size < w5.heap.size := by omega
  have : w.heap.size ≤ w5.heap.size := by omega
  have : w5.cell? ⟨w.heap.size, 1, none⟩ = some (.int .i64 M) := cell_kept hbw5 (by simp [go_sem, *])
  have : w5.frozen? ⟨w.heap.size, 1, none⟩ = false := free_kept hbw5 (v := .int .i64 M) (by simp [go_sem, *]) (by simp [go_sem, *])
  have : w.heap.size + 1 < w5.heap.size := by omega
  have : w.heap.size + 1 ≤ w5.heap.size := by omega
  have : w5.cell? ⟨w.heap.size + 1, 0, none⟩ = some (.int .i64 b) := cell_kept hbw5 (by simp [go_sem, *])
  have : w5.frozen? ⟨w.heap.size + 1, 0, none⟩ = false := free_kept hbw5 (v := .int .i64 b) (by simp [go_sem, *]) (by simp [go_sem, *])
  have : w.heap.size + 1 < w5.heap.size := by omega
  have : w.heap.size + 1 ≤ w5.heap.size := by omega
  have : w5.cell? ⟨w.heap.size + 1, 1, none⟩ = some (.int .i64 N) := cell_kept hbw5 (by simp [go_sem, *])
  have : w5.frozen? ⟨w.heap.size + 1, 1, none⟩ = false := free_kept hbw5 (v := .int .i64 N) (by simp [go_sem, *]) (by simp [go_sem, *])
  have : w.heap.size + 1 + 1 < w5.heap.size := by omega
  have : w.heap.size + 1 + 1 ≤ w5.heap.size := by omega
  have : w5.cell? ⟨w.heap.size + 1 + 1, 0, none⟩ = some (.int .i64 c) := cell_kept hbw5 (by simp [go_sem, *])
  have : w5.frozen? ⟨w.heap.size + 1 + 1, 0, none⟩ = false := free_kept hbw5 (v := .int .i64 c) (by simp [go_sem, *]) (by simp [go_sem, *])
  have : w.heap.size + 1 + 1 < w5.heap.size := by omega
  have : w.heap.size + 1 + 1 ≤ w5.heap.size := by omega
  have : w5.cell? ⟨w.heap.size + 1 + 1, 1, none⟩ = some (.int .i64 5) := cell_kept hbw5 (by simp [go_sem, *])
  have : w5.frozen? ⟨w.heap.size + 1 + 1, 1, none⟩ = false := free_kept hbw5 (v := .int .i64 5) (by simp [go_sem, *]) (by simp [go_sem, *])
  have : w3.heap.size < w5.heap.size := by omega
  have : w3.heap.size ≤ w5.heap.size := by omega
  have : w5.cell? ⟨w3.heap.size, 0, none⟩ = some (.int .i64 q) := cell_kept hbw5 (by simp [go_sem, *])
  have : w5.frozen? ⟨w3.heap.size, 0, none⟩ = false := free_kept hbw5 (v := .int .i64 q) (by simp [go_sem, *]) (by simp [go_sem, *])
  have : w3.heap.size < w5.heap.size := by omega
  have : w3.heap.size ≤ w5.heap.size := by omega
  have : w5.cell? ⟨w3.heap.size, 1, none⟩ = some (.int .i64 250000000) := cell_kept hbw5 (by simp [go_sem, *])
  have : w5.frozen? ⟨w3.heap.size, 1, none⟩ = false := free_kept hbw5 (v := .int .i64 250000000) (by simp [go_sem, *]) (by simp [go_sem, *])
  go_wp2_with fail
  refine (awake_any _ (hA.on (by (repeat' (first | exact Below.refl _ _ | assumption | refine gr_drew ?_ | refine gr_drewN ?_ _ | refine gr_alloc ?_ _ | refine gr_set ?_ ?_ _ | refine gr_call ?_ (by assumption)) <;> (try (simp; done)) <;> (try (simp; omega)) <;> (try omega))))).mono ?_
  rintro e w6 ⟨rfl, hbw6⟩
  have hzw6 := hbw6.size
  try simp at hzw6
  go_wp2_with fail
  go_ret
  exact ⟨rfl, by (repeat' (first | exact Below.refl _ _ | assumption | refine gr_drew ?_ | refine gr_drewN ?_ _ | refine gr_alloc ?_ _ | refine gr_set ?_ ?_ _ | refine gr_call ?_ (by assumption)) <;> (try (simp; done)) <;> (try (simp; omega)) <;> (try omega))⟩

set_option maxRecDepth 100000 in
set_option maxHeartbeats 1000000 in
theorem ord_la_n (a b c m n M N q : Int) (w : World) (hA : Amb w) (hb3 : 0 ≤ m ∧ m ≤ 4294967295) (hb4 : 0 ≤ n ∧ n ≤ 4294967295) (ha : -2147483648 ≤ a ∧ a ≤ 2147483647) (hb : -2147483648 ≤ b ∧ b ≤ 2147483647) (hc : -2147483648 ≤ c ∧ c ≤ 2147483647)
    (hM : m % 1000000000 = M) (hN : n % 1000000000 = N) (hq : m % 1000 = q) (hk : cmpF a M b N = -1) (hk2 : cmpF b N a M = 1) (ho : a < b) (hJ : cmpF b N c 5 ≤ 0) (hL : cmpF a M c 5 ≤ 0) :
    Calls Tryd.prog 7 #[.int .i32 a, .int .i32 b, .int .i32 c, .int .u32 m, .int .u32 n] w fun e w' => e = .returned (.bool true) ∧ Below w.heap.size w w' := by
  have hq0 : 0 ≤ q ∧ q < 1000 := by omega
  have HC1 := Lib.hid (fun W => by have := cmp_any a M b N W; rw [hk] at this; exact this)
  have HC2 := Lib.hid (fun W => by have := cmp_any b N a M W; rw [hk2] at this; exact this)
  have HC3 := Lib.hid (fun W => cmp_any b N c 5 W)
  have HC4 := Lib.hid (fun W => cmp_any a M c 5 W)
  have HD := Lib.hid (fun W => refDigits_int q W hq0.1 (by omega))
  have hmt : mayF q 250000000 = true := by rw [may_iff]; omega
  have hP : ∀ W, Amb W → Calls Tryd.prog 11 #[.string ((⟨(itoa q).toArray⟩ : ByteArray) ++ ⟨#[46, 50, 53]⟩)] W fun e w' => e = .returned (.tuple #[.agg #[.int .i64 q, .int .i64 250000000], .bool true]) ∧ Below W.heap.size W w' := by
    intro W hA
    have e1 : ((⟨(itoa q).toArray⟩ : ByteArray) ++ ⟨#[46, 50, 53]⟩).data.toList = textF q 250000000 := by rw [bytes_list, text_quarter q hq0.1]
    have hl := DecM.itoa_len q (by omega) (by omega)
    have := parse_yes ((⟨(itoa q).toArray⟩ : ByteArray) ++ ⟨#[46, 50, 53]⟩) W hA (by rw [ByteArray.size_append, Lib.size_mk]; have : (⟨#[46, 50, 53]⟩ : ByteArray).size = 3 := rfl; omega) (by rw [e1]; exact parse_text _ _ hmt)
    obtain ⟨g1, g2⟩ := guess_text _ _ hmt
    rw [e1, g1, g2] at this
    exact this
  have HP := Lib.hid hP
  have hil := (DecM.itoa_len q (by omega) (by omega)).2
  clear hmt hP hk hk2
  generalize itoa q = L at *
  have : (a == b) = false := by rw [beq_eq_false_iff_ne]; omega
  have : decide (0 < cmpF b N c 5) = false := by simp; omega
  have : decide (cmpF a M c 5 ≤ 0) = true := by simpa using hL
  clear ho
  generalize cmpF b N c 5 = J at *
  generalize cmpF a M c 5 = L2 at *
  go_enter Tryd.func7, Tryd.ntmps7
  go_wp2_with fail
  refine (HC1.out _).mono ?_
  rintro e w1 ⟨rfl, hbw1⟩
  have hzw1 := hbw1.size
  try simp at hzw1
  have : w.heap.size < w1.heap.size := by omega
  have : w.heap.size ≤ w1.heap.size := by omega
  have : w1.cell? ⟨w.heap.size, 0, none⟩ = some (.int .i64 a) := cell_kept hbw1 (by simp [go_sem, *])
  have : w1.frozen? ⟨w.heap.size, 0, none⟩ = false := free_kept hbw1 (v := .int .i64 a) (by simp [go_sem, *]) (by simp [go_sem, *])
  have : w.heap.size < w1.heap.size := by omega
  have : w.heap.size ≤ w1.heap.size := by omega
  have : w1.cell? ⟨w.heap.size, 1, none⟩ = some (.int .i64 M) := cell_kept hbw1 (by simp [go_sem, *])
  have : w1.frozen? ⟨w.heap.size, 1, none⟩ = false := free_kept hbw1 (v := .int .i64 M) (by simp [go_sem, *]) (by simp [go_sem, *])
  have : w.heap.size + 1 < w1.heap.size := by omega
  have : w.heap.size + 1 ≤ w1.heap.size := by omega
  have : w1.cell? ⟨w.heap.size + 1, 0, none⟩ = some (.int .i64 b) := cell_kept hbw1 (by simp [go_sem, *])
  have : w1.frozen? ⟨w.heap.size + 1, 0, none⟩ = false := free_kept hbw1 (v := .int .i64 b) (by simp [go_sem, *]) (by simp [go_sem, *])
  have : w.heap.size + 1 < w1.heap.size := by omega
  have : w.heap.size + 1 ≤ w1.heap.size := by omega
  have : w1.cell? ⟨w.heap.size + 1, 1, none⟩ = some (.int .i64 N) := cell_kept hbw1 (by simp [go_sem, *])
  have : w1.frozen? ⟨w.heap.size + 1, 1, none⟩ = false := free_kept hbw1 (v := .int .i64 N) (by simp [go_sem, *]) (by simp [go_sem, *])
  have : w.heap.size + 1 + 1 < w1.heap.size := by omega
  have : w.heap.size + 1 + 1 ≤ w1.heap.size := by omega
  have : w1.cell? ⟨w.heap.size + 1 + 1, 0, none⟩ = some (.int .i64 c) := cell_kept hbw1 (by simp [go_sem, *])
  have : w1.frozen? ⟨w.heap.size + 1 + 1, 0, none⟩ = false := free_kept hbw1 (v := .int .i64 c) (by simp [go_sem, *]) (by simp [go_sem, *])
  have : w.heap.size + 1 + 1 < w1.heap.size := by omega
  have : w.heap.size + 1 + 1 ≤ w1.heap.size := by omega
  have : w1.cell? ⟨w.heap.size + 1 + 1, 1, none⟩ = some (.int .i64 5) := cell_kept hbw1 (by simp [go_sem, *])
  have : w1.frozen? ⟨w.heap.size + 1 + 1, 1, none⟩ = false := free_kept hbw1 (v := .int .i64 5) (by simp [go_sem, *]) (by simp [go_sem, *])
  go_wp2_with fail
  refine (HD.out _).mono ?_
  rintro e w2 ⟨rfl, hbw2⟩
  have hzw2 := hbw2.size
  try simp at hzw2
  have : w.heap.size < w2.heap.size := by omega
  have : w.heap.size ≤ w2.heap.size := by omega
  have : w2.cell? ⟨w.heap.size, 0, none⟩ = some (.int .i64 a) := cell_kept hbw2 (by simp [go_sem, *])
  have : w2.frozen? ⟨w.heap.size, 0, none⟩ = false := free_kept hbw2 (v := .int .i64 a) (by simp [go_sem, *]) (by simp [go_sem, *])
  have : w.heap.size < w2.heap.size := by omega
  have : w.heap.size ≤ w2.heap.size := by omega
  have : w2.cell? ⟨w.heap.size, 1, none⟩ = some (.int .i64 M) := cell_kept hbw2 (by simp [go_sem, *])
  have : w2.frozen? ⟨w.heap.size, 1, none⟩ = false := free_kept hbw2 (v := .int .i64 M) (by simp [go_sem, *]) (by simp [go_sem, *])
  have : w.heap.size + 1 < w2.heap.size := by omega
  have : w.heap.size + 1 ≤ w2.heap.size := by omega
  have : w2.cell? ⟨w.heap.size + 1, 0, none⟩ = some (.int .i64 b) := cell_kept hbw2 (by simp [go_sem, *])
  have : w2.frozen? ⟨w.heap.size + 1, 0, none⟩ = false := free_kept hbw2 (v := .int .i64 b) (by simp [go_sem, *]) (by simp [go_sem, *])
  have : w.heap.size + 1 < w2.heap.size := by omega
  have : w.heap.size + 1 ≤ w2.heap.size := by omega
  have : w2.cell? ⟨w.heap.size + 1, 1, none⟩ = some (.int .i64 N) := cell_kept hbw2 (by simp [go_sem, *])
  have : w2.frozen? ⟨w.heap.size + 1, 1, none⟩ = false := free_kept hbw2 (v := .int .i64 N) (by simp [go_sem, *]) (by simp [go_sem, *])
  have : w.heap.size + 1 + 1 < w2.heap.size := by omega
  have : w.heap.size + 1 + 1 ≤ w2.heap.size := by omega
  have : w2.cell? ⟨w.heap.size + 1 + 1, 0, none⟩ = some (.int .i64 c) := cell_kept hbw2 (by simp [go_sem, *])
  have : w2.frozen? ⟨w.heap.size + 1 + 1, 0, none⟩ = false := free_kept hbw2 (v := .int .i64 c) (by simp [go_sem, *]) (by simp [go_sem, *])
  have : w.heap.size + 1 + 1 < w2.heap.size := by omega
  have : w.heap.size + 1 + 1 ≤ w2.heap.size := by omega
  have : w2.cell? ⟨w.heap.size + 1 + 1, 1, none⟩ = some (.int .i64 5) := cell_kept hbw2 (by simp [go_sem, *])
  have : w2.frozen? ⟨w.heap.size + 1 + 1, 1, none⟩ = false := free_kept hbw2 (v := .int .i64 5) (by simp [go_sem, *]) (by simp [go_sem, *])
  go_wp2_with fail
  refine (HP.out _ (hA.on (by (repeat' (first | exact Below.refl _ _ | assumption | refine gr_drew ?_ | refine gr_drewN ?_ _ | refine gr_alloc ?_ _ | refine gr_set ?_ ?_ _ | refine gr_call ?_ (by assumption)) <;> (try (simp; done)) <;> (try (simp; omega)) <;> (try omega))))).mono ?_
  rintro e w3 ⟨rfl, hbw3⟩
  have hzw3 := hbw3.size
  try simp at hzw3
  have : w.heap.size < w3.heap.size := by omega
  have : w.heap.size ≤ w3.heap.size := by omega
  have : w3.cell? ⟨w.heap.size, 0, none⟩ = some (.int .i64 a) := cell_kept hbw3 (by simp [go_sem, *])
  have : w3.frozen? ⟨w.heap.size, 0, none⟩ = false := free_kept hbw3 (v := .int .i64 a) (by simp [go_sem, *]) (by simp [go_sem, *])
  have : w.heap.size < w3.heap.size := by omega
  have : w.heap.size ≤ w3.heap.size := by omega
  have : w3.cell? ⟨w.heap.size, 1, none⟩ = some (.int .i64 M) := cell_kept hbw3 (by simp [go_sem, *])
  have : w3.frozen? ⟨w.heap.size, 1, none⟩ = false := free_kept hbw3 (v := .int .i64 M) (by simp [go_sem, *]) (by simp [go_sem, *])
  have : w.heap.size + 1 < w3.heap.size := by omega
  have : w.heap.size + 1 ≤ w3.heap.size := by omega
  have : w3.cell? ⟨w.heap.size + 1, 0, none⟩ = some (.int .i64 b) := cell_kept hbw3 (by simp [go_sem, *])
  have : w3.frozen? ⟨w.heap.size + 1, 0, none⟩ = false := free_kept hbw3 (v := .int .i64 b) (by simp [go_sem, *]) (by simp [go_sem, *])
  have : w.heap.size + 1 < w3.heap.size := by omega
  have : w.heap.size + 1 ≤ w3.heap.size := by omega
  have : w3.cell? ⟨w.heap.size + 1, 1, none⟩ = some (.int .i64 N) := cell_kept hbw3 (by simp [go_sem, *])
  have : w3.frozen? ⟨w.heap.size + 1, 1, none⟩ = false := free_kept hbw3 (v := .int .i64 N) (by simp [go_sem, *]) (by simp [go_sem, *])
  have : w.heap.size + 1 + 1 < w3.heap.size := by omega
  have : w.heap.size + 1 + 1 ≤ w3.heap.size := by omega
  have : w3.cell? ⟨w.heap.size + 1 + 1, 0, none⟩ = some (.int .i64 c) := cell_kept hbw3 (by simp [go_sem, *])
  have : w3.frozen? ⟨w.heap.size + 1 + 1, 0, none⟩ = false := free_kept hbw3 (v := .int .i64 c) (by simp [go_sem, *]) (by simp [go_sem, *])
  have : w.heap.size + 1 + 1 < w3.heap.size := by omega
  have : w.heap.size + 1 + 1 ≤ w3.heap.size := by omega
  have : w3.cell? ⟨w.heap.size + 1 + 1, 1, none⟩ = some (.int .i64 5) := cell_kept hbw3 (by simp [go_sem, *])
  have : w3.frozen? ⟨w.heap.size + 1 + 1, 1, none⟩ = false := free_kept hbw3 (v := .int .i64 5) (by simp [go_sem, *]) (by simp [go_sem, *])
  go_wp2_with fail
  refine (HC2.out _).mono ?_
  rintro e w4 ⟨rfl, hbw4⟩
  have hzw4 := hbw4.size
  try simp at hzw4
  have : w.heap.size < w4.heap.size := by omega
  have : w.heap.size ≤ w4.heap.size := by omega
  have : w4.cell? ⟨w.heap.size, 0, none⟩ = some (.int .i64 a) := cell_kept hbw4 (by simp [go_sem, *])
  have : w4.frozen? ⟨w.heap.size, 0, none⟩ = false := free_kept hbw4 (v := .int .i64 a) (by simp [go_sem, *]) (by simp [go_sem, *])
  have : w.heap.size < w4.heap.size := by omega
  have : w.heap.size ≤ w4.heap.size := by omega
  have : w4.cell? ⟨w.heap.size, 1, none⟩ = some (.int .i64 M) := cell_kept hbw4 (by simp [go_sem, *])
  have : w4.frozen? ⟨w.heap.size, 1, none⟩ = false := free_kept hbw4 (v := .int .i64 M) (by simp [go_sem, *]) (by simp [go_sem, *])
  have : w.heap.size + 1 < w4.heap.size := by omega
  have : w.heap.size + 1 ≤ w4.heap.size := by omega
  have : w4.cell? ⟨w.heap.size + 1, 0, none⟩ = some (.int .i64 b) := cell_kept hbw4 (by simp [go_sem, *])
  have : w4.frozen? ⟨w.heap.size + 1, 0, none⟩ = false := free_kept hbw4 (v := .int .i64 b) (by simp [go_sem, *]) (by simp [go_sem, *])
  have : w.heap.size + 1 < w4.heap.size := by omega
  have : w.heap.size + 1 ≤ w4.heap.size := by omega
  have : w4.cell? ⟨w.heap.size + 1, 1, none⟩ = some (.int .i64 N) := cell_kept hbw4 (by simp [go_sem, *])
  have : w4.frozen? ⟨w.heap.size + 1, 1, none⟩ = false := free_kept hbw4 (v := .int .i64 N) (by simp [go_sem, *]) (by simp [go_sem, *])
  have : w.heap.size + 1 + 1 < w4.heap.size := by omega
  have : w.heap.size + 1 + 1 ≤ w4.heap.size := by omega
  have : w4.cell? ⟨w.heap.size + 1 + 1, 0, none⟩ = some (.int .i64 c) := cell_kept hbw4 (by simp [go_sem, *])
  have : w4.frozen? ⟨w.heap.size + 1 + 1, 0, none⟩ = false := free_kept hbw4 (v := .int .i64 c) (by simp [go_sem, *]) (by simp [go_sem, *])
  have : w.heap.size + 1 + 1 < w4.heap.size := by omega
  have : w.heap.size + 1 + 1 ≤ w4.heap.size := by omega
  have : w4.cell? ⟨w.heap.size + 1 + 1, 1, none⟩ = some (.int .i64 5) := cell_kept hbw4 (by simp [go_sem, *])
  have : w4.frozen? ⟨w.heap.size + 1 + 1, 1, none⟩ = false := free_kept hbw4 (v := .int .i64 5) (by simp [go_sem, *]) (by simp [go_sem, *])
  have : w3.heap.size < w4.heap.size := by omega
  have : w3.heap.size ≤ w4.heap.size := by omega
  have : w4.cell? ⟨w3.heap.size, 0, none⟩ = some (.int .i64 q) := cell_kept hbw4 (by simp [go_sem, *])
  have : w4.frozen? ⟨w3.heap.size, 0, none⟩ = false := free_kept hbw4 (v := .int .i64 q) (by simp [go_sem, *]) (by simp [go_sem, *])
  have : w3.heap.size < w4.heap.size := by omega
  have : w3.heap.size ≤ w4.heap.size := by omega
  have : w4.cell? ⟨w3.heap.size, 1, none⟩ = some (.int .i64 250000000) := cell_kept hbw4 (by simp [go_sem, *])
  have : w4.frozen? ⟨w3.heap.size, 1, none⟩ = false := free_kept hbw4 (v := .int .i64 250000000) (by simp [go_sem, *]) (by simp [go_sem, *])
  go_wp2_with fail
  refine (HC3.out _).mono ?_
  rintro e w5 ⟨rfl, hbw5⟩
  have hzw5 := hbw5.size
  try simp at hzw5
  have : w.heap.size < w5.heap.size := by omega
  have : w.heap.size ≤ w5.heap.size := by omega
  have : w5.cell? ⟨w.heap.size, 0, none⟩ = some (.int .i64 a) := cell_kept hbw5 (by simp [go_sem, *])
  have : w5.frozen? ⟨w.heap.size, 0, none⟩ = false := free_kept hbw5 (v := .int .i64 a) (by simp [go_sem, *]) (by simp [go_sem, *])
  have : w.heap.size < w5.heap.size := by omega
  have : w.heap.size ≤ w5.heap.size := by omega
  have : w5.cell? ⟨w.heap.size, 1, none⟩ = some (.int .i64 M) := cell_kept hbw5 (by simp [go_sem, *])
  have : w5.frozen? ⟨w.heap.size, 1, none⟩ = false := free_kept hbw5 (v := .int .i64 M) (by simp [go_sem, *]) (by simp [go_sem, *])
  have : w.heap.size + 1 < w5.heap.size := by omega
  have : w.heap.size + 1 ≤ w5.heap.size := by omega
  have : w5.cell? ⟨w.heap.size + 1, 0, none⟩ = some (.int .i64 b) := cell_kept hbw5 (by simp [go_sem, *])
  have : w5.frozen? ⟨w.heap.size + 1, 0, none⟩ = false := free_kept hbw5 (v := .int .i64 b) (by simp [go_sem, *]) (by simp [go_sem, *])
  have : w.heap.size + 1 < w5.heap.size := by omega
  have : w.heap.size + 1 ≤ w5.heap.size := by omega
  have : w5.cell? ⟨w.heap.size + 1, 1, none⟩ = some (.int .i64 N) := cell_kept hbw5 (by simp [go_sem, *])
  have : w5.frozen? ⟨w.heap.size + 1, 1, none⟩ = false := free_kept hbw5 (v := .int .i64 N) (by simp [go_sem, *]) (by simp [go_sem, *])
  have : w.heap.size + 1 + 1 < w5.heap.size := by omega
  have : w.heap.size + 1 + 1 ≤ w5.heap.size := by omega
  have : w5.cell? ⟨w.heap.size + 1 + 1, 0, none⟩ = some (.int .i64 c) := cell_kept hbw5 (by simp [go_sem, *])
  have : w5.frozen? ⟨w.heap.size + 1 + 1, 0, none⟩ = false := free_kept hbw5 (v := .int .i64 c) (by simp [go_sem, *]) (by simp [go_sem, *])
  have : w.heap.size + 1 + 1 < w5.heap.size := by omega
  have : w.heap.size + 1 + 1 ≤ w5.heap.size := by omega
  have : w5.cell? ⟨w.heap.size + 1 + 1, 1, none⟩ = some (.int .i64 5) := cell_kept hbw5 (by simp [go_sem, *])
  have : w5.frozen? ⟨w.heap.size + 1 + 1, 1, none⟩ = false := free_kept hbw5 (v := .int .i64 5) (by simp [go_sem, *]) (by simp [go_sem, *])
  have : w3.heap.size < w5.heap.size := by omega
  have : w3.heap.size ≤ w5.heap.size := by omega
  have : w5.cell? ⟨w3.heap.size, 0, none⟩ = some (.int .i64 q) := cell_kept hbw5 (by simp [go_sem, *])
  have : w5.frozen? ⟨w3.heap.size, 0, none⟩ = false := free_kept hbw5 (v := .int .i64 q) (by simp [go_sem, *]) (by simp [go_sem, *])
  have : w3.heap.size < w5.heap.size := by omega
  have : w3.heap.size ≤ w5.heap.size := by omega
  have : w5.cell? ⟨w3.heap.size, 1, none⟩ = some (.int .i64 250000000) := cell_kept hbw5 (by simp [go_sem, *])
  have : w5.frozen? ⟨w3.heap.size, 1, none⟩ = false := free_kept hbw5 (v := .int .i64 250000000) (by simp [go_sem, *]) (by simp [go_sem, *])
  go_wp2_with fail
  refine (HC4.out _).mono ?_
  rintro e w6 ⟨rfl, hbw6⟩
  have hzw6 := hbw6.size
  try simp at hzw6
  have : w.heap.size < w6.heap.size := by omega
  have : w.heap.size ≤ w6.heap.size := by omega
  have : w6.cell? ⟨w.heap.size, 0, none⟩ = some (.int .i64 a) := cell_kept hbw6 (by simp [go_sem, *])
  have : w6.frozen? ⟨w.heap.size, 0, none⟩ = false := free_kept hbw6 (v := .int .i64 a) (by simp [go_sem, *]) (by simp [go_sem, *])
  have : w.heap.size < w6.heap.size := by omega
  have : w.heap.size ≤ w6.heap.size := by omega
  have : w6.cell? ⟨w.heap.size, 1, none⟩ = some (.int .i64 M) := cell_kept hbw6 (by simp [go_sem, *])
  have : w6.frozen? ⟨w.heap.size, 1, none⟩ = false := free_kept hbw6 (v := .int .i64 M) (by simp [go_sem, *]) (by simp [go_sem, *])
  have : w.heap.size + 1 < w6.heap.size := by omega
  have : w.heap.size + 1 ≤ w6.heap.size := by omega
  have : w6.cell? ⟨w.heap.size + 1, 0, none⟩ = some (.int .i64 b) := cell_kept hbw6 (by simp [go_sem, *])
  have : w6.frozen? ⟨w.heap.size + 1, 0, none⟩ = false := free_kept hbw6 (v := .int .i64 b) (by simp [go_sem, *]) (by simp [go_sem, *])
  have : w.heap.size + 1 < w6.heap.size := by omega
  have : w.heap.size + 1 ≤ w6.heap.size := by omega
  have : w6.cell? ⟨w.heap.size + 1, 1, none⟩ = some (.int .i64 N) := cell_kept hbw6 (by simp [go_sem, *])
  have : w6.frozen? ⟨w.heap.size + 1, 1, none⟩ = false := free_kept hbw6 (v := .int .i64 N) (by simp [go_sem, *]) (by simp [go_sem, *])
  have : w.heap.size + 1 + 1 < w6.heap.size := by omega
  have : w.heap.size + 1 + 1 ≤ w6.heap.size := by omega
  have : w6.cell? ⟨w.heap.size + 1 + 1, 0, none⟩ = some (.int .i64 c) := cell_kept hbw6 (by simp [go_sem, *])
  have : w6.frozen? ⟨w.heap.size + 1 + 1, 0, none⟩ = false := free_kept hbw6 (v := .int .i64 c) (by simp [go_sem, *]) (by simp [go_sem, *])
  have : w.heap.size + 1 + 1 < w6.heap.size := by omega
  have : w.heap.size + 1 + 1 ≤ w6.heap.size := by omega
  have : w6.cell? ⟨w.heap.size + 1 + 1, 1, none⟩ = some (.int .i64 5) := cell_kept hbw6 (by simp [go_sem, *])
  have : w6.frozen? ⟨w.heap.size + 1 + 1, 1, none⟩ = false := free_kept hbw6 (v := .int .i64 5) (by simp [go_sem, *]) (by simp [go_sem, *])
  have : w3.heap.size < w6.heap.size := by omega
  have : w3.heap.size ≤ w6.heap.size := by omega
  have : w6.cell? ⟨w3.heap.size, 0, none⟩ = some (.int .i64 q) := cell_kept hbw6 (by simp [go_sem, *])
  have : w6.frozen? ⟨w3.heap.size, 0, none⟩ = false := free_kept hbw6 (v := .int .i64 q) (by simp [go_sem, *]) (by simp [go_sem, *])
  have : w3.heap.size < w6.heap.size := by omega
  have : w3.heap.size ≤ w6.heap.size := by omega
  have : w6.cell? ⟨w3.heap.size, 1, none⟩ = some (.int .i64 250000000) := cell_kept hbw6 (by simp [go_sem, *])
  have : w6.frozen? ⟨w3.heap.size, 1, none⟩ = false := free_kept hbw6 (v := .int .i64 250000000) (by simp [go_sem, *]) (by simp [go_sem, *])
  go_wp2_with fail
  refine (awake_any _ (hA.on (by (repeat' (first | exact Below.refl _ _ | assumption | refine gr_drew ?_ | refine gr_drewN ?_ _ | refine gr_alloc ?_ _ | refine gr_set ?_ ?_ _ | refine gr_call ?_ (by assumption)) <;> (try (simp; done)) <;> (try (simp; omega)) <;> (try omega))))).mono ?_
  rintro e w7 ⟨rfl, hbw7⟩
  have hzw7 := hbw7.size
  try simp at hzw7
  go_wp2_with fail
  go_ret
  exact ⟨rfl, by (repeat' (first | exact Below.refl _ _ | assumption | refine gr_drew ?_ | refine gr_drewN ?_ _ | refine gr_alloc ?_ _ | refine gr_set ?_ ?_ _ | refine gr_call ?_ (by assumption)) <;> (try (simp; done)) <;> (try (simp; omega)) <;> (try omega))⟩

set_option maxRecDepth 100000 in
set_option maxHeartbeats 1000000 in
theorem ord_lm_p (a b c m n M N q : Int) (w : World) (hA : Amb w) (hb3 : 0 ≤ m ∧ m ≤ 4294967295) (hb4 : 0 ≤ n ∧ n ≤ 4294967295) (ha : -2147483648 ≤ a ∧ a ≤ 2147483647) (hb : -2147483648 ≤ b ∧ b ≤ 2147483647) (hc : -2147483648 ≤ c ∧ c ≤ 2147483647)
    (hM : m % 1000000000 = M) (hN : n % 1000000000 = N) (hq : m % 1000 = q) (hk : cmpF a M b N = -1) (hk2 : cmpF b N a M = 1) (ho : a = b ∧ M < N) (hJ : 0 < cmpF b N c 5) :
    Calls Tryd.prog 7 #[.int .i32 a, .int .i32 b, .int .i32 c, .int .u32 m, .int .u32 n] w fun e w' => e = .returned (.bool true) ∧ Below w.heap.size w w' := by
  have hq0 : 0 ≤ q ∧ q < 1000 := by omega
  have HC1 := Lib.hid (fun W => by have := cmp_any a M b N W; rw [hk] at this; exact this)
  have HC2 := Lib.hid (fun W => by have := cmp_any b N a M W; rw [hk2] at this; exact this)
  have HC3 := Lib.hid (fun W => cmp_any b N c 5 W)
  have HC4 := Lib.hid (fun W => cmp_any a M c 5 W)
  have HD := Lib.hid (fun W => refDigits_int q W hq0.1 (by omega))
  have hmt : mayF q 250000000 = true := by rw [may_iff]; omega
  have hP : ∀ W, Amb W → Calls Tryd.prog 11 #[.string ((⟨(itoa q).toArray⟩ : ByteArray) ++ ⟨#[46, 50, 53]⟩)] W fun e w' => e = .returned (.tuple #[.agg #[.int .i64 q, .int .i64 250000000], .bool true]) ∧ Below W.heap.size W w' := by
    intro W hA
    have e1 : ((⟨(itoa q).toArray⟩ : ByteArray) ++ ⟨#[46, 50, 53]⟩).data.toList = textF q 250000000 := by rw [bytes_list, text_quarter q hq0.1]
    have hl := DecM.itoa_len q (by omega) (by omega)
    have := parse_yes ((⟨(itoa q).toArray⟩ : ByteArray) ++ ⟨#[46, 50, 53]⟩) W hA (by rw [ByteArray.size_append, Lib.size_mk]; have : (⟨#[46, 50, 53]⟩ : ByteArray).size = 3 := rfl; omega) (by rw [e1]; exact parse_text _ _ hmt)
    obtain ⟨g1, g2⟩ := guess_text _ _ hmt
    rw [e1, g1, g2] at this
    exact this
  have HP := Lib.hid hP
  have hil := (DecM.itoa_len q (by omega) (by omega)).2
  clear hmt hP hk hk2
  generalize itoa q = L at *
  have : (a == b) = true := by rw [beq_iff_eq]; omega
  have : (M == N) = false := by rw [beq_eq_false_iff_ne]; omega
  have : decide (0 < cmpF b N c 5) = true := by simpa using hJ
  clear ho
  generalize cmpF b N c 5 = J at *
  generalize cmpF a M c 5 = L2 at *
  go_enter Tryd.func7, Tryd.ntmps7
  go_wp2_with fail
  refine (HC1.out _).mono ?_
  rintro e w1 ⟨rfl, hbw1⟩
  have hzw1 := hbw1.size
  try simp at hzw1
  have : w.heap.size < w1.heap.size := by omega
  have : w.heap.size ≤ w1.heap.size := by omega
  have : w1.cell? ⟨w.heap.size, 0, none⟩ = some (.int .i64 a) := cell_kept hbw1 (by simp [go_sem, *])
  have : w1.frozen? ⟨w.heap.size, 0, none⟩ = false := free_kept hbw1 (v := .int .i64 a) (by simp [go_sem, *]) (by simp [go_sem, *])
  have : w.heap.size < w1.heap.size := by omega
  have : w.heap.size ≤ w1.heap.size := by omega
  have : w1.cell? ⟨w.heap.size, 1, none⟩ = some (.int .i64 M) := cell_kept hbw1 (by simp [go_sem, *])
  have : w1.frozen? ⟨w.heap.size, 1, none⟩ = false := free_kept hbw1 (v := .int .i64 M) (by simp [go_sem, *]) (by simp [go_sem, *])
  have : w.heap.size + 1 < w1.heap.size := by omega
  have : w.heap.size + 1 ≤ w1.heap.size := by omega
  have : w1.cell? ⟨w.heap.size + 1, 0, none⟩ = some (.int .i64 b) := cell_kept hbw1 (by simp [go_sem, *])
  have : w1.frozen? ⟨w.heap.size + 1, 0, none⟩ = false := free_kept hbw1 (v := .int .i64 b) (by simp [go_sem, *]) (by simp [go_sem, *])
  have : w.heap.size + 1 < w1.heap.size := by omega
  have : w.heap.size + 1 ≤ w1.heap.size := by omega
  have : w1.cell? ⟨w.heap.size + 1, 1, none⟩ = some (.int .i64 N) := cell_kept hbw1 (by simp [go_sem, *])
  have : w1.frozen? ⟨w.heap.size + 1, 1, none⟩ = false := free_kept hbw1 (v := .int .i64 N) (by simp [go_sem, *]) (by simp [go_sem, *])
  have : w.heap.size + 1 + 1 < w1.heap.size := by omega
  have : w.heap.size + 1 + 1 ≤ w1.heap.size := by omega
  have : w1.cell? ⟨w.heap.size + 1 + 1, 0, none⟩ = some (.int .i64 c) := cell_kept hbw1 (by simp [go_sem, *])
  have : w1.frozen? ⟨w.heap.size + 1 + 1, 0, none⟩ = false := free_kept hbw1 (v := .int .i64 c) (by simp [go_sem, *]) (by simp [go_sem, *])
  have : w.heap.size + 1 + 1 < w1.heap.size := by omega
  have : w.heap.size + 1 + 1 ≤ w1.heap.size := by omega
  have : w1.cell? ⟨w.heap.size + 1 + 1, 1, none⟩ = some (.int .i64 5) := cell_kept hbw1 (by simp [go_sem, *])
  have : w1.frozen? ⟨w.heap.size + 1 + 1, 1, none⟩ = false := free_kept hbw1 (v := .int .i64 5) (by simp [go_sem, *]) (by simp [go_sem, *])
  go_wp2_with fail
  refine (HD.out _).mono ?_
  rintro e w2 ⟨rfl, hbw2⟩
  have hzw2 := hbw2.size
  try simp at hzw2
  have : w.heap.size < w2.heap.size := by omega
  have : w.heap.size ≤ w2.heap.size := by omega
  have : w2.cell? ⟨w.heap.size, 0, none⟩ = some (.int .i64 a) := cell_kept hbw2 (by simp [go_sem, *])
  have : w2.frozen? ⟨w.heap.size, 0, none⟩ = false := free_kept hbw2 (v := .int .i64 a) (by simp [go_sem, *]) (by simp [go_sem, *])
  have : w.heap.size < w2.heap.size := by omega
  have : w.heap.size ≤ w2.heap.size := by omega
  have : w2.cell? ⟨w.heap.size, 1, none⟩ = some (.int .i64 M) := cell_kept hbw2 (by simp [go_sem, *])
  have : w2.frozen? ⟨w.heap.size, 1, none⟩ = false := free_kept hbw2 (v := .int .i64 M) (by simp [go_sem, *]) (by simp [go_sem, *])
  have : w.heap.size + 1 < w2.heap.size := by omega
  have : w.heap.size + 1 ≤ w2.heap.size := by omega
  have : w2.cell? ⟨w.heap.size + 1, 0, none⟩ = some (.int .i64 b) := cell_kept hbw2 (by simp [go_sem, *])
  have : w2.frozen? ⟨w.heap.size + 1, 0, none⟩ = false := free_kept hbw2 (v := .int .i64 b) (by simp [go_sem, *]) (by simp [go_sem, *])
  have : w.heap.size + 1 < w2.heap.size := by omega
  have : w.heap.size + 1 ≤ w2.heap.size := by omega
  have : w2.cell? ⟨w.heap.size + 1, 1, none⟩ = some (.int .i64 N) := cell_kept hbw2 (by simp [go_sem, *])
  have : w2.frozen? ⟨w.heap.size + 1, 1, none⟩ = false := free_kept hbw2 (v := .int .i64 N) (by simp [go_sem, *]) (by simp [go_sem, *])
  have : w.heap.size + 1 + 1 < w2.heap.size := by omega
  have : w.heap.size + 1 + 1 ≤ w2.heap.size := by omega
  have : w2.cell? ⟨w.heap.size + 1 + 1, 0, none⟩ = some (.int .i64 c) := cell_kept hbw2 (by simp [go_sem, *])
  have : w2.frozen? ⟨w.heap.size + 1 + 1, 0, none⟩ = false := free_kept hbw2 (v := .int .i64 c) (by simp [go_sem, *]) (by simp [go_sem, *])
  have : w.heap.size + 1 + 1 < w2.heap.size := by omega
  have : w.heap.size + 1 + 1 ≤ w2.heap.size := by omega
  have : w2.cell? ⟨w.heap.size + 1 + 1, 1, none⟩ = some (.int .i64 5) := cell_kept hbw2 (by simp [go_sem, *])
  have : w2.frozen? ⟨w.heap.size + 1 + 1, 1, none⟩ = false := free_kept hbw2 (v := .int .i64 5) (by simp [go_sem, *]) (by simp [go_sem, *])
  go_wp2_with fail
  refine (HP.out _ (hA.on (by (repeat' (first | exact Below.refl _ _ | assumption | refine gr_drew ?_ | refine gr_drewN ?_ _ | refine gr_alloc ?_ _ | refine gr_set ?_ ?_ _ | refine gr_call ?_ (by assumption)) <;> (try (simp; done)) <;> (try (simp; omega)) <;> (try omega))))).mono ?_
  rintro e w3 ⟨rfl, hbw3⟩
  have hzw3 := hbw3.size
  try simp at hzw3
  have : w.heap.size < w3.heap.size := by omega
  have : w.heap.size ≤ w3.heap.size := by omega
  have : w3.cell? ⟨w.heap.size, 0, none⟩ = some (.int .i64 a) := cell_kept hbw3 (by simp [go_sem, *])
  have : w3.frozen? ⟨w.heap.size, 0, none⟩ = false := free_kept hbw3 (v := .int .i64 a) (by simp [go_sem, *]) (by simp [go_sem, *])
  have : w.heap.size < w3.heap.size := by omega
  have : w.heap.size ≤ w3.heap.size := by omega
  have : w3.cell? ⟨w.heap.size, 1, none⟩ = some (.int .i64 M) := cell_kept hbw3 (by simp [go_sem, *])
  have : w3.frozen? ⟨w.heap.size, 1, none⟩ = false := free_kept hbw3 (v := .int .i64 M) (by simp [go_sem, *]) (by simp [go_sem, *])
  have : w.heap.size + 1 < w3.heap.size := by omega
  have : w.heap.size + 1 ≤ w3.heap.size := by omega
  have : w3.cell? ⟨w.heap.size + 1, 0, none⟩ = some (.int .i64 b) := cell_kept hbw3 (by simp [go_sem, *])
  have : w3.frozen? ⟨w.heap.size + 1, 0, none⟩ = false := free_kept hbw3 (v := .int .i64 b) (by simp [go_sem, *]) (by simp [go_sem, *])
  have : w.heap.size + 1 < w3.heap.size := by omega
  have : w.heap.size + 1 ≤ w3.heap.size := by omega
  have : w3.cell? ⟨w.heap.size + 1, 1, none⟩ = some (.int .i64 N) := cell_kept hbw3 (by simp [go_sem, *])
  have : w3.frozen? ⟨w.heap.size + 1, 1, none⟩ = false := free_kept hbw3 (v := .int .i64 N) (by simp [go_sem, *]) (by simp [go_sem, *])
  have : w.heap.size + 1 + 1 < w3.heap.size := by omega
  have : w.heap.size + 1 + 1 ≤ w3.heap.size := by omega
  have : w3.cell? ⟨w.heap.size + 1 + 1, 0, none⟩ = some (.int .i64 c) := cell_kept hbw3 (by simp [go_sem, *])
  have : w3.frozen? ⟨w.heap.size + 1 + 1, 0, none⟩ = false := free_kept hbw3 (v := .int .i64 c) (by simp [go_sem, *]) (by simp [go_sem, *])
  have : w.heap.size + 1 + 1 < w3.heap.size := by omega
  have : w.heap.size + 1 + 1 ≤ w3.heap.size := by omega
  have : w3.cell? ⟨w.heap.size + 1 + 1, 1, none⟩ = some (.int .i64 5) := cell_kept hbw3 (by simp [go_sem, *])
  have : w3.frozen? ⟨w.heap.size + 1 + 1, 1, none⟩ = false := free_kept hbw3 (v := .int .i64 5) (by simp [go_sem, *]) (by simp [go_sem, *])
  go_wp2_with fail
  refine (HC2.out _).mono ?_
  rintro e w4 ⟨rfl, hbw4⟩
  have hzw4 := hbw4.size
  try simp at hzw4
  have : w.heap.size < w4.heap.size := by omega
  have : w.heap.size ≤ w4.heap.size := by omega
  have : w4.cell? ⟨w.heap.size, 0, none⟩ = some (.int .i64 a) := cell_kept hbw4 (by simp [go_sem, *])
  have : w4.frozen? ⟨w.heap.size, 0, none⟩ = false := free_kept hbw4 (v := .int .i64 a) (by simp [go_sem, *]) (by simp [go_sem, *])
  have : w.heap.size < w4.heap.size := by omega
  have : w.heap.size ≤ w4.heap.size := by omega
  have : w4.cell? ⟨w.heap.size, 1, none⟩ = some (.int .i64 M) := cell_kept hbw4 (by simp [go_sem, *])
  have : w4.frozen? ⟨w.heap.size, 1, none⟩ = false := free_kept hbw4 (v := .int .i64 M) (by simp [go_sem, *]) (by simp [go_sem, *])
  have : w.heap.size + 1 < w4.heap.size := by omega
  have : w.heap.size + 1 ≤ w4.heap.size := by omega
  have : w4.cell? ⟨w.heap.size + 1, 0, none⟩ = some (.int .i64 b) := cell_kept hbw4 (by simp [go_sem, *])
  have : w4.frozen? ⟨w.heap.size + 1, 0, none⟩ = false := free_kept hbw4 (v := .int .i64 b) (by simp [go_sem, *]) (by simp [go_sem, *])
  have : w.heap.size + 1 < w4.heap.size := by omega
  have : w.heap.size + 1 ≤ w4.heap.size := by omega
  have : w4.cell? ⟨w.heap.size + 1, 1, none⟩ = some (.int .i64 N) := cell_kept hbw4 (by simp [go_sem, *])
  have : w4.frozen? ⟨w.heap.size + 1, 1, none⟩ = false := free_kept hbw4 (v := .int .i64 N) (by simp [go_sem, *]) (by simp [go_sem, *])
  have : w.heap.size + 1 + 1 < w4.heap.size := by omega
  have : w.heap.size + 1 + 1 ≤ w4.heap.size := by omega
  have : w4.cell? ⟨w.heap.size + 1 + 1, 0, none⟩ = some (.int .i64 c) := cell_kept hbw4 (by simp [go_sem, *])
  have : w4.frozen? ⟨w.heap.size + 1 + 1, 0, none⟩ = false := free_kept hbw4 (v := .int .i64 c) (by simp [go_sem, *]) (by simp [go_sem, *])
  have : w.heap.size + 1 + 1 < w4.heap.size := by omega
  have : w.heap.size + 1 + 1 ≤ w4.heap.size := by omega
  have : w4.cell? ⟨w.heap.size + 1 + 1, 1, none⟩ = some (.int .i64 5) := cell_kept hbw4 (by simp [go_sem, *])
  have : w4.frozen? ⟨w.heap.size + 1 + 1, 1, none⟩ = false := free_kept hbw4 (v := .int .i64 5) (by simp [go_sem, *]) (by simp [go_sem, *])
  have : w3.heap.size < w4.heap.size := by omega
  have : w3.heap.size ≤ w4.heap.size := by omega
  have : w4.cell? ⟨w3.heap.size, 0, none⟩ = some (.int .i64 q) := cell_kept hbw4 (by simp [go_sem, *])
  have : w4.frozen? ⟨w3.heap.size, 0, none⟩ = false := free_kept hbw4 (v := .int .i64 q) (by simp [go_sem, *]) (by simp [go_sem, *])
  have : w3.heap.size < w4.heap.size := by omega
  have : w3.heap.size ≤ w4.heap.size := by omega
  have : w4.cell? ⟨w3.heap.size, 1, none⟩ = some (.int .i64 250000000) := cell_kept hbw4 (by simp [go_sem, *])
  have : w4.frozen? ⟨w3.heap.size, 1, none⟩ = false := free_kept hbw4 (v := .int .i64 250000000) (by simp [go_sem, *]) (by simp [go_sem, *])
  go_wp2_with fail
  refine (HC3.out _).mono ?_
  rintro e w5 ⟨rfl, hbw5⟩
  have hzw5 := hbw5.size
  try simp at hzw5
  have : w.heap.size < w5.heap.size := by omega
  have : w.heap.size ≤ w5.heap.size := by omega
  have : w5.cell? ⟨w.heap.size, 0, none⟩ = some (.int .i64 a) := cell_kept hbw5 (by simp [go_sem, *])
  have : w5.frozen? ⟨w.heap.size, 0, none⟩ = false := free_kept hbw5 (v := .int .i64 a) (by simp [go_sem, *]) (by simp [go_sem, *])
  have : w.heap.size < w5.heap.size := by omega
  have : w.heap.size ≤ w5.heap.size := by omega
  have : w5.cell? ⟨w.heap.size, 1, none⟩ = some (.int .i64 M) := cell_kept hbw5 (by simp [go_sem, *])
  have : w5.frozen? ⟨w.heap.size, 1, none⟩ = false := free_kept hbw5 (v := .int .i64 M) (by simp [go_sem, *]) (by simp [go_sem, *])
  have : w.heap.size + 1 < w5.heap.size := by omega
  have : w.heap.size + 1 ≤ w5.heap.size := by omega
  have : w5.cell? ⟨w.heap.size + 1, 0, none⟩ = some (.int .i64 b) := cell_kept hbw5 (by simp [go_sem, *])
  have : w5.frozen? ⟨w.heap.size + 1, 0, none⟩ = false := free_kept hbw5 (v := .int .i64 b) (by simp [go_sem, *]) (by simp [go_sem, *])
  have : w.heap.size + 1 < w5.heap.size := by omega
  have : w.heap.size + 1 ≤ w5.heap.size := by omega
  have : w5.cell? ⟨w.heap.size + 1, 1, none⟩ = some (.int .i64 N) := cell_kept hbw5 (by simp [go_sem, *])
  have : w5.frozen? ⟨w.heap.size + 1, 1, none⟩ = false := free_kept hbw5 (v := .int .i64 N) (by simp [go_sem, *]) (by simp [go_sem, *])
  have : w.heap.size + 1 + 1 < w5.heap.size := by omega
  have : w.heap.size + 1 + 1 ≤ w5.heap.size := by omega
  have : w5.cell? ⟨w.heap.size + 1 + 1, 0, none⟩ = some (.int .i64 c) := cell_kept hbw5 (by simp [go_sem, *])
  have : w5.frozen? ⟨w.heap.size + 1 + 1, 0, none⟩ = false := free_kept hbw5 (v := .int .i64 c) (by simp [go_sem, *]) (by simp [go_sem, *])
  have : w.heap.size + 1 + 1 < w5.heap.size := by omega
  have : w.heap.size + 1 + 1 ≤ w5.heap.size := by omega
  have : w5.cell? ⟨w.heap.size + 1 + 1, 1, none⟩ = some (.int .i64 5) := cell_kept hbw5 (by simp [go_sem, *])
  have : w5.frozen? ⟨w.heap.size + 1 + 1, 1, none⟩ = false := free_kept hbw5 (v := .int .i64 5) (by simp [go_sem, *]) (by simp [go_sem, *])
  have : w3.heap.size < w5.heap.size := by omega
  have : w3.heap.size ≤ w5.heap.size := by omega
  have : w5.cell? ⟨w3.heap.size, 0, none⟩ = some (.int .i64 q) := cell_kept hbw5 (by simp [go_sem, *])
  have : w5.frozen? ⟨w3.heap.size, 0, none⟩ = false := free_kept hbw5 (v := .int .i64 q) (by simp [go_sem, *]) (by simp [go_sem, *])
  have : w3.heap.size < w5.heap.size := by omega
  have : w3.heap.size ≤ w5.heap.size := by omega
  have : w5.cell? ⟨w3.heap.size, 1, none⟩ = some (.int .i64 250000000) := cell_kept hbw5 (by simp [go_sem, *])
  have : w5.frozen? ⟨w3.heap.size, 1, none⟩ = false := free_kept hbw5 (v := .int .i64 250000000) (by simp [go_sem, *]) (by simp [go_sem, *])
  go_wp2_with fail
  refine (awake_any _ (hA.on (by (repeat' (first | exact Below.refl _ _ | assumption | refine gr_drew ?_ | refine gr_drewN ?_ _ | refine gr_alloc ?_ _ | refine gr_set ?_ ?_ _ | refine gr_call ?_ (by assumption)) <;> (try (simp; done)) <;> (try (simp; omega)) <;> (try omega))))).mono ?_
  rintro e w6 ⟨rfl, hbw6⟩
  have hzw6 := hbw6.size
  try simp at hzw6
  go_wp2_with fail
  go_ret
  exact ⟨rfl, by (repeat' (first | exact Below.refl _ _ | assumption | refine gr_drew ?_ | refine gr_drewN ?_ _ | refine gr_alloc ?_ _ | refine gr_set ?_ ?_ _ | refine gr_call ?_ (by assumption)) <;> (try (simp; done)) <;> (try (simp; omega)) <;> (try omega))⟩

set_option maxRecDepth 100000 in
set_option maxHeartbeats 1000000 in
theorem ord_lm_n (a b c m n M N q : Int) (w : World) (hA : Amb w) (hb3 : 0 ≤ m ∧ m ≤ 4294967295) (hb4 : 0 ≤ n ∧ n ≤ 4294967295) (ha : -2147483648 ≤ a ∧ a ≤ 2147483647) (hb : -2147483648 ≤ b ∧ b ≤ 2147483647) (hc : -2147483648 ≤ c ∧ c ≤ 2147483647)
    (hM : m % 1000000000 = M) (hN : n % 1000000000 = N) (hq : m % 1000 = q) (hk : cmpF a M b N = -1) (hk2 : cmpF b N a M = 1) (ho : a = b ∧ M < N) (hJ : cmpF b N c 5 ≤ 0) (hL : cmpF a M c 5 ≤ 0) :
    Calls Tryd.prog 7 #[.int .i32 a, .int .i32 b, .int .i32 c, .int .u32 m, .int .u32 n] w fun e w' => e = .returned (.bool true) ∧ Below w.heap.size w w' := by
  have hq0 : 0 ≤ q ∧ q < 1000 := by omega
  have HC1 := Lib.hid (fun W => by have := cmp_any a M b N W; rw [hk] at this; exact this)
  have HC2 := Lib.hid (fun W => by have := cmp_any b N a M W; rw [hk2] at this; exact this)
  have HC3 := Lib.hid (fun W => cmp_any b N c 5 W)
  have HC4 := Lib.hid (fun W => cmp_any a M c 5 W)
  have HD := Lib.hid (fun W => refDigits_int q W hq0.1 (by omega))
  have hmt : mayF q 250000000 = true := by rw [may_iff]; omega
  have hP : ∀ W, Amb W → Calls Tryd.prog 11 #[.string ((⟨(itoa q).toArray⟩ : ByteArray) ++ ⟨#[46, 50, 53]⟩)] W fun e w' => e = .returned (.tuple #[.agg #[.int .i64 q, .int .i64 250000000], .bool true]) ∧ Below W.heap.size W w' := by
    intro W hA
    have e1 : ((⟨(itoa q).toArray⟩ : ByteArray) ++ ⟨#[46, 50, 53]⟩).data.toList = textF q 250000000 := by rw [bytes_list, text_quarter q hq0.1]
    have hl := DecM.itoa_len q (by omega) (by omega)
    have := parse_yes ((⟨(itoa q).toArray⟩ : ByteArray) ++ ⟨#[46, 50, 53]⟩) W hA (by rw [ByteArray.size_append, Lib.size_mk]; have : (⟨#[46, 50, 53]⟩ : ByteArray).size = 3 := rfl; omega) (by rw [e1]; exact parse_text _ _ hmt)
    obtain ⟨g1, g2⟩ := guess_text _ _ hmt
    rw [e1, g1, g2] at this
    exact this
  have HP := Lib.hid hP
  have hil := (DecM.itoa_len q (by omega) (by omega)).2
  clear hmt hP hk hk2
  generalize itoa q = L at *
  have : (a == b) = true := by rw [beq_iff_eq]; omega
  have : (M == N) = false := by rw [beq_eq_false_iff_ne]; omega
  have : decide (0 < cmpF b N c 5) = false := by simp; omega
  have : decide (cmpF a M c 5 ≤ 0) = true := by simpa using hL
  clear ho
  generalize cmpF b N c 5 = J at *
  generalize cmpF a M c 5 = L2 at *
  go_enter Tryd.func7, Tryd.ntmps7
  go_wp2_with fail
  refine (HC1.out _).mono ?_
  rintro e w1 ⟨rfl, hbw1⟩
  have hzw1 := hbw1.size
  try simp at hzw1
  have : w.heap.size < w1.heap.size := by omega
  have : w.heap.size ≤ w1.heap.size := by omega
  have : w1.cell? ⟨w.heap.size, 0, none⟩ = some (.int .i64 a) := cell_kept hbw1 (by simp [go_sem, *])
  have : w1.frozen? ⟨w.heap.size, 0, none⟩ = false := free_kept hbw1 (v := .int .i64 a) (by simp [go_sem, *]) (by simp [go_sem, *])
  have : w.heap.size < w1.heap.size := by omega
  have : w.heap.size ≤ w1.heap.size := by omega
  have : w1.cell? ⟨w.heap.size, 1, none⟩ = some (.int .i64 M) := cell_kept hbw1 (by simp [go_sem, *])
  have : w1.frozen? ⟨w.heap.size, 1, none⟩ = false := free_kept hbw1 (v := .int .i64 M) (by simp [go_sem, *]) (by simp [go_sem, *])
  have : w.heap.size + 1 < w1.heap.size := by omega
  have : w.heap.size + 1 ≤ w1.heap.size := by omega
  have : w1.cell? ⟨w.heap.size + 1, 0, none⟩ = some (.int .i64 b) := cell_kept hbw1 (by simp [go_sem, *])
  have : w1.frozen? ⟨w.heap.size + 1, 0, none⟩ = false := free_kept hbw1 (v := .int .i64 b) (by simp [go_sem, *]) (by simp [go_sem, *])
  have : w.heap.size + 1 < w1.heap.size := by omega
  have : w.heap.size + 1 ≤ w1.heap.size := by omega
  have : w1.cell? ⟨w.heap.size + 1, 1, none⟩ = some (.int .i64 N) := cell_kept hbw1 (by simp [go_sem, *])
  have : w1.frozen? ⟨w.heap.size + 1, 1, none⟩ = false := free_kept hbw1 (v := .int .i64 N) (by simp [go_sem, *]) (by simp [go_sem, *])
  have : w.heap.size + 1 + 1 < w1.heap.size := by omega
  have : w.heap.size + 1 + 1 ≤ w1.heap.size := by omega
  have : w1.cell? ⟨w.heap.size + 1 + 1, 0, none⟩ = some (.int .i64 c) := cell_kept hbw1 (by simp [go_sem, *])
  have : w1.frozen? ⟨w.heap.size + 1 + 1, 0, none⟩ = false := free_kept hbw1 (v := .int .i64 c) (by simp [go_sem, *]) (by simp [go_sem, *])
  have : w.heap.size + 1 + 1 < w1.heap.size := by omega
  have : w.heap.size + 1 + 1 ≤ w1.heap.size := by omega
  have : w1.cell? ⟨w.heap.size + 1 + 1, 1, none⟩ = some (.int .i64 5) := cell_kept hbw1 (by simp [go_sem, *])
  have : w1.frozen? ⟨w.heap.size + 1 + 1, 1, none⟩ = false := free_kept hbw1 (v := .int .i64 5) (by simp [go_sem, *]) (by simp [go_sem, *])
  go_wp2_with fail
  refine (HD.out _).mono ?_
  rintro e w2 ⟨rfl, hbw2⟩
  have hzw2 := hbw2.size
  try simp at hzw2
  have : w.heap.size < w2.heap.size := by omega
  have : w.heap.size ≤ w2.heap.size := by omega
  have : w2.cell? ⟨w.heap.size, 0, none⟩ = some (.int .i64 a) := cell_kept hbw2 (by simp [go_sem, *])
  have : w2.frozen? ⟨w.heap.size, 0, none⟩ = false := free_kept hbw2 (v := .int .i64 a) (by simp [go_sem, *]) (by simp [go_sem, *])
  have : w.heap.size < w2.heap.size := by omega
  have : w.heap.size ≤ w2.heap.size := by omega
  have : w2.cell? ⟨w.heap.size, 1, none⟩ = some (.int .i64 M) := cell_kept hbw2 (by simp [go_sem, *])
  have : w2.frozen? ⟨w.heap.size, 1, none⟩ = false := free_kept hbw2 (v := .int .i64 M) (by simp [go_sem, *]) (by simp [go_sem, *])
  have : w.heap.size + 1 < w2.heap.size := by omega
  have : w.heap.size + 1 ≤ w2.heap.size := by omega
  have : w2.cell? ⟨w.heap.size + 1, 0, none⟩ = some (.int .i64 b) := cell_kept hbw2 (by simp [go_sem, *])
  have : w2.frozen? ⟨w.heap.size + 1, 0, none⟩ = false := free_kept hbw2 (v := .int .i64 b) (by simp [go_sem, *]) (by simp [go_sem, *])
  have : w.heap.size + 1 < w2.heap.size := by omega
  have : w.heap.size + 1 ≤ w2.heap.size := by omega
  have : w2.cell? ⟨w.heap.size + 1, 1, none⟩ = some (.int .i64 N) := cell_kept hbw2 (by simp [go_sem, *])
  have : w2.frozen? ⟨w.heap.size + 1, 1, none⟩ = false := free_kept hbw2 (v := .int .i64 N) (by simp [go_sem, *]) (by simp [go_sem, *])
  have : w.heap.size + 1 + 1 < w2.heap.size := by omega
  have : w.heap.size + 1 + 1 ≤ w2.heap.size := by omega
  have : w2.cell? ⟨w.heap.size + 1 + 1, 0, none⟩ = some (.int .i64 c) := cell_kept hbw2 (by simp [go_sem, *])
  have : w2.frozen? ⟨w.heap.size + 1 + 1, 0, none⟩ = false := free_kept hbw2 (v := .int .i64 c) (by simp [go_sem, *]) (by simp [go_sem, *])
  have : w.heap.size + 1 + 1 < w2.heap.size := by omega
  have : w.heap.size + 1 + 1 ≤ w2.heap.size := by omega
  have : w2.cell? ⟨w.heap.size + 1 + 1, 1, none⟩ = some (.int .i64 5) := cell_kept hbw2 (by simp [go_sem, *])
  have : w2.frozen? ⟨w.heap.size + 1 + 1, 1, none⟩ = false := free_kept hbw2 (v := .int .i64 5) (by simp [go_sem, *]) (by simp [go_sem, *])
  go_wp2_with fail
  refine (HP.out _ (hA.on (by (repeat' (first | exact Below.refl _ _ | assumption | refine gr_drew ?_ | refine gr_drewN ?_ _ | refine gr_alloc ?_ _ | refine gr_set ?_ ?_ _ | refine gr_call ?_ (by assumption)) <;> (try (simp; done)) <;> (try (simp; omega)) <;> (try omega))))).mono ?_
  rintro e w3 ⟨rfl, hbw3⟩
  have hzw3 := hbw3.size
  try simp at hzw3
  have : w.heap.size < w3.heap.size := by omega
  have : w.heap.size ≤ w3.heap.size := by omega
  have : w3.cell? ⟨w.heap.size, 0, none⟩ = some (.int .i64 a) := cell_kept hbw3 (by simp [go_sem, *])
  have : w3.frozen? ⟨w.heap.size, 0, none⟩ = false := free_kept hbw3 (v := .int .i64 a) (by simp [go_sem, *]) (by simp [go_sem, *])
  have : w.heap.size < w3.heap.size := by omega
  have : w.heap.size ≤ w3.heap.size := by omega
  have : w3.cell? ⟨w.heap.size, 1, none⟩ = some (.int .i64 M) := cell_kept hbw3 (by simp [go_sem, *])
  have : w3.frozen? ⟨w.heap.size, 1, none⟩ = false := free_kept hbw3 (v := .int .i64 M) (by simp [go_sem, *]) (by simp [go_sem, *])
  have : w.heap.size + 1 < w3.heap.size := by omega
  have : w.heap.size + 1 ≤ w3.heap.size := by omega
  have : w3.cell? ⟨w.heap.size + 1, 0, none⟩ = some (.int .i64 b) := cell_kept hbw3 (by simp [go_sem, *])
  have : w3.frozen? ⟨w.heap.size + 1, 0, none⟩ = false := free_kept hbw3 (v := .int .i64 b) (by simp [go_sem, *]) (by simp [go_sem, *])
  have : w.heap.size + 1 < w3.heap.size := by omega
  have : w.heap.size + 1 ≤ w3.heap.size := by omega
  have : w3.cell? ⟨w.heap.size + 1, 1, none⟩ = some (.int .i64 N) := cell_kept hbw3 (by simp [go_sem, *])
  have : w3.frozen? ⟨w.heap.size + 1, 1, none⟩ = false := free_kept hbw3 (v := .int .i64 N) (by simp [go_sem, *]) (by simp [go_sem, *])
  have : w.heap.size + 1 + 1 < w3.heap.size := by omega
  have : w.heap.size + 1 + 1 ≤ w3.heap.size := by omega
  have : w3.cell? ⟨w.heap.size + 1 + 1, 0, none⟩ = some (.int .i64 c) := cell_kept hbw3 (by simp [go_sem, *])
  have : w3.frozen? ⟨w.heap.size + 1 + 1, 0, none⟩ = false := free_kept hbw3 (v := .int .i64 c) (by simp [go_sem, *]) (by simp [go_sem, *])
  have : w.heap.size + 1 + 1 < w3.heap.size := by omega
  have : w.heap.size + 1 + 1 ≤ w3.heap.size := by omega
  have : w3.cell? ⟨w.heap.size + 1 + 1, 1, none⟩ = some (.int .i64 5) := cell_kept hbw3 (by simp [go_sem, *])
  have : w3.frozen? ⟨w.heap.size + 1 + 1, 1, none⟩ = false := free_kept hbw3 (v := .int .i64 5) (by simp [go_sem, *]) (by simp [go_sem, *])
  go_wp2_with fail
  refine (HC2.out _).mono ?_
  rintro e w4 ⟨rfl, hbw4⟩
  have hzw4 := hbw4.size
  try simp at hzw4
  have : w.heap.size < w4.heap.size := by omega
  have : w.heap.size ≤ w4.heap.size := by omega
  have : w4.cell? ⟨w.heap.size, 0, none⟩ = some (.int .i64 a) := cell_kept hbw4 (by simp [go_sem, *])
  have : w4.frozen? ⟨w.heap.size, 0, none⟩ = false := free_kept hbw4 (v := .int .i64 a) (by simp [go_sem, *]) (by simp [go_sem, *])
  have : w.heap.size < w4.heap.size := by omega
  have : w.heap.size ≤ w4.heap.size := by omega
  have : w4.cell? ⟨w.heap.size, 1, none⟩ = some (.int .i64 M) := cell_kept hbw4 (by simp [go_sem, *])
  have : w4.frozen? ⟨w.heap.size, 1, none⟩ = false := free_kept hbw4 (v := .int .i64 M) (by simp [go_sem, *]) (by simp [go_sem, *])
  have : w.heap.size + 1 < w4.heap.size := by omega
  have : w.heap.size + 1 ≤ w4.heap.size := by omega
  have : w4.cell? ⟨w.heap.size + 1, 0, none⟩ = some (.int .i64 b) := cell_kept hbw4 (by simp [go_sem, *])
  have : w4.frozen? ⟨w.heap.size + 1, 0, none⟩ = false := free_kept hbw4 (v := .int .i64 b) (by simp [go_sem, *]) (by simp [go_sem, *])
  have : w.heap.size + 1 < w4.heap.size := by omega
  have : w.heap.size + 1 ≤ w4.heap.size := by omega
  have : w4.cell? ⟨w.heap.size + 1, 1, none⟩ = some (.int .i64 N) := cell_kept hbw4 (by simp [go_sem, *])
  have : w4.frozen? ⟨w.heap.size + 1, 1, none⟩ = false := free_kept hbw4 (v := .int .i64 N) (by simp [go_sem, *]) (by simp [go_sem, *])
  have : w.heap.size + 1 + 1 < w4.heap.size := by omega
  have : w.heap.size + 1 + 1 ≤ w4.heap.size := by omega
  have : w4.cell? ⟨w.heap.size + 1 + 1, 0, none⟩ = some (.int .i64 c) := cell_kept hbw4 (by simp [go_sem, *])
  have : w4.frozen? ⟨w.heap.size + 1 + 1, 0, none⟩ = false := free_kept hbw4 (v := .int .i64 c) (by simp [go_sem, *]) (by simp [go_sem, *])
  have : w.heap.size + 1 + 1 < w4.heap.size := by omega
  have : w.heap.size + 1 + 1 ≤ w4.heap.size := by omega
  have : w4.cell? ⟨w.heap.size + 1 + 1, 1, none⟩ = some (.int .i64 5) := cell_kept hbw4 (by simp [go_sem, *])
  have : w4.frozen? ⟨w.heap.size + 1 + 1, 1, none⟩ = false := free_kept hbw4 (v := .int .i64 5) (by simp [go_sem, *]) (by simp [go_sem, *])
  have : w3.heap.size < w4.heap.size := by omega
  have : w3.heap.size ≤ w4.heap.size := by omega
  have : w4.cell? ⟨w3.heap.size, 0, none⟩ = some (.int .i64 q) := cell_kept hbw4 (by simp [go_sem, *])
  have : w4.frozen? ⟨w3.heap.size, 0, none⟩ = false := free_kept hbw4 (v := .int .i64 q) (by simp [go_sem, *]) (by simp [go_sem, *])
  have : w3.heap.size < w4.heap.size := by omega
  have : w3.heap.size ≤ w4.heap.size := by omega
  have : w4.cell? ⟨w3.heap.size, 1, none⟩ = some (.int .i64 250000000) := cell_kept hbw4 (by simp [go_sem, *])
  have : w4.frozen? ⟨w3.heap.size, 1, none⟩ = false := free_kept hbw4 (v := .int .i64 250000000) (by simp [go_sem, *]) (by simp [go_sem, *])
  go_wp2_with fail
  refine (HC3.out _).mono ?_
  rintro e w5 ⟨rfl, hbw5⟩
  have hzw5 := hbw5.size
  try simp at hzw5
  have : w.heap.size < w5.heap.size := by omega
  have : w.heap.size ≤ w5.heap.size := by omega
  have : w5.cell? ⟨w.heap.size, 0, none⟩ = some (.int .i64 a) := cell_kept hbw5 (by simp [go_sem, *])
  have : w5.frozen? ⟨w.heap.size, 0, none⟩ = false := free_kept hbw5 (v := .int .i64 a) (by simp [go_sem, *]) (by simp [go_sem, *])
  have : w.heap.size < w5.heap.size := by omega
  have : w.heap.size ≤ w5.heap.size := by omega
  have : w5.cell? ⟨w.heap.size, 1, none⟩ = some (.int .i64 M) := cell_kept hbw5 (by simp [go_sem, *])
  have : w5.frozen? ⟨w.heap.size, 1, none⟩ = false := free_kept hbw5 (v := .int .i64 M) (by simp [go_sem, *]) (by simp [go_sem, *])
  have : w.heap.size + 1 < w5.heap.size := by omega
  have : w.heap.size + 1 ≤ w5.heap.size := by omega
  have : w5.cell? ⟨w.heap.size + 1, 0, none⟩ = some (.int .i64 b) := cell_kept hbw5 (by simp [go_sem, *])
  have : w5.frozen? ⟨w.heap.size + 1, 0, none⟩ = false := free_kept hbw5 (v := .int .i64 b) (by simp [go_sem, *]) (by simp [go_sem, *])
  have : w.heap.size + 1 < w5.heap.size := by omega
  have : w.heap.size + 1 ≤ w5.heap.size := by omega
  have : w5.cell? ⟨w.heap.size + 1, 1, none⟩ = some (.int .i64 N) := cell_kept hbw5 (by simp [go_sem, *])
  have : w5.frozen? ⟨w.heap.size + 1, 1, none⟩ = false := free_kept hbw5 (v := .int .i64 N) (by simp [go_sem, *]) (by simp [go_sem, *])
  have : w.heap.size + 1 + 1 < w5.heap.size := by omega
  have : w.heap.size + 1 + 1 ≤ w5.heap.size := by omega
  have : w5.cell? ⟨w.heap.size + 1 + 1, 0, none⟩ = some (.int .i64 c) := cell_kept hbw5 (by simp [go_sem, *])
  have : w5.frozen? ⟨w.heap.size + 1 + 1, 0, none⟩ = false := free_kept hbw5 (v := .int .i64 c) (by simp [go_sem, *]) (by simp [go_sem, *])
  have : w.heap.size + 1 + 1 < w5.heap.size := by omega
  have : w.heap.size + 1 + 1 ≤ w5.heap.size := by omega
  have : w5.cell? ⟨w.heap.size + 1 + 1, 1, none⟩ = some (.int .i64 5) := cell_kept hbw5 (by simp [go_sem, *])
  have : w5.frozen? ⟨w.heap.size + 1 + 1, 1, none⟩ = false := free_kept hbw5 (v := .int .i64 5) (by simp [go_sem, *]) (by simp [go_sem, *])
  have : w3.heap.size < w5.heap.size := by omega
  have : w3.heap.size ≤ w5.heap.size := by omega
  have : w5.cell? ⟨w3.heap.size, 0, none⟩ = some (.int .i64 q) := cell_kept hbw5 (by simp [go_sem, *])
  have : w5.frozen? ⟨w3.heap.size, 0, none⟩ = false := free_kept hbw5 (v := .int .i64 q) (by simp [go_sem, *]) (by simp [go_sem, *])
  have : w3.heap.size < w5.heap.size := by omega
  have : w3.heap.size ≤ w5.heap.size := by omega
  have : w5.cell? ⟨w3.heap.size, 1, none⟩ = some (.int .i64 250000000) := cell_kept hbw5 (by simp [go_sem, *])
  have : w5.frozen? ⟨w3.heap.size, 1, none⟩ = false := free_kept hbw5 (v := .int .i64 250000000) (by simp [go_sem, *]) (by simp [go_sem, *])
  go_wp2_with fail
  refine (HC4.out _).mono ?_
  rintro e w6 ⟨rfl, hbw6⟩
  have hzw6 := hbw6.size
  try simp at hzw6
  have : w.heap.size < w6.heap.size := by omega
  have : w.heap.size ≤ w6.heap.size := by omega
  have : w6.cell? ⟨w.heap.size, 0, none⟩ = some (.int .i64 a) := cell_kept hbw6 (by simp [go_sem, *])
  have : w6.frozen? ⟨w.heap.size, 0, none⟩ = false := free_kept hbw6 (v := .int .i64 a) (by simp [go_sem, *]) (by simp [go_sem, *])
  have : w.heap.size < w6.heap.size := by omega
  have : w.heap.size ≤ w6.heap.size := by omega
  have : w6.cell? ⟨w.heap.size, 1, none⟩ = some (.int .i64 M) := cell_kept hbw6 (by simp [go_sem, *])
  have : w6.frozen? ⟨w.heap.size, 1, none⟩ = false := free_kept hbw6 (v := .int .i64 M) (by simp [go_sem, *]) (by simp [go_sem, *])
  have : w.heap.size + 1 < w6.heap.size := by omega
  have : w.heap.size + 1 ≤ w6.heap.size := by omega
  have : w6.cell? ⟨w.heap.size + 1, 0, none⟩ = some (.int .i64 b) := cell_kept hbw6 (by simp [go_sem, *])
  have : w6.frozen? ⟨w.heap.size + 1, 0, none⟩ = false := free_kept hbw6 (v := .int .i64 b) (by simp [go_sem, *]) (by simp [go_sem, *])
  have : w.heap.size + 1 < w6.heap.size := by omega
  have : w.heap.size + 1 ≤ w6.heap.size := by omega
  have : w6.cell? ⟨w.heap.size + 1, 1, none⟩ = some (.int .i64 N) := cell_kept hbw6 (by simp [go_sem, *])
  have : w6.frozen? ⟨w.heap.size + 1, 1, none⟩ = false := free_kept hbw6 (v := .int .i64 N) (by simp [go_sem, *]) (by simp [go_sem, *])
  have : w.heap.size + 1 + 1 < w6.heap.size := by omega
  have : w.heap.size + 1 + 1 ≤ w6.heap.size := by omega
  have : w6.cell? ⟨w.heap.size + 1 + 1, 0, none⟩ = some (.int .i64 c) := cell_kept hbw6 (by simp [go_sem, *])
  have : w6.frozen? ⟨w.heap.size + 1 + 1, 0, none⟩ = false := free_kept hbw6 (v := .int .i64 c) (by simp [go_sem, *]) (by simp [go_sem, *])
  have : w.heap.size + 1 + 1 < w6.heap.size := by omega
  have : w.heap.size + 1 + 1 ≤ w6.heap.size := by omega
  have : w6.cell? ⟨w.heap.size + 1 + 1, 1, none⟩ = some (.int .i64 5) := cell_kept hbw6 (by simp [go_sem, *])
  have : w6.frozen? ⟨w.heap.size + 1 + 1, 1, none⟩ = false := free_kept hbw6 (v := .int .i64 5) (by simp [go_sem, *]) (by simp [go_sem, *])
  have : w3.heap.size < w6.heap.size := by omega
  have : w3.heap.size ≤ w6.heap.size := by omega
  have : w6.cell? ⟨w3.heap.size, 0, none⟩ = some (.int .i64 q) := cell_kept hbw6 (by simp [go_sem, *])
  have : w6.frozen? ⟨w3.heap.size, 0, none⟩ = false := free_kept hbw6 (v := .int .i64 q) (by simp [go_sem, *]) (by simp [go_sem, *])
  have : w3.heap.size < w6.heap.size := by omega
  have : w3.heap.size ≤ w6.heap.size := by omega
  have : w6.cell? ⟨w3.heap.size, 1, none⟩ = some (.int .i64 250000000) := cell_kept hbw6 (by simp [go_sem, *])
  have : w6.frozen? ⟨w3.heap.size, 1, none⟩ = false := free_kept hbw6 (v := .int .i64 250000000) (by simp [go_sem, *]) (by simp [go_sem, *])
  go_wp2_with fail
  refine (awake_any _ (hA.on (by (repeat' (first | exact Below.refl _ _ | assumption | refine gr_drew ?_ | refine gr_drewN ?_ _ | refine gr_alloc ?_ _ | refine gr_set ?_ ?_ _ | refine gr_call ?_ (by assumption)) <;> (try (simp; done)) <;> (try (simp; omega)) <;> (try omega))))).mono ?_
  rintro e w7 ⟨rfl, hbw7⟩
  have hzw7 := hbw7.size
  try simp at hzw7
  go_wp2_with fail
  go_ret
  exact ⟨rfl, by (repeat' (first | exact Below.refl _ _ | assumption | refine gr_drew ?_ | refine gr_drewN ?_ _ | refine gr_alloc ?_ _ | refine gr_set ?_ ?_ _ | refine gr_call ?_ (by assumption)) <;> (try (simp; done)) <;> (try (simp; omega)) <;> (try omega))⟩

theorem cmpF_le (a M b N c K : Int) (h : cmpF a M b N = -1 ∨ cmpF a M b N = 0) (hJ : cmpF b N c K ≤ 0) : cmpF a M c K ≤ 0 := by
  rcases cmpF_cases a M b N with ⟨h1, _, _⟩ | ⟨_, _, h3⟩ | ⟨_, _, h3, h4⟩
  · omega
  · rcases cmpF_cases b N c K with ⟨k1, _, _⟩ | ⟨_, _, k3⟩ | ⟨_, _, k3, k4⟩
    · omega
    · rcases cmpF_cases a M c K with ⟨l1, _, l3⟩ | ⟨l1, _, l3⟩ | ⟨l1, _, l3⟩ <;> omega
    · rcases cmpF_cases a M c K with ⟨l1, _, l3⟩ | ⟨l1, _, l3⟩ | ⟨l1, _, l3⟩ <;> omega
  · subst h3 h4; exact hJ
theorem stampOrder_walk (a0 : Int) (a1 : Int) (a2 : Int) (a3 : Int) (a4 : Int) (w : World) (hA : Amb w) (w0 : (Lit.int .i32 a0).wf = true) (w1 : (Lit.int .i32 a1).wf = true) (w2 : (Lit.int .i32 a2).wf = true) (w3 : (Lit.int .u32 a3).wf = true) (w4 : (Lit.int .u32 a4).wf = true) :
    Calls Tryd.prog 7 #[.int .i32 a0, .int .i32 a1, .int .i32 a2, .int .u32 a3, .int .u32 a4] w fun e w' => e = .returned (.bool true) ∧ Below w.heap.size w w' := by
  have hb0 := boundsI32 w0
  have hb1 := boundsI32 w1
  have hb2 := boundsI32 w2
  have hb3 := boundsU32 w3
  have hb4 := boundsU32 w4
  rcases cmpF_cases a0 (a3 % 1000000000) a1 (a4 % 1000000000) with ⟨h1, h2, h3 | h3⟩ | ⟨h1, h2, h3⟩ | ⟨h1, h2, h3⟩
  · exact ord_ga a0 a1 a2 a3 a4 _ _ _ w hA hb3 hb4 hb0 hb1 hb2 rfl rfl rfl h1 h2 h3
  · exact ord_gm a0 a1 a2 a3 a4 _ _ _ w hA hb3 hb4 hb0 hb1 hb2 rfl rfl rfl h1 h2 h3
  · by_cases hJ : 0 < cmpF a1 (a4 % 1000000000) a2 5
    · rcases h3 with h3 | h3
      · exact ord_la_p a0 a1 a2 a3 a4 _ _ _ w hA hb3 hb4 hb0 hb1 hb2 rfl rfl rfl h1 h2 h3 hJ
      · exact ord_lm_p a0 a1 a2 a3 a4 _ _ _ w hA hb3 hb4 hb0 hb1 hb2 rfl rfl rfl h1 h2 h3 hJ
    · have hL := cmpF_le a0 (a3 % 1000000000) a1 (a4 % 1000000000) a2 5 (.inl h1) (by omega)
      rcases h3 with h3 | h3
      · exact ord_la_n a0 a1 a2 a3 a4 _ _ _ w hA hb3 hb4 hb0 hb1 hb2 rfl rfl rfl h1 h2 h3 (by omega) hL
      · exact ord_lm_n a0 a1 a2 a3 a4 _ _ _ w hA hb3 hb4 hb0 hb1 hb2 rfl rfl rfl h1 h2 h3 (by omega) hL
  · by_cases hJ : 0 < cmpF a1 (a4 % 1000000000) a2 5
    · exact ord_e_p a0 a1 a2 a3 a4 _ _ _ w hA hb3 hb4 hb0 hb1 hb2 rfl rfl rfl h1 h2 h3 hJ
    · have hL := cmpF_le a0 (a3 % 1000000000) a1 (a4 % 1000000000) a2 5 (.inr h1) (by omega)
      exact ord_e_n a0 a1 a2 a3 a4 _ _ _ w hA hb3 hb4 hb0 hb1 hb2 rfl rfl rfl h1 h2 h3 (by omega) hL
end Go.Proofs.YtaobkniecgiplaaDoor
