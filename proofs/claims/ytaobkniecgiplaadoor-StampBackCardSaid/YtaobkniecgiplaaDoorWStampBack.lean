/- The walk of the law StampBack. -/
import Derived.Test.YtaobkniecgiplaaDoorStampAwake
import Derived.Test.YtaobkniecgiplaaDoorByteRow
namespace Go.Proofs.YtaobkniecgiplaaDoor
open Go.RowKit
open StampM

theorem back_same {l : List UInt8} {A N : Int} (h : parseOk l = true) (hm : mayF A N = true) (hne : l ≠ textF A N) : ¬ (guessS l = A ∧ guessN l = N) := by
  rintro ⟨h1, h2⟩
  obtain ⟨_, ht⟩ := parse_of h
  rw [h1, h2] at ht
  exact hne ht.symm
theorem u8_of (x : Int) (h0 : 0 ≤ x) (h1 : x ≤ 255) : ∃ b : UInt8, ((b.toNat : Nat) : Int) = x := ⟨UInt8.ofNat x.toNat, by simp; omega⟩

set_option maxRecDepth 100000 in
set_option maxHeartbeats 1000000 in
theorem back_1 (a0 a1 a2 a3 A N : Int) (s : ByteArray) (T : List UInt8) (i : Nat) (b : UInt8) (w : World) (hA : Amb w) (hb0 : -9223372036854775808 ≤ a0 ∧ a0 ≤ 9223372036854775807) (hb1 : 0 ≤ a1 ∧ a1 ≤ 4294967295) (hb2 : 0 ≤ a2 ∧ a2 ≤ 255) (hb3 : 0 ≤ a3 ∧ a3 ≤ 255)
    (hAe : a0.tmod 1099511627777 = A) (hNe : a1 % 1000000000 = N) (hm : mayF A N = true) (hT : textF A N = T) (hs : s = ⟨T.toArray⟩) (hi : a2 % (T.length : Int) = (i : Int)) (hbe : ((b.toNat : Nat) : Int) = a3)
    (hset : T.set i b = T) :
    Calls Tryd.prog 6 #[.int .i64 a0, .int .u32 a1, .int .u8 a2, .int .u8 a3] w fun e w' => e = .returned (.bool true) ∧ Below w.heap.size w w' := by
  have hlen := text_len A N hm
  have hT0 := text_shape A N hm
  have hsl : s.data.toList = T := by rw [hs]
  have hsz : s.size = T.length := by rw [hs]; exact Lib.size_mk T
  have hsz2 : s.size ≤ 30 := by rw [hsz, ← hT]; exact hlen.2
  have hsz1 : 1 ≤ s.size := by rw [hsz, ← hT]; exact hlen.1
  have HT := Lib.hid (fun W hA => by
    have := text_any A N W hA hm
    rw [hT, ← hs] at this
    exact this)
  obtain ⟨g1, g2⟩ := guess_text A N hm
  have HP := Lib.hid (fun W hA => by
    have := parse_yes s W hA (by omega) (by rw [hsl, ← hT]; exact parse_text A N hm)
    rw [hsl, ← hT, g1, g2] at this
    exact this)
  have HP1 := Lib.hid (fun W hA => parse_no (⟨#[43]⟩ ++ s) W hA (by rw [ByteArray.size_append]; have : (⟨#[43]⟩ : ByteArray).size = 1 := rfl; omega) (by
    rw [bytes_list, hsl, ← hT]; exact back_plus A N hm))
  have HP2 := Lib.hid (fun W hA => parse_no (s ++ ⟨#[46]⟩) W hA (by rw [ByteArray.size_append]; have : (⟨#[46]⟩ : ByteArray).size = 1 := rfl; omega) (by
    rw [bytes_list, hsl, ← hT]; exact back_end A N 46 (by decide)))
  have HP3 := Lib.hid (fun W hA => parse_no (s ++ ⟨#[32]⟩) W hA (by rw [ByteArray.size_append]; have : (⟨#[32]⟩ : ByteArray).size = 1 := rfl; omega) (by
    rw [bytes_list, hsl, ← hT]; exact back_end A N 32 (by decide)))
  have HP4 := Lib.hid (fun W hA => parse_no (⟨#[48]⟩ ++ s) W hA (by rw [ByteArray.size_append]; have : (⟨#[48]⟩ : ByteArray).size = 1 := rfl; omega) (by
    rw [bytes_list, hsl, ← hT]; exact back_zero A N hm))
  have hq0 : s.data.toList.isEmpty = false := by rw [hsl]; cases T with
    | nil => rw [hsz] at hsz1; simp at hsz1
    | cons c r => rfl
  have hq1 : s.toList.isEmpty = false := by rw [ByteArray.toList_eq]; exact hq0
  have hq2 : (s.toList == []) = false := by rw [ByteArray.toList_eq]; cases h : s.data.toList with
    | nil => rw [h] at hq0; cases hq0
    | cons c r => rfl
  have hilt : i < T.length := by
    have : a2 % (T.length : Int) < (T.length : Int) := Int.emod_lt_of_pos _ (by omega)
    omega
  have hcv : ∀ W, (convert 9 41 (.string s)).run Tryd.prog W = .ok (.slice (some ⟨W.heap.size, 0, none⟩) s.size (grownCap W s.size 0 5)) (Lib.bytesWorld W 5 s) := fun W =>
    Lib.run_convert_string_bytes (P := Tryd.prog) W 9 41 5 s Tryd.underlying9 Tryd.underlying41 Tryd.underlying5
  have hil : i < s.size := by omega
  have hi' : a2 % (s.size : Int) = (i : Int) := by rw [hsz]; exact hi
  have hqe : (T.set i b == s.toList) = true := by rw [ByteArray.toList_eq, hsl, hset]; simp
  have e1 : (⟨(T.set i b).toArray⟩ : ByteArray).data.toList = textF A N := by rw [hT]; exact hset
  have hQ : ∀ W, Amb W → Calls Tryd.prog 11 #[.string ⟨(T.set i b).toArray⟩] W fun e w' => e = .returned (.tuple #[.agg #[.int .i64 A, .int .i64 N], .bool true]) ∧ Below W.heap.size W w' := by
    intro W hA
    have := parse_yes ⟨(T.set i b).toArray⟩ W hA (by rw [Lib.size_mk, List.length_set]; omega) (by rw [e1]; exact parse_text A N hm)
    rw [e1, g1, g2] at this
    exact this
  have HQ := Lib.hid hQ
  clear hQ e1 hset
  have Hcv := Lib.hid hcv
  have Hsl := Lib.hid hsl
  have Hsz := Lib.hid hsz
  have Hbe := Lib.hid hbe
  clear hcv hsl hsz hbe hlen hT0 hT hs hm g1 g2 hi
  have hsB : ¬ 9223372036854775807 < 1 + s.size := by omega
  have hsC : ¬ 9223372036854775807 < s.size + 1 := by omega
  go_enter Tryd.func6, Tryd.ntmps6
  go_wp2_with fail
  refine (HT.out _ (hA.on (by (repeat' (first | exact Below.refl _ _ | assumption | refine gr_drew ?_ | refine gr_drewN ?_ _ | refine gr_alloc ?_ _ | refine gr_set ?_ ?_ _ | refine gr_call ?_ (by assumption)) <;> (try (simp; done)) <;> (try (simp; omega)) <;> (try omega))))).mono ?_
  rintro e w1 ⟨rfl, hbw1⟩
  have hzw1 := hbw1.size
  try simp at hzw1
  have : w.heap.size < w1.heap.size := by omega
  have : w.heap.size ≤ w1.heap.size := by omega
  have : w1.cell? ⟨w.heap.size, 0, none⟩ = some (.int .i64 A) := cell_kept hbw1 (by simp [go_sem, *])
  have : w1.frozen? ⟨w.heap.size, 0, none⟩ = false := free_kept hbw1 (v := .int .i64 A) (by simp [go_sem, *]) (by simp [go_sem, *])
  have : w.heap.size < w1.heap.size := by omega
  have : w.heap.size ≤ w1.heap.size := by omega
  have : w1.cell? ⟨w.heap.size, 1, none⟩ = some (.int .i64 N) := cell_kept hbw1 (by simp [go_sem, *])
  have : w1.frozen? ⟨w.heap.size, 1, none⟩ = false := free_kept hbw1 (v := .int .i64 N) (by simp [go_sem, *]) (by simp [go_sem, *])
  go_wp2_with fail
  refine (HP.out _ (hA.on (by (repeat' (first | exact Below.refl _ _ | assumption | refine gr_drew ?_ | refine gr_drewN ?_ _ | refine gr_alloc ?_ _ | refine gr_set ?_ ?_ _ | refine gr_call ?_ (by assumption)) <;> (try (simp; done)) <;> (try (simp; omega)) <;> (try omega))))).mono ?_
  rintro e w2 ⟨rfl, hbw2⟩
  have hzw2 := hbw2.size
  try simp at hzw2
  have : w.heap.size < w2.heap.size := by omega
  have : w.heap.size ≤ w2.heap.size := by omega
  have : w2.cell? ⟨w.heap.size, 0, none⟩ = some (.int .i64 A) := cell_kept hbw2 (by simp [go_sem, *])
  have : w2.frozen? ⟨w.heap.size, 0, none⟩ = false := free_kept hbw2 (v := .int .i64 A) (by simp [go_sem, *]) (by simp [go_sem, *])
  have : w.heap.size < w2.heap.size := by omega
  have : w.heap.size ≤ w2.heap.size := by omega
  have : w2.cell? ⟨w.heap.size, 1, none⟩ = some (.int .i64 N) := cell_kept hbw2 (by simp [go_sem, *])
  have : w2.frozen? ⟨w.heap.size, 1, none⟩ = false := free_kept hbw2 (v := .int .i64 N) (by simp [go_sem, *]) (by simp [go_sem, *])
  go_wp2_with fail
  refine (HP1.out _ (hA.on (by (repeat' (first | exact Below.refl _ _ | assumption | refine gr_drew ?_ | refine gr_drewN ?_ _ | refine gr_alloc ?_ _ | refine gr_set ?_ ?_ _ | refine gr_call ?_ (by assumption)) <;> (try (simp; done)) <;> (try (simp; omega)) <;> (try omega))))).mono ?_
  rintro e w3 ⟨rfl, hbw3⟩
  have hzw3 := hbw3.size
  try simp at hzw3
  have : w.heap.size < w3.heap.size := by omega
  have : w.heap.size ≤ w3.heap.size := by omega
  have : w3.cell? ⟨w.heap.size, 0, none⟩ = some (.int .i64 A) := cell_kept hbw3 (by simp [go_sem, *])
  have : w3.frozen? ⟨w.heap.size, 0, none⟩ = false := free_kept hbw3 (v := .int .i64 A) (by simp [go_sem, *]) (by simp [go_sem, *])
  have : w.heap.size < w3.heap.size := by omega
  have : w.heap.size ≤ w3.heap.size := by omega
  have : w3.cell? ⟨w.heap.size, 1, none⟩ = some (.int .i64 N) := cell_kept hbw3 (by simp [go_sem, *])
  have : w3.frozen? ⟨w.heap.size, 1, none⟩ = false := free_kept hbw3 (v := .int .i64 N) (by simp [go_sem, *]) (by simp [go_sem, *])
  go_wp2_with fail
  refine (HP2.out _ (hA.on (by (repeat' (first | exact Below.refl _ _ | assumption | refine gr_drew ?_ | refine gr_drewN ?_ _ | refine gr_alloc ?_ _ | refine gr_set ?_ ?_ _ | refine gr_call ?_ (by assumption)) <;> (try (simp; done)) <;> (try (simp; omega)) <;> (try omega))))).mono ?_
  rintro e w4 ⟨rfl, hbw4⟩
  have hzw4 := hbw4.size
  try simp at hzw4
  have : w.heap.size < w4.heap.size := by omega
  have : w.heap.size ≤ w4.heap.size := by omega
  have : w4.cell? ⟨w.heap.size, 0, none⟩ = some (.int .i64 A) := cell_kept hbw4 (by simp [go_sem, *])
  have : w4.frozen? ⟨w.heap.size, 0, none⟩ = false := free_kept hbw4 (v := .int .i64 A) (by simp [go_sem, *]) (by simp [go_sem, *])
  have : w.heap.size < w4.heap.size := by omega
  have : w.heap.size ≤ w4.heap.size := by omega
  have : w4.cell? ⟨w.heap.size, 1, none⟩ = some (.int .i64 N) := cell_kept hbw4 (by simp [go_sem, *])
  have : w4.frozen? ⟨w.heap.size, 1, none⟩ = false := free_kept hbw4 (v := .int .i64 N) (by simp [go_sem, *]) (by simp [go_sem, *])
  go_wp2_with fail
  refine (HP3.out _ (hA.on (by (repeat' (first | exact Below.refl _ _ | assumption | refine gr_drew ?_ | refine gr_drewN ?_ _ | refine gr_alloc ?_ _ | refine gr_set ?_ ?_ _ | refine gr_call ?_ (by assumption)) <;> (try (simp; done)) <;> (try (simp; omega)) <;> (try omega))))).mono ?_
  rintro e w5 ⟨rfl, hbw5⟩
  have hzw5 := hbw5.size
  try simp at hzw5
  have : w.heap.size < w5.heap.size := by omega
  have : w.heap.size ≤ w5.heap.size := by omega
  have : w5.cell? ⟨w.heap.size, 0, none⟩ = some (.int .i64 A) := cell_kept hbw5 (by simp [go_sem, *])
  have : w5.frozen? ⟨w.heap.size, 0, none⟩ = false := free_kept hbw5 (v := .int .i64 A) (by simp [go_sem, *]) (by simp [go_sem, *])
  have : w.heap.size < w5.heap.size := by omega
  have : w.heap.size ≤ w5.heap.size := by omega
  have : w5.cell? ⟨w.heap.size, 1, none⟩ = some (.int .i64 N) := cell_kept hbw5 (by simp [go_sem, *])
  have : w5.frozen? ⟨w.heap.size, 1, none⟩ = false := free_kept hbw5 (v := .int .i64 N) (by simp [go_sem, *]) (by simp [go_sem, *])
  go_wp2_with fail
  refine (HP4.out _ (hA.on (by (repeat' (first | exact Below.refl _ _ | assumption | refine gr_drew ?_ | refine gr_drewN ?_ _ | refine gr_alloc ?_ _ | refine gr_set ?_ ?_ _ | refine gr_call ?_ (by assumption)) <;> (try (simp; done)) <;> (try (simp; omega)) <;> (try omega))))).mono ?_
  rintro e w6 ⟨rfl, hbw6⟩
  have hzw6 := hbw6.size
  try simp at hzw6
  have : w.heap.size < w6.heap.size := by omega
  have : w.heap.size ≤ w6.heap.size := by omega
  have : w6.cell? ⟨w.heap.size, 0, none⟩ = some (.int .i64 A) := cell_kept hbw6 (by simp [go_sem, *])
  have : w6.frozen? ⟨w.heap.size, 0, none⟩ = false := free_kept hbw6 (v := .int .i64 A) (by simp [go_sem, *]) (by simp [go_sem, *])
  have : w.heap.size < w6.heap.size := by omega
  have : w.heap.size ≤ w6.heap.size := by omega
  have : w6.cell? ⟨w.heap.size, 1, none⟩ = some (.int .i64 N) := cell_kept hbw6 (by simp [go_sem, *])
  have : w6.frozen? ⟨w.heap.size, 1, none⟩ = false := free_kept hbw6 (v := .int .i64 N) (by simp [go_sem, *]) (by simp [go_sem, *])
  have hB6 : Below w.heap.size w (w6.alloc (.cells #[.int .i64 0, .int .i64 0] 23)) := by (repeat' (first | exact Below.refl _ _ | assumption | refine gr_drew ?_ | refine gr_drewN ?_ _ | refine gr_alloc ?_ _ | refine gr_set ?_ ?_ _ | refine gr_call ?_ (by assumption)) <;> (try (simp; done)) <;> (try (simp; omega)) <;> (try omega))
  go_upto_region 10 with fail
  have hcv3 := Hcv.out (w6.alloc (.cells #[.int .i64 0, .int .i64 0] 23))
  have hR := RowIs.of (w6.alloc (.cells #[.int .i64 0, .int .i64 0] 23)) 5 s
  rw [Hsl.out] at hR
  have hB7 := below_bytesWorld hB6 hB6.size 5 s
  have hB7' := below_bytesWorld (Below.refl (w6.alloc (.cells #[.int .i64 0, .int .i64 0] 23)).heap.size (w6.alloc (.cells #[.int .i64 0, .int .i64 0] 23))) (Nat.le_refl _) 5 s
  have k0 : (w6.alloc (.cells #[.int .i64 0, .int .i64 0] 23)).cell? ⟨w.heap.size, 0, none⟩ = some (.int .i64 A) := by simp [go_sem, *]
  have k1 : (w6.alloc (.cells #[.int .i64 0, .int .i64 0] 23)).cell? ⟨w.heap.size, 1, none⟩ = some (.int .i64 N) := by simp [go_sem, *]
  have k0' := cell_kept hB7' k0
  have k1' := cell_kept hB7' k1
  have hsz7 := hR.size
  generalize Lib.bytesWorld (w6.alloc (.cells #[.int .i64 0, .int .i64 0] 23)) 5 s = w7 at *
  simp only [World.size_alloc] at hR hsz7 hcv3
  have hc := hR.cell i hilt
  have hf := hR.free i hilt
  have hR5 := hR.put i b
  rw [Hbe.out] at hR5
  have hB8 : Below w.heap.size w (w7.setCell ⟨w6.heap.size + 1, i, none⟩ (.int .u8 a3)) := gr_set hB7 (by simp; omega) _
  have hcb := fun cap => hR5.back (P := Tryd.prog) (src := 41) (dst := 9) cap Tryd.underlying41 Tryd.underlying5 Tryd.underlying9
  rw [List.length_set, ← Hsz.out] at hcb
  have k2 : (w7.setCell ⟨w6.heap.size + 1, i, none⟩ (.int .u8 a3)).cell? ⟨w.heap.size, 0, none⟩ = some (.int .i64 A) := by rw [World.cell?_setCell_other _ _ _ _ (by intro e; injection e with e; omega)]; exact k0'
  have k3 : (w7.setCell ⟨w6.heap.size + 1, i, none⟩ (.int .u8 a3)).cell? ⟨w.heap.size, 1, none⟩ = some (.int .i64 N) := by rw [World.cell?_setCell_other _ _ _ _ (by intro e; injection e with e; omega)]; exact k1'
  have HR5 := Lib.hid hR5
  clear hR hR5 hB6 hB7 hB7' k0 k1
  go_wp2_with fail
  refine (HQ.out _ (hA.on hB8)).mono ?_
  rintro e w9 ⟨rfl, hb9⟩
  have hz9 := hb9.size
  have hR9 := HR5.out.kept hb9 (by simpa using hsz7)
  have hcb9 := fun cap => hR9.back (P := Tryd.prog) (src := 41) (dst := 9) cap Tryd.underlying41 Tryd.underlying5 Tryd.underlying9
  rw [List.length_set, ← Hsz.out] at hcb9
  have m0 := cell_kept hb9 k2
  have m1 := cell_kept hb9 k3
  have hra := fun (W : World) (o : Obj) => W
  have hRa := hR9.alloc (.cells #[.int .i64 A, .int .i64 N] 23)
  have hcba := fun cap => hRa.back (P := Tryd.prog) (src := 41) (dst := 9) cap Tryd.underlying41 Tryd.underlying5 Tryd.underlying9
  rw [List.length_set, ← Hsz.out] at hcba
  have hwl : w.heap.size < w9.heap.size := by have := block_lt m0; simpa using this
  have hwl2 : w.heap.size ≤ w9.heap.size := by omega
  clear hcb hcb9 hR9 hRa hra hc hf hcv3
  go_wp2_with fail
  refine (awake_any _ (hA.on (by (repeat' (first | exact Below.refl _ _ | assumption | refine gr_drew ?_ | refine gr_drewN ?_ _ | refine gr_alloc ?_ _ | refine gr_set ?_ ?_ _ | refine gr_call ?_ (by assumption)) <;> (try (simp; done)) <;> (try (simp; omega)) <;> (try omega))))).mono ?_
  rintro e w10 ⟨rfl, hbw10⟩
  have hzw10 := hbw10.size
  try simp at hzw10
  go_wp2_with fail
  go_ret
  exact ⟨rfl, by (repeat' (first | exact Below.refl _ _ | assumption | refine gr_drew ?_ | refine gr_drewN ?_ _ | refine gr_alloc ?_ _ | refine gr_set ?_ ?_ _ | refine gr_call ?_ (by assumption)) <;> (try (simp; done)) <;> (try (simp; omega)) <;> (try omega))⟩

set_option maxRecDepth 100000 in
set_option maxHeartbeats 1000000 in
theorem back_2 (a0 a1 a2 a3 A N : Int) (s : ByteArray) (T : List UInt8) (i : Nat) (b : UInt8) (w : World) (hA : Amb w) (hb0 : -9223372036854775808 ≤ a0 ∧ a0 ≤ 9223372036854775807) (hb1 : 0 ≤ a1 ∧ a1 ≤ 4294967295) (hb2 : 0 ≤ a2 ∧ a2 ≤ 255) (hb3 : 0 ≤ a3 ∧ a3 ≤ 255)
    (hAe : a0.tmod 1099511627777 = A) (hNe : a1 % 1000000000 = N) (hm : mayF A N = true) (hT : textF A N = T) (hs : s = ⟨T.toArray⟩) (hi : a2 % (T.length : Int) = (i : Int)) (hbe : ((b.toNat : Nat) : Int) = a3)
    (hset : T.set i b ≠ T) (hok : parseOk (T.set i b) = false) :
    Calls Tryd.prog 6 #[.int .i64 a0, .int .u32 a1, .int .u8 a2, .int .u8 a3] w fun e w' => e = .returned (.bool true) ∧ Below w.heap.size w w' := by
  have hlen := text_len A N hm
  have hT0 := text_shape A N hm
  have hsl : s.data.toList = T := by rw [hs]
  have hsz : s.size = T.length := by rw [hs]; exact Lib.size_mk T
  have hsz2 : s.size ≤ 30 := by rw [hsz, ← hT]; exact hlen.2
  have hsz1 : 1 ≤ s.size := by rw [hsz, ← hT]; exact hlen.1
  have HT := Lib.hid (fun W hA => by
    have := text_any A N W hA hm
    rw [hT, ← hs] at this
    exact this)
  obtain ⟨g1, g2⟩ := guess_text A N hm
  have HP := Lib.hid (fun W hA => by
    have := parse_yes s W hA (by omega) (by rw [hsl, ← hT]; exact parse_text A N hm)
    rw [hsl, ← hT, g1, g2] at this
    exact this)
  have HP1 := Lib.hid (fun W hA => parse_no (⟨#[43]⟩ ++ s) W hA (by rw [ByteArray.size_append]; have : (⟨#[43]⟩ : ByteArray).size = 1 := rfl; omega) (by
    rw [bytes_list, hsl, ← hT]; exact back_plus A N hm))
  have HP2 := Lib.hid (fun W hA => parse_no (s ++ ⟨#[46]⟩) W hA (by rw [ByteArray.size_append]; have : (⟨#[46]⟩ : ByteArray).size = 1 := rfl; omega) (by
    rw [bytes_list, hsl, ← hT]; exact back_end A N 46 (by decide)))
  have HP3 := Lib.hid (fun W hA => parse_no (s ++ ⟨#[32]⟩) W hA (by rw [ByteArray.size_append]; have : (⟨#[32]⟩ : ByteArray).size = 1 := rfl; omega) (by
    rw [bytes_list, hsl, ← hT]; exact back_end A N 32 (by decide)))
  have HP4 := Lib.hid (fun W hA => parse_no (⟨#[48]⟩ ++ s) W hA (by rw [ByteArray.size_append]; have : (⟨#[48]⟩ : ByteArray).size = 1 := rfl; omega) (by
    rw [bytes_list, hsl, ← hT]; exact back_zero A N hm))
  have hq0 : s.data.toList.isEmpty = false := by rw [hsl]; cases T with
    | nil => rw [hsz] at hsz1; simp at hsz1
    | cons c r => rfl
  have hq1 : s.toList.isEmpty = false := by rw [ByteArray.toList_eq]; exact hq0
  have hq2 : (s.toList == []) = false := by rw [ByteArray.toList_eq]; cases h : s.data.toList with
    | nil => rw [h] at hq0; cases hq0
    | cons c r => rfl
  have hilt : i < T.length := by
    have : a2 % (T.length : Int) < (T.length : Int) := Int.emod_lt_of_pos _ (by omega)
    omega
  have hcv : ∀ W, (convert 9 41 (.string s)).run Tryd.prog W = .ok (.slice (some ⟨W.heap.size, 0, none⟩) s.size (grownCap W s.size 0 5)) (Lib.bytesWorld W 5 s) := fun W =>
    Lib.run_convert_string_bytes (P := Tryd.prog) W 9 41 5 s Tryd.underlying9 Tryd.underlying41 Tryd.underlying5
  have hil : i < s.size := by omega
  have hi' : a2 % (s.size : Int) = (i : Int) := by rw [hsz]; exact hi
  have hqe : (T.set i b == s.toList) = false := by rw [ByteArray.toList_eq, hsl]; simpa using hset
  have HQ := Lib.hid (fun W hA => parse_no ⟨(T.set i b).toArray⟩ W hA (by rw [Lib.size_mk, List.length_set]; omega) hok)
  clear hset hok
  have Hcv := Lib.hid hcv
  have Hsl := Lib.hid hsl
  have Hsz := Lib.hid hsz
  have Hbe := Lib.hid hbe
  clear hcv hsl hsz hbe hlen hT0 hT hs hm g1 g2 hi
  have hsB : ¬ 9223372036854775807 < 1 + s.size := by omega
  have hsC : ¬ 9223372036854775807 < s.size + 1 := by omega
  go_enter Tryd.func6, Tryd.ntmps6
  go_wp2_with fail
  refine (HT.out _ (hA.on (by (repeat' (first | exact Below.refl _ _ | assumption | refine gr_drew ?_ | refine gr_drewN ?_ _ | refine gr_alloc ?_ _ | refine gr_set ?_ ?_ _ | refine gr_call ?_ (by assumption)) <;> (try (simp; done)) <;> (try (simp; omega)) <;> (try omega))))).mono ?_
  rintro e w1 ⟨rfl, hbw1⟩
  have hzw1 := hbw1.size
  try simp at hzw1
  have : w.heap.size < w1.heap.size := by omega
  have : w.heap.size ≤ w1.heap.size := by omega
  have : w1.cell? ⟨w.heap.size, 0, none⟩ = some (.int .i64 A) := cell_kept hbw1 (by simp [go_sem, *])
  have : w1.frozen? ⟨w.heap.size, 0, none⟩ = false := free_kept hbw1 (v := .int .i64 A) (by simp [go_sem, *]) (by simp [go_sem, *])
  have : w.heap.size < w1.heap.size := by omega
  have : w.heap.size ≤ w1.heap.size := by omega
  have : w1.cell? ⟨w.heap.size, 1, none⟩ = some (.int .i64 N) := cell_kept hbw1 (by simp [go_sem, *])
  have : w1.frozen? ⟨w.heap.size, 1, none⟩ = false := free_kept hbw1 (v := .int .i64 N) (by simp [go_sem, *]) (by simp [go_sem, *])
  go_wp2_with fail
  refine (HP.out _ (hA.on (by (repeat' (first | exact Below.refl _ _ | assumption | refine gr_drew ?_ | refine gr_drewN ?_ _ | refine gr_alloc ?_ _ | refine gr_set ?_ ?_ _ | refine gr_call ?_ (by assumption)) <;> (try (simp; done)) <;> (try (simp; omega)) <;> (try omega))))).mono ?_
  rintro e w2 ⟨rfl, hbw2⟩
  have hzw2 := hbw2.size
  try simp at hzw2
  have : w.heap.size < w2.heap.size := by omega
  have : w.heap.size ≤ w2.heap.size := by omega
  have : w2.cell? ⟨w.heap.size, 0, none⟩ = some (.int .i64 A) := cell_kept hbw2 (by simp [go_sem, *])
  have : w2.frozen? ⟨w.heap.size, 0, none⟩ = false := free_kept hbw2 (v := .int .i64 A) (by simp [go_sem, *]) (by simp [go_sem, *])
  have : w.heap.size < w2.heap.size := by omega
  have : w.heap.size ≤ w2.heap.size := by omega
  have : w2.cell? ⟨w.heap.size, 1, none⟩ = some (.int .i64 N) := cell_kept hbw2 (by simp [go_sem, *])
  have : w2.frozen? ⟨w.heap.size, 1, none⟩ = false := free_kept hbw2 (v := .int .i64 N) (by simp [go_sem, *]) (by simp [go_sem, *])
  go_wp2_with fail
  refine (HP1.out _ (hA.on (by (repeat' (first | exact Below.refl _ _ | assumption | refine gr_drew ?_ | refine gr_drewN ?_ _ | refine gr_alloc ?_ _ | refine gr_set ?_ ?_ _ | refine gr_call ?_ (by assumption)) <;> (try (simp; done)) <;> (try (simp; omega)) <;> (try omega))))).mono ?_
  rintro e w3 ⟨rfl, hbw3⟩
  have hzw3 := hbw3.size
  try simp at hzw3
  have : w.heap.size < w3.heap.size := by omega
  have : w.heap.size ≤ w3.heap.size := by omega
  have : w3.cell? ⟨w.heap.size, 0, none⟩ = some (.int .i64 A) := cell_kept hbw3 (by simp [go_sem, *])
  have : w3.frozen? ⟨w.heap.size, 0, none⟩ = false := free_kept hbw3 (v := .int .i64 A) (by simp [go_sem, *]) (by simp [go_sem, *])
  have : w.heap.size < w3.heap.size := by omega
  have : w.heap.size ≤ w3.heap.size := by omega
  have : w3.cell? ⟨w.heap.size, 1, none⟩ = some (.int .i64 N) := cell_kept hbw3 (by simp [go_sem, *])
  have : w3.frozen? ⟨w.heap.size, 1, none⟩ = false := free_kept hbw3 (v := .int .i64 N) (by simp [go_sem, *]) (by simp [go_sem, *])
  go_wp2_with fail
  refine (HP2.out _ (hA.on (by (repeat' (first | exact Below.refl _ _ | assumption | refine gr_drew ?_ | refine gr_drewN ?_ _ | refine gr_alloc ?_ _ | refine gr_set ?_ ?_ _ | refine gr_call ?_ (by assumption)) <;> (try (simp; done)) <;> (try (simp; omega)) <;> (try omega))))).mono ?_
  rintro e w4 ⟨rfl, hbw4⟩
  have hzw4 := hbw4.size
  try simp at hzw4
  have : w.heap.size < w4.heap.size := by omega
  have : w.heap.size ≤ w4.heap.size := by omega
  have : w4.cell? ⟨w.heap.size, 0, none⟩ = some (.int .i64 A) := cell_kept hbw4 (by simp [go_sem, *])
  have : w4.frozen? ⟨w.heap.size, 0, none⟩ = false := free_kept hbw4 (v := .int .i64 A) (by simp [go_sem, *]) (by simp [go_sem, *])
  have : w.heap.size < w4.heap.size := by omega
  have : w.heap.size ≤ w4.heap.size := by omega
  have : w4.cell? ⟨w.heap.size, 1, none⟩ = some (.int .i64 N) := cell_kept hbw4 (by simp [go_sem, *])
  have : w4.frozen? ⟨w.heap.size, 1, none⟩ = false := free_kept hbw4 (v := .int .i64 N) (by simp [go_sem, *]) (by simp [go_sem, *])
  go_wp2_with fail
  refine (HP3.out _ (hA.on (by (repeat' (first | exact Below.refl _ _ | assumption | refine gr_drew ?_ | refine gr_drewN ?_ _ | refine gr_alloc ?_ _ | refine gr_set ?_ ?_ _ | refine gr_call ?_ (by assumption)) <;> (try (simp; done)) <;> (try (simp; omega)) <;> (try omega))))).mono ?_
  rintro e w5 ⟨rfl, hbw5⟩
  have hzw5 := hbw5.size
  try simp at hzw5
  have : w.heap.size < w5.heap.size := by omega
  have : w.heap.size ≤ w5.heap.size := by omega
  have : w5.cell? ⟨w.heap.size, 0, none⟩ = some (.int .i64 A) := cell_kept hbw5 (by simp [go_sem, *])
  have : w5.frozen? ⟨w.heap.size, 0, none⟩ = false := free_kept hbw5 (v := .int .i64 A) (by simp [go_sem, *]) (by simp [go_sem, *])
  have : w.heap.size < w5.heap.size := by omega
  have : w.heap.size ≤ w5.heap.size := by omega
  have : w5.cell? ⟨w.heap.size, 1, none⟩ = some (.int .i64 N) := cell_kept hbw5 (by simp [go_sem, *])
  have : w5.frozen? ⟨w.heap.size, 1, none⟩ = false := free_kept hbw5 (v := .int .i64 N) (by simp [go_sem, *]) (by simp [go_sem, *])
  go_wp2_with fail
  refine (HP4.out _ (hA.on (by (repeat' (first | exact Below.refl _ _ | assumption | refine gr_drew ?_ | refine gr_drewN ?_ _ | refine gr_alloc ?_ _ | refine gr_set ?_ ?_ _ | refine gr_call ?_ (by assumption)) <;> (try (simp; done)) <;> (try (simp; omega)) <;> (try omega))))).mono ?_
  rintro e w6 ⟨rfl, hbw6⟩
  have hzw6 := hbw6.size
  try simp at hzw6
  have : w.heap.size < w6.heap.size := by omega
  have : w.heap.size ≤ w6.heap.size := by omega
  have : w6.cell? ⟨w.heap.size, 0, none⟩ = some (.int .i64 A) := cell_kept hbw6 (by simp [go_sem, *])
  have : w6.frozen? ⟨w.heap.size, 0, none⟩ = false := free_kept hbw6 (v := .int .i64 A) (by simp [go_sem, *]) (by simp [go_sem, *])
  have : w.heap.size < w6.heap.size := by omega
  have : w.heap.size ≤ w6.heap.size := by omega
  have : w6.cell? ⟨w.heap.size, 1, none⟩ = some (.int .i64 N) := cell_kept hbw6 (by simp [go_sem, *])
  have : w6.frozen? ⟨w.heap.size, 1, none⟩ = false := free_kept hbw6 (v := .int .i64 N) (by simp [go_sem, *]) (by simp [go_sem, *])
  have hB6 : Below w.heap.size w (w6.alloc (.cells #[.int .i64 0, .int .i64 0] 23)) := by (repeat' (first | exact Below.refl _ _ | assumption | refine gr_drew ?_ | refine gr_drewN ?_ _ | refine gr_alloc ?_ _ | refine gr_set ?_ ?_ _ | refine gr_call ?_ (by assumption)) <;> (try (simp; done)) <;> (try (simp; omega)) <;> (try omega))
  go_upto_region 10 with fail
  have hcv3 := Hcv.out (w6.alloc (.cells #[.int .i64 0, .int .i64 0] 23))
  have hR := RowIs.of (w6.alloc (.cells #[.int .i64 0, .int .i64 0] 23)) 5 s
  rw [Hsl.out] at hR
  have hB7 := below_bytesWorld hB6 hB6.size 5 s
  have hB7' := below_bytesWorld (Below.refl (w6.alloc (.cells #[.int .i64 0, .int .i64 0] 23)).heap.size (w6.alloc (.cells #[.int .i64 0, .int .i64 0] 23))) (Nat.le_refl _) 5 s
  have k0 : (w6.alloc (.cells #[.int .i64 0, .int .i64 0] 23)).cell? ⟨w.heap.size, 0, none⟩ = some (.int .i64 A) := by simp [go_sem, *]
  have k1 : (w6.alloc (.cells #[.int .i64 0, .int .i64 0] 23)).cell? ⟨w.heap.size, 1, none⟩ = some (.int .i64 N) := by simp [go_sem, *]
  have k0' := cell_kept hB7' k0
  have k1' := cell_kept hB7' k1
  have hsz7 := hR.size
  generalize Lib.bytesWorld (w6.alloc (.cells #[.int .i64 0, .int .i64 0] 23)) 5 s = w7 at *
  simp only [World.size_alloc] at hR hsz7 hcv3
  have hc := hR.cell i hilt
  have hf := hR.free i hilt
  have hR5 := hR.put i b
  rw [Hbe.out] at hR5
  have hB8 : Below w.heap.size w (w7.setCell ⟨w6.heap.size + 1, i, none⟩ (.int .u8 a3)) := gr_set hB7 (by simp; omega) _
  have hcb := fun cap => hR5.back (P := Tryd.prog) (src := 41) (dst := 9) cap Tryd.underlying41 Tryd.underlying5 Tryd.underlying9
  rw [List.length_set, ← Hsz.out] at hcb
  have k2 : (w7.setCell ⟨w6.heap.size + 1, i, none⟩ (.int .u8 a3)).cell? ⟨w.heap.size, 0, none⟩ = some (.int .i64 A) := by rw [World.cell?_setCell_other _ _ _ _ (by intro e; injection e with e; omega)]; exact k0'
  have k3 : (w7.setCell ⟨w6.heap.size + 1, i, none⟩ (.int .u8 a3)).cell? ⟨w.heap.size, 1, none⟩ = some (.int .i64 N) := by rw [World.cell?_setCell_other _ _ _ _ (by intro e; injection e with e; omega)]; exact k1'
  have HR5 := Lib.hid hR5
  clear hR hR5 hB6 hB7 hB7' k0 k1
  go_wp2_with fail
  refine (HQ.out _ (hA.on hB8)).mono ?_
  rintro e w9 ⟨rfl, hb9⟩
  have hz9 := hb9.size
  have hR9 := HR5.out.kept hb9 (by simpa using hsz7)
  have hcb9 := fun cap => hR9.back (P := Tryd.prog) (src := 41) (dst := 9) cap Tryd.underlying41 Tryd.underlying5 Tryd.underlying9
  rw [List.length_set, ← Hsz.out] at hcb9
  have m0 := cell_kept hb9 k2
  have m1 := cell_kept hb9 k3
  have hra := fun (W : World) (o : Obj) => W
  have hRa := hR9.alloc (.cells #[.int .i64 0, .int .i64 0] 23)
  have hcba := fun cap => hRa.back (P := Tryd.prog) (src := 41) (dst := 9) cap Tryd.underlying41 Tryd.underlying5 Tryd.underlying9
  rw [List.length_set, ← Hsz.out] at hcba
  have hwl : w.heap.size < w9.heap.size := by have := block_lt m0; simpa using this
  have hwl2 : w.heap.size ≤ w9.heap.size := by omega
  clear hcb hcb9 hR9 hRa hra hc hf hcv3
  go_wp2_with fail
  refine (awake_any _ (hA.on (by (repeat' (first | exact Below.refl _ _ | assumption | refine gr_drew ?_ | refine gr_drewN ?_ _ | refine gr_alloc ?_ _ | refine gr_set ?_ ?_ _ | refine gr_call ?_ (by assumption)) <;> (try (simp; done)) <;> (try (simp; omega)) <;> (try omega))))).mono ?_
  rintro e w10 ⟨rfl, hbw10⟩
  have hzw10 := hbw10.size
  try simp at hzw10
  go_wp2_with fail
  go_ret
  exact ⟨rfl, by (repeat' (first | exact Below.refl _ _ | assumption | refine gr_drew ?_ | refine gr_drewN ?_ _ | refine gr_alloc ?_ _ | refine gr_set ?_ ?_ _ | refine gr_call ?_ (by assumption)) <;> (try (simp; done)) <;> (try (simp; omega)) <;> (try omega))⟩

set_option maxRecDepth 100000 in
set_option maxHeartbeats 1000000 in
theorem back_3 (a0 a1 a2 a3 A N : Int) (s : ByteArray) (T : List UInt8) (i : Nat) (b : UInt8) (w : World) (hA : Amb w) (hb0 : -9223372036854775808 ≤ a0 ∧ a0 ≤ 9223372036854775807) (hb1 : 0 ≤ a1 ∧ a1 ≤ 4294967295) (hb2 : 0 ≤ a2 ∧ a2 ≤ 255) (hb3 : 0 ≤ a3 ∧ a3 ≤ 255)
    (hAe : a0.tmod 1099511627777 = A) (hNe : a1 % 1000000000 = N) (hm : mayF A N = true) (hT : textF A N = T) (hs : s = ⟨T.toArray⟩) (hi : a2 % (T.length : Int) = (i : Int)) (hbe : ((b.toNat : Nat) : Int) = a3)
    (hset : T.set i b ≠ T) (hok : parseOk (T.set i b) = true) (S M : Int) (hS : guessS (T.set i b) = S) (hM : guessN (T.set i b) = M) (hSA : (S == A) = false) :
    Calls Tryd.prog 6 #[.int .i64 a0, .int .u32 a1, .int .u8 a2, .int .u8 a3] w fun e w' => e = .returned (.bool true) ∧ Below w.heap.size w w' := by
  have hlen := text_len A N hm
  have hT0 := text_shape A N hm
  have hsl : s.data.toList = T := by rw [hs]
  have hsz : s.size = T.length := by rw [hs]; exact Lib.size_mk T
  have hsz2 : s.size ≤ 30 := by rw [hsz, ← hT]; exact hlen.2
  have hsz1 : 1 ≤ s.size := by rw [hsz, ← hT]; exact hlen.1
  have HT := Lib.hid (fun W hA => by
    have := text_any A N W hA hm
    rw [hT, ← hs] at this
    exact this)
  obtain ⟨g1, g2⟩ := guess_text A N hm
  have HP := Lib.hid (fun W hA => by
    have := parse_yes s W hA (by omega) (by rw [hsl, ← hT]; exact parse_text A N hm)
    rw [hsl, ← hT, g1, g2] at this
    exact this)
  have HP1 := Lib.hid (fun W hA => parse_no (⟨#[43]⟩ ++ s) W hA (by rw [ByteArray.size_append]; have : (⟨#[43]⟩ : ByteArray).size = 1 := rfl; omega) (by
    rw [bytes_list, hsl, ← hT]; exact back_plus A N hm))
  have HP2 := Lib.hid (fun W hA => parse_no (s ++ ⟨#[46]⟩) W hA (by rw [ByteArray.size_append]; have : (⟨#[46]⟩ : ByteArray).size = 1 := rfl; omega) (by
    rw [bytes_list, hsl, ← hT]; exact back_end A N 46 (by decide)))
  have HP3 := Lib.hid (fun W hA => parse_no (s ++ ⟨#[32]⟩) W hA (by rw [ByteArray.size_append]; have : (⟨#[32]⟩ : ByteArray).size = 1 := rfl; omega) (by
    rw [bytes_list, hsl, ← hT]; exact back_end A N 32 (by decide)))
  have HP4 := Lib.hid (fun W hA => parse_no (⟨#[48]⟩ ++ s) W hA (by rw [ByteArray.size_append]; have : (⟨#[48]⟩ : ByteArray).size = 1 := rfl; omega) (by
    rw [bytes_list, hsl, ← hT]; exact back_zero A N hm))
  have hq0 : s.data.toList.isEmpty = false := by rw [hsl]; cases T with
    | nil => rw [hsz] at hsz1; simp at hsz1
    | cons c r => rfl
  have hq1 : s.toList.isEmpty = false := by rw [ByteArray.toList_eq]; exact hq0
  have hq2 : (s.toList == []) = false := by rw [ByteArray.toList_eq]; cases h : s.data.toList with
    | nil => rw [h] at hq0; cases hq0
    | cons c r => rfl
  have hilt : i < T.length := by
    have : a2 % (T.length : Int) < (T.length : Int) := Int.emod_lt_of_pos _ (by omega)
    omega
  have hcv : ∀ W, (convert 9 41 (.string s)).run Tryd.prog W = .ok (.slice (some ⟨W.heap.size, 0, none⟩) s.size (grownCap W s.size 0 5)) (Lib.bytesWorld W 5 s) := fun W =>
    Lib.run_convert_string_bytes (P := Tryd.prog) W 9 41 5 s Tryd.underlying9 Tryd.underlying41 Tryd.underlying5
  have hil : i < s.size := by omega
  have hi' : a2 % (s.size : Int) = (i : Int) := by rw [hsz]; exact hi
  have hqe : (T.set i b == s.toList) = false := by rw [ByteArray.toList_eq, hsl]; simpa using hset
  have HQ := Lib.hid (fun W hA => by
    have := parse_yes ⟨(T.set i b).toArray⟩ W hA (by rw [Lib.size_mk, List.length_set]; omega) hok
    rw [show (⟨(T.set i b).toArray⟩ : ByteArray).data.toList = T.set i b from rfl, hS, hM] at this
    exact this)
  clear hset hok hS hM
  have Hcv := Lib.hid hcv
  have Hsl := Lib.hid hsl
  have Hsz := Lib.hid hsz
  have Hbe := Lib.hid hbe
  clear hcv hsl hsz hbe hlen hT0 hT hs hm g1 g2 hi
  have hsB : ¬ 9223372036854775807 < 1 + s.size := by omega
  have hsC : ¬ 9223372036854775807 < s.size + 1 := by omega
  go_enter Tryd.func6, Tryd.ntmps6
  go_wp2_with fail
  refine (HT.out _ (hA.on (by (repeat' (first | exact Below.refl _ _ | assumption | refine gr_drew ?_ | refine gr_drewN ?_ _ | refine gr_alloc ?_ _ | refine gr_set ?_ ?_ _ | refine gr_call ?_ (by assumption)) <;> (try (simp; done)) <;> (try (simp; omega)) <;> (try omega))))).mono ?_
  rintro e w1 ⟨rfl, hbw1⟩
  have hzw1 := hbw1.size
  try simp at hzw1
  have : w.heap.size < w1.heap.size := by omega
  have : w.heap.size ≤ w1.heap.size := by omega
  have : w1.cell? ⟨w.heap.size, 0, none⟩ = some (.int .i64 A) := cell_kept hbw1 (by simp [go_sem, *])
  have : w1.frozen? ⟨w.heap.size, 0, none⟩ = false := free_kept hbw1 (v := .int .i64 A) (by simp [go_sem, *]) (by simp [go_sem, *])
  have : w.heap.size < w1.heap.size := by omega
  have : w.heap.size ≤ w1.heap.size := by omega
  have : w1.cell? ⟨w.heap.size, 1, none⟩ = some (.int .i64 N) := cell_kept hbw1 (by simp [go_sem, *])
  have : w1.frozen? ⟨w.heap.size, 1, none⟩ = false := free_kept hbw1 (v := .int .i64 N) (by simp [go_sem, *]) (by simp [go_sem, *])
  go_wp2_with fail
  refine (HP.out _ (hA.on (by (repeat' (first | exact Below.refl _ _ | assumption | refine gr_drew ?_ | refine gr_drewN ?_ _ | refine gr_alloc ?_ _ | refine gr_set ?_ ?_ _ | refine gr_call ?_ (by assumption)) <;> (try (simp; done)) <;> (try (simp; omega)) <;> (try omega))))).mono ?_
  rintro e w2 ⟨rfl, hbw2⟩
  have hzw2 := hbw2.size
  try simp at hzw2
  have : w.heap.size < w2.heap.size := by omega
  have : w.heap.size ≤ w2.heap.size := by omega
  have : w2.cell? ⟨w.heap.size, 0, none⟩ = some (.int .i64 A) := cell_kept hbw2 (by simp [go_sem, *])
  have : w2.frozen? ⟨w.heap.size, 0, none⟩ = false := free_kept hbw2 (v := .int .i64 A) (by simp [go_sem, *]) (by simp [go_sem, *])
  have : w.heap.size < w2.heap.size := by omega
  have : w.heap.size ≤ w2.heap.size := by omega
  have : w2.cell? ⟨w.heap.size, 1, none⟩ = some (.int .i64 N) := cell_kept hbw2 (by simp [go_sem, *])
  have : w2.frozen? ⟨w.heap.size, 1, none⟩ = false := free_kept hbw2 (v := .int .i64 N) (by simp [go_sem, *]) (by simp [go_sem, *])
  go_wp2_with fail
  refine (HP1.out _ (hA.on (by (repeat' (first | exact Below.refl _ _ | assumption | refine gr_drew ?_ | refine gr_drewN ?_ _ | refine gr_alloc ?_ _ | refine gr_set ?_ ?_ _ | refine gr_call ?_ (by assumption)) <;> (try (simp; done)) <;> (try (simp; omega)) <;> (try omega))))).mono ?_
  rintro e w3 ⟨rfl, hbw3⟩
  have hzw3 := hbw3.size
  try simp at hzw3
  have : w.heap.size < w3.heap.size := by omega
  have : w.heap.size ≤ w3.heap.size := by omega
  have : w3.cell? ⟨w.heap.size, 0, none⟩ = some (.int .i64 A) := cell_kept hbw3 (by simp [go_sem, *])
  have : w3.frozen? ⟨w.heap.size, 0, none⟩ = false := free_kept hbw3 (v := .int .i64 A) (by simp [go_sem, *]) (by simp [go_sem, *])
  have : w.heap.size < w3.heap.size := by omega
  have : w.heap.size ≤ w3.heap.size := by omega
  have : w3.cell? ⟨w.heap.size, 1, none⟩ = some (.int .i64 N) := cell_kept hbw3 (by simp [go_sem, *])
  have : w3.frozen? ⟨w.heap.size, 1, none⟩ = false := free_kept hbw3 (v := .int .i64 N) (by simp [go_sem, *]) (by simp [go_sem, *])
  go_wp2_with fail
  refine (HP2.out _ (hA.on (by (repeat' (first | exact Below.refl _ _ | assumption | refine gr_drew ?_ | refine gr_drewN ?_ _ | refine gr_alloc ?_ _ | refine gr_set ?_ ?_ _ | refine gr_call ?_ (by assumption)) <;> (try (simp; done)) <;> (try (simp; omega)) <;> (try omega))))).mono ?_
  rintro e w4 ⟨rfl, hbw4⟩
  have hzw4 := hbw4.size
  try simp at hzw4
  have : w.heap.size < w4.heap.size := by omega
  have : w.heap.size ≤ w4.heap.size := by omega
  have : w4.cell? ⟨w.heap.size, 0, none⟩ = some (.int .i64 A) := cell_kept hbw4 (by simp [go_sem, *])
  have : w4.frozen? ⟨w.heap.size, 0, none⟩ = false := free_kept hbw4 (v := .int .i64 A) (by simp [go_sem, *]) (by simp [go_sem, *])
  have : w.heap.size < w4.heap.size := by omega
  have : w.heap.size ≤ w4.heap.size := by omega
  have : w4.cell? ⟨w.heap.size, 1, none⟩ = some (.int .i64 N) := cell_kept hbw4 (by simp [go_sem, *])
  have : w4.frozen? ⟨w.heap.size, 1, none⟩ = false := free_kept hbw4 (v := .int .i64 N) (by simp [go_sem, *]) (by simp [go_sem, *])
  go_wp2_with fail
  refine (HP3.out _ (hA.on (by (repeat' (first | exact Below.refl _ _ | assumption | refine gr_drew ?_ | refine gr_drewN ?_ _ | refine gr_alloc ?_ _ | refine gr_set ?_ ?_ _ | refine gr_call ?_ (by assumption)) <;> (try (simp; done)) <;> (try (simp; omega)) <;> (try omega))))).mono ?_
  rintro e w5 ⟨rfl, hbw5⟩
  have hzw5 := hbw5.size
  try simp at hzw5
  have : w.heap.size < w5.heap.size := by omega
  have : w.heap.size ≤ w5.heap.size := by omega
  have : w5.cell? ⟨w.heap.size, 0, none⟩ = some (.int .i64 A) := cell_kept hbw5 (by simp [go_sem, *])
  have : w5.frozen? ⟨w.heap.size, 0, none⟩ = false := free_kept hbw5 (v := .int .i64 A) (by simp [go_sem, *]) (by simp [go_sem, *])
  have : w.heap.size < w5.heap.size := by omega
  have : w.heap.size ≤ w5.heap.size := by omega
  have : w5.cell? ⟨w.heap.size, 1, none⟩ = some (.int .i64 N) := cell_kept hbw5 (by simp [go_sem, *])
  have : w5.frozen? ⟨w.heap.size, 1, none⟩ = false := free_kept hbw5 (v := .int .i64 N) (by simp [go_sem, *]) (by simp [go_sem, *])
  go_wp2_with fail
  refine (HP4.out _ (hA.on (by (repeat' (first | exact Below.refl _ _ | assumption | refine gr_drew ?_ | refine gr_drewN ?_ _ | refine gr_alloc ?_ _ | refine gr_set ?_ ?_ _ | refine gr_call ?_ (by assumption)) <;> (try (simp; done)) <;> (try (simp; omega)) <;> (try omega))))).mono ?_
  rintro e w6 ⟨rfl, hbw6⟩
  have hzw6 := hbw6.size
  try simp at hzw6
  have : w.heap.size < w6.heap.size := by omega
  have : w.heap.size ≤ w6.heap.size := by omega
  have : w6.cell? ⟨w.heap.size, 0, none⟩ = some (.int .i64 A) := cell_kept hbw6 (by simp [go_sem, *])
  have : w6.frozen? ⟨w.heap.size, 0, none⟩ = false := free_kept hbw6 (v := .int .i64 A) (by simp [go_sem, *]) (by simp [go_sem, *])
  have : w.heap.size < w6.heap.size := by omega
  have : w.heap.size ≤ w6.heap.size := by omega
  have : w6.cell? ⟨w.heap.size, 1, none⟩ = some (.int .i64 N) := cell_kept hbw6 (by simp [go_sem, *])
  have : w6.frozen? ⟨w.heap.size, 1, none⟩ = false := free_kept hbw6 (v := .int .i64 N) (by simp [go_sem, *]) (by simp [go_sem, *])
  have hB6 : Below w.heap.size w (w6.alloc (.cells #[.int .i64 0, .int .i64 0] 23)) := by (repeat' (first | exact Below.refl _ _ | assumption | refine gr_drew ?_ | refine gr_drewN ?_ _ | refine gr_alloc ?_ _ | refine gr_set ?_ ?_ _ | refine gr_call ?_ (by assumption)) <;> (try (simp; done)) <;> (try (simp; omega)) <;> (try omega))
  go_upto_region 10 with fail
  have hcv3 := Hcv.out (w6.alloc (.cells #[.int .i64 0, .int .i64 0] 23))
  have hR := RowIs.of (w6.alloc (.cells #[.int .i64 0, .int .i64 0] 23)) 5 s
  rw [Hsl.out] at hR
  have hB7 := below_bytesWorld hB6 hB6.size 5 s
  have hB7' := below_bytesWorld (Below.refl (w6.alloc (.cells #[.int .i64 0, .int .i64 0] 23)).heap.size (w6.alloc (.cells #[.int .i64 0, .int .i64 0] 23))) (Nat.le_refl _) 5 s
  have k0 : (w6.alloc (.cells #[.int .i64 0, .int .i64 0] 23)).cell? ⟨w.heap.size, 0, none⟩ = some (.int .i64 A) := by simp [go_sem, *]
  have k1 : (w6.alloc (.cells #[.int .i64 0, .int .i64 0] 23)).cell? ⟨w.heap.size, 1, none⟩ = some (.int .i64 N) := by simp [go_sem, *]
  have k0' := cell_kept hB7' k0
  have k1' := cell_kept hB7' k1
  have hsz7 := hR.size
  generalize Lib.bytesWorld (w6.alloc (.cells #[.int .i64 0, .int .i64 0] 23)) 5 s = w7 at *
  simp only [World.size_alloc] at hR hsz7 hcv3
  have hc := hR.cell i hilt
  have hf := hR.free i hilt
  have hR5 := hR.put i b
  rw [Hbe.out] at hR5
  have hB8 : Below w.heap.size w (w7.setCell ⟨w6.heap.size + 1, i, none⟩ (.int .u8 a3)) := gr_set hB7 (by simp; omega) _
  have hcb := fun cap => hR5.back (P := Tryd.prog) (src := 41) (dst := 9) cap Tryd.underlying41 Tryd.underlying5 Tryd.underlying9
  rw [List.length_set, ← Hsz.out] at hcb
  have k2 : (w7.setCell ⟨w6.heap.size + 1, i, none⟩ (.int .u8 a3)).cell? ⟨w.heap.size, 0, none⟩ = some (.int .i64 A) := by rw [World.cell?_setCell_other _ _ _ _ (by intro e; injection e with e; omega)]; exact k0'
  have k3 : (w7.setCell ⟨w6.heap.size + 1, i, none⟩ (.int .u8 a3)).cell? ⟨w.heap.size, 1, none⟩ = some (.int .i64 N) := by rw [World.cell?_setCell_other _ _ _ _ (by intro e; injection e with e; omega)]; exact k1'
  have HR5 := Lib.hid hR5
  clear hR hR5 hB6 hB7 hB7' k0 k1
  go_wp2_with fail
  refine (HQ.out _ (hA.on hB8)).mono ?_
  rintro e w9 ⟨rfl, hb9⟩
  have hz9 := hb9.size
  have hR9 := HR5.out.kept hb9 (by simpa using hsz7)
  have hcb9 := fun cap => hR9.back (P := Tryd.prog) (src := 41) (dst := 9) cap Tryd.underlying41 Tryd.underlying5 Tryd.underlying9
  rw [List.length_set, ← Hsz.out] at hcb9
  have m0 := cell_kept hb9 k2
  have m1 := cell_kept hb9 k3
  have hra := fun (W : World) (o : Obj) => W
  have hRa := hR9.alloc (.cells #[.int .i64 S, .int .i64 M] 23)
  have hcba := fun cap => hRa.back (P := Tryd.prog) (src := 41) (dst := 9) cap Tryd.underlying41 Tryd.underlying5 Tryd.underlying9
  rw [List.length_set, ← Hsz.out] at hcba
  have hwl : w.heap.size < w9.heap.size := by have := block_lt m0; simpa using this
  have hwl2 : w.heap.size ≤ w9.heap.size := by omega
  clear hcb hcb9 hR9 hRa hra hc hf hcv3
  go_wp2_with fail
  refine (awake_any _ (hA.on (by (repeat' (first | exact Below.refl _ _ | assumption | refine gr_drew ?_ | refine gr_drewN ?_ _ | refine gr_alloc ?_ _ | refine gr_set ?_ ?_ _ | refine gr_call ?_ (by assumption)) <;> (try (simp; done)) <;> (try (simp; omega)) <;> (try omega))))).mono ?_
  rintro e w10 ⟨rfl, hbw10⟩
  have hzw10 := hbw10.size
  try simp at hzw10
  go_wp2_with fail
  go_ret
  exact ⟨rfl, by (repeat' (first | exact Below.refl _ _ | assumption | refine gr_drew ?_ | refine gr_drewN ?_ _ | refine gr_alloc ?_ _ | refine gr_set ?_ ?_ _ | refine gr_call ?_ (by assumption)) <;> (try (simp; done)) <;> (try (simp; omega)) <;> (try omega))⟩

set_option maxRecDepth 100000 in
set_option maxHeartbeats 1000000 in
theorem back_4 (a0 a1 a2 a3 A N : Int) (s : ByteArray) (T : List UInt8) (i : Nat) (b : UInt8) (w : World) (hA : Amb w) (hb0 : -9223372036854775808 ≤ a0 ∧ a0 ≤ 9223372036854775807) (hb1 : 0 ≤ a1 ∧ a1 ≤ 4294967295) (hb2 : 0 ≤ a2 ∧ a2 ≤ 255) (hb3 : 0 ≤ a3 ∧ a3 ≤ 255)
    (hAe : a0.tmod 1099511627777 = A) (hNe : a1 % 1000000000 = N) (hm : mayF A N = true) (hT : textF A N = T) (hs : s = ⟨T.toArray⟩) (hi : a2 % (T.length : Int) = (i : Int)) (hbe : ((b.toNat : Nat) : Int) = a3)
    (hset : T.set i b ≠ T) (hok : parseOk (T.set i b) = true) (S M : Int) (hS : guessS (T.set i b) = S) (hM : guessN (T.set i b) = M) (hSA : (S == A) = true) (hMN : (M == N) = false) :
    Calls Tryd.prog 6 #[.int .i64 a0, .int .u32 a1, .int .u8 a2, .int .u8 a3] w fun e w' => e = .returned (.bool true) ∧ Below w.heap.size w w' := by
  have hlen := text_len A N hm
  have hT0 := text_shape A N hm
  have hsl : s.data.toList = T := by rw [hs]
  have hsz : s.size = T.length := by rw [hs]; exact Lib.size_mk T
  have hsz2 : s.size ≤ 30 := by rw [hsz, ← hT]; exact hlen.2
  have hsz1 : 1 ≤ s.size := by rw [hsz, ← hT]; exact hlen.1
  have HT := Lib.hid (fun W hA => by
    have := text_any A N W hA hm
    rw [hT, ← hs] at this
    exact this)
  obtain ⟨g1, g2⟩ := guess_text A N hm
  have HP := Lib.hid (fun W hA => by
    have := parse_yes s W hA (by omega) (by rw [hsl, ← hT]; exact parse_text A N hm)
    rw [hsl, ← hT, g1, g2] at this
    exact this)
  have HP1 := Lib.hid (fun W hA => parse_no (⟨#[43]⟩ ++ s) W hA (by rw [ByteArray.size_append]; have : (⟨#[43]⟩ : ByteArray).size = 1 := rfl; omega) (by
    rw [bytes_list, hsl, ← hT]; exact back_plus A N hm))
  have HP2 := Lib.hid (fun W hA => parse_no (s ++ ⟨#[46]⟩) W hA (by rw [ByteArray.size_append]; have : (⟨#[46]⟩ : ByteArray).size = 1 := rfl; omega) (by
    rw [bytes_list, hsl, ← hT]; exact back_end A N 46 (by decide)))
  have HP3 := Lib.hid (fun W hA => parse_no (s ++ ⟨#[32]⟩) W hA (by rw [ByteArray.size_append]; have : (⟨#[32]⟩ : ByteArray).size = 1 := rfl; omega) (by
    rw [bytes_list, hsl, ← hT]; exact back_end A N 32 (by decide)))
  have HP4 := Lib.hid (fun W hA => parse_no (⟨#[48]⟩ ++ s) W hA (by rw [ByteArray.size_append]; have : (⟨#[48]⟩ : ByteArray).size = 1 := rfl; omega) (by
    rw [bytes_list, hsl, ← hT]; exact back_zero A N hm))
  have hq0 : s.data.toList.isEmpty = false := by rw [hsl]; cases T with
    | nil => rw [hsz] at hsz1; simp at hsz1
    | cons c r => rfl
  have hq1 : s.toList.isEmpty = false := by rw [ByteArray.toList_eq]; exact hq0
  have hq2 : (s.toList == []) = false := by rw [ByteArray.toList_eq]; cases h : s.data.toList with
    | nil => rw [h] at hq0; cases hq0
    | cons c r => rfl
  have hilt : i < T.length := by
    have : a2 % (T.length : Int) < (T.length : Int) := Int.emod_lt_of_pos _ (by omega)
    omega
  have hcv : ∀ W, (convert 9 41 (.string s)).run Tryd.prog W = .ok (.slice (some ⟨W.heap.size, 0, none⟩) s.size (grownCap W s.size 0 5)) (Lib.bytesWorld W 5 s) := fun W =>
    Lib.run_convert_string_bytes (P := Tryd.prog) W 9 41 5 s Tryd.underlying9 Tryd.underlying41 Tryd.underlying5
  have hil : i < s.size := by omega
  have hi' : a2 % (s.size : Int) = (i : Int) := by rw [hsz]; exact hi
  have hqe : (T.set i b == s.toList) = false := by rw [ByteArray.toList_eq, hsl]; simpa using hset
  have HQ := Lib.hid (fun W hA => by
    have := parse_yes ⟨(T.set i b).toArray⟩ W hA (by rw [Lib.size_mk, List.length_set]; omega) hok
    rw [show (⟨(T.set i b).toArray⟩ : ByteArray).data.toList = T.set i b from rfl, hS, hM] at this
    exact this)
  clear hset hok hS hM
  have Hcv := Lib.hid hcv
  have Hsl := Lib.hid hsl
  have Hsz := Lib.hid hsz
  have Hbe := Lib.hid hbe
  clear hcv hsl hsz hbe hlen hT0 hT hs hm g1 g2 hi
  have hsB : ¬ 9223372036854775807 < 1 + s.size := by omega
  have hsC : ¬ 9223372036854775807 < s.size + 1 := by omega
  go_enter Tryd.func6, Tryd.ntmps6
  go_wp2_with fail
  refine (HT.out _ (hA.on (by (repeat' (first | exact Below.refl _ _ | assumption | refine gr_drew ?_ | refine gr_drewN ?_ _ | refine gr_alloc ?_ _ | refine gr_set ?_ ?_ _ | refine gr_call ?_ (by assumption)) <;> (try (simp; done)) <;> (try (simp; omega)) <;> (try omega))))).mono ?_
  rintro e w1 ⟨rfl, hbw1⟩
  have hzw1 := hbw1.size
  try simp at hzw1
  have : w.heap.size < w1.heap.size := by omega
  have : w.heap.size ≤ w1.heap.size := by omega
  have : w1.cell? ⟨w.heap.size, 0, none⟩ = some (.int .i64 A) := cell_kept hbw1 (by simp [go_sem, *])
  have : w1.frozen? ⟨w.heap.size, 0, none⟩ = false := free_kept hbw1 (v := .int .i64 A) (by simp [go_sem, *]) (by simp [go_sem, *])
  have : w.heap.size < w1.heap.size := by omega
  have : w.heap.size ≤ w1.heap.size := by omega
  have : w1.cell? ⟨w.heap.size, 1, none⟩ = some (.int .i64 N) := cell_kept hbw1 (by simp [go_sem, *])
  have : w1.frozen? ⟨w.heap.size, 1, none⟩ = false := free_kept hbw1 (v := .int .i64 N) (by simp [go_sem, *]) (by simp [go_sem, *])
  go_wp2_with fail
  refine (HP.out _ (hA.on (by (repeat' (first | exact Below.refl _ _ | assumption | refine gr_drew ?_ | refine gr_drewN ?_ _ | refine gr_alloc ?_ _ | refine gr_set ?_ ?_ _ | refine gr_call ?_ (by assumption)) <;> (try (simp; done)) <;> (try (simp; omega)) <;> (try omega))))).mono ?_
  rintro e w2 ⟨rfl, hbw2⟩
  have hzw2 := hbw2.size
  try simp at hzw2
  have : w.heap.size < w2.heap.size := by omega
  have : w.heap.size ≤ w2.heap.size := by omega
  have : w2.cell? ⟨w.heap.size, 0, none⟩ = some (.int .i64 A) := cell_kept hbw2 (by simp [go_sem, *])
  have : w2.frozen? ⟨w.heap.size, 0, none⟩ = false := free_kept hbw2 (v := .int .i64 A) (by simp [go_sem, *]) (by simp [go_sem, *])
  have : w.heap.size < w2.heap.size := by omega
  have : w.heap.size ≤ w2.heap.size := by omega
  have : w2.cell? ⟨w.heap.size, 1, none⟩ = some (.int .i64 N) := cell_kept hbw2 (by simp [go_sem, *])
  have : w2.frozen? ⟨w.heap.size, 1, none⟩ = false := free_kept hbw2 (v := .int .i64 N) (by simp [go_sem, *]) (by simp [go_sem, *])
  go_wp2_with fail
  refine (HP1.out _ (hA.on (by (repeat' (first | exact Below.refl _ _ | assumption | refine gr_drew ?_ | refine gr_drewN ?_ _ | refine gr_alloc ?_ _ | refine gr_set ?_ ?_ _ | refine gr_call ?_ (by assumption)) <;> (try (simp; done)) <;> (try (simp; omega)) <;> (try omega))))).mono ?_
  rintro e w3 ⟨rfl, hbw3⟩
  have hzw3 := hbw3.size
  try simp at hzw3
  have : w.heap.size < w3.heap.size := by omega
  have : w.heap.size ≤ w3.heap.size := by omega
  have : w3.cell? ⟨w.heap.size, 0, none⟩ = some (.int .i64 A) := cell_kept hbw3 (by simp [go_sem, *])
  have : w3.frozen? ⟨w.heap.size, 0, none⟩ = false := free_kept hbw3 (v := .int .i64 A) (by simp [go_sem, *]) (by simp [go_sem, *])
  have : w.heap.size < w3.heap.size := by omega
  have : w.heap.size ≤ w3.heap.size := by omega
  have : w3.cell? ⟨w.heap.size, 1, none⟩ = some (.int .i64 N) := cell_kept hbw3 (by simp [go_sem, *])
  have : w3.frozen? ⟨w.heap.size, 1, none⟩ = false := free_kept hbw3 (v := .int .i64 N) (by simp [go_sem, *]) (by simp [go_sem, *])
  go_wp2_with fail
  refine (HP2.out _ (hA.on (by (repeat' (first | exact Below.refl _ _ | assumption | refine gr_drew ?_ | refine gr_drewN ?_ _ | refine gr_alloc ?_ _ | refine gr_set ?_ ?_ _ | refine gr_call ?_ (by assumption)) <;> (try (simp; done)) <;> (try (simp; omega)) <;> (try omega))))).mono ?_
  rintro e w4 ⟨rfl, hbw4⟩
  have hzw4 := hbw4.size
  try simp at hzw4
  have : w.heap.size < w4.heap.size := by omega
  have : w.heap.size ≤ w4.heap.size := by omega
  have : w4.cell? ⟨w.heap.size, 0, none⟩ = some (.int .i64 A) := cell_kept hbw4 (by simp [go_sem, *])
  have : w4.frozen? ⟨w.heap.size, 0, none⟩ = false := free_kept hbw4 (v := .int .i64 A) (by simp [go_sem, *]) (by simp [go_sem, *])
  have : w.heap.size < w4.heap.size := by omega
  have : w.heap.size ≤ w4.heap.size := by omega
  have : w4.cell? ⟨w.heap.size, 1, none⟩ = some (.int .i64 N) := cell_kept hbw4 (by simp [go_sem, *])
  have : w4.frozen? ⟨w.heap.size, 1, none⟩ = false := free_kept hbw4 (v := .int .i64 N) (by simp [go_sem, *]) (by simp [go_sem, *])
  go_wp2_with fail
  refine (HP3.out _ (hA.on (by (repeat' (first | exact Below.refl _ _ | assumption | refine gr_drew ?_ | refine gr_drewN ?_ _ | refine gr_alloc ?_ _ | refine gr_set ?_ ?_ _ | refine gr_call ?_ (by assumption)) <;> (try (simp; done)) <;> (try (simp; omega)) <;> (try omega))))).mono ?_
  rintro e w5 ⟨rfl, hbw5⟩
  have hzw5 := hbw5.size
  try simp at hzw5
  have : w.heap.size < w5.heap.size := by omega
  have : w.heap.size ≤ w5.heap.size := by omega
  have : w5.cell? ⟨w.heap.size, 0, none⟩ = some (.int .i64 A) := cell_kept hbw5 (by simp [go_sem, *])
  have : w5.frozen? ⟨w.heap.size, 0, none⟩ = false := free_kept hbw5 (v := .int .i64 A) (by simp [go_sem, *]) (by simp [go_sem, *])
  have : w.heap.size < w5.heap.size := by omega
  have : w.heap.size ≤ w5.heap.size := by omega
  have : w5.cell? ⟨w.heap.size, 1, none⟩ = some (.int .i64 N) := cell_kept hbw5 (by simp [go_sem, *])
  have : w5.frozen? ⟨w.heap.size, 1, none⟩ = false := free_kept hbw5 (v := .int .i64 N) (by simp [go_sem, *]) (by simp [go_sem, *])
  go_wp2_with fail
  refine (HP4.out _ (hA.on (by (repeat' (first | exact Below.refl _ _ | assumption | refine gr_drew ?_ | refine gr_drewN ?_ _ | refine gr_alloc ?_ _ | refine gr_set ?_ ?_ _ | refine gr_call ?_ (by assumption)) <;> (try (simp; done)) <;> (try (simp; omega)) <;> (try omega))))).mono ?_
  rintro e w6 ⟨rfl, hbw6⟩
  have hzw6 := hbw6.size
  try simp at hzw6
  have : w.heap.size < w6.heap.size := by omega
  have : w.heap.size ≤ w6.heap.size := by omega
  have : w6.cell? ⟨w.heap.size, 0, none⟩ = some (.int .i64 A) := cell_kept hbw6 (by simp [go_sem, *])
  have : w6.frozen? ⟨w.heap.size, 0, none⟩ = false := free_kept hbw6 (v := .int .i64 A) (by simp [go_sem, *]) (by simp [go_sem, *])
  have : w.heap.size < w6.heap.size := by omega
  have : w.heap.size ≤ w6.heap.size := by omega
  have : w6.cell? ⟨w.heap.size, 1, none⟩ = some (.int .i64 N) := cell_kept hbw6 (by simp [go_sem, *])
  have : w6.frozen? ⟨w.heap.size, 1, none⟩ = false := free_kept hbw6 (v := .int .i64 N) (by simp [go_sem, *]) (by simp [go_sem, *])
  have hB6 : Below w.heap.size w (w6.alloc (.cells #[.int .i64 0, .int .i64 0] 23)) := by (repeat' (first | exact Below.refl _ _ | assumption | refine gr_drew ?_ | refine gr_drewN ?_ _ | refine gr_alloc ?_ _ | refine gr_set ?_ ?_ _ | refine gr_call ?_ (by assumption)) <;> (try (simp; done)) <;> (try (simp; omega)) <;> (try omega))
  go_upto_region 10 with fail
  have hcv3 := Hcv.out (w6.alloc (.cells #[.int .i64 0, .int .i64 0] 23))
  have hR := RowIs.of (w6.alloc (.cells #[.int .i64 0, .int .i64 0] 23)) 5 s
  rw [Hsl.out] at hR
  have hB7 := below_bytesWorld hB6 hB6.size 5 s
  have hB7' := below_bytesWorld (Below.refl (w6.alloc (.cells #[.int .i64 0, .int .i64 0] 23)).heap.size (w6.alloc (.cells #[.int .i64 0, .int .i64 0] 23))) (Nat.le_refl _) 5 s
  have k0 : (w6.alloc (.cells #[.int .i64 0, .int .i64 0] 23)).cell? ⟨w.heap.size, 0, none⟩ = some (.int .i64 A) := by simp [go_sem, *]
  have k1 : (w6.alloc (.cells #[.int .i64 0, .int .i64 0] 23)).cell? ⟨w.heap.size, 1, none⟩ = some (.int .i64 N) := by simp [go_sem, *]
  have k0' := cell_kept hB7' k0
  have k1' := cell_kept hB7' k1
  have hsz7 := hR.size
  generalize Lib.bytesWorld (w6.alloc (.cells #[.int .i64 0, .int .i64 0] 23)) 5 s = w7 at *
  simp only [World.size_alloc] at hR hsz7 hcv3
  have hc := hR.cell i hilt
  have hf := hR.free i hilt
  have hR5 := hR.put i b
  rw [Hbe.out] at hR5
  have hB8 : Below w.heap.size w (w7.setCell ⟨w6.heap.size + 1, i, none⟩ (.int .u8 a3)) := gr_set hB7 (by simp; omega) _
  have hcb := fun cap => hR5.back (P := Tryd.prog) (src := 41) (dst := 9) cap Tryd.underlying41 Tryd.underlying5 Tryd.underlying9
  rw [List.length_set, ← Hsz.out] at hcb
  have k2 : (w7.setCell ⟨w6.heap.size + 1, i, none⟩ (.int .u8 a3)).cell? ⟨w.heap.size, 0, none⟩ = some (.int .i64 A) := by rw [World.cell?_setCell_other _ _ _ _ (by intro e; injection e with e; omega)]; exact k0'
  have k3 : (w7.setCell ⟨w6.heap.size + 1, i, none⟩ (.int .u8 a3)).cell? ⟨w.heap.size, 1, none⟩ = some (.int .i64 N) := by rw [World.cell?_setCell_other _ _ _ _ (by intro e; injection e with e; omega)]; exact k1'
  have HR5 := Lib.hid hR5
  clear hR hR5 hB6 hB7 hB7' k0 k1
  go_wp2_with fail
  refine (HQ.out _ (hA.on hB8)).mono ?_
  rintro e w9 ⟨rfl, hb9⟩
  have hz9 := hb9.size
  have hR9 := HR5.out.kept hb9 (by simpa using hsz7)
  have hcb9 := fun cap => hR9.back (P := Tryd.prog) (src := 41) (dst := 9) cap Tryd.underlying41 Tryd.underlying5 Tryd.underlying9
  rw [List.length_set, ← Hsz.out] at hcb9
  have m0 := cell_kept hb9 k2
  have m1 := cell_kept hb9 k3
  have hra := fun (W : World) (o : Obj) => W
  have hRa := hR9.alloc (.cells #[.int .i64 S, .int .i64 M] 23)
  have hcba := fun cap => hRa.back (P := Tryd.prog) (src := 41) (dst := 9) cap Tryd.underlying41 Tryd.underlying5 Tryd.underlying9
  rw [List.length_set, ← Hsz.out] at hcba
  have hwl : w.heap.size < w9.heap.size := by have := block_lt m0; simpa using this
  have hwl2 : w.heap.size ≤ w9.heap.size := by omega
  clear hcb hcb9 hR9 hRa hra hc hf hcv3
  go_wp2_with fail
  refine (awake_any _ (hA.on (by (repeat' (first | exact Below.refl _ _ | assumption | refine gr_drew ?_ | refine gr_drewN ?_ _ | refine gr_alloc ?_ _ | refine gr_set ?_ ?_ _ | refine gr_call ?_ (by assumption)) <;> (try (simp; done)) <;> (try (simp; omega)) <;> (try omega))))).mono ?_
  rintro e w10 ⟨rfl, hbw10⟩
  have hzw10 := hbw10.size
  try simp at hzw10
  go_wp2_with fail
  go_ret
  exact ⟨rfl, by (repeat' (first | exact Below.refl _ _ | assumption | refine gr_drew ?_ | refine gr_drewN ?_ _ | refine gr_alloc ?_ _ | refine gr_set ?_ ?_ _ | refine gr_call ?_ (by assumption)) <;> (try (simp; done)) <;> (try (simp; omega)) <;> (try omega))⟩

theorem stampBack_walk (a0 : Int) (a1 : Int) (a2 : Int) (a3 : Int) (w : World) (hA : Amb w) (w0 : (Lit.int .i64 a0).wf = true) (w1 : (Lit.int .u32 a1).wf = true) (w2 : (Lit.int .u8 a2).wf = true) (w3 : (Lit.int .u8 a3).wf = true) :
    Calls Tryd.prog 6 #[.int .i64 a0, .int .u32 a1, .int .u8 a2, .int .u8 a3] w fun e w' => e = .returned (.bool true) ∧ Below w.heap.size w w' := by
  have hb0 := bounds64 w0
  have hb1 := boundsU32 w1
  have hb2 := boundsU8 w2
  have hb3 := boundsU8 w3
  have hm : mayF (a0.tmod 1099511627777) (a1 % 1000000000) = true := by
    rw [may_iff]
    have h1 := Int.tmod_lt_of_pos a0 (show (0 : Int) < 1099511627777 by omega)
    have h2 := Int.lt_tmod_of_pos a0 (show (0 : Int) < 1099511627777 by omega)
    omega
  obtain ⟨b, hb⟩ := u8_of a3 hb3.1 hb3.2
  have hl := (text_len _ _ hm).1
  obtain ⟨i, hi⟩ := Int.eq_ofNat_of_zero_le (show 0 ≤ a2 % ((textF (a0.tmod 1099511627777) (a1 % 1000000000)).length : Int) from Int.emod_nonneg _ (by omega))
  by_cases hset : (textF (a0.tmod 1099511627777) (a1 % 1000000000)).set i b = textF (a0.tmod 1099511627777) (a1 % 1000000000)
  · exact back_1 a0 a1 a2 a3 _ _ _ _ i b w hA hb0 hb1 hb2 hb3 rfl rfl hm rfl rfl hi hb hset
  · rcases hok : parseOk ((textF (a0.tmod 1099511627777) (a1 % 1000000000)).set i b) with _ | _
    · exact back_2 a0 a1 a2 a3 _ _ _ _ i b w hA hb0 hb1 hb2 hb3 rfl rfl hm rfl rfl hi hb hset hok
    · have hne := back_same hok hm hset
      rcases hSA : (guessS ((textF (a0.tmod 1099511627777) (a1 % 1000000000)).set i b) == a0.tmod 1099511627777) with _ | _
      · exact back_3 a0 a1 a2 a3 _ _ _ _ i b w hA hb0 hb1 hb2 hb3 rfl rfl hm rfl rfl hi hb hset hok _ _ rfl rfl hSA
      · refine back_4 a0 a1 a2 a3 _ _ _ _ i b w hA hb0 hb1 hb2 hb3 rfl rfl hm rfl rfl hi hb hset hok _ _ rfl rfl hSA ?_
        rw [beq_eq_false_iff_ne]; intro e
        exact hne ⟨by simpa using hSA, e⟩
end Go.Proofs.YtaobkniecgiplaaDoor
