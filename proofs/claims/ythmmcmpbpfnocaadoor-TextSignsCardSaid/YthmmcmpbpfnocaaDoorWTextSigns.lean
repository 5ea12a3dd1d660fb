/- The walk of the law TextSigns. -/
import Derived.Test.YthmmcmpbpfnocaaDoorPutMath
namespace Go.Proofs.YthmmcmpbpfnocaaDoor
open Go.RowKit
open TextM
set_option linter.unusedVariables false

theorem boundsU32 {n : Int} (h : (Lit.int .u32 n).wf = true) : 0 ≤ n ∧ n ≤ 4294967295 := by
  have hmin : IntKind.u32.min = 0 := rfl
  have hmax : IntKind.u32.max = 4294967295 := rfl
  simp only [Lit.wf, Bool.and_eq_true, decide_eq_true_eq] at h
  omega
theorem and_i (n m k : Nat) (x : Int) (hx : x = (n : Int)) (hn : n < 4611686018427387904) (hm : m < 1000) (h : n &&& m = k) : bits .and .i64 x (m : Int) = (k : Int) := by
  subst hx h
  exact and_i64 n m (by omega) (by omega)

theorem sizeOf_mk (l : List UInt8) : (⟨l.toArray⟩ : ByteArray).size = l.length := by simp [ByteArray.size]
theorem conv_at {P : Program} {t src dst : TypeId} (hs : P.underlying src = some (.slice t)) (he : P.underlying t = some (.int .u8)) (hd : P.underlying dst = some .string) (l : List UInt8) (k : Nat) (hk : k = l.length) (cs : Array Value) (hc : cs = cellsOf l) (W : World) (g : Nat) (hg : W.heap.size = g) :
    (convert src dst (.slice (some ⟨g, 0, none⟩) k k)).run P (W.alloc (.cells cs t)) = .ok (.string ⟨l.toArray⟩) (W.alloc (.cells cs t)) := by
  subst hg
  exact conv_lit hs he hd l k hk cs hc W
set_option maxHeartbeats 1600000 in
theorem textSigns_walk (a0 : Int) (w : World) (hA : Amb w) (w0 : (Lit.int .u32 a0).wf = true) :
    Calls Tryd.prog 4 #[.int .u32 a0] w fun e w' => e = .returned (.bool true) ∧ Below w.heap.size w w' := by
  obtain ⟨ha0, ha1⟩ := boundsU32 w0
  clear w0
  obtain ⟨k, hk⟩ : ∃ k : Nat, a0 % 2097152 = (k : Int) := ⟨(a0 % 2097152).toNat, by omega⟩
  have hk2 : k < 2097152 := by omega
  have hm : a0 % 2097152 = (k : Int) := hk
  have P := put_any k hk2
  have V := valid_any ⟨(putL k).toArray⟩ (by rw [sizeOf_mk]; have := (putL_len k).2; omega)
  have C := count_any ⟨(putL k).toArray⟩ (by rw [sizeOf_mk]; have := (putL_len k).2; omega)
  rw [show (⟨(putL k).toArray⟩ : ByteArray).data.toList = putL k from rfl, valid_put k hk2] at V
  rw [show (⟨(putL k).toArray⟩ : ByteArray).data.toList = putL k from rfl] at C
  obtain ⟨S, hS⟩ : ∃ S : ByteArray, (⟨(putL k).toArray⟩ : ByteArray) = S := ⟨_, rfl⟩
  rw [hS] at P V C
  clear hS
  obtain ⟨x, hx⟩ : ∃ x : Int, x = (k : Int) := ⟨_, rfl⟩
  have q1 : bits .and .i64 (x / 64) 31 = ((k / 64 % 32 : Nat) : Int) := and_i (k / 64) 31 (k / 64 % 32) (x / 64) (by omega) (by omega) (by decide) (Nat.and_two_pow_sub_one_eq_mod (k / 64) 5)
  have q2 : bits .and .i64 x 63 = ((k % 64 : Nat) : Int) := and_i k 63 (k % 64) x hx (by omega) (by decide) (Nat.and_two_pow_sub_one_eq_mod k 6)
  have q3 : bits .and .i64 (x / 64) 1 = ((k / 64 % 2 : Nat) : Int) := and_i (k / 64) 1 (k / 64 % 2) (x / 64) (by omega) (by omega) (by decide) (Nat.and_two_pow_sub_one_eq_mod (k / 64) 1)
  have L1 := valid_any ⟨#[224, UInt8.ofNat (128 + k / 64 % 32), UInt8.ofNat (128 + k % 64)]⟩ (by show 3 ≤ _; omega)
  have L2 := valid_any ⟨#[UInt8.ofNat (192 + k / 64 % 2), UInt8.ofNat (128 + k % 64)]⟩ (by show 2 ≤ _; omega)
  rw [show validB (⟨#[224, UInt8.ofNat (128 + k / 64 % 32), UInt8.ofNat (128 + k % 64)]⟩ : ByteArray).data.toList = false from long_no k] at L1
  rw [show validB (⟨#[UInt8.ofNat (192 + k / 64 % 2), UInt8.ofNat (128 + k % 64)]⟩ : ByteArray).data.toList = false from two_no k] at L2
  obtain ⟨r1, hr1⟩ : ∃ r, k / 64 % 32 = r := ⟨_, rfl⟩
  obtain ⟨r2, hr2⟩ : ∃ r, k % 64 = r := ⟨_, rfl⟩
  obtain ⟨r3, hr3⟩ : ∃ r, k / 64 % 2 = r := ⟨_, rfl⟩
  rw [hr1] at q1
  rw [hr2] at q2
  rw [hr3] at q3
  rw [hr1, hr2] at L1
  rw [hr3, hr2] at L2
  have d1 : r1 < 32 := by omega
  have d2 : r2 < 64 := by omega
  have d3 : r3 < 2 := by omega
  have cv1 := conv_at (src := 28) (dst := 9) Tryd.underlying28 Tryd.underlying5 Tryd.underlying9 [UInt8.ofNat (128 + r1), UInt8.ofNat (128 + r2)] 2 rfl #[.int .u8 (128 + (r1 : Int)), .int .u8 (128 + (r2 : Int))] (by
    unfold cellsOf
    simp only [List.map_cons, List.map_nil]
    rw [byte_of (128 + r1) (128 + (r1 : Int)) (by omega) (by omega), byte_of (128 + r2) (128 + (r2 : Int)) (by omega) (by omega)])
  have cv2 := conv_at (src := 28) (dst := 9) Tryd.underlying28 Tryd.underlying5 Tryd.underlying9 [UInt8.ofNat (192 + r3), UInt8.ofNat (128 + r2)] 2 rfl #[.int .u8 (192 + (r3 : Int)), .int .u8 (128 + (r2 : Int))] (by
    unfold cellsOf
    simp only [List.map_cons, List.map_nil]
    rw [byte_of (192 + r3) (192 + (r3 : Int)) (by omega) (by omega), byte_of (128 + r2) (128 + (r2 : Int)) (by omega) (by omega)])
  generalize UInt8.ofNat (128 + r1) = u1 at *
  generalize UInt8.ofNat (128 + r2) = u2 at *
  generalize UInt8.ofNat (192 + r3) = u3 at *
  have hgd : named k = (decide (x ≤ 1114111) && (decide (x < 55296) || decide (57343 < x))) := by
    unfold named
    rw [Bool.eq_iff_iff]
    simp only [Bool.and_eq_true, Bool.or_eq_true, decide_eq_true_eq]
    omega
  rw [show (⟨#[224, u1, u2]⟩ : ByteArray) = ⟨#[224]⟩ ++ ⟨#[u1, u2]⟩ from bytes_ext (by simp)] at L1
  have HC : named k = true → cntN (putL k) = 1 := count_put k hk2
  have Hk := Lib.hid hk
  have xb : 0 ≤ x ∧ x < 2097152 := by omega
  rw [← hx] at P hm
  generalize cntN (putL k) = z at *
  rw [hgd] at V HC
  have htm : a0.tmod 2097152 = x := by rw [Int.tmod_eq_emod_of_nonneg ha0, hm]
  clear hgd hk hr1 hr2 hr3 hx Hk hk2
  by_cases c1 : x ≤ 1114111
  · by_cases c2 : x < 55296
    · have hz : z = 1 := HC (by rw [decide_eq_true c1, decide_eq_true c2]; rfl)
      rw [decide_eq_true c1, decide_eq_true c2, Bool.true_or, Bool.and_true] at V
      subst hz
      clear HC
      go_enter Tryd.func4, Tryd.ntmps4
      go_wp2_with fail
      refine (P _).mono ?_
      rintro e w1 ⟨rfl, hbw1⟩
      have hzw1 := hbw1.size
      try simp at hzw1
      go_wp2_with fail
      refine (V _ (hA.on (by (repeat' (first | exact Below.refl _ _ | assumption | refine gr_drew ?_ | refine gr_drewN ?_ _ | refine gr_alloc ?_ _ | refine gr_set ?_ ?_ _ | refine gr_call ?_ (by assumption)) <;> (try (simp; done)) <;> (try (simp; omega)) <;> (try omega))))).mono ?_
      rintro e w2 ⟨rfl, hbw2⟩
      have hzw2 := hbw2.size
      try simp at hzw2
      go_wp2_with fail
      refine (C _ (hA.on (by (repeat' (first | exact Below.refl _ _ | assumption | refine gr_drew ?_ | refine gr_drewN ?_ _ | refine gr_alloc ?_ _ | refine gr_set ?_ ?_ _ | refine gr_call ?_ (by assumption)) <;> (try (simp; done)) <;> (try (simp; omega)) <;> (try omega))))).mono ?_
      rintro e w3 ⟨rfl, hbw3⟩
      have hzw3 := hbw3.size
      try simp at hzw3
      go_wp2_with fail
      refine (L1 _ (hA.on (by (repeat' (first | exact Below.refl _ _ | assumption | refine gr_drew ?_ | refine gr_drewN ?_ _ | refine gr_alloc ?_ _ | refine gr_set ?_ ?_ _ | refine gr_call ?_ (by assumption)) <;> (try (simp; done)) <;> (try (simp; omega)) <;> (try omega))))).mono ?_
      rintro e w4 ⟨rfl, hbw4⟩
      have hzw4 := hbw4.size
      try simp at hzw4
      go_wp2_with fail
      refine (L2 _ (hA.on (by (repeat' (first | exact Below.refl _ _ | assumption | refine gr_drew ?_ | refine gr_drewN ?_ _ | refine gr_alloc ?_ _ | refine gr_set ?_ ?_ _ | refine gr_call ?_ (by assumption)) <;> (try (simp; done)) <;> (try (simp; omega)) <;> (try omega))))).mono ?_
      rintro e w5 ⟨rfl, hbw5⟩
      have hzw5 := hbw5.size
      try simp at hzw5
      go_wp2_with fail
      refine (awake_any _ (hA.on (by (repeat' (first | exact Below.refl _ _ | assumption | refine gr_drew ?_ | refine gr_drewN ?_ _ | refine gr_alloc ?_ _ | refine gr_set ?_ ?_ _ | refine gr_call ?_ (by assumption)) <;> (try (simp; done)) <;> (try (simp; omega)) <;> (try omega))))).mono ?_
      rintro e w6 ⟨rfl, hbw6⟩
      have hzw6 := hbw6.size
      try simp at hzw6
      go_wp2_with fail
      go_ret
      exact ⟨rfl, by (repeat' (first | exact Below.refl _ _ | assumption | refine gr_drew ?_ | refine gr_drewN ?_ _ | refine gr_alloc ?_ _ | refine gr_set ?_ ?_ _ | refine gr_call ?_ (by assumption)) <;> (try (simp; done)) <;> (try (simp; omega)) <;> (try omega))⟩
    · by_cases c3 : 57343 < x
      · have hz : z = 1 := HC (by rw [decide_eq_true c1, decide_eq_true c3, Bool.or_true]; rfl)
        rw [decide_eq_true c1, decide_eq_true c3, Bool.or_true, Bool.and_true] at V
        subst hz
        clear HC
        go_enter Tryd.func4, Tryd.ntmps4
        go_wp2_with fail
        refine (P _).mono ?_
        rintro e w1 ⟨rfl, hbw1⟩
        have hzw1 := hbw1.size
        try simp at hzw1
        go_wp2_with fail
        refine (V _ (hA.on (by (repeat' (first | exact Below.refl _ _ | assumption | refine gr_drew ?_ | refine gr_drewN ?_ _ | refine gr_alloc ?_ _ | refine gr_set ?_ ?_ _ | refine gr_call ?_ (by assumption)) <;> (try (simp; done)) <;> (try (simp; omega)) <;> (try omega))))).mono ?_
        rintro e w2 ⟨rfl, hbw2⟩
        have hzw2 := hbw2.size
        try simp at hzw2
        go_wp2_with fail
        refine (C _ (hA.on (by (repeat' (first | exact Below.refl _ _ | assumption | refine gr_drew ?_ | refine gr_drewN ?_ _ | refine gr_alloc ?_ _ | refine gr_set ?_ ?_ _ | refine gr_call ?_ (by assumption)) <;> (try (simp; done)) <;> (try (simp; omega)) <;> (try omega))))).mono ?_
        rintro e w3 ⟨rfl, hbw3⟩
        have hzw3 := hbw3.size
        try simp at hzw3
        go_wp2_with fail
        refine (L1 _ (hA.on (by (repeat' (first | exact Below.refl _ _ | assumption | refine gr_drew ?_ | refine gr_drewN ?_ _ | refine gr_alloc ?_ _ | refine gr_set ?_ ?_ _ | refine gr_call ?_ (by assumption)) <;> (try (simp; done)) <;> (try (simp; omega)) <;> (try omega))))).mono ?_
        rintro e w4 ⟨rfl, hbw4⟩
        have hzw4 := hbw4.size
        try simp at hzw4
        go_wp2_with fail
        refine (L2 _ (hA.on (by (repeat' (first | exact Below.refl _ _ | assumption | refine gr_drew ?_ | refine gr_drewN ?_ _ | refine gr_alloc ?_ _ | refine gr_set ?_ ?_ _ | refine gr_call ?_ (by assumption)) <;> (try (simp; done)) <;> (try (simp; omega)) <;> (try omega))))).mono ?_
        rintro e w5 ⟨rfl, hbw5⟩
        have hzw5 := hbw5.size
        try simp at hzw5
        go_wp2_with fail
        refine (awake_any _ (hA.on (by (repeat' (first | exact Below.refl _ _ | assumption | refine gr_drew ?_ | refine gr_drewN ?_ _ | refine gr_alloc ?_ _ | refine gr_set ?_ ?_ _ | refine gr_call ?_ (by assumption)) <;> (try (simp; done)) <;> (try (simp; omega)) <;> (try omega))))).mono ?_
        rintro e w6 ⟨rfl, hbw6⟩
        have hzw6 := hbw6.size
        try simp at hzw6
        go_wp2_with fail
        go_ret
        exact ⟨rfl, by (repeat' (first | exact Below.refl _ _ | assumption | refine gr_drew ?_ | refine gr_drewN ?_ _ | refine gr_alloc ?_ _ | refine gr_set ?_ ?_ _ | refine gr_call ?_ (by assumption)) <;> (try (simp; done)) <;> (try (simp; omega)) <;> (try omega))⟩
      · rw [decide_eq_false c2, decide_eq_false c3, Bool.or_false, Bool.and_false] at V
        have e2 := decide_eq_false c2
        have e3 := decide_eq_false c3
        clear HC C c2 c3
        go_enter Tryd.func4, Tryd.ntmps4
        go_wp2_with fail
        refine (P _).mono ?_
        rintro e w1 ⟨rfl, hbw1⟩
        have hzw1 := hbw1.size
        try simp at hzw1
        go_wp2_with fail
        refine (V _ (hA.on (by (repeat' (first | exact Below.refl _ _ | assumption | refine gr_drew ?_ | refine gr_drewN ?_ _ | refine gr_alloc ?_ _ | refine gr_set ?_ ?_ _ | refine gr_call ?_ (by assumption)) <;> (try (simp; done)) <;> (try (simp; omega)) <;> (try omega))))).mono ?_
        rintro e w2 ⟨rfl, hbw2⟩
        have hzw2 := hbw2.size
        try simp at hzw2
        go_wp2_with fail
        refine (L1 _ (hA.on (by (repeat' (first | exact Below.refl _ _ | assumption | refine gr_drew ?_ | refine gr_drewN ?_ _ | refine gr_alloc ?_ _ | refine gr_set ?_ ?_ _ | refine gr_call ?_ (by assumption)) <;> (try (simp; done)) <;> (try (simp; omega)) <;> (try omega))))).mono ?_
        rintro e w4 ⟨rfl, hbw4⟩
        have hzw4 := hbw4.size
        try simp at hzw4
        go_wp2_with fail
        refine (L2 _ (hA.on (by (repeat' (first | exact Below.refl _ _ | assumption | refine gr_drew ?_ | refine gr_drewN ?_ _ | refine gr_alloc ?_ _ | refine gr_set ?_ ?_ _ | refine gr_call ?_ (by assumption)) <;> (try (simp; done)) <;> (try (simp; omega)) <;> (try omega))))).mono ?_
        rintro e w5 ⟨rfl, hbw5⟩
        have hzw5 := hbw5.size
        try simp at hzw5
        go_wp2_with fail
        refine (awake_any _ (hA.on (by (repeat' (first | exact Below.refl _ _ | assumption | refine gr_drew ?_ | refine gr_drewN ?_ _ | refine gr_alloc ?_ _ | refine gr_set ?_ ?_ _ | refine gr_call ?_ (by assumption)) <;> (try (simp; done)) <;> (try (simp; omega)) <;> (try omega))))).mono ?_
        rintro e w6 ⟨rfl, hbw6⟩
        have hzw6 := hbw6.size
        try simp at hzw6
        go_wp2_with fail
        go_ret
        exact ⟨rfl, by (repeat' (first | exact Below.refl _ _ | assumption | refine gr_drew ?_ | refine gr_drewN ?_ _ | refine gr_alloc ?_ _ | refine gr_set ?_ ?_ _ | refine gr_call ?_ (by assumption)) <;> (try (simp; done)) <;> (try (simp; omega)) <;> (try omega))⟩
  · rw [decide_eq_false c1, Bool.false_and] at V
    clear HC C
    go_enter Tryd.func4, Tryd.ntmps4
    go_wp2_with fail
    refine (P _).mono ?_
    rintro e w1 ⟨rfl, hbw1⟩
    have hzw1 := hbw1.size
    try simp at hzw1
    go_wp2_with fail
    refine (V _ (hA.on (by (repeat' (first | exact Below.refl _ _ | assumption | refine gr_drew ?_ | refine gr_drewN ?_ _ | refine gr_alloc ?_ _ | refine gr_set ?_ ?_ _ | refine gr_call ?_ (by assumption)) <;> (try (simp; done)) <;> (try (simp; omega)) <;> (try omega))))).mono ?_
    rintro e w2 ⟨rfl, hbw2⟩
    have hzw2 := hbw2.size
    try simp at hzw2
    go_wp2_with fail
    refine (L1 _ (hA.on (by (repeat' (first | exact Below.refl _ _ | assumption | refine gr_drew ?_ | refine gr_drewN ?_ _ | refine gr_alloc ?_ _ | refine gr_set ?_ ?_ _ | refine gr_call ?_ (by assumption)) <;> (try (simp; done)) <;> (try (simp; omega)) <;> (try omega))))).mono ?_
    rintro e w4 ⟨rfl, hbw4⟩
    have hzw4 := hbw4.size
    try simp at hzw4
    go_wp2_with fail
    refine (L2 _ (hA.on (by (repeat' (first | exact Below.refl _ _ | assumption | refine gr_drew ?_ | refine gr_drewN ?_ _ | refine gr_alloc ?_ _ | refine gr_set ?_ ?_ _ | refine gr_call ?_ (by assumption)) <;> (try (simp; done)) <;> (try (simp; omega)) <;> (try omega))))).mono ?_
    rintro e w5 ⟨rfl, hbw5⟩
    have hzw5 := hbw5.size
    try simp at hzw5
    go_wp2_with fail
    refine (awake_any _ (hA.on (by (repeat' (first | exact Below.refl _ _ | assumption | refine gr_drew ?_ | refine gr_drewN ?_ _ | refine gr_alloc ?_ _ | refine gr_set ?_ ?_ _ | refine gr_call ?_ (by assumption)) <;> (try (simp; done)) <;> (try (simp; omega)) <;> (try omega))))).mono ?_
    rintro e w6 ⟨rfl, hbw6⟩
    have hzw6 := hbw6.size
    try simp at hzw6
    go_wp2_with fail
    go_ret
    exact ⟨rfl, by (repeat' (first | exact Below.refl _ _ | assumption | refine gr_drew ?_ | refine gr_drewN ?_ _ | refine gr_alloc ?_ _ | refine gr_set ?_ ?_ _ | refine gr_call ?_ (by assumption)) <;> (try (simp; done)) <;> (try (simp; omega)) <;> (try omega))⟩
end Go.Proofs.YthmmcmpbpfnocaaDoor
