/- The walk of the law TextJoins. -/
import Derived.Test.YthmmcmpbpfnocaaDoorPutMath
import Derived.Test.YthmmcmpbpfnocaaDoorArg
namespace Go.Proofs.YthmmcmpbpfnocaaDoor
open Go.RowKit
open TextM
set_option linter.unusedVariables false

theorem jU32 {n : Int} (h : (Lit.int .u32 n).wf = true) : 0 ≤ n ∧ n ≤ 4294967295 := by
  have hmin : IntKind.u32.min = 0 := rfl
  have hmax : IntKind.u32.max = 4294967295 := rfl
  simp only [Lit.wf, Bool.and_eq_true, decide_eq_true_eq] at h
  omega
theorem jU8 {n : Int} (h : (Lit.int .u8 n).wf = true) : 0 ≤ n ∧ n ≤ 255 := by
  have hmin : IntKind.u8.min = 0 := rfl
  have hmax : IntKind.u8.max = 255 := rfl
  simp only [Lit.wf, Bool.and_eq_true, decide_eq_true_eq] at h
  omega
/-- A text so far: so many characters in so many bytes. -/
def Txt (S : ByteArray) (k i : Nat) : Prop := Chars S.data.toList k ∧ k ≤ i ∧ S.size ≤ 4 * i
theorem txt_nil : Txt ⟨#[]⟩ 0 0 := ⟨chars_nil, Nat.le_refl _, Nat.le_refl _⟩
theorem txt_more {S : ByteArray} {k i : Nat} (h : Txt S k i) (n : Nat) (hn : n < 2097152) (hg : named n = true) : Txt (S ++ ⟨(putL n).toArray⟩) (k + 1) (i + 1) := by
  obtain ⟨h1, h2, h3⟩ := h
  have h4 := putL_len n
  refine ⟨?_, by omega, ?_⟩
  · rw [bytes_list]
    exact chars_join h1 (chars_put n hn hg)
  · rw [ByteArray.size_append, show (⟨(putL n).toArray⟩ : ByteArray).size = (putL n).length by simp [ByteArray.size]]
    omega
theorem txt_same {S : ByteArray} {k i : Nat} (h : Txt S k i) : Txt S k (i + 1) := ⟨h.1, by have := h.2.1; omega, by have := h.2.2; omega⟩

set_option maxHeartbeats 3200000 in
theorem textJoins_walk (a0 : Option Addr) (len0 cap0 : Nat) (z0 : List Int) (a1 : Option Addr) (len1 cap1 : Nat) (z1 : List Int) (a2 : Int) (w : World) (hA : Amb w) (w0 : IsRow .u32 w a0 len0 cap0 z0) (w1 : IsRow .u32 w a1 len1 cap1 z1) (w2 : (Lit.int .u8 a2).wf = true) :
    Calls Tryd.prog 5 #[.slice a0 len0 cap0, .slice a1 len1 cap1, .int .u8 a2] w fun e w' => e = .returned (.bool true) ∧ Below w.heap.size w w' := by
  obtain ⟨c0, c255⟩ := jU8 w2
  clear w2
  by_cases h0 : len0 ≤ 50
  · by_cases h1 : len1 ≤ 50
    · have q0 : ¬ (50 : Int) < (len0 : Int) := by omega
      have q1 : ¬ (50 : Int) < (len1 : Int) := by omega
      have W0 := Lib.hid w0
      have W1 := Lib.hid w1
      clear w0 w1
      go_enter Tryd.func5, Tryd.ntmps5
      go_wp2_with fail
      go_loopw [7, 9, 10] (fun sv kv iv wr => ∃ (S : ByteArray) (k i : Nat), sv = .string S ∧ kv = .int .i64 (k : Int) ∧ iv = .int .i64 (i : Int) ∧ i ≤ len0 ∧ Hid (Txt S k i) ∧ Below w.heap.size w wr) (fun _ _ iv _ => len0 - (intOf iv).toNat)
      case atStart => exact ⟨_, 0, 0, rfl, rfl, rfl, by omega, Lib.hid txt_nil, Below.refl _ _⟩
      case round =>
        obtain ⟨S, k, i, rfl, rfl, rfl, hi, HT, hbl⟩ := hrel
        by_cases hlt : i < len0
        · have hlt' : (i : Int) < (len0 : Int) := by omega
          obtain ⟨b, off, rfl, hbw, -, hcs⟩ := W0.out.open (by omega)
          obtain ⟨hc, hwf⟩ := hcs i hlt
          obtain ⟨z0', z1'⟩ := jU32 hwf
          clear hcs hwf
          have hcr : wr.cell? ⟨b, off + i, none⟩ = some (.int .u32 (z0.getD i 0)) := by rw [hbl.cell (p := ⟨b, off + i, none⟩) hbw, hc]
          clear hc
          generalize z0.getD i 0 = z at *
          obtain ⟨n, hn⟩ : ∃ n : Nat, z % 1114112 = (n : Int) := ⟨(z % 1114112).toNat, by omega⟩
          have hn2 : n < 1114112 := by omega
          have htm : z.tmod 1114112 = (n : Int) := by rw [Int.tmod_eq_emod_of_nonneg z0', hn]
          have HP := put_any n (by omega)
          have HM := Lib.hid (fun h => txt_more HT.out n (by omega) h)
          have hsz := HT.out.2.2
          have hki := HT.out.2.1
          have hpl := (putL_len n).2
          obtain ⟨X, hX⟩ : ∃ X : ByteArray, (⟨(putL n).toArray⟩ : ByteArray) = X := ⟨_, rfl⟩
          have hXs : X.size ≤ 4 := by rw [← hX, show (⟨(putL n).toArray⟩ : ByteArray).size = (putL n).length by simp [ByteArray.size]]; omega
          rw [hX] at HP HM
          have hlen : ¬ 9223372036854775807 < S.size + X.size := by omega
          clear hX hpl hn
          have HN := Lib.hid (show named n = (decide (n ≤ 1114111) && (decide (n < 55296) || decide (57343 < n))) from rfl)
          by_cases g1 : (n : Int) < 55296
          · go_wp2_with fail
            refine (HP _).mono ?_
            rintro e w3 ⟨rfl, hb3⟩
            have hbl3 := gr_call hbl hb3
            go_wp2_with fail
            go_roundw
            case rel => exact ⟨_, k + 1, i + 1, rfl, by first | rfl | go_num, by first | rfl | go_num, by omega, Lib.hid (HM.out (by rw [HN.out, decide_eq_true (show n ≤ 1114111 by omega), decide_eq_true (show n < 55296 by omega)]; rfl)), hbl3⟩
            case measure => simp only [intOf]; omega
          · by_cases g2 : (57343 : Int) < (n : Int)
            · go_wp2_with fail
              refine (HP _).mono ?_
              rintro e w3 ⟨rfl, hb3⟩
              have hbl3 := gr_call hbl hb3
              go_wp2_with fail
              go_roundw
              case rel => exact ⟨_, k + 1, i + 1, rfl, by first | rfl | go_num, by first | rfl | go_num, by omega, Lib.hid (HM.out (by rw [HN.out, decide_eq_true (show n ≤ 1114111 by omega), decide_eq_true (show 57343 < n by omega)]; simp)), hbl3⟩
              case measure => simp only [intOf]; omega
            · go_wp2_with fail
              go_roundw
              case rel => exact ⟨S, k, i + 1, rfl, rfl, by first | rfl | go_num, by omega, Lib.hid (txt_same HT.out), hbl⟩
              case measure => simp only [intOf]; omega
        · have hlt' : ¬ (i : Int) < (len0 : Int) := by omega
          have HT := Lib.hid (show Txt S k len0 by rw [show len0 = i by omega]; exact HT.out)
          clear hi hlt W0 q0
          go_wp2_with fail
          go_loopw [8, 12] (fun tv iv wr => ∃ (T : ByteArray) (i : Nat), tv = .string T ∧ iv = .int .i64 (i : Int) ∧ i ≤ len1 ∧ Hid (Txt T i i) ∧ Below w.heap.size w wr) (fun _ iv _ => len1 - (intOf iv).toNat)
          case atStart => exact ⟨_, 0, rfl, rfl, by omega, Lib.hid txt_nil, hbl⟩
          case round =>
            clear hbl
            obtain ⟨T, i, rfl, rfl, hi, HU, hbl⟩ := hrel
            by_cases hlt : i < len1
            · have hlt' : (i : Int) < (len1 : Int) := by omega
              obtain ⟨b, off, rfl, hbw, -, hcs⟩ := W1.out.open (by omega)
              obtain ⟨hc, hwf⟩ := hcs i hlt
              obtain ⟨z0', z1'⟩ := jU32 hwf
              clear hcs hwf
              have hcr : wr.cell? ⟨b, off + i, none⟩ = some (.int .u32 (z1.getD i 0)) := by rw [hbl.cell (p := ⟨b, off + i, none⟩) hbw, hc]
              clear hc
              generalize z1.getD i 0 = z at *
              obtain ⟨n, hn⟩ : ∃ n : Nat, z % 55296 = (n : Int) := ⟨(z % 55296).toNat, by omega⟩
              have hn2 : n < 55296 := by omega
              have htm : z.tmod 55296 = (n : Int) := by rw [Int.tmod_eq_emod_of_nonneg z0', hn]
              have HP := put_any n (by omega)
              have HM := Lib.hid (txt_more HU.out n (by omega) (by unfold named; rw [decide_eq_true (show n ≤ 1114111 by omega), decide_eq_true hn2]; rfl))
              have hsz := HU.out.2.2
              have hpl := (putL_len n).2
              obtain ⟨X, hX⟩ : ∃ X : ByteArray, (⟨(putL n).toArray⟩ : ByteArray) = X := ⟨_, rfl⟩
              have hXs : X.size ≤ 4 := by rw [← hX, show (⟨(putL n).toArray⟩ : ByteArray).size = (putL n).length by simp [ByteArray.size]]; omega
              rw [hX] at HP HM
              have hlen : ¬ 9223372036854775807 < T.size + X.size := by omega
              clear hX hpl hn
              go_wp2_with fail
              refine (HP _).mono ?_
              rintro e w3 ⟨rfl, hb3⟩
              have hbl3 := gr_call hbl hb3
              go_wp2_with fail
              go_roundw
              case rel => exact ⟨_, i + 1, rfl, by first | rfl | go_num, by omega, HM, hbl3⟩
              case measure => simp only [intOf]; omega
            · have hlt' : ¬ (i : Int) < (len1 : Int) := by omega
              have HU := Lib.hid (show Txt T len1 len1 by rw [show len1 = i by omega, show i = len1 by omega]; rw [show len1 = i by omega]; exact HU.out)
              obtain ⟨tz, htz⟩ : ∃ n, T.size = n := ⟨_, rfl⟩
              obtain ⟨sz, hsz⟩ : ∃ n, S.size = n := ⟨_, rfl⟩
              have ht4 : tz ≤ 200 := by have := HU.out.2.2; omega
              have hs4 : sz ≤ 200 := by have := HT.out.2.2; omega
              have hk50 : k ≤ 50 := by have := HT.out.2.1; omega
              obtain ⟨c, hc⟩ : ∃ c : Nat, a2 % ((tz : Int) + 1) = (c : Int) := ⟨(a2 % ((tz : Int) + 1)).toNat, by have := Int.emod_nonneg a2 (show (tz : Int) + 1 ≠ 0 by omega); omega⟩
              have hcle : c ≤ tz := by have := Int.emod_lt_of_pos a2 (show (0 : Int) < (tz : Int) + 1 by omega); omega
              have htm : a2.tmod ((tz : Int) + 1) = (c : Int) := by rw [Int.tmod_eq_emod_of_nonneg c0, hc]
              have V1 := valid_any S (by omega)
              rw [show validB S.data.toList = true by unfold validB; rw [HT.out.1]] at V1
              have V2 := valid_any T (by omega)
              rw [show validB T.data.toList = true by unfold validB; rw [HU.out.1]] at V2
              have hj := chars_join HT.out.1 HU.out.1
              rw [← bytes_list] at hj
              have hjs : (S ++ T).size ≤ 1000000 := by rw [ByteArray.size_append]; omega
              have V3 := valid_any (S ++ T) hjs
              rw [show validB (S ++ T).data.toList = true by unfold validB; rw [hj]] at V3
              have C3 := count_any (S ++ T) hjs
              rw [show cntN (S ++ T).data.toList = k + len1 by unfold cntN; rw [hj], show ((k + len1 : Nat) : Int) = (k : Int) + (len1 : Int) by omega] at C3
              have B2 := bad_any (S ++ ⟨#[255]⟩ ++ T) (by rw [ByteArray.size_append, ByteArray.size_append]; show S.size + 1 + T.size ≤ _; omega)
              rw [show badI (S ++ ⟨#[255]⟩ ++ T).data.toList = (sz : Int) by
                have e1 : (S ++ ⟨#[255]⟩ ++ T).data.toList = S.data.toList ++ (255 :: T.data.toList) := by simp
                rw [e1]
                unfold badI
                rw [chars_app HT.out.1, rd_bad (l := 255 :: T.data.toList) (by rw [sg_cons]; rfl) (by simp)]
                simp [← hsz]] at B2
              have B1 := bad_any (T.extract 0 c) (by rw [ByteArray.size_extract]; omega)
              have htk : (T.extract 0 c).data.toList = T.data.toList.take c := by simp
              have hpt := rd_take tz T.data.toList c (by rw [← htz]; simp) (by rw [HU.out.1]) (by rw [← htz] at hcle; simpa using hcle)
              rw [htk] at B1
              have l1 : ¬ 9223372036854775807 < sz + tz := by omega
              have l2 : ¬ 9223372036854775807 < sz + 1 := by omega
              have l3 : ¬ 9223372036854775807 < sz + 1 + tz := by omega
              clear hi hlt W1 q1 HT HU hj hjs htk hc
              rcases hpt with hpt | ⟨hp1, hp2, hp3⟩
              · rw [show badI (T.data.toList.take c) = -1 by unfold badI; rw [hpt]; rfl] at B1
                clear hpt
                go_wp2_with fail
                refine (B1 _ (hA.on (by (repeat' (first | exact Below.refl _ _ | assumption | refine gr_drew ?_ | refine gr_drewN ?_ _ | refine gr_alloc ?_ _ | refine gr_set ?_ ?_ _ | refine gr_call ?_ (by assumption)) <;> (try (simp; done)) <;> (try (simp; omega)) <;> (try omega))))).mono ?_
                rintro e w3 ⟨rfl, hbw3⟩
                have hzw3 := hbw3.size
                try simp at hzw3
                go_wp2_with fail
                refine (V1 _ (hA.on (by (repeat' (first | exact Below.refl _ _ | assumption | refine gr_drew ?_ | refine gr_drewN ?_ _ | refine gr_alloc ?_ _ | refine gr_set ?_ ?_ _ | refine gr_call ?_ (by assumption)) <;> (try (simp; done)) <;> (try (simp; omega)) <;> (try omega))))).mono ?_
                rintro e w4 ⟨rfl, hbw4⟩
                have hzw4 := hbw4.size
                try simp at hzw4
                go_wp2_with fail
                refine (V2 _ (hA.on (by (repeat' (first | exact Below.refl _ _ | assumption | refine gr_drew ?_ | refine gr_drewN ?_ _ | refine gr_alloc ?_ _ | refine gr_set ?_ ?_ _ | refine gr_call ?_ (by assumption)) <;> (try (simp; done)) <;> (try (simp; omega)) <;> (try omega))))).mono ?_
                rintro e w5 ⟨rfl, hbw5⟩
                have hzw5 := hbw5.size
                try simp at hzw5
                go_wp2_with fail
                refine (V3 _ (hA.on (by (repeat' (first | exact Below.refl _ _ | assumption | refine gr_drew ?_ | refine gr_drewN ?_ _ | refine gr_alloc ?_ _ | refine gr_set ?_ ?_ _ | refine gr_call ?_ (by assumption)) <;> (try (simp; done)) <;> (try (simp; omega)) <;> (try omega))))).mono ?_
                rintro e w6 ⟨rfl, hbw6⟩
                have hzw6 := hbw6.size
                try simp at hzw6
                go_wp2_with fail
                refine (C3 _ (hA.on (by (repeat' (first | exact Below.refl _ _ | assumption | refine gr_drew ?_ | refine gr_drewN ?_ _ | refine gr_alloc ?_ _ | refine gr_set ?_ ?_ _ | refine gr_call ?_ (by assumption)) <;> (try (simp; done)) <;> (try (simp; omega)) <;> (try omega))))).mono ?_
                rintro e w7 ⟨rfl, hbw7⟩
                have hzw7 := hbw7.size
                try simp at hzw7
                go_wp2_with fail
                refine (B2 _ (hA.on (by (repeat' (first | exact Below.refl _ _ | assumption | refine gr_drew ?_ | refine gr_drewN ?_ _ | refine gr_alloc ?_ _ | refine gr_set ?_ ?_ _ | refine gr_call ?_ (by assumption)) <;> (try (simp; done)) <;> (try (simp; omega)) <;> (try omega))))).mono ?_
                rintro e w8 ⟨rfl, hbw8⟩
                have hzw8 := hbw8.size
                try simp at hzw8
                go_wp2_with fail
                refine (awake_any _ (hA.on (by (repeat' (first | exact Below.refl _ _ | assumption | refine gr_drew ?_ | refine gr_drewN ?_ _ | refine gr_alloc ?_ _ | refine gr_set ?_ ?_ _ | refine gr_call ?_ (by assumption)) <;> (try (simp; done)) <;> (try (simp; omega)) <;> (try omega))))).mono ?_
                rintro e w9 ⟨rfl, hbw9⟩
                have hzw9 := hbw9.size
                try simp at hzw9
                go_wp2_with fail
                go_ret
                exact ⟨rfl, by (repeat' (first | exact Below.refl _ _ | assumption | refine gr_drew ?_ | refine gr_drewN ?_ _ | refine gr_alloc ?_ _ | refine gr_set ?_ ?_ _ | refine gr_call ?_ (by assumption)) <;> (try (simp; done)) <;> (try (simp; omega)) <;> (try omega))⟩
              · obtain ⟨p, hp⟩ : ∃ p, (rd (T.data.toList.take c)).1 = p := ⟨_, rfl⟩
                rw [show badI (T.data.toList.take c) = (p : Int) by unfold badI; rw [hp1, hp]; rfl] at B1
                rw [hp] at hp2 hp3
                clear hp hp1
                have g1 : ¬ (p : Int) < 0 := by omega
                have g2 : (p : Int) < (c : Int) := by omega
                have g3 : (c : Int) - (p : Int) < 4 := by omega
                go_wp2_with fail
                refine (B1 _ (hA.on (by (repeat' (first | exact Below.refl _ _ | assumption | refine gr_drew ?_ | refine gr_drewN ?_ _ | refine gr_alloc ?_ _ | refine gr_set ?_ ?_ _ | refine gr_call ?_ (by assumption)) <;> (try (simp; done)) <;> (try (simp; omega)) <;> (try omega))))).mono ?_
                rintro e w3 ⟨rfl, hbw3⟩
                have hzw3 := hbw3.size
                try simp at hzw3
                go_wp2_with fail
                refine (V1 _ (hA.on (by (repeat' (first | exact Below.refl _ _ | assumption | refine gr_drew ?_ | refine gr_drewN ?_ _ | refine gr_alloc ?_ _ | refine gr_set ?_ ?_ _ | refine gr_call ?_ (by assumption)) <;> (try (simp; done)) <;> (try (simp; omega)) <;> (try omega))))).mono ?_
                rintro e w4 ⟨rfl, hbw4⟩
                have hzw4 := hbw4.size
                try simp at hzw4
                go_wp2_with fail
                refine (V2 _ (hA.on (by (repeat' (first | exact Below.refl _ _ | assumption | refine gr_drew ?_ | refine gr_drewN ?_ _ | refine gr_alloc ?_ _ | refine gr_set ?_ ?_ _ | refine gr_call ?_ (by assumption)) <;> (try (simp; done)) <;> (try (simp; omega)) <;> (try omega))))).mono ?_
                rintro e w5 ⟨rfl, hbw5⟩
                have hzw5 := hbw5.size
                try simp at hzw5
                go_wp2_with fail
                refine (V3 _ (hA.on (by (repeat' (first | exact Below.refl _ _ | assumption | refine gr_drew ?_ | refine gr_drewN ?_ _ | refine gr_alloc ?_ _ | refine gr_set ?_ ?_ _ | refine gr_call ?_ (by assumption)) <;> (try (simp; done)) <;> (try (simp; omega)) <;> (try omega))))).mono ?_
                rintro e w6 ⟨rfl, hbw6⟩
                have hzw6 := hbw6.size
                try simp at hzw6
                go_wp2_with fail
                refine (C3 _ (hA.on (by (repeat' (first | exact Below.refl _ _ | assumption | refine gr_drew ?_ | refine gr_drewN ?_ _ | refine gr_alloc ?_ _ | refine gr_set ?_ ?_ _ | refine gr_call ?_ (by assumption)) <;> (try (simp; done)) <;> (try (simp; omega)) <;> (try omega))))).mono ?_
                rintro e w7 ⟨rfl, hbw7⟩
                have hzw7 := hbw7.size
                try simp at hzw7
                go_wp2_with fail
                refine (B2 _ (hA.on (by (repeat' (first | exact Below.refl _ _ | assumption | refine gr_drew ?_ | refine gr_drewN ?_ _ | refine gr_alloc ?_ _ | refine gr_set ?_ ?_ _ | refine gr_call ?_ (by assumption)) <;> (try (simp; done)) <;> (try (simp; omega)) <;> (try omega))))).mono ?_
                rintro e w8 ⟨rfl, hbw8⟩
                have hzw8 := hbw8.size
                try simp at hzw8
                go_wp2_with fail
                refine (awake_any _ (hA.on (by (repeat' (first | exact Below.refl _ _ | assumption | refine gr_drew ?_ | refine gr_drewN ?_ _ | refine gr_alloc ?_ _ | refine gr_set ?_ ?_ _ | refine gr_call ?_ (by assumption)) <;> (try (simp; done)) <;> (try (simp; omega)) <;> (try omega))))).mono ?_
                rintro e w9 ⟨rfl, hbw9⟩
                have hzw9 := hbw9.size
                try simp at hzw9
                go_wp2_with fail
                go_ret
                exact ⟨rfl, by (repeat' (first | exact Below.refl _ _ | assumption | refine gr_drew ?_ | refine gr_drewN ?_ _ | refine gr_alloc ?_ _ | refine gr_set ?_ ?_ _ | refine gr_call ?_ (by assumption)) <;> (try (simp; done)) <;> (try (simp; omega)) <;> (try omega))⟩
    · have q0 : ¬ (50 : Int) < (len0 : Int) := by omega
      have q1 : (50 : Int) < (len1 : Int) := by omega
      clear w0 w1
      go_enter Tryd.func5, Tryd.ntmps5
      go_wp2_with fail
      refine (awake_any _ hA).mono ?_
      rintro e w9 ⟨rfl, hbw9⟩
      have hzw9 := hbw9.size
      try simp at hzw9
      go_wp2_with fail
      go_ret
      exact ⟨rfl, by (repeat' (first | exact Below.refl _ _ | assumption | refine gr_drew ?_ | refine gr_drewN ?_ _ | refine gr_alloc ?_ _ | refine gr_set ?_ ?_ _ | refine gr_call ?_ (by assumption)) <;> (try (simp; done)) <;> (try (simp; omega)) <;> (try omega))⟩
  · have q0 : (50 : Int) < (len0 : Int) := by omega
    clear w0 w1
    go_enter Tryd.func5, Tryd.ntmps5
    go_wp2_with fail
    refine (awake_any _ hA).mono ?_
    rintro e w9 ⟨rfl, hbw9⟩
    have hzw9 := hbw9.size
    try simp at hzw9
    go_wp2_with fail
    go_ret
    exact ⟨rfl, by (repeat' (first | exact Below.refl _ _ | assumption | refine gr_drew ?_ | refine gr_drewN ?_ _ | refine gr_alloc ?_ _ | refine gr_set ?_ ?_ _ | refine gr_call ?_ (by assumption)) <;> (try (simp; done)) <;> (try (simp; omega)) <;> (try omega))⟩
end Go.Proofs.YthmmcmpbpfnocaaDoor
