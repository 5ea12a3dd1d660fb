/- Walks over package text: character. -/
import Derived.Test.YthmmcmpbpfnocaaDoorTextLen
namespace Go.Proofs.YthmmcmpbpfnocaaDoor
open Go.RowKit
open TextM
set_option linter.unusedVariables false

/-- How the reading of a character ends. -/
def ChEnd (o : Option Nat) (e : Ending) : Prop := match o with
  | some k => e = .returned (.int .i64 (k : Int))
  | none => e = .panicked endsEarly
theorem conts_at (l : List UInt8) (i j n : Nat) : conts (j + 1) n (l.drop i) = match furAt l i with
    | some b => conts j (n * 64 + b) (l.drop (i + 1))
    | none => none := by
  unfold furAt
  rcases h : l[i]? with _ | c
  · rw [List.drop_eq_nil_of_le (List.getElem?_eq_none_iff.1 h)]
    rfl
  · rw [drop_at h, Option.bind_some]
    by_cases h2 : c.toNat / 64 = 2
    · rw [if_pos h2]
      show (if c.toNat / 64 = 2 then conts j (n * 64 + c.toNat % 64) (l.drop (i + 1)) else none) = _
      rw [if_pos h2]
    · rw [if_neg h2]
      show (if c.toNat / 64 = 2 then conts j (n * 64 + c.toNat % 64) (l.drop (i + 1)) else none) = _
      rw [if_neg h2]
theorem furAt_lt {l : List UInt8} {i b : Nat} (h : furAt l i = some b) : b < 64 := by
  obtain ⟨c, hc, hk⟩ := Option.bind_eq_some_iff.1 h
  split at hk
  · have := Option.some.inj hk; omega
  · cases hk
theorem join64 (n b : Nat) (hn : n < 33554432) (hb : b < 64) : bits .or .i64 ((n : Int) * 64) (b : Int) = ((n * 64 + b : Nat) : Int) := by
  have h1 : (n : Int) * 64 = ((n * 64 : Nat) : Int) := by omega
  have h3 : n * 64 ||| b = n * 64 + b := by
    rw [Nat.mul_comm]
    exact (Nat.two_pow_add_eq_or_of_lt (i := 6) hb n).symm
  rw [h1, or_i64 _ _ (by omega) (by omega), h3]
theorem sgn_cons (c : UInt8) (r : List UInt8) : sgn (c :: r) = if lenOf c = 0 then some 0 else (conts (lenOf c - 1) (c.toNat % 2 ^ bitsOf (lenOf c)) r).map fun n => if good (lenOf c) n then lenOf c else 0 := rfl

set_option maxHeartbeats 1600000 in
theorem character_any (S : ByteArray) (h0 : 0 < S.size) (hS : S.size ≤ 1000000) (w : World) (hA : Amb w) :
    Calls Tryd.prog 18 #[.string S] w fun e w' => ChEnd (sgn S.data.toList) e ∧ Below w.heap.size w w' := by
  obtain ⟨c, hc, hidx⟩ := idx_at Tryd.underlying9 S 0 h0
  have hl : S.data.toList = c :: S.data.toList.drop 1 := by have := drop_at hc; simpa using this
  have hsg : sgn S.data.toList = sgn (c :: S.data.toList.drop 1) := by rw [← hl]
  rw [sgn_cons] at hsg
  have hlen := length_any c
  have hlow := low_any c
  have hle := lenOf_le c
  obtain ⟨sz, hsz⟩ : ∃ n, S.size = n := ⟨_, rfl⟩
  have hidx' : ∀ w, (Instr.index 9 (.string S) (.int .i64 0)).run Tryd.prog w = .ok (.int .u8 (c.toNat : Int)) w := hidx
  have hz1 : (0 : Int) < (sz : Int) := by omega
  obtain ⟨L, hL⟩ : ∃ L, S.data.toList = L := ⟨_, rfl⟩
  have HL := Lib.hid hL
  rw [hL] at hsg
  obtain ⟨m, hm⟩ : ∃ m, lenOf c = m := ⟨_, rfl⟩
  rw [hm] at hlen hle hsg
  rw [hL]
  by_cases hm0 : m = 0
  · subst hm0
    rw [if_pos rfl] at hsg
    have Hsg := Lib.hid hsg
    clear hsg hl hc hm hidx hL hle
    go_enter Tryd.func18, Tryd.ntmps18
    go_wp2_with fail
    refine (hlen _ hA).mono ?_
    rintro e w1 ⟨rfl, hb1⟩
    go_wp2_with fail
    go_ret
    exact ⟨by rw [Hsg.out]; rfl, hb1⟩
  · rw [if_neg hm0] at hsg
    have hlow := hlow (bitsOf m) (by obtain rfl | rfl | rfl | rfl : m = 1 ∨ m = 2 ∨ m = 3 ∨ m = 4 := by omega
                                     all_goals decide)
    obtain ⟨n0, hn0⟩ : ∃ n0, c.toNat % 2 ^ bitsOf m = n0 := ⟨_, rfl⟩
    have hn0b : n0 < 128 := by
      rw [← hn0]
      obtain rfl | rfl | rfl | rfl : m = 1 ∨ m = 2 ∨ m = 3 ∨ m = 4 := by omega
      · exact Nat.mod_lt _ (by decide)
      · exact Nat.lt_of_lt_of_le (Nat.mod_lt _ (by decide)) (by decide)
      · exact Nat.lt_of_lt_of_le (Nat.mod_lt _ (by decide)) (by decide)
      · exact Nat.lt_of_lt_of_le (Nat.mod_lt _ (by decide)) (by decide)
    rw [hn0] at hlow hsg
    have Hsg := Lib.hid hsg
    clear hsg hl hc hm hidx hL hn0
    obtain rfl | rfl | rfl | rfl : m = 1 ∨ m = 2 ∨ m = 3 ∨ m = 4 := by omega
    · have hg : ∀ n, good 1 n = (decide (0 ≤ n) && named n) := fun n => rfl
      have Hg := Lib.hid hg
      clear hg
      go_enter Tryd.func18, Tryd.ntmps18
      go_wp2_with fail
      refine (hlen _ hA).mono ?_
      rintro e w1 ⟨rfl, hb1⟩
      obtain ⟨c0, c1, c2, c3, c4, c5, c6, c7, c8, c9, c10, c11⟩ := (hA.on hb1).cells
      clear c3 c4 c5 c6 c7 c8 c9 c10 c11
      go_wp2_with fail
      go_quiet ((go_at_call 20; exact Calls.quiet_of_same (hlow _ rfl _)))
      have hc2 : ((w1.alloc (Obj.cells #[.int .u8 0, .int .i64 7, .int .i64 0] 38)).drewN nq).cell? ⟨w1.heap.size, 2, none⟩ = some (.int .i64 0) := by simp [go_sem]
      have hbl : Below w.heap.size w ((w1.alloc (Obj.cells #[.int .u8 0, .int .i64 7, .int .i64 0] 38)).drewN nq) := gr_drewN (gr_alloc hb1 _) _
      generalize (w1.alloc (Obj.cells #[.int .u8 0, .int .i64 7, .int .i64 0] 38)).drewN nq = w2 at *
      clear c0 c1 c2 hb1 hidx'
      go_wp2_with fail
      go_loop [5, 6] (fun nv iv => ∃ i n : Nat, nv = .int .i64 (n : Int) ∧ iv = .int .i64 (i : Int) ∧ 1 ≤ i ∧ i ≤ 1 ∧ n < 128 * 64 ^ (i - 1) ∧ Hid (conts (1 - i) n (L.drop i) = conts (1 - 1) n0 (L.drop 1))) (fun _ iv => 1 - (intOf iv).toNat)
      case atStart => exact ⟨1, n0, rfl, rfl, by omega, by omega, by simpa using hn0b, Lib.hid rfl⟩
      case round =>
        obtain ⟨i, n, rfl, rfl, hi1, him, hnb, Hn⟩ := hrel
        have hnb2 : n < 33554432 := by
          obtain rfl | rfl | rfl | rfl : i = 1 ∨ i = 2 ∨ i = 3 ∨ i = 4 := by omega
          all_goals exact Nat.lt_of_lt_of_le hnb (by decide)
        by_cases hlt : i < 1
        · have hlt' : (i : Int) < 1 := by omega
          have hst := conts_at L i (1 - (i + 1)) n
          rw [show 1 - (i + 1) + 1 = 1 - i by omega] at hst
          rcases hf : furAt L i with _ | b
          · rw [hf] at hst
            have Hst := Lib.hid (hst.symm.trans Hn.out)
            have hno := further_no S hS i (by rw [HL.out]; exact hf) (i : Int) rfl
            clear hst hf hnb
            go_wp2_with fail
            refine (hno _).mono ?_
            rintro e w4 ⟨rfl, rfl⟩
            go_wp2_with fail
            refine ⟨rfl, ?_, hbl⟩
            rw [Hsg.out, ← Hst.out]
            rfl
          · rw [hf] at hst
            have Hst := Lib.hid (hst.symm.trans Hn.out)
            have hb64 := furAt_lt hf
            have hyes := further_yes S hS i b (by rw [HL.out]; exact hf) (i : Int) rfl
            have hor := join64 n b hnb2 hb64
            have hnb3 : n * 64 + b < 128 * 64 ^ (i + 1 - 1) := by
              obtain rfl | rfl | rfl : i = 1 ∨ i = 2 ∨ i = 3 := by omega
              all_goals (simp at hnb ⊢; omega)
            clear hst hf hnb
            go_wp2_with fail
            refine (hyes _).mono ?_
            rintro e w4 ⟨rfl, rfl⟩
            go_wp2_with fail
            go_round
            case rel => exact ⟨i + 1, n * 64 + b, by first | rfl | go_num, by first | rfl | go_num, by omega, by omega, hnb3, Hst⟩
            case measure => simp [intOf]; omega
        · obtain rfl : i = 1 := by omega
          have hlt' : ¬ ((1 : Nat) : Int) < 1 := by omega
          have Hn := Lib.hid (show conts (1 - 1) n0 (L.drop 1) = some n from Hn.out.symm)
          have hnm := named_any n (by omega)
          clear hlt hnb
          by_cases hle : (n : Int) < 0
          · exact absurd hle (by omega)
          · have hz : good 1 n = named n := by rw [Hg.out, decide_eq_true (by omega)]; rfl
            rw [← hz] at hnm
            have Hz := Lib.hid hz
            clear hz
            rcases hgd : good 1 n with _ | _
            · rw [hgd] at hnm
              have Hgd := Lib.hid hgd
              clear hgd
              go_wp2_with fail
              refine (hnm _).mono ?_
              rintro e w4 ⟨rfl, rfl⟩
              go_wp2_with fail
              go_ret
              refine ⟨?_, hbl⟩
              rw [Hsg.out, Hn.out, Option.map_some, Hgd.out]
              rfl
            · rw [hgd] at hnm
              have Hgd := Lib.hid hgd
              clear hgd
              go_wp2_with fail
              refine (hnm _).mono ?_
              rintro e w4 ⟨rfl, rfl⟩
              go_wp2_with fail
              go_ret
              refine ⟨?_, hbl⟩
              rw [Hsg.out, Hn.out, Option.map_some, Hgd.out]
              rfl
    · have hg : ∀ n, good 2 n = (decide (128 ≤ n) && named n) := fun n => rfl
      have Hg := Lib.hid hg
      clear hg
      go_enter Tryd.func18, Tryd.ntmps18
      go_wp2_with fail
      refine (hlen _ hA).mono ?_
      rintro e w1 ⟨rfl, hb1⟩
      obtain ⟨c0, c1, c2, c3, c4, c5, c6, c7, c8, c9, c10, c11⟩ := (hA.on hb1).cells
      clear c0 c1 c2 c6 c7 c8 c9 c10 c11
      go_wp2_with fail
      go_quiet ((go_at_call 20; exact Calls.quiet_of_same (hlow _ rfl _)))
      have hc2 : ((w1.alloc (Obj.cells #[.int .u8 6, .int .i64 5, .int .i64 128] 38)).drewN nq).cell? ⟨w1.heap.size, 2, none⟩ = some (.int .i64 128) := by simp [go_sem]
      have hbl : Below w.heap.size w ((w1.alloc (Obj.cells #[.int .u8 6, .int .i64 5, .int .i64 128] 38)).drewN nq) := gr_drewN (gr_alloc hb1 _) _
      generalize (w1.alloc (Obj.cells #[.int .u8 6, .int .i64 5, .int .i64 128] 38)).drewN nq = w2 at *
      clear c3 c4 c5 hb1 hidx'
      go_wp2_with fail
      go_loop [5, 6] (fun nv iv => ∃ i n : Nat, nv = .int .i64 (n : Int) ∧ iv = .int .i64 (i : Int) ∧ 1 ≤ i ∧ i ≤ 2 ∧ n < 128 * 64 ^ (i - 1) ∧ Hid (conts (2 - i) n (L.drop i) = conts (2 - 1) n0 (L.drop 1))) (fun _ iv => 2 - (intOf iv).toNat)
      case atStart => exact ⟨1, n0, rfl, rfl, by omega, by omega, by simpa using hn0b, Lib.hid rfl⟩
      case round =>
        obtain ⟨i, n, rfl, rfl, hi1, him, hnb, Hn⟩ := hrel
        have hnb2 : n < 33554432 := by
          obtain rfl | rfl | rfl | rfl : i = 1 ∨ i = 2 ∨ i = 3 ∨ i = 4 := by omega
          all_goals exact Nat.lt_of_lt_of_le hnb (by decide)
        by_cases hlt : i < 2
        · have hlt' : (i : Int) < 2 := by omega
          have hst := conts_at L i (2 - (i + 1)) n
          rw [show 2 - (i + 1) + 1 = 2 - i by omega] at hst
          rcases hf : furAt L i with _ | b
          · rw [hf] at hst
            have Hst := Lib.hid (hst.symm.trans Hn.out)
            have hno := further_no S hS i (by rw [HL.out]; exact hf) (i : Int) rfl
            clear hst hf hnb
            go_wp2_with fail
            refine (hno _).mono ?_
            rintro e w4 ⟨rfl, rfl⟩
            go_wp2_with fail
            refine ⟨rfl, ?_, hbl⟩
            rw [Hsg.out, ← Hst.out]
            rfl
          · rw [hf] at hst
            have Hst := Lib.hid (hst.symm.trans Hn.out)
            have hb64 := furAt_lt hf
            have hyes := further_yes S hS i b (by rw [HL.out]; exact hf) (i : Int) rfl
            have hor := join64 n b hnb2 hb64
            have hnb3 : n * 64 + b < 128 * 64 ^ (i + 1 - 1) := by
              obtain rfl | rfl | rfl : i = 1 ∨ i = 2 ∨ i = 3 := by omega
              all_goals (simp at hnb ⊢; omega)
            clear hst hf hnb
            go_wp2_with fail
            refine (hyes _).mono ?_
            rintro e w4 ⟨rfl, rfl⟩
            go_wp2_with fail
            go_round
            case rel => exact ⟨i + 1, n * 64 + b, by first | rfl | go_num, by first | rfl | go_num, by omega, by omega, hnb3, Hst⟩
            case measure => simp [intOf]; omega
        · obtain rfl : i = 2 := by omega
          have hlt' : ¬ ((2 : Nat) : Int) < 2 := by omega
          have Hn := Lib.hid (show conts (2 - 1) n0 (L.drop 1) = some n from Hn.out.symm)
          have hnm := named_any n (by omega)
          clear hlt hnb
          by_cases hle : (n : Int) < 128
          · have Hz := Lib.hid (show good 2 n = false by rw [Hg.out, decide_eq_false (by omega)]; rfl)
            go_wp2_with fail
            go_ret
            refine ⟨?_, hbl⟩
            rw [Hsg.out, Hn.out, Option.map_some, Hz.out]
            rfl
          · have hz : good 2 n = named n := by rw [Hg.out, decide_eq_true (by omega)]; rfl
            rw [← hz] at hnm
            have Hz := Lib.hid hz
            clear hz
            rcases hgd : good 2 n with _ | _
            · rw [hgd] at hnm
              have Hgd := Lib.hid hgd
              clear hgd
              go_wp2_with fail
              refine (hnm _).mono ?_
              rintro e w4 ⟨rfl, rfl⟩
              go_wp2_with fail
              go_ret
              refine ⟨?_, hbl⟩
              rw [Hsg.out, Hn.out, Option.map_some, Hgd.out]
              rfl
            · rw [hgd] at hnm
              have Hgd := Lib.hid hgd
              clear hgd
              go_wp2_with fail
              refine (hnm _).mono ?_
              rintro e w4 ⟨rfl, rfl⟩
              go_wp2_with fail
              go_ret
              refine ⟨?_, hbl⟩
              rw [Hsg.out, Hn.out, Option.map_some, Hgd.out]
              rfl
    · have hg : ∀ n, good 3 n = (decide (2048 ≤ n) && named n) := fun n => rfl
      have Hg := Lib.hid hg
      clear hg
      go_enter Tryd.func18, Tryd.ntmps18
      go_wp2_with fail
      refine (hlen _ hA).mono ?_
      rintro e w1 ⟨rfl, hb1⟩
      obtain ⟨c0, c1, c2, c3, c4, c5, c6, c7, c8, c9, c10, c11⟩ := (hA.on hb1).cells
      clear c0 c1 c2 c3 c4 c5 c9 c10 c11
      go_wp2_with fail
      go_quiet ((go_at_call 20; exact Calls.quiet_of_same (hlow _ rfl _)))
      have hc2 : ((w1.alloc (Obj.cells #[.int .u8 14, .int .i64 4, .int .i64 2048] 38)).drewN nq).cell? ⟨w1.heap.size, 2, none⟩ = some (.int .i64 2048) := by simp [go_sem]
      have hbl : Below w.heap.size w ((w1.alloc (Obj.cells #[.int .u8 14, .int .i64 4, .int .i64 2048] 38)).drewN nq) := gr_drewN (gr_alloc hb1 _) _
      generalize (w1.alloc (Obj.cells #[.int .u8 14, .int .i64 4, .int .i64 2048] 38)).drewN nq = w2 at *
      clear c6 c7 c8 hb1 hidx'
      go_wp2_with fail
      go_loop [5, 6] (fun nv iv => ∃ i n : Nat, nv = .int .i64 (n : Int) ∧ iv = .int .i64 (i : Int) ∧ 1 ≤ i ∧ i ≤ 3 ∧ n < 128 * 64 ^ (i - 1) ∧ Hid (conts (3 - i) n (L.drop i) = conts (3 - 1) n0 (L.drop 1))) (fun _ iv => 3 - (intOf iv).toNat)
      case atStart => exact ⟨1, n0, rfl, rfl, by omega, by omega, by simpa using hn0b, Lib.hid rfl⟩
      case round =>
        obtain ⟨i, n, rfl, rfl, hi1, him, hnb, Hn⟩ := hrel
        have hnb2 : n < 33554432 := by
          obtain rfl | rfl | rfl | rfl : i = 1 ∨ i = 2 ∨ i = 3 ∨ i = 4 := by omega
          all_goals exact Nat.lt_of_lt_of_le hnb (by decide)
        by_cases hlt : i < 3
        · have hlt' : (i : Int) < 3 := by omega
          have hst := conts_at L i (3 - (i + 1)) n
          rw [show 3 - (i + 1) + 1 = 3 - i by omega] at hst
          rcases hf : furAt L i with _ | b
          · rw [hf] at hst
            have Hst := Lib.hid (hst.symm.trans Hn.out)
            have hno := further_no S hS i (by rw [HL.out]; exact hf) (i : Int) rfl
            clear hst hf hnb
            go_wp2_with fail
            refine (hno _).mono ?_
            rintro e w4 ⟨rfl, rfl⟩
            go_wp2_with fail
            refine ⟨rfl, ?_, hbl⟩
            rw [Hsg.out, ← Hst.out]
            rfl
          · rw [hf] at hst
            have Hst := Lib.hid (hst.symm.trans Hn.out)
            have hb64 := furAt_lt hf
            have hyes := further_yes S hS i b (by rw [HL.out]; exact hf) (i : Int) rfl
            have hor := join64 n b hnb2 hb64
            have hnb3 : n * 64 + b < 128 * 64 ^ (i + 1 - 1) := by
              obtain rfl | rfl | rfl : i = 1 ∨ i = 2 ∨ i = 3 := by omega
              all_goals (simp at hnb ⊢; omega)
            clear hst hf hnb
            go_wp2_with fail
            refine (hyes _).mono ?_
            rintro e w4 ⟨rfl, rfl⟩
            go_wp2_with fail
            go_round
            case rel => exact ⟨i + 1, n * 64 + b, by first | rfl | go_num, by first | rfl | go_num, by omega, by omega, hnb3, Hst⟩
            case measure => simp [intOf]; omega
        · obtain rfl : i = 3 := by omega
          have hlt' : ¬ ((3 : Nat) : Int) < 3 := by omega
          have Hn := Lib.hid (show conts (3 - 1) n0 (L.drop 1) = some n from Hn.out.symm)
          have hnm := named_any n (by omega)
          clear hlt hnb
          by_cases hle : (n : Int) < 2048
          · have Hz := Lib.hid (show good 3 n = false by rw [Hg.out, decide_eq_false (by omega)]; rfl)
            go_wp2_with fail
            go_ret
            refine ⟨?_, hbl⟩
            rw [Hsg.out, Hn.out, Option.map_some, Hz.out]
            rfl
          · have hz : good 3 n = named n := by rw [Hg.out, decide_eq_true (by omega)]; rfl
            rw [← hz] at hnm
            have Hz := Lib.hid hz
            clear hz
            rcases hgd : good 3 n with _ | _
            · rw [hgd] at hnm
              have Hgd := Lib.hid hgd
              clear hgd
              go_wp2_with fail
              refine (hnm _).mono ?_
              rintro e w4 ⟨rfl, rfl⟩
              go_wp2_with fail
              go_ret
              refine ⟨?_, hbl⟩
              rw [Hsg.out, Hn.out, Option.map_some, Hgd.out]
              rfl
            · rw [hgd] at hnm
              have Hgd := Lib.hid hgd
              clear hgd
              go_wp2_with fail
              refine (hnm _).mono ?_
              rintro e w4 ⟨rfl, rfl⟩
              go_wp2_with fail
              go_ret
              refine ⟨?_, hbl⟩
              rw [Hsg.out, Hn.out, Option.map_some, Hgd.out]
              rfl
    · have hg : ∀ n, good 4 n = (decide (65536 ≤ n) && named n) := fun n => rfl
      have Hg := Lib.hid hg
      clear hg
      go_enter Tryd.func18, Tryd.ntmps18
      go_wp2_with fail
      refine (hlen _ hA).mono ?_
      rintro e w1 ⟨rfl, hb1⟩
      obtain ⟨c0, c1, c2, c3, c4, c5, c6, c7, c8, c9, c10, c11⟩ := (hA.on hb1).cells
      clear c0 c1 c2 c3 c4 c5 c6 c7 c8
      go_wp2_with fail
      go_quiet ((go_at_call 20; exact Calls.quiet_of_same (hlow _ rfl _)))
      have hc2 : ((w1.alloc (Obj.cells #[.int .u8 30, .int .i64 3, .int .i64 65536] 38)).drewN nq).cell? ⟨w1.heap.size, 2, none⟩ = some (.int .i64 65536) := by simp [go_sem]
      have hbl : Below w.heap.size w ((w1.alloc (Obj.cells #[.int .u8 30, .int .i64 3, .int .i64 65536] 38)).drewN nq) := gr_drewN (gr_alloc hb1 _) _
      generalize (w1.alloc (Obj.cells #[.int .u8 30, .int .i64 3, .int .i64 65536] 38)).drewN nq = w2 at *
      clear c9 c10 c11 hb1 hidx'
      go_wp2_with fail
      go_loop [5, 6] (fun nv iv => ∃ i n : Nat, nv = .int .i64 (n : Int) ∧ iv = .int .i64 (i : Int) ∧ 1 ≤ i ∧ i ≤ 4 ∧ n < 128 * 64 ^ (i - 1) ∧ Hid (conts (4 - i) n (L.drop i) = conts (4 - 1) n0 (L.drop 1))) (fun _ iv => 4 - (intOf iv).toNat)
      case atStart => exact ⟨1, n0, rfl, rfl, by omega, by omega, by simpa using hn0b, Lib.hid rfl⟩
      case round =>
        obtain ⟨i, n, rfl, rfl, hi1, him, hnb, Hn⟩ := hrel
        have hnb2 : n < 33554432 := by
          obtain rfl | rfl | rfl | rfl : i = 1 ∨ i = 2 ∨ i = 3 ∨ i = 4 := by omega
          all_goals exact Nat.lt_of_lt_of_le hnb (by decide)
        by_cases hlt : i < 4
        · have hlt' : (i : Int) < 4 := by omega
          have hst := conts_at L i (4 - (i + 1)) n
          rw [show 4 - (i + 1) + 1 = 4 - i by omega] at hst
          rcases hf : furAt L i with _ | b
          · rw [hf] at hst
            have Hst := Lib.hid (hst.symm.trans Hn.out)
            have hno := further_no S hS i (by rw [HL.out]; exact hf) (i : Int) rfl
            clear hst hf hnb
            go_wp2_with fail
            refine (hno _).mono ?_
            rintro e w4 ⟨rfl, rfl⟩
            go_wp2_with fail
            refine ⟨rfl, ?_, hbl⟩
            rw [Hsg.out, ← Hst.out]
            rfl
          · rw [hf] at hst
            have Hst := Lib.hid (hst.symm.trans Hn.out)
            have hb64 := furAt_lt hf
            have hyes := further_yes S hS i b (by rw [HL.out]; exact hf) (i : Int) rfl
            have hor := join64 n b hnb2 hb64
            have hnb3 : n * 64 + b < 128 * 64 ^ (i + 1 - 1) := by
              obtain rfl | rfl | rfl : i = 1 ∨ i = 2 ∨ i = 3 := by omega
              all_goals (simp at hnb ⊢; omega)
            clear hst hf hnb
            go_wp2_with fail
            refine (hyes _).mono ?_
            rintro e w4 ⟨rfl, rfl⟩
            go_wp2_with fail
            go_round
            case rel => exact ⟨i + 1, n * 64 + b, by first | rfl | go_num, by first | rfl | go_num, by omega, by omega, hnb3, Hst⟩
            case measure => simp [intOf]; omega
        · obtain rfl : i = 4 := by omega
          have hlt' : ¬ ((4 : Nat) : Int) < 4 := by omega
          have Hn := Lib.hid (show conts (4 - 1) n0 (L.drop 1) = some n from Hn.out.symm)
          have hnm := named_any n (by omega)
          clear hlt hnb
          by_cases hle : (n : Int) < 65536
          · have Hz := Lib.hid (show good 4 n = false by rw [Hg.out, decide_eq_false (by omega)]; rfl)
            go_wp2_with fail
            go_ret
            refine ⟨?_, hbl⟩
            rw [Hsg.out, Hn.out, Option.map_some, Hz.out]
            rfl
          · have hz : good 4 n = named n := by rw [Hg.out, decide_eq_true (by omega)]; rfl
            rw [← hz] at hnm
            have Hz := Lib.hid hz
            clear hz
            rcases hgd : good 4 n with _ | _
            · rw [hgd] at hnm
              have Hgd := Lib.hid hgd
              clear hgd
              go_wp2_with fail
              refine (hnm _).mono ?_
              rintro e w4 ⟨rfl, rfl⟩
              go_wp2_with fail
              go_ret
              refine ⟨?_, hbl⟩
              rw [Hsg.out, Hn.out, Option.map_some, Hgd.out]
              rfl
            · rw [hgd] at hnm
              have Hgd := Lib.hid hgd
              clear hgd
              go_wp2_with fail
              refine (hnm _).mono ?_
              rintro e w4 ⟨rfl, rfl⟩
              go_wp2_with fail
              go_ret
              refine ⟨?_, hbl⟩
              rw [Hsg.out, Hn.out, Option.map_some, Hgd.out]
              rfl
end Go.Proofs.YthmmcmpbpfnocaaDoor
