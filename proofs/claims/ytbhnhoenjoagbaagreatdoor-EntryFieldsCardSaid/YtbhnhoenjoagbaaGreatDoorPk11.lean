/- Bundle of 3 texts. -/
import Derived.Test.YtbhnhoenjoagbaaGreatDoorPk10
import Derived.Test.YtbhnhoenjoagbaaGreatDoorPk08
import Derived.Test.YtbhnhoenjoagbaaGreatDoorRows
import Derived.Test.YtbhnhoenjoagbaaGreatDoorShelf
import Derived.Lib.LaidTab
import Derived.Lib.AppendIntMem
import Derived.Lib.ItoaMem
import Derived.Below
/- Walks over package text: character. -/
namespace Go.Proofs.YtbhnhoenjoagbaaGreatDoor.TextW
open Go.RowKit
open TextM
set_option linter.unusedVariables false

def ChEnd (o : Option Nat) (e : Ending) : Prop := match o with
  | some k => e = .returned (.int .i64 (k : Int))
  | none => e = .panicked endsEarly
theorem conts_at (l : List UInt8) (i j n : Nat) : conts (j + 1) n (l.drop i) = match furAt l i with
    | some b => conts j (n * 64 + b) (l.drop (i + 1))
    | none => none := by
  unfold furAt
  rcases h : l[i]? with _ | c
  · rw [List.drop_eq_nil_of_le (List.getElem?_eq_none_iff.1 h)]
    rfl
  · rw [drop_at h, Option.bind_some]
    by_cases h2 : c.toNat / 64 = 2
    · rw [if_pos h2]
      show (if c.toNat / 64 = 2 then conts j (n * 64 + c.toNat % 64) (l.drop (i + 1)) else none) = _
      rw [if_pos h2]
    · rw [if_neg h2]
      show (if c.toNat / 64 = 2 then conts j (n * 64 + c.toNat % 64) (l.drop (i + 1)) else none) = _
      rw [if_neg h2]
theorem furAt_lt {l : List UInt8} {i b : Nat} (h : furAt l i = some b) : b < 64 := by
  obtain ⟨c, hc, hk⟩ := Option.bind_eq_some_iff.1 h
  split at hk
  · have := Option.some.inj hk; omega
  · cases hk
theorem join64 (n b : Nat) (hn : n < 33554432) (hb : b < 64) : bits .or .i64 ((n : Int) * 64) (b : Int) = ((n * 64 + b : Nat) : Int) := by
  have h1 : (n : Int) * 64 = ((n * 64 : Nat) : Int) := by omega
  have h3 : n * 64 ||| b = n * 64 + b := by
    rw [Nat.mul_comm]
    exact (Nat.two_pow_add_eq_or_of_lt (i := 6) hb n).symm
  rw [h1, or_i64 _ _ (by omega) (by omega), h3]
theorem sgn_cons (c : UInt8) (r : List UInt8) : sgn (c :: r) = if lenOf c = 0 then some 0 else (conts (lenOf c - 1) (c.toNat % 2 ^ bitsOf (lenOf c)) r).map fun n => if good (lenOf c) n then lenOf c else 0 := rfl

set_option maxHeartbeats 1600000 in
theorem character_any (S : ByteArray) (h0 : 0 < S.size) (hS : S.size ≤ 1000000) (w : World) (hA : Amb w) :
    Calls Tryz.prog 237 #[.string S] w fun e w' => ChEnd (sgn S.data.toList) e ∧ Below w.heap.size w w' := by
  obtain ⟨c, hc, hidx⟩ := idx_at Tryz.underlying9 S 0 h0
  have hl : S.data.toList = c :: S.data.toList.drop 1 := by have := drop_at hc; simpa using this
  have hsg : sgn S.data.toList = sgn (c :: S.data.toList.drop 1) := by rw [← hl]
  rw [sgn_cons] at hsg
  have hlen := length_any c
  have hlow := low_any c
  have hle := lenOf_le c
  obtain ⟨sz, hsz⟩ : ∃ n, S.size = n := ⟨_, rfl⟩
  have hidx' : ∀ w, (Instr.index 9 (.string S) (.int .i64 0)).run Tryz.prog w = .ok (.int .u8 (c.toNat : Int)) w := hidx
  have hz1 : (0 : Int) < (sz : Int) := by omega
  obtain ⟨L, hL⟩ : ∃ L, S.data.toList = L := ⟨_, rfl⟩
  have HL := Lib.hid hL
  rw [hL] at hsg
  obtain ⟨m, hm⟩ : ∃ m, lenOf c = m := ⟨_, rfl⟩
  rw [hm] at hlen hle hsg
  rw [hL]
  by_cases hm0 : m = 0
  · subst hm0
    rw [if_pos rfl] at hsg
    have Hsg := Lib.hid hsg
    clear hsg hl hc hm hidx hL hle
    go_enter Tryz.func237, Tryz.ntmps237
    go_wp2_with fail
    refine (hlen _ hA).mono ?_
    rintro e w1 ⟨rfl, hb1⟩
    go_wp2_with fail
    go_ret
    exact ⟨by rw [Hsg.out]; rfl, hb1⟩
  · rw [if_neg hm0] at hsg
    have hlow := hlow (bitsOf m) (by obtain rfl | rfl | rfl | rfl : m = 1 ∨ m = 2 ∨ m = 3 ∨ m = 4 := by omega
                                     all_goals decide)
    obtain ⟨n0, hn0⟩ : ∃ n0, c.toNat % 2 ^ bitsOf m = n0 := ⟨_, rfl⟩
    have hn0b : n0 < 128 := by
      rw [← hn0]
      obtain rfl | rfl | rfl | rfl : m = 1 ∨ m = 2 ∨ m = 3 ∨ m = 4 := by omega
      · exact Nat.mod_lt _ (by decide)
      · exact Nat.lt_of_lt_of_le (Nat.mod_lt _ (by decide)) (by decide)
      · exact Nat.lt_of_lt_of_le (Nat.mod_lt _ (by decide)) (by decide)
      · exact Nat.lt_of_lt_of_le (Nat.mod_lt _ (by decide)) (by decide)
    rw [hn0] at hlow hsg
    have Hsg := Lib.hid hsg
    clear hsg hl hc hm hidx hL hn0
    obtain rfl | rfl | rfl | rfl : m = 1 ∨ m = 2 ∨ m = 3 ∨ m = 4 := by omega
    · have hg : ∀ n, good 1 n = (decide (0 ≤ n) && named n) := fun n => rfl
      have Hg := Lib.hid hg
      clear hg
      go_enter Tryz.func237, Tryz.ntmps237
      go_wp2_with fail
      refine (hlen _ hA).mono ?_
      rintro e w1 ⟨rfl, hb1⟩
      obtain ⟨c0, c1, c2, c3, c4, c5, c6, c7, c8, c9, c10, c11⟩ := (hA.on hb1).cells
      clear c3 c4 c5 c6 c7 c8 c9 c10 c11
      go_wp2_with fail
      go_quiet ((go_at_call 281; exact Calls.quiet_of_same (hlow _ rfl _)))
      have hc2 : ((w1.alloc (Obj.cells #[.int .u8 0, .int .i64 7, .int .i64 0] 245)).drewN nq).cell? ⟨w1.heap.size, 2, none⟩ = some (.int .i64 0) := by simp [go_sem]
      have hbl : Below w.heap.size w ((w1.alloc (Obj.cells #[.int .u8 0, .int .i64 7, .int .i64 0] 245)).drewN nq) := gr_drewN (gr_alloc hb1 _) _
      generalize (w1.alloc (Obj.cells #[.int .u8 0, .int .i64 7, .int .i64 0] 245)).drewN nq = w2 at *
      clear c0 c1 c2 hb1 hidx'
      go_wp2_with fail
      go_loop [5, 6] (fun nv iv => ∃ i n : Nat, nv = .int .i64 (n : Int) ∧ iv = .int .i64 (i : Int) ∧ 1 ≤ i ∧ i ≤ 1 ∧ n < 128 * 64 ^ (i - 1) ∧ Hid (conts (1 - i) n (L.drop i) = conts (1 - 1) n0 (L.drop 1))) (fun _ iv => 1 - (intOf iv).toNat)
      case atStart => exact ⟨1, n0, rfl, rfl, by omega, by omega, by simpa using hn0b, Lib.hid rfl⟩
      case round =>
        obtain ⟨i, n, rfl, rfl, hi1, him, hnb, Hn⟩ := hrel
        have hnb2 : n < 33554432 := by
          obtain rfl | rfl | rfl | rfl : i = 1 ∨ i = 2 ∨ i = 3 ∨ i = 4 := by omega
          all_goals exact Nat.lt_of_lt_of_le hnb (by decide)
        by_cases hlt : i < 1
        · have hlt' : (i : Int) < 1 := by omega
          have hst := conts_at L i (1 - (i + 1)) n
          rw [show 1 - (i + 1) + 1 = 1 - i by omega] at hst
          rcases hf : furAt L i with _ | b
          · rw [hf] at hst
            have Hst := Lib.hid (hst.symm.trans Hn.out)
            have hno := further_no S hS i (by rw [HL.out]; exact hf) (i : Int) rfl
            clear hst hf hnb
            go_wp2_with fail
            refine (hno _).mono ?_
            rintro e w4 ⟨rfl, rfl⟩
            go_wp2_with fail
            refine ⟨rfl, ?_, hbl⟩
            rw [Hsg.out, ← Hst.out]
            rfl
          · rw [hf] at hst
            have Hst := Lib.hid (hst.symm.trans Hn.out)
            have hb64 := furAt_lt hf
            have hyes := further_yes S hS i b (by rw [HL.out]; exact hf) (i : Int) rfl
            have hor := join64 n b hnb2 hb64
            have hnb3 : n * 64 + b < 128 * 64 ^ (i + 1 - 1) := by
              obtain rfl | rfl | rfl : i = 1 ∨ i = 2 ∨ i = 3 := by omega
              all_goals (simp at hnb ⊢; omega)
            clear hst hf hnb
            go_wp2_with fail
            refine (hyes _).mono ?_
            rintro e w4 ⟨rfl, rfl⟩
            go_wp2_with fail
            go_round
            case rel => exact ⟨i + 1, n * 64 + b, by first | rfl | go_num, by first | rfl | go_num, by omega, by omega, hnb3, Hst⟩
            case measure => simp [intOf]; omega
        · obtain rfl : i = 1 := by omega
          have hlt' : ¬ ((1 : Nat) : Int) < 1 := by omega
          have Hn := Lib.hid (show conts (1 - 1) n0 (L.drop 1) = some n from Hn.out.symm)
          have hnm := named_any n (by omega)
          clear hlt hnb
          by_cases hle : (n : Int) < 0
          · exact absurd hle (by omega)
          · have hz : good 1 n = named n := by rw [Hg.out, decide_eq_true (by omega)]; rfl
            rw [← hz] at hnm
            have Hz := Lib.hid hz
            clear hz
            rcases hgd : good 1 n with _ | _
            · rw [hgd] at hnm
              have Hgd := Lib.hid hgd
              clear hgd
              go_wp2_with fail
              refine (hnm _).mono ?_
              rintro e w4 ⟨rfl, rfl⟩
              go_wp2_with fail
              go_ret
              refine ⟨?_, hbl⟩
              rw [Hsg.out, Hn.out, Option.map_some, Hgd.out]
              rfl
            · rw [hgd] at hnm
              have Hgd := Lib.hid hgd
              clear hgd
              go_wp2_with fail
              refine (hnm _).mono ?_
              rintro e w4 ⟨rfl, rfl⟩
              go_wp2_with fail
              go_ret
              refine ⟨?_, hbl⟩
              rw [Hsg.out, Hn.out, Option.map_some, Hgd.out]
              rfl
    · have hg : ∀ n, good 2 n = (decide (128 ≤ n) && named n) := fun n => rfl
      have Hg := Lib.hid hg
      clear hg
      go_enter Tryz.func237, Tryz.ntmps237
      go_wp2_with fail
      refine (hlen _ hA).mono ?_
      rintro e w1 ⟨rfl, hb1⟩
      obtain ⟨c0, c1, c2, c3, c4, c5, c6, c7, c8, c9, c10, c11⟩ := (hA.on hb1).cells
      clear c0 c1 c2 c6 c7 c8 c9 c10 c11
      go_wp2_with fail
      go_quiet ((go_at_call 281; exact Calls.quiet_of_same (hlow _ rfl _)))
      have hc2 : ((w1.alloc (Obj.cells #[.int .u8 6, .int .i64 5, .int .i64 128] 245)).drewN nq).cell? ⟨w1.heap.size, 2, none⟩ = some (.int .i64 128) := by simp [go_sem]
      have hbl : Below w.heap.size w ((w1.alloc (Obj.cells #[.int .u8 6, .int .i64 5, .int .i64 128] 245)).drewN nq) := gr_drewN (gr_alloc hb1 _) _
      generalize (w1.alloc (Obj.cells #[.int .u8 6, .int .i64 5, .int .i64 128] 245)).drewN nq = w2 at *
      clear c3 c4 c5 hb1 hidx'
      go_wp2_with fail
      go_loop [5, 6] (fun nv iv => ∃ i n : Nat, nv = .int .i64 (n : Int) ∧ iv = .int .i64 (i : Int) ∧ 1 ≤ i ∧ i ≤ 2 ∧ n < 128 * 64 ^ (i - 1) ∧ Hid (conts (2 - i) n (L.drop i) = conts (2 - 1) n0 (L.drop 1))) (fun _ iv => 2 - (intOf iv).toNat)
      case atStart => exact ⟨1, n0, rfl, rfl, by omega, by omega, by simpa using hn0b, Lib.hid rfl⟩
      case round =>
        obtain ⟨i, n, rfl, rfl, hi1, him, hnb, Hn⟩ := hrel
        have hnb2 : n < 33554432 := by
          obtain rfl | rfl | rfl | rfl : i = 1 ∨ i = 2 ∨ i = 3 ∨ i = 4 := by omega
          all_goals exact Nat.lt_of_lt_of_le hnb (by decide)
        by_cases hlt : i < 2
        · have hlt' : (i : Int) < 2 := by omega
          have hst := conts_at L i (2 - (i + 1)) n
          rw [show 2 - (i + 1) + 1 = 2 - i by omega] at hst
          rcases hf : furAt L i with _ | b
          · rw [hf] at hst
            have Hst := Lib.hid (hst.symm.trans Hn.out)
            have hno := further_no S hS i (by rw [HL.out]; exact hf) (i : Int) rfl
            clear hst hf hnb
            go_wp2_with fail
            refine (hno _).mono ?_
            rintro e w4 ⟨rfl, rfl⟩
            go_wp2_with fail
            refine ⟨rfl, ?_, hbl⟩
            rw [Hsg.out, ← Hst.out]
            rfl
          · rw [hf] at hst
            have Hst := Lib.hid (hst.symm.trans Hn.out)
            have hb64 := furAt_lt hf
            have hyes := further_yes S hS i b (by rw [HL.out]; exact hf) (i : Int) rfl
            have hor := join64 n b hnb2 hb64
            have hnb3 : n * 64 + b < 128 * 64 ^ (i + 1 - 1) := by
              obtain rfl | rfl | rfl : i = 1 ∨ i = 2 ∨ i = 3 := by omega
              all_goals (simp at hnb ⊢; omega)
            clear hst hf hnb
            go_wp2_with fail
            refine (hyes _).mono ?_
            rintro e w4 ⟨rfl, rfl⟩
            go_wp2_with fail
            go_round
            case rel => exact ⟨i + 1, n * 64 + b, by first | rfl | go_num, by first | rfl | go_num, by omega, by omega, hnb3, Hst⟩
            case measure => simp [intOf]; omega
        · obtain rfl : i = 2 := by omega
          have hlt' : ¬ ((2 : Nat) : Int) < 2 := by omega
          have Hn := Lib.hid (show conts (2 - 1) n0 (L.drop 1) = some n from Hn.out.symm)
          have hnm := named_any n (by omega)
          clear hlt hnb
          by_cases hle : (n : Int) < 128
          · have Hz := Lib.hid (show good 2 n = false by rw [Hg.out, decide_eq_false (by omega)]; rfl)
            go_wp2_with fail
            go_ret
            refine ⟨?_, hbl⟩
            rw [Hsg.out, Hn.out, Option.map_some, Hz.out]
            rfl
          · have hz : good 2 n = named n := by rw [Hg.out, decide_eq_true (by omega)]; rfl
            rw [← hz] at hnm
            have Hz := Lib.hid hz
            clear hz
            rcases hgd : good 2 n with _ | _
            · rw [hgd] at hnm
              have Hgd := Lib.hid hgd
              clear hgd
              go_wp2_with fail
              refine (hnm _).mono ?_
              rintro e w4 ⟨rfl, rfl⟩
              go_wp2_with fail
              go_ret
              refine ⟨?_, hbl⟩
              rw [Hsg.out, Hn.out, Option.map_some, Hgd.out]
              rfl
            · rw [hgd] at hnm
              have Hgd := Lib.hid hgd
              clear hgd
              go_wp2_with fail
              refine (hnm _).mono ?_
              rintro e w4 ⟨rfl, rfl⟩
              go_wp2_with fail
              go_ret
              refine ⟨?_, hbl⟩
              rw [Hsg.out, Hn.out, Option.map_some, Hgd.out]
              rfl
    · have hg : ∀ n, good 3 n = (decide (2048 ≤ n) && named n) := fun n => rfl
      have Hg := Lib.hid hg
      clear hg
      go_enter Tryz.func237, Tryz.ntmps237
      go_wp2_with fail
      refine (hlen _ hA).mono ?_
      rintro e w1 ⟨rfl, hb1⟩
      obtain ⟨c0, c1, c2, c3, c4, c5, c6, c7, c8, c9, c10, c11⟩ := (hA.on hb1).cells
      clear c0 c1 c2 c3 c4 c5 c9 c10 c11
      go_wp2_with fail
      go_quiet ((go_at_call 281; exact Calls.quiet_of_same (hlow _ rfl _)))
      have hc2 : ((w1.alloc (Obj.cells #[.int .u8 14, .int .i64 4, .int .i64 2048] 245)).drewN nq).cell? ⟨w1.heap.size, 2, none⟩ = some (.int .i64 2048) := by simp [go_sem]
      have hbl : Below w.heap.size w ((w1.alloc (Obj.cells #[.int .u8 14, .int .i64 4, .int .i64 2048] 245)).drewN nq) := gr_drewN (gr_alloc hb1 _) _
      generalize (w1.alloc (Obj.cells #[.int .u8 14, .int .i64 4, .int .i64 2048] 245)).drewN nq = w2 at *
      clear c6 c7 c8 hb1 hidx'
      go_wp2_with fail
      go_loop [5, 6] (fun nv iv => ∃ i n : Nat, nv = .int .i64 (n : Int) ∧ iv = .int .i64 (i : Int) ∧ 1 ≤ i ∧ i ≤ 3 ∧ n < 128 * 64 ^ (i - 1) ∧ Hid (conts (3 - i) n (L.drop i) = conts (3 - 1) n0 (L.drop 1))) (fun _ iv => 3 - (intOf iv).toNat)
      case atStart => exact ⟨1, n0, rfl, rfl, by omega, by omega, by simpa using hn0b, Lib.hid rfl⟩
      case round =>
        obtain ⟨i, n, rfl, rfl, hi1, him, hnb, Hn⟩ := hrel
        have hnb2 : n < 33554432 := by
          obtain rfl | rfl | rfl | rfl : i = 1 ∨ i = 2 ∨ i = 3 ∨ i = 4 := by omega
          all_goals exact Nat.lt_of_lt_of_le hnb (by decide)
        by_cases hlt : i < 3
        · have hlt' : (i : Int) < 3 := by omega
          have hst := conts_at L i (3 - (i + 1)) n
          rw [show 3 - (i + 1) + 1 = 3 - i by omega] at hst
          rcases hf : furAt L i with _ | b
          · rw [hf] at hst
            have Hst := Lib.hid (hst.symm.trans Hn.out)
            have hno := further_no S hS i (by rw [HL.out]; exact hf) (i : Int) rfl
            clear hst hf hnb
            go_wp2_with fail
            refine (hno _).mono ?_
            rintro e w4 ⟨rfl, rfl⟩
            go_wp2_with fail
            refine ⟨rfl, ?_, hbl⟩
            rw [Hsg.out, ← Hst.out]
            rfl
          · rw [hf] at hst
            have Hst := Lib.hid (hst.symm.trans Hn.out)
            have hb64 := furAt_lt hf
            have hyes := further_yes S hS i b (by rw [HL.out]; exact hf) (i : Int) rfl
            have hor := join64 n b hnb2 hb64
            have hnb3 : n * 64 + b < 128 * 64 ^ (i + 1 - 1) := by
              obtain rfl | rfl | rfl : i = 1 ∨ i = 2 ∨ i = 3 := by omega
              all_goals (simp at hnb ⊢; omega)
            clear hst hf hnb
            go_wp2_with fail
            refine (hyes _).mono ?_
            rintro e w4 ⟨rfl, rfl⟩
            go_wp2_with fail
            go_round
            case rel => exact ⟨i + 1, n * 64 + b, by first | rfl | go_num, by first | rfl | go_num, by omega, by omega, hnb3, Hst⟩
            case measure => simp [intOf]; omega
        · obtain rfl : i = 3 := by omega
          have hlt' : ¬ ((3 : Nat) : Int) < 3 := by omega
          have Hn := Lib.hid (show conts (3 - 1) n0 (L.drop 1) = some n from Hn.out.symm)
          have hnm := named_any n (by omega)
          clear hlt hnb
          by_cases hle : (n : Int) < 2048
          · have Hz := Lib.hid (show good 3 n = false by rw [Hg.out, decide_eq_false (by omega)]; rfl)
            go_wp2_with fail
            go_ret
            refine ⟨?_, hbl⟩
            rw [Hsg.out, Hn.out, Option.map_some, Hz.out]
            rfl
          · have hz : good 3 n = named n := by rw [Hg.out, decide_eq_true (by omega)]; rfl
            rw [← hz] at hnm
            have Hz := Lib.hid hz
            clear hz
            rcases hgd : good 3 n with _ | _
            · rw [hgd] at hnm
              have Hgd := Lib.hid hgd
              clear hgd
              go_wp2_with fail
              refine (hnm _).mono ?_
              rintro e w4 ⟨rfl, rfl⟩
              go_wp2_with fail
              go_ret
              refine ⟨?_, hbl⟩
              rw [Hsg.out, Hn.out, Option.map_some, Hgd.out]
              rfl
            · rw [hgd] at hnm
              have Hgd := Lib.hid hgd
              clear hgd
              go_wp2_with fail
              refine (hnm _).mono ?_
              rintro e w4 ⟨rfl, rfl⟩
              go_wp2_with fail
              go_ret
              refine ⟨?_, hbl⟩
              rw [Hsg.out, Hn.out, Option.map_some, Hgd.out]
              rfl
    · have hg : ∀ n, good 4 n = (decide (65536 ≤ n) && named n) := fun n => rfl
      have Hg := Lib.hid hg
      clear hg
      go_enter Tryz.func237, Tryz.ntmps237
      go_wp2_with fail
      refine (hlen _ hA).mono ?_
      rintro e w1 ⟨rfl, hb1⟩
      obtain ⟨c0, c1, c2, c3, c4, c5, c6, c7, c8, c9, c10, c11⟩ := (hA.on hb1).cells
      clear c0 c1 c2 c3 c4 c5 c6 c7 c8
      go_wp2_with fail
      go_quiet ((go_at_call 281; exact Calls.quiet_of_same (hlow _ rfl _)))
      have hc2 : ((w1.alloc (Obj.cells #[.int .u8 30, .int .i64 3, .int .i64 65536] 245)).drewN nq).cell? ⟨w1.heap.size, 2, none⟩ = some (.int .i64 65536) := by simp [go_sem]
      have hbl : Below w.heap.size w ((w1.alloc (Obj.cells #[.int .u8 30, .int .i64 3, .int .i64 65536] 245)).drewN nq) := gr_drewN (gr_alloc hb1 _) _
      generalize (w1.alloc (Obj.cells #[.int .u8 30, .int .i64 3, .int .i64 65536] 245)).drewN nq = w2 at *
      clear c9 c10 c11 hb1 hidx'
      go_wp2_with fail
      go_loop [5, 6] (fun nv iv => ∃ i n : Nat, nv = .int .i64 (n : Int) ∧ iv = .int .i64 (i : Int) ∧ 1 ≤ i ∧ i ≤ 4 ∧ n < 128 * 64 ^ (i - 1) ∧ Hid (conts (4 - i) n (L.drop i) = conts (4 - 1) n0 (L.drop 1))) (fun _ iv => 4 - (intOf iv).toNat)
      case atStart => exact ⟨1, n0, rfl, rfl, by omega, by omega, by simpa using hn0b, Lib.hid rfl⟩
      case round =>
        obtain ⟨i, n, rfl, rfl, hi1, him, hnb, Hn⟩ := hrel
        have hnb2 : n < 33554432 := by
          obtain rfl | rfl | rfl | rfl : i = 1 ∨ i = 2 ∨ i = 3 ∨ i = 4 := by omega
          all_goals exact Nat.lt_of_lt_of_le hnb (by decide)
        by_cases hlt : i < 4
        · have hlt' : (i : Int) < 4 := by omega
          have hst := conts_at L i (4 - (i + 1)) n
          rw [show 4 - (i + 1) + 1 = 4 - i by omega] at hst
          rcases hf : furAt L i with _ | b
          · rw [hf] at hst
            have Hst := Lib.hid (hst.symm.trans Hn.out)
            have hno := further_no S hS i (by rw [HL.out]; exact hf) (i : Int) rfl
            clear hst hf hnb
            go_wp2_with fail
            refine (hno _).mono ?_
            rintro e w4 ⟨rfl, rfl⟩
            go_wp2_with fail
            refine ⟨rfl, ?_, hbl⟩
            rw [Hsg.out, ← Hst.out]
            rfl
          · rw [hf] at hst
            have Hst := Lib.hid (hst.symm.trans Hn.out)
            have hb64 := furAt_lt hf
            have hyes := further_yes S hS i b (by rw [HL.out]; exact hf) (i : Int) rfl
            have hor := join64 n b hnb2 hb64
            have hnb3 : n * 64 + b < 128 * 64 ^ (i + 1 - 1) := by
              obtain rfl | rfl | rfl : i = 1 ∨ i = 2 ∨ i = 3 := by omega
              all_goals (simp at hnb ⊢; omega)
            clear hst hf hnb
            go_wp2_with fail
            refine (hyes _).mono ?_
            rintro e w4 ⟨rfl, rfl⟩
            go_wp2_with fail
            go_round
            case rel => exact ⟨i + 1, n * 64 + b, by first | rfl | go_num, by first | rfl | go_num, by omega, by omega, hnb3, Hst⟩
            case measure => simp [intOf]; omega
        · obtain rfl : i = 4 := by omega
          have hlt' : ¬ ((4 : Nat) : Int) < 4 := by omega
          have Hn := Lib.hid (show conts (4 - 1) n0 (L.drop 1) = some n from Hn.out.symm)
          have hnm := named_any n (by omega)
          clear hlt hnb
          by_cases hle : (n : Int) < 65536
          · have Hz := Lib.hid (show good 4 n = false by rw [Hg.out, decide_eq_false (by omega)]; rfl)
            go_wp2_with fail
            go_ret
            refine ⟨?_, hbl⟩
            rw [Hsg.out, Hn.out, Option.map_some, Hz.out]
            rfl
          · have hz : good 4 n = named n := by rw [Hg.out, decide_eq_true (by omega)]; rfl
            rw [← hz] at hnm
            have Hz := Lib.hid hz
            clear hz
            rcases hgd : good 4 n with _ | _
            · rw [hgd] at hnm
              have Hgd := Lib.hid hgd
              clear hgd
              go_wp2_with fail
              refine (hnm _).mono ?_
              rintro e w4 ⟨rfl, rfl⟩
              go_wp2_with fail
              go_ret
              refine ⟨?_, hbl⟩
              rw [Hsg.out, Hn.out, Option.map_some, Hgd.out]
              rfl
            · rw [hgd] at hnm
              have Hgd := Lib.hid hgd
              clear hgd
              go_wp2_with fail
              refine (hnm _).mono ?_
              rintro e w4 ⟨rfl, rfl⟩
              go_wp2_with fail
              go_ret
              refine ⟨?_, hbl⟩
              rw [Hsg.out, Hn.out, Option.map_some, Hgd.out]
              rfl
end Go.Proofs.YtbhnhoenjoagbaaGreatDoor.TextW

/- Walks over package text: read, Bad, Count, Valid. -/
namespace Go.Proofs.YtbhnhoenjoagbaaGreatDoor.TextW
open Go.RowKit
open TextM
set_option linter.unusedVariables false

theorem ext_list (S : ByteArray) (i : Nat) : (S.extract i S.size).data.toList = S.data.toList.drop i := by
  simp
  exact List.take_of_length_le (by simp)
theorem rd_at {L : List UInt8} {i k : Nat} (h : rd L = ((rd (L.drop i)).1 + i, (rd (L.drop i)).2.1 + k, (rd (L.drop i)).2.2)) (hs : sg (L.drop i) ≠ 0) :
    rd L = ((rd (L.drop (i + sg (L.drop i)))).1 + (i + sg (L.drop i)), (rd (L.drop (i + sg (L.drop i)))).2.1 + (k + 1), (rd (L.drop (i + sg (L.drop i)))).2.2) := by
  rw [h, rd_step hs, List.drop_drop]
  simp only [Prod.mk.injEq]
  exact ⟨by omega, by omega, trivial⟩
theorem rd_end {L : List UInt8} {i k : Nat} (h : rd L = ((rd (L.drop i)).1 + i, (rd (L.drop i)).2.1 + k, (rd (L.drop i)).2.2)) (hs : sg (L.drop i) = 0) (hi : i < L.length) :
    badI L = (i : Int) ∧ cntN L = k := by
  rw [rd_bad hs (by intro he; have := congrArg List.length he; rw [List.length_drop, List.length_nil] at this; omega)] at h
  unfold badI cntN
  rw [h]
  simp
theorem rd_all {L : List UInt8} {i k : Nat} (h : rd L = ((rd (L.drop i)).1 + i, (rd (L.drop i)).2.1 + k, (rd (L.drop i)).2.2)) (hi : i = L.length) :
    badI L = -1 ∧ cntN L = k := by
  subst hi
  rw [List.drop_length, rd_nil] at h
  unfold badI cntN
  rw [h]
  simp
theorem sg_of {l : List UInt8} {k : Nat} (h : sgn l = some k) : sg l = k := by unfold sg; rw [h]; rfl
theorem sg_of_none {l : List UInt8} (h : sgn l = none) : sg l = 0 := by unfold sg; rw [h]; rfl

theorem catch_panic (u : TypeId) (pv : Value) (older : List PanicEntry) (w : World) :
    CallsD Tryz.prog 236 #[] (.panicking ({ v := .iface u pv, recovered := false } :: older)) w fun e u' w' =>
      e = .returned (.tuple #[]) ∧ u' = .panicking ({ v := .iface u pv, recovered := true } :: older) ∧ w' = w := by
  refine callsD_of_wpS Tryz.func236 rfl fun c₀ cs hu => ?_
  apply wpS_region
  simp [wpOpsS, go_sem, recoverD, hu, Tryz.ntmps236, bodyPostS, results, Tryz.results236]
theorem catch_idle (w : World) :
    CallsD Tryz.prog 236 #[] .returning w fun e u' w' => e = .returned (.tuple #[]) ∧ u' = .returning ∧ w' = w := by
  refine callsD_of_wpS Tryz.func236 rfl fun c₀ cs hu => ?_
  apply wpS_region
  simp [wpOpsS, go_sem, recoverD, hu, Tryz.ntmps236, bodyPostS, results, Tryz.results236]
  cases c₀
  simp_all

set_option maxHeartbeats 1600000 in
theorem read_any (S : ByteArray) (hS : S.size ≤ 1000000) (w : World) (hA : Amb w) :
    Calls Tryz.prog 189 #[.string S] w fun e w' => e = .returned (.tuple #[.int .i64 (badI S.data.toList), .int .i64 (cntN S.data.toList : Int)]) ∧ Below w.heap.size w w' := by
  obtain ⟨n, hn⟩ : ∃ n, S.size = n := ⟨_, rfl⟩
  obtain ⟨L, hL⟩ : ∃ L, S.data.toList = L := ⟨_, rfl⟩
  have hln := Lib.hid (show L.length = n by rw [← hL, ← hn]; simp)
  have HX := Lib.hid (fun i => (show (S.extract i n).data.toList = L.drop i by rw [← hn, ext_list, hL]))
  have HZ := Lib.hid (fun i (hi : i ≤ n) => (show (S.extract i n).size = n - i by simp; omega))
  rw [hL]
  clear hL
  rw [hn] at hS
  have hmf : ∀ (fn : Fn) (first cap : Array Value) (w : World), (Instr.makeFunc fn first cap).run Tryz.prog w = .ok (.func fn first cap) w := fun _ _ _ _ => rfl
  go_enter_defers Tryz.func189, Tryz.ntmps189
  go_wp2_with fail
  go_loopw [2, 3] (fun bv kv wr => ∃ i k : Nat, bv = .int .i64 (i : Int) ∧ kv = .int .i64 (k : Int) ∧ i ≤ n ∧ k ≤ i ∧ Below w.heap.size w wr ∧ Hid (rd L = ((rd (L.drop i)).1 + i, (rd (L.drop i)).2.1 + k, (rd (L.drop i)).2.2))) (fun bv _ _ => n - (intOf bv).toNat)
  case atStart => exact ⟨0, 0, rfl, rfl, by omega, by omega, Below.refl _ _, Lib.hid (by simp)⟩
  case round =>
    obtain ⟨i, k, rfl, rfl, hi, hk, hbl, HR⟩ := hrel
    rename_i wr
    by_cases hlt : i < n
    · have hlt' : (i : Int) < (n : Int) := by omega
      have hch := character_any (S.extract i n) (by rw [HZ.out i hi]; omega) (by rw [HZ.out i hi]; omega)
      rw [HX.out i] at hch
      go_wp2_with fail
      refine (hch _ (hA.on hbl)).mono ?_
      rintro e w1 ⟨he, hb1⟩
      have hbl1 := gr_call hbl hb1
      have Hrd := Lib.hid (HR.out)
      rcases hsg : sgn (L.drop i) with _ | m
      · rw [hsg] at he
        obtain rfl : e = .panicked endsEarly := he
        have Hend := Lib.hid (rd_end HR.out (sg_of_none hsg) (by rw [hln.out]; exact hlt))
        clear hsg hch hb1
        go_wp2_with fail
        refine leaves_cons (f := 236) (args := #[]) (by simp) (by simp [go_sem]) ?_
        refine (catch_panic _ _ [] w1).mono ?_
        rintro e u' w'' ⟨rfl, rfl, rfl⟩
        simp [Leaves, settle, results, Tryz.results189, go_sem, endsEarly]
        rw [Hend.out.1, Hend.out.2]
        exact ⟨⟨rfl, rfl⟩, hbl1⟩
      · rw [hsg] at he
        obtain rfl : e = .returned (.int .i64 (m : Int)) := he
        have hsz := sg_of hsg
        by_cases hm : m = 0
        · subst hm
          have Hend := Lib.hid (rd_end HR.out hsz (by rw [hln.out]; exact hlt))
          clear hsg hch hb1 hsz
          go_wp2_with fail
          refine leaves_cons (f := 236) (args := #[]) (by simp) (by simp [go_sem]) ?_
          refine (catch_idle w1).mono ?_
          rintro e u' w'' ⟨rfl, rfl, rfl⟩
          simp [Leaves, settle, results, Tryz.results189, go_sem]
          rw [Hend.out.1, Hend.out.2]
          exact ⟨⟨rfl, rfl⟩, hbl1⟩
        · have hst := rd_at HR.out (by rw [hsz]; exact hm)
          have hle := sg_len (L.drop i)
          rw [hsz, List.length_drop, hln.out] at hle
          rw [hsz] at hst
          have Hst := Lib.hid hst
          have hm4 := sg_le (L.drop i)
          rw [hsz] at hm4
          have hmz : ((m : Int) == 0) = false := by rw [beq_eq_false_iff_ne]; omega
          clear hsg hch hb1 hsz hst
          go_wp2_with fail
          go_roundw
          case rel => exact ⟨i + m, k + 1, by first | rfl | go_num, by first | rfl | go_num, by omega, by omega, hbl1, Hst⟩
          case measure => simp only [intOf]; omega
    · have hlt' : ¬ (i : Int) < (n : Int) := by omega
      have Hend := Lib.hid (rd_all HR.out (by rw [hln.out]; omega))
      go_wp2_with fail
      refine leaves_cons (f := 236) (args := #[]) (by simp) (by simp [go_sem]) ?_
      refine (catch_idle wr).mono ?_
      rintro e u' w'' ⟨rfl, rfl, rfl⟩
      simp [Leaves, settle, results, Tryz.results189, go_sem]
      rw [Hend.out.1, Hend.out.2]
      exact ⟨⟨rfl, rfl⟩, hbl⟩

theorem bad_any (S : ByteArray) (hS : S.size ≤ 1000000) (w : World) (hA : Amb w) :
    Calls Tryz.prog 128 #[.string S] w fun e w' => e = .returned (.int .i64 (badI S.data.toList)) ∧ Below w.heap.size w w' := by
  have hrd := read_any S hS w hA
  go_enter Tryz.func128, Tryz.ntmps128
  go_wp2_with fail
  refine hrd.mono ?_
  rintro e w1 ⟨rfl, hb1⟩
  go_wp2_with fail
  go_ret
  exact ⟨rfl, hb1⟩
def validB (l : List UInt8) : Bool := (rd l).2.2
theorem valid_bad (l : List UInt8) : (badI l == -1) = validB l := by
  unfold badI validB
  cases (rd l).2.2
  · rw [if_neg (by decide), beq_eq_false_iff_ne]; omega
  · rfl
theorem valid_any (S : ByteArray) (hS : S.size ≤ 1000000) (w : World) (hA : Amb w) :
    Calls Tryz.prog 62 #[.string S] w fun e w' => e = .returned (.bool (validB S.data.toList)) ∧ Below w.heap.size w w' := by
  have hrd := bad_any S hS w hA
  have hv := valid_bad S.data.toList
  generalize badI S.data.toList = x at *
  go_enter Tryz.func62, Tryz.ntmps62
  go_wp2_with fail
  refine hrd.mono ?_
  rintro e w1 ⟨rfl, hb1⟩
  go_wp2_with fail
  go_ret
  exact ⟨rfl, hb1⟩
end Go.Proofs.YtbhnhoenjoagbaaGreatDoor.TextW

/- What the walks of this seat lean on in memory: two of the library's variables; they stay as they are whatever a call makes. -/
namespace Go.Proofs.YtbhnhoenjoagbaaGreatDoor.StampW
open Go.RowKit

theorem below_grown {B : Nat} {a w : World} (h : Below B a w) (hB : B ≤ w.heap.size) (k : Nat) (os : Array Obj) : Below B a (Go.Sort.grow (w.drewN k) os) := h.trans (Lib.below_grow B w hB k os)
theorem itoa_any (n : Int) (w : World) (hA : AmbB w) (h0 : -9223372036854775808 ≤ n) (h1 : n ≤ 9223372036854775807) :
    Calls Tryz.prog 65 #[.int .i64 n] w fun e w' => e = .returned (.string ⟨(Lib.itoa n).toArray⟩) ∧ Below w.heap.size w w' :=
  (Tryz.strconv_Itoa n h0 h1 w hA.tab).mono fun _ _ ⟨he, k, os, hw⟩ => ⟨he, by rw [hw]; exact below_grown (Below.refl _ _) (Nat.le_refl _) k os⟩
theorem trimRight_any (s : ByteArray) (c : UInt8) (hc : c.toNat < 128) (w : World) (hs : s.size ≤ 9223372036854775807) :
    Calls Tryz.prog 191 #[.string s, .string ⟨#[c]⟩] w fun e w' => e = .returned (.string ⟨(Lib.trimRightB s.data.toList c).toArray⟩) ∧ w = w' :=
  (Tryz.strings_TrimRight_one s c hc w hs).mono fun _ _ ⟨he, hw⟩ => ⟨he, hw.symm⟩
end Go.Proofs.YtbhnhoenjoagbaaGreatDoor.StampW
