/- Walks over package flags: Text. -/
import Derived.Test.YtpknbdlemaehnaaDoorFlagsBit
import Derived.Test.YtpknbdlemaehnaaDoorBytes
import Derived.Lib.AppendStr
namespace Go.Proofs.YtpknbdlemaehnaaDoor
open Go.RowKit
open FlagsM
set_option linter.unusedVariables false
attribute [local irreducible] BRow

/-- append(v, s...), s a string. -/
theorem wp_append_s {ops : Array Oper} {rest : List Oper} {o : Oper} {a : Act} {Q : Exit → Act → World → Prop} (hgd : o.guard = none) (s x : Operand)
    (ho : o.op = .call { callee := .builtin .append, args := #[s, x], argTypes := #[32, 9] })
    (B : Nat) (v : Value) (l : List UInt8) (w : World) (S : ByteArray)
    (hs : a.eval s = v) (hrow : BRow B v l w) (hx : a.eval x = .string S) (hlen : l.length + S.size ≤ 1000000) (hB : B ≤ w.heap.size)
    (h : ∀ v' w', BRow B v' (l ++ S.data.toList) w' → Below B w w' → wpList Tryd.prog ops Q rest (a.put o.dst v') w') :
    wpList Tryd.prog ops Q (o :: rest) a w := by
  obtain ⟨i0, hi, hz0, hz1, hz2⟩ := info_parts (show (Tryd.prog.info? 5).map (fun i => (i.zero, i.size, i.bytes)) = some (some (.int .u8 0), 1, 1) by kernel_rfl)
  unfold BRow at hrow h
  refine Lib.wpList_append_own_string _ hgd s x 32 9 ho B 5 i0 Tryd.underlying32 Tryd.underlying9 hi hz0 hz1 hz2 _ _ _ hs hrow S hx (by unfold maxLen; omega) (by omega) hB ?_
  intro v' w' h1 h2 _
  refine h v' w' ?_ ?_
  · rw [Lib.byteCells_append, List.length_append, len_list]
    exact h1
  · exact (Below.refl B w).grown h2 hB (fun k hk => (World.ownsRow.lt hrow k hk).1)

theorem bit_is (n i : Nat) (hn : n < 9223372036854775808) : (bits .and .i64 ((n : Int) / 2 ^ i) 1 == 1) = isBit n i := by
  have e : ((n : Int) / 2 ^ i) = ((n / 2 ^ i : Nat) : Int) := by simp
  have hlt : n / 2 ^ i < 9223372036854775808 := Nat.lt_of_le_of_lt (Nat.div_le_self _ _) hn
  unfold isBit
  rw [e, show (1 : Int) = ((1 : Nat) : Int) from rfl, and_i64 _ 1 hlt (by omega), Nat.and_one_is_mod]
  by_cases h : n / 2 ^ i % 2 = 1
  · rw [h, decide_eq_true rfl]; rfl
  · rw [decide_eq_false h, beq_eq_false_iff_ne]; omega
theorem bit_no (n i : Nat) (hn : n < 9223372036854775808) : (bits .and .i64 ((n : Int) / 2 ^ i) 1 == 0) = !isBit n i := by
  have e : ((n : Int) / 2 ^ i) = ((n / 2 ^ i : Nat) : Int) := by simp
  have hlt : n / 2 ^ i < 9223372036854775808 := Nat.lt_of_le_of_lt (Nat.div_le_self _ _) hn
  unfold isBit
  rw [e, show (1 : Int) = ((1 : Nat) : Int) from rfl, and_i64 _ 1 hlt (by omega), Nat.and_one_is_mod]
  by_cases h : n / 2 ^ i % 2 = 1
  · rw [h, decide_eq_true rfl]; rfl
  · rw [decide_eq_false h]; rw [Bool.not_false, beq_iff_eq]; omega
theorem up_hit {n i : Nat} (h : isBit n i = true) : upTo n (i + 1) = addN (upTo n i) i := by
  show (if isBit n i then _ else _) = _
  rw [if_pos h]
theorem up_miss {n i : Nat} (h : isBit n i = false) : upTo n (i + 1) = upTo n i := by
  show (if isBit n i then _ else _) = _
  rw [h]; rfl
theorem nm_len {i : Nat} (h : i < 4) : (strOf (nm i)).size ≤ 6 := by
  obtain rfl | rfl | rfl | rfl : i = 0 ∨ i = 1 ∨ i = 2 ∨ i = 3 := by omega
  all_goals decide

set_option maxHeartbeats 3200000 in
set_option maxRecDepth 100000 in
theorem text_any (n : Int) (w : World) (hA : Amb w) :
    Calls Tryd.prog 11 #[.int .i64 n] w fun e w' => e = .returned (.string (strOf (textI n))) ∧ Below w.heap.size w w' := by
  by_cases hn : 0 ≤ n ∧ n ≤ 15
  · have HT := Lib.hid (show textI n = textL n.toNat from if_pos hn)
    have hm := Lib.hid (may_any n)
    rw [show mayI n = true by unfold mayI; rw [decide_eq_true hn.1, decide_eq_true hn.2]; rfl] at hm
    obtain ⟨k, rfl⟩ : ∃ k : Nat, n = (k : Int) := ⟨n.toNat, by omega⟩
    rw [Int.toNat_natCast] at HT
    have hk : k < 16 := by omega
    obtain ⟨N0, N1, N2, N3, ⟨c0, c1, c2, c3⟩, HN⟩ := hA.named
    have hx : ∀ i, i < 4 → ∃ X : ByteArray, Hid (X = strOf (nm i)) ∧ X.size ≤ 6 ∧ ∀ W, (Instr.index 33 (.agg #[.string N0, .string N1, .string N2, .string N3]) (.int .i64 (i : Int))).run Tryd.prog W = .ok (.string X) W := by
      intro i hi
      obtain rfl | rfl | rfl | rfl : i = 0 ∨ i = 1 ∨ i = 2 ∨ i = 3 := by omega
      · exact ⟨N0, Lib.hid HN.out.1, by rw [HN.out.1]; decide, fun W => by kernel_rfl⟩
      · exact ⟨N1, Lib.hid HN.out.2.1, by rw [HN.out.2.1]; decide, fun W => by kernel_rfl⟩
      · exact ⟨N2, Lib.hid HN.out.2.2.1, by rw [HN.out.2.2.1]; decide, fun W => by kernel_rfl⟩
      · exact ⟨N3, Lib.hid HN.out.2.2.2, by rw [HN.out.2.2.2]; decide, fun W => by kernel_rfl⟩
    have Hx := Lib.hid hx
    have Hb := Lib.hid (fun i => bit_no k i (by omega))
    have HU := Lib.hid (fun i (hi : i ≤ 4) => up_len (n := k) (i := i) hk hi)
    obtain ⟨C1, hC1⟩ : ∃ O : ByteArray, (⟨#[44]⟩ : ByteArray) = O := ⟨_, rfl⟩
    have HC := Lib.hid (show C1.data.toList = [44] ∧ C1.size = 1 by rw [← hC1]; exact ⟨rfl, rfl⟩)
    clear hx hn hA HN
    go_enter Tryd.func11, Tryd.ntmps11
    simp only [hC1]
    clear hC1
    go_wp2_with fail
    refine (hm.out _).mono ?_
    rintro e w ⟨rfl, rfl⟩
    go_wp2_with fail
    go_loopw [3, 10] (fun lv iv wr => ∃ i : Nat, iv = .int .i64 (i : Int) ∧ i ≤ 4 ∧ BRow w.heap.size lv (upTo k i) wr ∧ Below w.heap.size w wr) (fun _ iv _ => 4 - (intOf iv).toNat)
    case atStart => exact ⟨0, rfl, by omega, BRow.nil _ _, Below.refl _ _⟩
    case round =>
      obtain ⟨i, rfl, hi, hR, hbl⟩ := hrel
      rename World => wr
      have hsz := hbl.size
      by_cases hlt : i < 4
      · have hlt' : decide ((i : Int) < 4) = true := decide_eq_true (by omega)
        have hlt2 : decide (i < 4) = true := decide_eq_true hlt
        obtain ⟨X, HX, hX6, hidx⟩ := Hx.out i hlt
        have hul := HU.out i hi
        have hb := Hb.out i
        rcases hbit : isBit k i with _ | _
        · rw [hbit] at hb
          rw [← up_miss hbit] at hR
          clear hbit
          simp only [Bool.not_false] at hb
          go_wp2_with fail
          go_roundw
          case rel => exact ⟨i + 1, rfl, by omega, hR, hbl⟩
          case measure => simp only [intOf]; omega
        · rw [hbit] at hb
          have HE := Lib.hid (up_hit hbit)
          clear hbit
          simp only [Bool.not_true] at hb
          obtain ⟨p, cap, rfl⟩ := hR.shape
          obtain ⟨L, hL⟩ : ∃ L, upTo k i = L := ⟨_, rfl⟩
          rw [hL] at HE hR hul ⊢
          clear hL
          by_cases hl0 : L = []
          · have d0 : decide (0 < (L.length : Int)) = false := decide_eq_false (by rw [hl0]; decide)
            have d1 : decide (0 < L.length) = false := decide_eq_false (by rw [hl0]; decide)
            have HE2 : Hid (upTo k (i + 1) = L ++ X.data.toList) := Lib.hid (by rw [HE.out, HX.out, strOf_list, hl0]; rfl)
            clear HE hl0
            go_wp2_with (at_builtin; refine wp_append_s rfl _ _ rfl w.heap.size _ L wr X rfl (by exact hR) rfl (by omega) hsz ?_)
            intro v' w' hR' hb'
            rw [← HE2.out] at hR'
            have hbl' := hbl.trans hb'
            clear hR hbl hb'
            go_wp2_with fail
            go_roundw
            case rel => exact ⟨i + 1, rfl, by omega, hR', hbl'⟩
            case measure => simp only [intOf]; omega
          · have hpos : 0 < L.length := List.length_pos_iff.2 hl0
            have d0 : decide (0 < (L.length : Int)) = true := decide_eq_true (by omega)
            have d1 : decide (0 < L.length) = true := decide_eq_true hpos
            have HE2 : Hid (upTo k (i + 1) = (L ++ C1.data.toList) ++ X.data.toList) := Lib.hid (by rw [HE.out, HX.out, HC.out.1, strOf_list]; unfold addN; rw [if_neg hl0]; simp)
            have hc1 := HC.out.2
            clear HE hl0
            go_wp2_with (at_builtin; refine wp_append_s rfl _ _ rfl w.heap.size _ L wr C1 rfl (by exact hR) rfl (by omega) hsz ?_)
            intro v1 w1 hR1 hb1
            have hbl1 := hbl.trans hb1
            have hsz1 := hbl1.size
            have hl1 : (L ++ C1.data.toList).length + X.size ≤ 1000000 := by rw [List.length_append, len_list]; omega
            clear hR hbl hb1 hc1
            go_wp2_with (at_builtin; refine wp_append_s rfl _ _ rfl w.heap.size _ (L ++ C1.data.toList) w1 X rfl (by exact hR1) rfl hl1 hsz1 ?_)
            intro v' w' hR' hb'
            rw [← List.append_assoc, ← HE2.out] at hR'
            have hbl' := hbl1.trans hb'
            clear hR1 hbl1 hb'
            go_wp2_with fail
            go_roundw
            case rel => exact ⟨i + 1, rfl, by omega, hR', hbl'⟩
            case measure => simp only [intOf]; omega
      · obtain rfl : i = 4 := by omega
        have hstr := hR.str
        have HE := Lib.hid (show textL k = upTo k 4 from rfl)
        obtain ⟨p, cap, rfl⟩ := hR.shape
        generalize upTo k 4 = L at *
        clear hR Hx Hb HU hi hlt
        go_wp2_with fail
        go_ret
        exact ⟨ret_str (by rw [HT.out, HE.out]; rfl), hbl⟩
  · have HT := Lib.hid (show textI n = [] from if_neg hn)
    have hm := Lib.hid (may_any n)
    rw [show mayI n = false by unfold mayI; rw [Bool.and_eq_false_iff, decide_eq_false_iff_not, decide_eq_false_iff_not]; omega] at hm
    clear hn
    go_enter Tryd.func11, Tryd.ntmps11
    go_wp2_with fail
    refine (hm.out _).mono ?_
    rintro e w ⟨rfl, rfl⟩
    go_wp2_with fail
    go_ret
    exact ⟨ret_str (by rw [HT.out]; rfl), Below.refl _ _⟩
end Go.Proofs.YtpknbdlemaehnaaDoor
