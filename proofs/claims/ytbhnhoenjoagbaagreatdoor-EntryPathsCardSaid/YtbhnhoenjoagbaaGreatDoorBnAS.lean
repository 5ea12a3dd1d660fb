/- Bundle of 3 texts. -/
import Derived.Test.YtbhnhoenjoagbaaGreatDoorBnAR
import Derived.Test.YtbhnhoenjoagbaaGreatDoorBnAE
import Derived.Lib.AppendStr
import Derived.Test.YtbhnhoenjoagbaaGreatDoorKit
import Derived.Test.YtbhnhoenjoagbaaGreatDoorBnAL
/- Walks over package flags: Text. -/
namespace Go.Proofs.YtbhnhoenjoagbaaGreatDoor.FlagsW
open Go.RowKit
open FlagsM
set_option linter.unusedVariables false
attribute [local irreducible] BRow

/-- append(v, s...), s a string. -/
theorem wp_append_s {ops : Array Oper} {rest : List Oper} {o : Oper} {a : Act} {Q : Exit → Act → World → Prop} (hgd : o.guard = none) (s x : Operand)
    (ho : o.op = .call { callee := .builtin .append, args := #[s, x], argTypes := #[49, 9] })
    (B : Nat) (v : Value) (l : List UInt8) (w : World) (S : ByteArray)
    (hs : a.eval s = v) (hrow : BRow B v l w) (hx : a.eval x = .string S) (hlen : l.length + S.size ≤ 1000000) (hB : B ≤ w.heap.size)
    (h : ∀ v' w', BRow B v' (l ++ S.data.toList) w' → Below B w w' → wpList Tryz.prog ops Q rest (a.put o.dst v') w') :
    wpList Tryz.prog ops Q (o :: rest) a w := by
  obtain ⟨i0, hi, hz0, hz1, hz2⟩ := info_parts (show (Tryz.prog.info? 5).map (fun i => (i.zero, i.size, i.bytes)) = some (some (.int .u8 0), 1, 1) by kernel_rfl)
  unfold BRow at hrow h
  refine Lib.wpList_append_own_string _ hgd s x 49 9 ho B 5 i0 Tryz.underlying49 Tryz.underlying9 hi hz0 hz1 hz2 _ _ _ hs hrow S hx (by unfold maxLen; omega) (by omega) hB ?_
  intro v' w' h1 h2 _
  refine h v' w' ?_ ?_
  · rw [Lib.byteCells_append, List.length_append, len_list]
    exact h1
  · exact (Below.refl B w).grown h2 hB (fun k hk => (World.ownsRow.lt hrow k hk).1)

theorem bit_is (n i : Nat) (hn : n < 9223372036854775808) : (bits .and .i64 ((n : Int) / 2 ^ i) 1 == 1) = isBit n i := by
  have e : ((n : Int) / 2 ^ i) = ((n / 2 ^ i : Nat) : Int) := by simp
  have hlt : n / 2 ^ i < 9223372036854775808 := Nat.lt_of_le_of_lt (Nat.div_le_self _ _) hn
  unfold isBit
  rw [e, show (1 : Int) = ((1 : Nat) : Int) from rfl, and_i64 _ 1 hlt (by omega), Nat.and_one_is_mod]
  by_cases h : n / 2 ^ i % 2 = 1
  · rw [h, decide_eq_true rfl]; rfl
  · rw [decide_eq_false h, beq_eq_false_iff_ne]; omega
theorem bit_no (n i : Nat) (hn : n < 9223372036854775808) : (bits .and .i64 ((n : Int) / 2 ^ i) 1 == 0) = !isBit n i := by
  have e : ((n : Int) / 2 ^ i) = ((n / 2 ^ i : Nat) : Int) := by simp
  have hlt : n / 2 ^ i < 9223372036854775808 := Nat.lt_of_le_of_lt (Nat.div_le_self _ _) hn
  unfold isBit
  rw [e, show (1 : Int) = ((1 : Nat) : Int) from rfl, and_i64 _ 1 hlt (by omega), Nat.and_one_is_mod]
  by_cases h : n / 2 ^ i % 2 = 1
  · rw [h, decide_eq_true rfl]; rfl
  · rw [decide_eq_false h]; rw [Bool.not_false, beq_iff_eq]; omega
theorem up_hit {n i : Nat} (h : isBit n i = true) : upTo n (i + 1) = addN (upTo n i) i := by
  show (if isBit n i then _ else _) = _
  rw [if_pos h]
theorem up_miss {n i : Nat} (h : isBit n i = false) : upTo n (i + 1) = upTo n i := by
  show (if isBit n i then _ else _) = _
  rw [h]; rfl
theorem nm_len {i : Nat} (h : i < 4) : (strOf (nm i)).size ≤ 6 := by
  obtain rfl | rfl | rfl | rfl : i = 0 ∨ i = 1 ∨ i = 2 ∨ i = 3 := by omega
  all_goals decide

set_option maxHeartbeats 3200000 in
set_option maxRecDepth 100000 in
theorem text_any (n : Int) (w : World) (hA : Amb w) :
    Calls Tryz.prog 69 #[.int .i64 n] w fun e w' => e = .returned (.string (strOf (textI n))) ∧ Below w.heap.size w w' := by
  by_cases hn : 0 ≤ n ∧ n ≤ 15
  · have HT := Lib.hid (show textI n = textL n.toNat from if_pos hn)
    have hm := Lib.hid (may_any n)
    rw [show mayI n = true by unfold mayI; rw [decide_eq_true hn.1, decide_eq_true hn.2]; rfl] at hm
    obtain ⟨k, rfl⟩ : ∃ k : Nat, n = (k : Int) := ⟨n.toNat, by omega⟩
    rw [Int.toNat_natCast] at HT
    have hk : k < 16 := by omega
    obtain ⟨N0, N1, N2, N3, ⟨c0, c1, c2, c3⟩, HN⟩ := hA.named
    have hx : ∀ i, i < 4 → ∃ X : ByteArray, Hid (X = strOf (nm i)) ∧ X.size ≤ 6 ∧ ∀ W, (Instr.index 149 (.agg #[.string N0, .string N1, .string N2, .string N3]) (.int .i64 (i : Int))).run Tryz.prog W = .ok (.string X) W := by
      intro i hi
      obtain rfl | rfl | rfl | rfl : i = 0 ∨ i = 1 ∨ i = 2 ∨ i = 3 := by omega
      · exact ⟨N0, Lib.hid HN.out.1, by rw [HN.out.1]; decide, fun W => by kernel_rfl⟩
      · exact ⟨N1, Lib.hid HN.out.2.1, by rw [HN.out.2.1]; decide, fun W => by kernel_rfl⟩
      · exact ⟨N2, Lib.hid HN.out.2.2.1, by rw [HN.out.2.2.1]; decide, fun W => by kernel_rfl⟩
      · exact ⟨N3, Lib.hid HN.out.2.2.2, by rw [HN.out.2.2.2]; decide, fun W => by kernel_rfl⟩
    have Hx := Lib.hid hx
    have Hb := Lib.hid (fun i => bit_no k i (by omega))
    have HU := Lib.hid (fun i (hi : i ≤ 4) => up_len (n := k) (i := i) hk hi)
    obtain ⟨C1, hC1⟩ : ∃ O : ByteArray, (⟨#[44]⟩ : ByteArray) = O := ⟨_, rfl⟩
    have HC := Lib.hid (show C1.data.toList = [44] ∧ C1.size = 1 by rw [← hC1]; exact ⟨rfl, rfl⟩)
    clear hx hn hA HN
    go_enter Tryz.func69, Tryz.ntmps69
    simp only [hC1]
    clear hC1
    go_wp2_with fail
    refine (hm.out _).mono ?_
    rintro e w ⟨rfl, rfl⟩
    go_wp2_with fail
    go_loopw [3, 10] (fun lv iv wr => ∃ i : Nat, iv = .int .i64 (i : Int) ∧ i ≤ 4 ∧ BRow w.heap.size lv (upTo k i) wr ∧ Below w.heap.size w wr) (fun _ iv _ => 4 - (intOf iv).toNat)
    case atStart => exact ⟨0, rfl, by omega, BRow.nil _ _, Below.refl _ _⟩
    case round =>
      obtain ⟨i, rfl, hi, hR, hbl⟩ := hrel
      rename World => wr
      have hsz := hbl.size
      by_cases hlt : i < 4
      · have hlt' : decide ((i : Int) < 4) = true := decide_eq_true (by omega)
        have hlt2 : decide (i < 4) = true := decide_eq_true hlt
        obtain ⟨X, HX, hX6, hidx⟩ := Hx.out i hlt
        have hul := HU.out i hi
        have hb := Hb.out i
        rcases hbit : isBit k i with _ | _
        · rw [hbit] at hb
          rw [← up_miss hbit] at hR
          clear hbit
          simp only [Bool.not_false] at hb
          go_wp2_with fail
          go_roundw
          case rel => exact ⟨i + 1, rfl, by omega, hR, hbl⟩
          case measure => simp only [intOf]; omega
        · rw [hbit] at hb
          have HE := Lib.hid (up_hit hbit)
          clear hbit
          simp only [Bool.not_true] at hb
          obtain ⟨p, cap, rfl⟩ := hR.shape
          obtain ⟨L, hL⟩ : ∃ L, upTo k i = L := ⟨_, rfl⟩
          rw [hL] at HE hR hul ⊢
          clear hL
          by_cases hl0 : L = []
          · have d0 : decide (0 < (L.length : Int)) = false := decide_eq_false (by rw [hl0]; decide)
            have d1 : decide (0 < L.length) = false := decide_eq_false (by rw [hl0]; decide)
            have HE2 : Hid (upTo k (i + 1) = L ++ X.data.toList) := Lib.hid (by rw [HE.out, HX.out, strOf_list, hl0]; rfl)
            clear HE hl0
            go_wp2_with (at_builtin; refine wp_append_s rfl _ _ rfl w.heap.size _ L wr X rfl (by exact hR) rfl (by omega) hsz ?_)
            intro v' w' hR' hb'
            rw [← HE2.out] at hR'
            have hbl' := hbl.trans hb'
            clear hR hbl hb'
            go_wp2_with fail
            go_roundw
            case rel => exact ⟨i + 1, rfl, by omega, hR', hbl'⟩
            case measure => simp only [intOf]; omega
          · have hpos : 0 < L.length := List.length_pos_iff.2 hl0
            have d0 : decide (0 < (L.length : Int)) = true := decide_eq_true (by omega)
            have d1 : decide (0 < L.length) = true := decide_eq_true hpos
            have HE2 : Hid (upTo k (i + 1) = (L ++ C1.data.toList) ++ X.data.toList) := Lib.hid (by rw [HE.out, HX.out, HC.out.1, strOf_list]; unfold addN; rw [if_neg hl0]; simp)
            have hc1 := HC.out.2
            clear HE hl0
            go_wp2_with (at_builtin; refine wp_append_s rfl _ _ rfl w.heap.size _ L wr C1 rfl (by exact hR) rfl (by omega) hsz ?_)
            intro v1 w1 hR1 hb1
            have hbl1 := hbl.trans hb1
            have hsz1 := hbl1.size
            have hl1 : (L ++ C1.data.toList).length + X.size ≤ 1000000 := by rw [List.length_append, len_list]; omega
            clear hR hbl hb1 hc1
            go_wp2_with (at_builtin; refine wp_append_s rfl _ _ rfl w.heap.size _ (L ++ C1.data.toList) w1 X rfl (by exact hR1) rfl hl1 hsz1 ?_)
            intro v' w' hR' hb'
            rw [← List.append_assoc, ← HE2.out] at hR'
            have hbl' := hbl1.trans hb'
            clear hR1 hbl1 hb'
            go_wp2_with fail
            go_roundw
            case rel => exact ⟨i + 1, rfl, by omega, hR', hbl'⟩
            case measure => simp only [intOf]; omega
      · obtain rfl : i = 4 := by omega
        have hstr := hR.str
        have HE := Lib.hid (show textL k = upTo k 4 from rfl)
        obtain ⟨p, cap, rfl⟩ := hR.shape
        generalize upTo k 4 = L at *
        clear hR Hx Hb HU hi hlt
        go_wp2_with fail
        go_ret
        exact ⟨ret_str (by rw [HT.out, HE.out]; rfl), hbl⟩
  · have HT := Lib.hid (show textI n = [] from if_neg hn)
    have hm := Lib.hid (may_any n)
    rw [show mayI n = false by unfold mayI; rw [Bool.and_eq_false_iff, decide_eq_false_iff_not, decide_eq_false_iff_not]; omega] at hm
    clear hn
    go_enter Tryz.func69, Tryz.ntmps69
    go_wp2_with fail
    refine (hm.out _).mono ?_
    rintro e w ⟨rfl, rfl⟩
    go_wp2_with fail
    go_ret
    exact ⟨ret_str (by rw [HT.out]; rfl), Below.refl _ _⟩
end Go.Proofs.YtbhnhoenjoagbaaGreatDoor.FlagsW

/- A file's capabilities as the document has them, in plain Lean: which may be, their bytes, what any bytes say. -/
namespace Go.Proofs.YtbhnhoenjoagbaaGreatDoor.CapsM
set_option linter.unusedVariables false

structure Cap where
  v : Int
  p : Nat
  i : Nat
  e : Bool
  r : Int

/-- All that a number of the machine can be. -/
def Fits (c : Cap) : Prop := c.p < 18446744073709551616 ∧ c.i < 18446744073709551616
def none0 : Cap := ⟨0, 0, 0, false, 0⟩
/-- Whether they may be. -/
def may (c : Cap) : Bool :=
  if c.v = 0 then decide (c.p = 0 ∧ c.i = 0 ∧ c.e = false ∧ c.r = 0)
  else if c.v = 2 then decide (c.r = 0)
  else if c.v = 3 then decide (0 ≤ c.r ∧ c.r ≤ 2147483647) else false
/-- A number's four bytes, the lowest first. -/
def four (n : Nat) : List UInt8 := [UInt8.ofNat n, UInt8.ofNat (n / 256), UInt8.ofNat (n / 65536), UInt8.ofNat (n / 16777216)]
/-- The first number. -/
def first (c : Cap) : Nat := c.v.toNat * 16777216 + if c.e then 1 else 0
/-- The numbers that the bytes hold. -/
def nums (c : Cap) : List Nat := first c :: c.p % 4294967296 :: c.i % 4294967296 :: c.p / 4294967296 :: c.i / 4294967296 :: if c.v = 3 then [c.r.toNat] else []
def bytesOf (l : List Nat) : List UInt8 := l.flatMap four
def putL (c : Cap) : List UInt8 := if may c = true ∧ c.v ≠ 0 then bytesOf (nums c) else []
/-- The number that four bytes say; nought where there are less. -/
def le4 : List UInt8 → Nat
  | a :: b :: c :: d :: _ => a.toNat + b.toNat * 256 + c.toNat * 65536 + d.toNat * 16777216
  | _ => 0
def guess (l : List UInt8) (r : Nat) : Cap :=
  ⟨(le4 l / 16777216 : Nat), le4 (l.drop 4) + le4 (l.drop 12) * 4294967296, le4 (l.drop 8) + le4 (l.drop 16) * 4294967296, decide (le4 l % 2 = 1), (r : Nat)⟩
open Classical in
noncomputable def getL (l : List UInt8) : Option Cap :=
  if l = [] then some none0 else if putL (guess l (le4 (l.drop 20))) = l then some (guess l (le4 (l.drop 20))) else none

theorem four_length (n : Nat) : (four n).length = 4 := rfl
theorem four_mod (n : Nat) : four (n % 4294967296) = four n := by
  unfold four
  have h : ∀ a b : Nat, a % 256 = b % 256 → UInt8.ofNat a = UInt8.ofNat b := fun a b h => UInt8.toNat_inj.1 (by simpa using h)
  rw [h _ n (by omega), h (n % 4294967296 / 256) (n / 256) (by omega), h (n % 4294967296 / 65536) (n / 65536) (by omega), h (n % 4294967296 / 16777216) (n / 16777216) (by omega)]
theorem le4_lt (l : List UInt8) : le4 l < 4294967296 := by
  unfold le4
  split
  · rename_i a b c d r
    have := a.toNat_lt; have := b.toNat_lt; have := c.toNat_lt; have := d.toNat_lt
    omega
  · decide
theorem le4_four (n : Nat) (hn : n < 4294967296) (l : List UInt8) : le4 (four n ++ l) = n := by
  show (UInt8.ofNat n).toNat + (UInt8.ofNat (n / 256)).toNat * 256 + (UInt8.ofNat (n / 65536)).toNat * 65536 + (UInt8.ofNat (n / 16777216)).toNat * 16777216 = n
  simp only [UInt8.toNat_ofNat']
  omega
theorem le4_short {l : List UInt8} (h : l.length < 4) : le4 l = 0 := by
  match l, h with
  | [], _ => rfl
  | [_], _ => rfl
  | [_, _], _ => rfl
  | [_, _, _], _ => rfl
theorem bytesOf_length (l : List Nat) : (bytesOf l).length = 4 * l.length := by
  induction l with
  | nil => rfl
  | cons a l ih => simp only [bytesOf, List.flatMap_cons, List.length_append, four_length, List.length_cons] at ih ⊢; omega
theorem nums_length (c : Cap) : (nums c).length = if c.v = 3 then 6 else 5 := by
  unfold nums; split <;> rfl
theorem may_ver {c : Cap} (h : may c = true) : c.v = 0 ∨ c.v = 2 ∨ c.v = 3 := by
  unfold may at h
  split at h
  · exact .inl ‹_›
  · split at h
    · exact .inr (.inl ‹_›)
    · split at h
      · exact .inr (.inr ‹_›)
      · cases h
theorem may_root {c : Cap} (h : may c = true) : 0 ≤ c.r ∧ c.r ≤ 2147483647 ∧ (c.v = 2 → c.r = 0) := by
  unfold may at h
  split at h
  · have := of_decide_eq_true h
    omega
  · split at h
    · have := of_decide_eq_true h
      omega
    · split at h
      · have := of_decide_eq_true h
        omega
      · cases h
theorem may_zero {c : Cap} (h : may c = true) (hv : c.v = 0) : c = none0 := by
  unfold may at h
  rw [if_pos hv] at h
  obtain ⟨h1, h2, h3, h4⟩ := of_decide_eq_true h
  obtain ⟨v, p, i, e, r⟩ := c
  simp only at hv h1 h2 h3 h4
  subst hv h1 h2 h3 h4
  rfl
theorem putL_length {c : Cap} (h : may c = true) (hv : c.v ≠ 0) : (putL c).length = if c.v = 3 then 24 else 20 := by
  unfold putL
  rw [if_pos ⟨h, hv⟩, bytesOf_length, nums_length]
  split <;> rfl
theorem putL_none {c : Cap} (h : ¬ (may c = true ∧ c.v ≠ 0)) : putL c = [] := by unfold putL; rw [if_neg h]
theorem putL_some {c : Cap} (h : putL c ≠ []) : may c = true ∧ c.v ≠ 0 := by
  by_cases hc : may c = true ∧ c.v ≠ 0
  · exact hc
  · exact absurd (putL_none hc) h
theorem putL_size (c : Cap) : (putL c).length ≤ 24 := by
  by_cases hc : may c = true ∧ c.v ≠ 0
  · rw [putL_length hc.1 hc.2]; split <;> omega
  · rw [putL_none hc]; simp

theorem drop_4 (a : Nat) (l : List UInt8) : (four a ++ l).drop 4 = l := rfl
theorem drop_8 (a b : Nat) (l : List UInt8) : (four a ++ (four b ++ l)).drop 8 = l := rfl
theorem drop_12 (a b c : Nat) (l : List UInt8) : (four a ++ (four b ++ (four c ++ l))).drop 12 = l := rfl
theorem drop_16 (a b c d : Nat) (l : List UInt8) : (four a ++ (four b ++ (four c ++ (four d ++ l)))).drop 16 = l := rfl
theorem drop_20 (a b c d e : Nat) (l : List UInt8) : (four a ++ (four b ++ (four c ++ (four d ++ (four e ++ l))))).drop 20 = l := rfl
theorem cap_ext {c : Cap} {v : Int} {p i : Nat} {e : Bool} {r : Int} (h1 : v = c.v) (h2 : p = c.p) (h3 : i = c.i) (h4 : e = c.e) (h5 : r = c.r) : (⟨v, p, i, e, r⟩ : Cap) = c := by subst h1 h2 h3 h4 h5; rfl
theorem first_lt {c : Cap} (h : c.v = 2 ∨ c.v = 3) : first c < 4294967296 := by
  unfold first
  split <;> omega
theorem first_ver {c : Cap} (h : c.v = 2 ∨ c.v = 3) : ((first c / 16777216 : Nat) : Int) = c.v := by
  unfold first
  split <;> omega
theorem first_odd (c : Cap) : decide (first c % 2 = 1) = c.e := by
  unfold first
  cases c.e
  · rw [if_neg (by simp)]; exact decide_eq_false (by omega)
  · rw [if_pos rfl]; exact decide_eq_true (by omega)
theorem putL_eq {c : Cap} (h : may c = true) (hv : c.v ≠ 0) : putL c = four (first c) ++ (four (c.p % 4294967296) ++ (four (c.i % 4294967296) ++ (four (c.p / 4294967296) ++ (four (c.i / 4294967296) ++ bytesOf (if c.v = 3 then [c.r.toNat] else []))))) := by
  unfold putL
  rw [if_pos ⟨h, hv⟩]
  rfl
/-- What the bytes of any say. -/
theorem guess_put (c : Cap) (hf : Fits c) (h : may c = true) (hv : c.v ≠ 0) (r : Nat) (hr : (r : Int) = c.r) : guess (putL c) r = c := by
  have hv2 : c.v = 2 ∨ c.v = 3 := by
    rcases may_ver h with e | e | e
    · exact absurd e hv
    · exact .inl e
    · exact .inr e
  obtain ⟨hp, hi⟩ := hf
  have hfst := first_lt hv2
  rw [putL_eq h hv]
  generalize bytesOf (if c.v = 3 then [c.r.toNat] else []) = l
  unfold guess
  rw [drop_4, drop_8, drop_12, drop_16, le4_four _ hfst, le4_four _ (by omega), le4_four _ (by omega), le4_four _ (by omega), le4_four _ (by omega)]
  exact cap_ext (first_ver hv2) (by omega) (by omega) (first_odd c) hr
theorem root_put (c : Cap) (h : may c = true) (h3 : c.v = 3) : (le4 ((putL c).drop 20) : Int) = c.r := by
  obtain ⟨k1, k2, _⟩ := may_root h
  unfold putL
  rw [if_pos ⟨h, by omega⟩]
  unfold nums bytesOf
  rw [if_pos h3]
  simp only [List.flatMap_cons]
  rw [drop_20, le4_four _ (by omega)]
  omega
theorem root_put2 (c : Cap) (h : may c = true) (h2 : c.v = 2) : (le4 ((putL c).drop 20) : Int) = c.r := by
  have hl := putL_length h (by omega)
  rw [if_neg (by omega)] at hl
  rw [le4_short (by simp [hl])]
  exact ((may_root h).2.2 h2).symm
/-- They are told again. -/
theorem get_put (c : Cap) (hf : Fits c) (h : may c = true) : getL (putL c) = some c := by
  unfold getL
  by_cases hv : c.v = 0
  · rw [putL_none (by simp [hv]), if_pos rfl, may_zero h hv]
  · have hl := putL_length h hv
    have hne : putL c ≠ [] := by intro e; rw [e] at hl; simp at hl; split at hl <;> omega
    have hr : (le4 ((putL c).drop 20) : Int) = c.r := by
      rcases may_ver h with e | e | e
      · exact absurd e hv
      · exact root_put2 c h e
      · exact root_put c h e
    have hg := guess_put c hf h hv _ hr
    rw [if_neg hne, hg, if_pos rfl]
theorem guess_fits (l : List UInt8) (r : Nat) : Fits (guess l r) := by
  have h1 := le4_lt (l.drop 4)
  have h2 := le4_lt (l.drop 12)
  have h3 := le4_lt (l.drop 8)
  have h4 := le4_lt (l.drop 16)
  unfold Fits guess
  simp only
  omega
/-- What any bytes say has these bytes. -/
theorem get_says {l : List UInt8} {c : Cap} (h : getL l = some c) : may c = true ∧ putL c = l ∧ Fits c := by
  unfold getL at h
  split at h
  · obtain rfl := Option.some.inj h
    subst_vars
    exact ⟨rfl, rfl, by decide, by decide⟩
  · split at h
    · obtain rfl := Option.some.inj h
      rename_i h0 h1
      exact ⟨(putL_some (by rw [h1]; exact h0)).1, h1, guess_fits _ _⟩
    · cases h
theorem get_none {l : List UInt8} (h : getL l = none) (c : Cap) (hf : Fits c) (hm : may c = true) : putL c ≠ l := by
  intro e
  rw [← e, get_put c hf hm] at h
  cases h
/-- What the program guesses, number by number. -/
def gval (l : List UInt8) : Cap := guess l (if le4 l / 16777216 = 3 then le4 (l.drop 20) else 0)
theorem gval_len {l : List UInt8} (h : putL (gval l) = l) (h0 : l ≠ []) : 20 ≤ l.length ∧ (le4 l / 16777216 = 3 → 24 ≤ l.length) := by
  obtain ⟨k1, k2⟩ := putL_some (by rw [h]; exact h0)
  have hl := putL_length k1 k2
  rw [h] at hl
  have hv : (gval l).v = (le4 l / 16777216 : Nat) := rfl
  constructor
  · rw [hl]; split <;> omega
  · intro e
    rw [hl, if_pos (by rw [hv, e]; rfl)]
    omega
theorem getL_gval (l : List UInt8) (h0 : l ≠ []) : getL l = if putL (gval l) = l then some (gval l) else none := by
  unfold getL
  rw [if_neg h0]
  by_cases h3 : le4 l / 16777216 = 3
  · have : gval l = guess l (le4 (l.drop 20)) := by unfold gval; rw [if_pos h3]
    rw [this]
  · have hg : gval l = guess l 0 := by unfold gval; rw [if_neg h3]
    rw [hg]
    by_cases hl : l.length < 24
    · rw [le4_short (l := l.drop 20) (by simp; omega)]
    · have hv : ∀ r, (guess l r).v = (le4 l / 16777216 : Nat) := fun r => rfl
      have hne : ∀ r, putL (guess l r) ≠ l := by
        intro r e
        obtain ⟨k1, k2⟩ := putL_some (by rw [e]; exact h0)
        have hl2 := putL_length k1 k2
        rw [e, hv, if_neg (by omega)] at hl2
        omega
      rw [if_neg (hne _), if_neg (hne _)]
end Go.Proofs.YtbhnhoenjoagbaaGreatDoor.CapsM

/- Walks over package caps, and the document's answer: which capabilities may be. -/
namespace Go.Proofs.YtbhnhoenjoagbaaGreatDoor.CapsW
open Go.RowKit
open CapsM
set_option linter.unusedVariables false

/-- Capabilities as a value, and as cells. -/
def capV (c : Cap) : Value := .agg #[.int .i64 c.v, .int .u64 (c.p : Int), .int .u64 (c.i : Int), .bool c.e, .int .i64 c.r]

set_option maxHeartbeats 800000 in
theorem May_any (c : Cap) (w : World) :
    Calls Tryz.prog 141 #[capV c] w fun e w' => e = .returned (.bool (may c)) ∧ Below w.heap.size w w' := by
  obtain ⟨v, p, i, e, r⟩ := c
  unfold capV
  simp only
  by_cases h0 : v = 0
  · subst h0
    have HE := Lib.hid (show may ⟨0, p, i, e, r⟩ = decide (p = 0 ∧ i = 0 ∧ e = false ∧ r = 0) from rfl)
    go_enter Tryz.func141, Tryz.ntmps141
    go_wp2_with fail
    all_goals go_ret
    all_goals refine ⟨?_, by (repeat' (first | exact Below.refl _ _ | assumption | refine gr_drew ?_ | refine gr_drewN ?_ _ | refine gr_alloc ?_ _ | refine gr_set ?_ ?_ _ | refine gr_call ?_ (by assumption)) <;> (try (simp; done)) <;> (try (simp; omega)) <;> (try omega))⟩
    all_goals rw [HE.out]
    all_goals show Ending.returned (.bool _) = _
    all_goals simp [*]
  have t0 : (v == 0) = false := by simpa using h0
  by_cases h2 : v = 2
  · subst h2
    have HE := Lib.hid (show may ⟨2, p, i, e, r⟩ = decide (r = 0) from rfl)
    clear t0 h0
    by_cases hr : r = 0
    · have t1 : (r == 0) = true := by simpa using hr
      have HF := Lib.hid (HE.out.trans (decide_eq_true hr))
      clear HE hr
      go_enter Tryz.func141, Tryz.ntmps141
      go_wp2_with fail
      go_ret
      exact ⟨by rw [HF.out]; rfl, by (repeat' (first | exact Below.refl _ _ | assumption | refine gr_drew ?_ | refine gr_drewN ?_ _ | refine gr_alloc ?_ _ | refine gr_set ?_ ?_ _ | refine gr_call ?_ (by assumption)) <;> (try (simp; done)) <;> (try (simp; omega)) <;> (try omega))⟩
    · have t1 : (r == 0) = false := by simpa using hr
      have HF := Lib.hid (HE.out.trans (decide_eq_false hr))
      clear HE hr
      go_enter Tryz.func141, Tryz.ntmps141
      go_wp2_with fail
      go_ret
      exact ⟨by rw [HF.out]; rfl, by (repeat' (first | exact Below.refl _ _ | assumption | refine gr_drew ?_ | refine gr_drewN ?_ _ | refine gr_alloc ?_ _ | refine gr_set ?_ ?_ _ | refine gr_call ?_ (by assumption)) <;> (try (simp; done)) <;> (try (simp; omega)) <;> (try omega))⟩
  have t2 : (v == 2) = false := by simpa using h2
  by_cases h3 : v = 3
  · subst h3
    have HE := Lib.hid (show may ⟨3, p, i, e, r⟩ = decide (0 ≤ r ∧ r ≤ 2147483647) from rfl)
    clear t0 t2 h0 h2
    by_cases hr : 0 ≤ r
    · by_cases hs : r ≤ 2147483647
      · have t1 : decide (0 ≤ r) = true := decide_eq_true hr
        have t3 : decide (r ≤ 2147483647) = true := decide_eq_true hs
        have HF := Lib.hid (HE.out.trans (decide_eq_true ⟨hr, hs⟩))
        clear HE
        go_enter Tryz.func141, Tryz.ntmps141
        go_wp2_with fail
        go_ret
        exact ⟨by rw [HF.out]; rfl, by (repeat' (first | exact Below.refl _ _ | assumption | refine gr_drew ?_ | refine gr_drewN ?_ _ | refine gr_alloc ?_ _ | refine gr_set ?_ ?_ _ | refine gr_call ?_ (by assumption)) <;> (try (simp; done)) <;> (try (simp; omega)) <;> (try omega))⟩
      · have t1 : decide (0 ≤ r) = true := decide_eq_true hr
        have t3 : decide (r ≤ 2147483647) = false := decide_eq_false hs
        have HF := Lib.hid (HE.out.trans (decide_eq_false (fun h => hs h.2)))
        clear HE
        go_enter Tryz.func141, Tryz.ntmps141
        go_wp2_with fail
        go_ret
        exact ⟨by rw [HF.out]; rfl, by (repeat' (first | exact Below.refl _ _ | assumption | refine gr_drew ?_ | refine gr_drewN ?_ _ | refine gr_alloc ?_ _ | refine gr_set ?_ ?_ _ | refine gr_call ?_ (by assumption)) <;> (try (simp; done)) <;> (try (simp; omega)) <;> (try omega))⟩
    · have t1 : decide (0 ≤ r) = false := decide_eq_false hr
      have HF := Lib.hid (HE.out.trans (decide_eq_false (fun h => hr h.1)))
      clear HE
      go_enter Tryz.func141, Tryz.ntmps141
      go_wp2_with fail
      go_ret
      exact ⟨by rw [HF.out]; rfl, by (repeat' (first | exact Below.refl _ _ | assumption | refine gr_drew ?_ | refine gr_drewN ?_ _ | refine gr_alloc ?_ _ | refine gr_set ?_ ?_ _ | refine gr_call ?_ (by assumption)) <;> (try (simp; done)) <;> (try (simp; omega)) <;> (try omega))⟩
  have t3 : (v == 3) = false := by simpa using h3
  have HF := Lib.hid (show may ⟨v, p, i, e, r⟩ = false by unfold may; simp only; rw [if_neg h0, if_neg h2, if_neg h3])
  clear h0 h2 h3
  go_enter Tryz.func141, Tryz.ntmps141
  go_wp2_with fail
  go_ret
  exact ⟨by rw [HF.out]; rfl, by (repeat' (first | exact Below.refl _ _ | assumption | refine gr_drew ?_ | refine gr_drewN ?_ _ | refine gr_alloc ?_ _ | refine gr_set ?_ ?_ _ | refine gr_call ?_ (by assumption)) <;> (try (simp; done)) <;> (try (simp; omega)) <;> (try omega))⟩
set_option maxHeartbeats 800000 in
theorem refMay_any (c : Cap) (w : World) :
    Calls Tryz.prog 126 #[capV c] w fun e w' => e = .returned (.bool (may c)) ∧ Below w.heap.size w w' := by
  obtain ⟨v, p, i, e, r⟩ := c
  unfold capV
  simp only
  by_cases h0 : v = 0
  · subst h0
    have HE := Lib.hid (show may ⟨0, p, i, e, r⟩ = decide (p = 0 ∧ i = 0 ∧ e = false ∧ r = 0) from rfl)
    go_enter Tryz.func126, Tryz.ntmps126
    go_wp2_with fail
    all_goals go_ret
    all_goals refine ⟨?_, by (repeat' (first | exact Below.refl _ _ | assumption | refine gr_drew ?_ | refine gr_drewN ?_ _ | refine gr_alloc ?_ _ | refine gr_set ?_ ?_ _ | refine gr_call ?_ (by assumption)) <;> (try (simp; done)) <;> (try (simp; omega)) <;> (try omega))⟩
    all_goals rw [HE.out]
    all_goals show Ending.returned (.bool _) = _
    all_goals simp [*]
  have t0 : (v == 0) = false := by simpa using h0
  by_cases h2 : v = 2
  · subst h2
    have HE := Lib.hid (show may ⟨2, p, i, e, r⟩ = decide (r = 0) from rfl)
    clear t0 h0
    by_cases hr : r = 0
    · have t1 : (r == 0) = true := by simpa using hr
      have HF := Lib.hid (HE.out.trans (decide_eq_true hr))
      clear HE hr
      go_enter Tryz.func126, Tryz.ntmps126
      go_wp2_with fail
      go_ret
      exact ⟨by rw [HF.out]; rfl, by (repeat' (first | exact Below.refl _ _ | assumption | refine gr_drew ?_ | refine gr_drewN ?_ _ | refine gr_alloc ?_ _ | refine gr_set ?_ ?_ _ | refine gr_call ?_ (by assumption)) <;> (try (simp; done)) <;> (try (simp; omega)) <;> (try omega))⟩
    · have t1 : (r == 0) = false := by simpa using hr
      have HF := Lib.hid (HE.out.trans (decide_eq_false hr))
      clear HE hr
      go_enter Tryz.func126, Tryz.ntmps126
      go_wp2_with fail
      go_ret
      exact ⟨by rw [HF.out]; rfl, by (repeat' (first | exact Below.refl _ _ | assumption | refine gr_drew ?_ | refine gr_drewN ?_ _ | refine gr_alloc ?_ _ | refine gr_set ?_ ?_ _ | refine gr_call ?_ (by assumption)) <;> (try (simp; done)) <;> (try (simp; omega)) <;> (try omega))⟩
  have t2 : (v == 2) = false := by simpa using h2
  by_cases h3 : v = 3
  · subst h3
    have HE := Lib.hid (show may ⟨3, p, i, e, r⟩ = decide (0 ≤ r ∧ r ≤ 2147483647) from rfl)
    clear t0 t2 h0 h2
    by_cases hr : 0 ≤ r
    · by_cases hs : r ≤ 2147483647
      · have t1 : decide (0 ≤ r) = true := decide_eq_true hr
        have t3 : decide (r ≤ 2147483647) = true := decide_eq_true hs
        have HF := Lib.hid (HE.out.trans (decide_eq_true ⟨hr, hs⟩))
        clear HE
        go_enter Tryz.func126, Tryz.ntmps126
        go_wp2_with fail
        go_ret
        exact ⟨by rw [HF.out]; rfl, by (repeat' (first | exact Below.refl _ _ | assumption | refine gr_drew ?_ | refine gr_drewN ?_ _ | refine gr_alloc ?_ _ | refine gr_set ?_ ?_ _ | refine gr_call ?_ (by assumption)) <;> (try (simp; done)) <;> (try (simp; omega)) <;> (try omega))⟩
      · have t1 : decide (0 ≤ r) = true := decide_eq_true hr
        have t3 : decide (r ≤ 2147483647) = false := decide_eq_false hs
        have HF := Lib.hid (HE.out.trans (decide_eq_false (fun h => hs h.2)))
        clear HE
        go_enter Tryz.func126, Tryz.ntmps126
        go_wp2_with fail
        go_ret
        exact ⟨by rw [HF.out]; rfl, by (repeat' (first | exact Below.refl _ _ | assumption | refine gr_drew ?_ | refine gr_drewN ?_ _ | refine gr_alloc ?_ _ | refine gr_set ?_ ?_ _ | refine gr_call ?_ (by assumption)) <;> (try (simp; done)) <;> (try (simp; omega)) <;> (try omega))⟩
    · have t1 : decide (0 ≤ r) = false := decide_eq_false hr
      have HF := Lib.hid (HE.out.trans (decide_eq_false (fun h => hr h.1)))
      clear HE
      go_enter Tryz.func126, Tryz.ntmps126
      go_wp2_with fail
      go_ret
      exact ⟨by rw [HF.out]; rfl, by (repeat' (first | exact Below.refl _ _ | assumption | refine gr_drew ?_ | refine gr_drewN ?_ _ | refine gr_alloc ?_ _ | refine gr_set ?_ ?_ _ | refine gr_call ?_ (by assumption)) <;> (try (simp; done)) <;> (try (simp; omega)) <;> (try omega))⟩
  have t3 : (v == 3) = false := by simpa using h3
  have HF := Lib.hid (show may ⟨v, p, i, e, r⟩ = false by unfold may; simp only; rw [if_neg h0, if_neg h2, if_neg h3])
  clear h0 h2 h3
  go_enter Tryz.func126, Tryz.ntmps126
  go_wp2_with fail
  go_ret
  exact ⟨by rw [HF.out]; rfl, by (repeat' (first | exact Below.refl _ _ | assumption | refine gr_drew ?_ | refine gr_drewN ?_ _ | refine gr_alloc ?_ _ | refine gr_set ?_ ?_ _ | refine gr_call ?_ (by assumption)) <;> (try (simp; done)) <;> (try (simp; omega)) <;> (try omega))⟩
end Go.Proofs.YtbhnhoenjoagbaaGreatDoor.CapsW
