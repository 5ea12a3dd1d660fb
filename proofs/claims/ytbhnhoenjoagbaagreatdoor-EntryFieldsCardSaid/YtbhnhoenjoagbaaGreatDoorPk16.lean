/- Bundle of 4 texts. -/
import Derived.Test.YtbhnhoenjoagbaaGreatDoorPk15
import Derived.Test.YtbhnhoenjoagbaaGreatDoorChecked
import Derived.Deep.QuietTactic
import Derived.BigQuiet
import Derived.Outline
import Derived.Recover
import Derived.Test.YtbhnhoenjoagbaaGreatDoorPk04
import Derived.Lib.AppendStr
import Derived.Test.YtbhnhoenjoagbaaGreatDoorKit
import Derived.Test.YtbhnhoenjoagbaaGreatDoorPk12
/- Walks over package flags: May, bitOf. -/
namespace Go.Proofs.YtbhnhoenjoagbaaGreatDoor.FlagsW
open Go.RowKit
open FlagsM
set_option linter.unusedVariables false

def noFlags : List PanicEntry := [{ v := .iface 233 (.agg #[]), recovered := false }]
def natEnd (o : Option Nat) (e : Ending) : Prop := match o with
  | some n => e = .returned (.int .i64 (n : Int))
  | none => e = .panicked noFlags

theorem may_any (n : Int) (w : World) : Calls Tryz.prog 138 #[.int .i64 n] w fun e w' => e = .returned (.bool (mayI n)) ∧ w' = w := by
  have Hd := Lib.hid (show mayI n = (decide (0 ≤ n) && decide (n ≤ 15)) from rfl)
  by_cases h1 : 0 ≤ n
  · go_enter Tryz.func138, Tryz.ntmps138
    go_wp2_with fail
    go_ret
    exact ⟨ret_bool (by rw [Hd.out, decide_eq_true h1]; rfl), rfl⟩
  · go_enter Tryz.func138, Tryz.ntmps138
    go_wp2_with fail
    go_ret
    exact ⟨ret_bool (by rw [Hd.out, decide_eq_false (by omega)]; rfl), rfl⟩
theorem refMay_any (n : Int) (w : World) : Calls Tryz.prog 124 #[.int .i64 n] w fun e w' => e = .returned (.bool (mayI n)) ∧ w' = w := by
  have Hd := Lib.hid (show mayI n = (decide (0 ≤ n) && decide (n ≤ 15)) from rfl)
  by_cases h1 : 0 ≤ n
  · go_enter Tryz.func124, Tryz.ntmps124
    go_wp2_with fail
    go_ret
    exact ⟨ret_bool (by rw [Hd.out, decide_eq_true h1]; rfl), rfl⟩
  · go_enter Tryz.func124, Tryz.ntmps124
    go_wp2_with fail
    go_ret
    exact ⟨ret_bool (by rw [Hd.out, decide_eq_false (by omega)]; rfl), rfl⟩

theorem Amb.named {w : World} (h : Amb w) : ∃ N0 N1 N2 N3 : ByteArray, (w.cell? ⟨0, 0, none⟩ = some (.string N0) ∧ w.cell? ⟨0, 1, none⟩ = some (.string N1) ∧
    w.cell? ⟨0, 2, none⟩ = some (.string N2) ∧ w.cell? ⟨0, 3, none⟩ = some (.string N3)) ∧ Hid (N0 = strOf (nm 0) ∧ N1 = strOf (nm 1) ∧ N2 = strOf (nm 2) ∧ N3 = strOf (nm 3)) :=
  ⟨_, _, _, _, h.cells, Lib.hid ⟨rfl, rfl, rfl, rfl⟩⟩
end Go.Proofs.YtbhnhoenjoagbaaGreatDoor.FlagsW

/- Walks over package flags: Text. -/
namespace Go.Proofs.YtbhnhoenjoagbaaGreatDoor.FlagsW
open Go.RowKit
open FlagsM
set_option linter.unusedVariables false
attribute [local irreducible] BRow

theorem wp_append_s {ops : Array Oper} {rest : List Oper} {o : Oper} {a : Act} {Q : Exit → Act → World → Prop} (hgd : o.guard = none) (s x : Operand)
    (ho : o.op = .call { callee := .builtin .append, args := #[s, x], argTypes := #[49, 9] })
    (B : Nat) (v : Value) (l : List UInt8) (w : World) (S : ByteArray)
    (hs : a.eval s = v) (hrow : BRow B v l w) (hx : a.eval x = .string S) (hlen : l.length + S.size ≤ 1000000) (hB : B ≤ w.heap.size)
    (h : ∀ v' w', BRow B v' (l ++ S.data.toList) w' → Below B w w' → wpList Tryz.prog ops Q rest (a.put o.dst v') w') :
    wpList Tryz.prog ops Q (o :: rest) a w := by
  obtain ⟨i0, hi, hz0, hz1, hz2⟩ := info_parts (show (Tryz.prog.info? 5).map (fun i => (i.zero, i.size, i.bytes)) = some (some (.int .u8 0), 1, 1) by kernel_rfl)
  unfold BRow at hrow h
  refine Lib.wpList_append_own_string _ hgd s x 49 9 ho B 5 i0 Tryz.underlying49 Tryz.underlying9 hi hz0 hz1 hz2 _ _ _ hs hrow S hx (by unfold maxLen; omega) (by omega) hB ?_
  intro v' w' h1 h2 _
  refine h v' w' ?_ ?_
  · rw [Lib.byteCells_append, List.length_append, len_list]
    exact h1
  · exact (Below.refl B w).grown h2 hB (fun k hk => (World.ownsRow.lt hrow k hk).1)

theorem bit_no (n i : Nat) (hn : n < 9223372036854775808) : (bits .and .i64 ((n : Int) / 2 ^ i) 1 == 0) = !isBit n i := by
  have e : ((n : Int) / 2 ^ i) = ((n / 2 ^ i : Nat) : Int) := by simp
  have hlt : n / 2 ^ i < 9223372036854775808 := Nat.lt_of_le_of_lt (Nat.div_le_self _ _) hn
  unfold isBit
  rw [e, show (1 : Int) = ((1 : Nat) : Int) from rfl, and_i64 _ 1 hlt (by omega), Nat.and_one_is_mod]
  by_cases h : n / 2 ^ i % 2 = 1
  · rw [h, decide_eq_true rfl]; rfl
  · rw [decide_eq_false h]; rw [Bool.not_false, beq_iff_eq]; omega
theorem up_hit {n i : Nat} (h : isBit n i = true) : upTo n (i + 1) = addN (upTo n i) i := by
  show (if isBit n i then _ else _) = _
  rw [if_pos h]
theorem up_miss {n i : Nat} (h : isBit n i = false) : upTo n (i + 1) = upTo n i := by
  show (if isBit n i then _ else _) = _
  rw [h]; rfl
set_option maxHeartbeats 3200000 in
set_option maxRecDepth 100000 in
theorem text_any (n : Int) (w : World) (hA : Amb w) :
    Calls Tryz.prog 69 #[.int .i64 n] w fun e w' => e = .returned (.string (strOf (textI n))) ∧ Below w.heap.size w w' := by
  by_cases hn : 0 ≤ n ∧ n ≤ 15
  · have HT := Lib.hid (show textI n = textL n.toNat from if_pos hn)
    have hm := Lib.hid (may_any n)
    rw [show mayI n = true by unfold mayI; rw [decide_eq_true hn.1, decide_eq_true hn.2]; rfl] at hm
    obtain ⟨k, rfl⟩ : ∃ k : Nat, n = (k : Int) := ⟨n.toNat, by omega⟩
    rw [Int.toNat_natCast] at HT
    have hk : k < 16 := by omega
    obtain ⟨N0, N1, N2, N3, ⟨c0, c1, c2, c3⟩, HN⟩ := hA.named
    have hx : ∀ i, i < 4 → ∃ X : ByteArray, Hid (X = strOf (nm i)) ∧ X.size ≤ 6 ∧ ∀ W, (Instr.index 149 (.agg #[.string N0, .string N1, .string N2, .string N3]) (.int .i64 (i : Int))).run Tryz.prog W = .ok (.string X) W := by
      intro i hi
      obtain rfl | rfl | rfl | rfl : i = 0 ∨ i = 1 ∨ i = 2 ∨ i = 3 := by omega
      · exact ⟨N0, Lib.hid HN.out.1, by rw [HN.out.1]; decide, fun W => by kernel_rfl⟩
      · exact ⟨N1, Lib.hid HN.out.2.1, by rw [HN.out.2.1]; decide, fun W => by kernel_rfl⟩
      · exact ⟨N2, Lib.hid HN.out.2.2.1, by rw [HN.out.2.2.1]; decide, fun W => by kernel_rfl⟩
      · exact ⟨N3, Lib.hid HN.out.2.2.2, by rw [HN.out.2.2.2]; decide, fun W => by kernel_rfl⟩
    have Hx := Lib.hid hx
    have Hb := Lib.hid (fun i => bit_no k i (by omega))
    have HU := Lib.hid (fun i (hi : i ≤ 4) => up_len (n := k) (i := i) hk hi)
    obtain ⟨C1, hC1⟩ : ∃ O : ByteArray, (⟨#[44]⟩ : ByteArray) = O := ⟨_, rfl⟩
    have HC := Lib.hid (show C1.data.toList = [44] ∧ C1.size = 1 by rw [← hC1]; exact ⟨rfl, rfl⟩)
    clear hx hn hA HN
    go_enter Tryz.func69, Tryz.ntmps69
    simp only [hC1]
    clear hC1
    go_wp2_with fail
    refine (hm.out _).mono ?_
    rintro e w ⟨rfl, rfl⟩
    go_wp2_with fail
    go_loopw [3, 10] (fun lv iv wr => ∃ i : Nat, iv = .int .i64 (i : Int) ∧ i ≤ 4 ∧ BRow w.heap.size lv (upTo k i) wr ∧ Below w.heap.size w wr) (fun _ iv _ => 4 - (intOf iv).toNat)
    case atStart => exact ⟨0, rfl, by omega, BRow.nil _ _, Below.refl _ _⟩
    case round =>
      obtain ⟨i, rfl, hi, hR, hbl⟩ := hrel
      rename World => wr
      have hsz := hbl.size
      by_cases hlt : i < 4
      · have hlt' : decide ((i : Int) < 4) = true := decide_eq_true (by omega)
        have hlt2 : decide (i < 4) = true := decide_eq_true hlt
        obtain ⟨X, HX, hX6, hidx⟩ := Hx.out i hlt
        have hul := HU.out i hi
        have hb := Hb.out i
        rcases hbit : isBit k i with _ | _
        · rw [hbit] at hb
          rw [← up_miss hbit] at hR
          clear hbit
          simp only [Bool.not_false] at hb
          go_wp2_with fail
          go_roundw
          case rel => exact ⟨i + 1, rfl, by omega, hR, hbl⟩
          case measure => simp only [intOf]; omega
        · rw [hbit] at hb
          have HE := Lib.hid (up_hit hbit)
          clear hbit
          simp only [Bool.not_true] at hb
          obtain ⟨p, cap, rfl⟩ := hR.shape
          obtain ⟨L, hL⟩ : ∃ L, upTo k i = L := ⟨_, rfl⟩
          rw [hL] at HE hR hul ⊢
          clear hL
          by_cases hl0 : L = []
          · have d0 : decide (0 < (L.length : Int)) = false := decide_eq_false (by rw [hl0]; decide)
            have d1 : decide (0 < L.length) = false := decide_eq_false (by rw [hl0]; decide)
            have HE2 : Hid (upTo k (i + 1) = L ++ X.data.toList) := Lib.hid (by rw [HE.out, HX.out, strOf_list, hl0]; rfl)
            clear HE hl0
            go_wp2_with (at_builtin; refine wp_append_s rfl _ _ rfl w.heap.size _ L wr X rfl (by exact hR) rfl (by omega) hsz ?_)
            intro v' w' hR' hb'
            rw [← HE2.out] at hR'
            have hbl' := hbl.trans hb'
            clear hR hbl hb'
            go_wp2_with fail
            go_roundw
            case rel => exact ⟨i + 1, rfl, by omega, hR', hbl'⟩
            case measure => simp only [intOf]; omega
          · have hpos : 0 < L.length := List.length_pos_iff.2 hl0
            have d0 : decide (0 < (L.length : Int)) = true := decide_eq_true (by omega)
            have d1 : decide (0 < L.length) = true := decide_eq_true hpos
            have HE2 : Hid (upTo k (i + 1) = (L ++ C1.data.toList) ++ X.data.toList) := Lib.hid (by rw [HE.out, HX.out, HC.out.1, strOf_list]; unfold addN; rw [if_neg hl0]; simp)
            have hc1 := HC.out.2
            clear HE hl0
            go_wp2_with (at_builtin; refine wp_append_s rfl _ _ rfl w.heap.size _ L wr C1 rfl (by exact hR) rfl (by omega) hsz ?_)
            intro v1 w1 hR1 hb1
            have hbl1 := hbl.trans hb1
            have hsz1 := hbl1.size
            have hl1 : (L ++ C1.data.toList).length + X.size ≤ 1000000 := by rw [List.length_append, len_list]; omega
            clear hR hbl hb1 hc1
            go_wp2_with (at_builtin; refine wp_append_s rfl _ _ rfl w.heap.size _ (L ++ C1.data.toList) w1 X rfl (by exact hR1) rfl hl1 hsz1 ?_)
            intro v' w' hR' hb'
            rw [← List.append_assoc, ← HE2.out] at hR'
            have hbl' := hbl1.trans hb'
            clear hR1 hbl1 hb'
            go_wp2_with fail
            go_roundw
            case rel => exact ⟨i + 1, rfl, by omega, hR', hbl'⟩
            case measure => simp only [intOf]; omega
      · obtain rfl : i = 4 := by omega
        have hstr := hR.str
        have HE := Lib.hid (show textL k = upTo k 4 from rfl)
        obtain ⟨p, cap, rfl⟩ := hR.shape
        generalize upTo k 4 = L at *
        clear hR Hx Hb HU hi hlt
        go_wp2_with fail
        go_ret
        exact ⟨ret_str (by rw [HT.out, HE.out]; rfl), hbl⟩
  · have HT := Lib.hid (show textI n = [] from if_neg hn)
    have hm := Lib.hid (may_any n)
    rw [show mayI n = false by unfold mayI; rw [Bool.and_eq_false_iff, decide_eq_false_iff_not, decide_eq_false_iff_not]; omega] at hm
    clear hn
    go_enter Tryz.func69, Tryz.ntmps69
    go_wp2_with fail
    refine (hm.out _).mono ?_
    rintro e w ⟨rfl, rfl⟩
    go_wp2_with fail
    go_ret
    exact ⟨ret_str (by rw [HT.out]; rfl), Below.refl _ _⟩
end Go.Proofs.YtbhnhoenjoagbaaGreatDoor.FlagsW

/- A file's capabilities as the document has them, in plain Lean: which may be, their bytes, what any bytes say. -/
namespace Go.Proofs.YtbhnhoenjoagbaaGreatDoor.CapsM
set_option linter.unusedVariables false

structure Cap where
  v : Int
  p : Nat
  i : Nat
  e : Bool
  r : Int

def Fits (c : Cap) : Prop := c.p < 18446744073709551616 ∧ c.i < 18446744073709551616
def none0 : Cap := ⟨0, 0, 0, false, 0⟩
def may (c : Cap) : Bool :=
  if c.v = 0 then decide (c.p = 0 ∧ c.i = 0 ∧ c.e = false ∧ c.r = 0)
  else if c.v = 2 then decide (c.r = 0)
  else if c.v = 3 then decide (0 ≤ c.r ∧ c.r ≤ 2147483647) else false
def four (n : Nat) : List UInt8 := [UInt8.ofNat n, UInt8.ofNat (n / 256), UInt8.ofNat (n / 65536), UInt8.ofNat (n / 16777216)]
def first (c : Cap) : Nat := c.v.toNat * 16777216 + if c.e then 1 else 0
def nums (c : Cap) : List Nat := first c :: c.p % 4294967296 :: c.i % 4294967296 :: c.p / 4294967296 :: c.i / 4294967296 :: if c.v = 3 then [c.r.toNat] else []
def bytesOf (l : List Nat) : List UInt8 := l.flatMap four
def putL (c : Cap) : List UInt8 := if may c = true ∧ c.v ≠ 0 then bytesOf (nums c) else []
def le4 : List UInt8 → Nat
  | a :: b :: c :: d :: _ => a.toNat + b.toNat * 256 + c.toNat * 65536 + d.toNat * 16777216
  | _ => 0
def guess (l : List UInt8) (r : Nat) : Cap :=
  ⟨(le4 l / 16777216 : Nat), le4 (l.drop 4) + le4 (l.drop 12) * 4294967296, le4 (l.drop 8) + le4 (l.drop 16) * 4294967296, decide (le4 l % 2 = 1), (r : Nat)⟩
open Classical in
noncomputable def getL (l : List UInt8) : Option Cap :=
  if l = [] then some none0 else if putL (guess l (le4 (l.drop 20))) = l then some (guess l (le4 (l.drop 20))) else none

theorem four_length (n : Nat) : (four n).length = 4 := rfl
theorem bytesOf_length (l : List Nat) : (bytesOf l).length = 4 * l.length := by
  induction l with
  | nil => rfl
  | cons a l ih => simp only [bytesOf, List.flatMap_cons, List.length_append, four_length, List.length_cons] at ih ⊢; omega
theorem nums_length (c : Cap) : (nums c).length = if c.v = 3 then 6 else 5 := by
  unfold nums; split <;> rfl
theorem may_ver {c : Cap} (h : may c = true) : c.v = 0 ∨ c.v = 2 ∨ c.v = 3 := by
  unfold may at h
  split at h
  · exact .inl ‹_›
  · split at h
    · exact .inr (.inl ‹_›)
    · split at h
      · exact .inr (.inr ‹_›)
      · cases h
theorem may_root {c : Cap} (h : may c = true) : 0 ≤ c.r ∧ c.r ≤ 2147483647 ∧ (c.v = 2 → c.r = 0) := by
  unfold may at h
  split at h
  · have := of_decide_eq_true h
    omega
  · split at h
    · have := of_decide_eq_true h
      omega
    · split at h
      · have := of_decide_eq_true h
        omega
      · cases h
theorem putL_length {c : Cap} (h : may c = true) (hv : c.v ≠ 0) : (putL c).length = if c.v = 3 then 24 else 20 := by
  unfold putL
  rw [if_pos ⟨h, hv⟩, bytesOf_length, nums_length]
  split <;> rfl
theorem putL_none {c : Cap} (h : ¬ (may c = true ∧ c.v ≠ 0)) : putL c = [] := by unfold putL; rw [if_neg h]
theorem putL_size (c : Cap) : (putL c).length ≤ 24 := by
  by_cases hc : may c = true ∧ c.v ≠ 0
  · rw [putL_length hc.1 hc.2]; split <;> omega
  · rw [putL_none hc]; simp

theorem first_lt {c : Cap} (h : c.v = 2 ∨ c.v = 3) : first c < 4294967296 := by
  unfold first
  split <;> omega
def gval (l : List UInt8) : Cap := guess l (if le4 l / 16777216 = 3 then le4 (l.drop 20) else 0)
end Go.Proofs.YtbhnhoenjoagbaaGreatDoor.CapsM

/- Walks over package caps, and the document's answer: which capabilities may be. -/
namespace Go.Proofs.YtbhnhoenjoagbaaGreatDoor.CapsW
open Go.RowKit
open CapsM
set_option linter.unusedVariables false

def capV (c : Cap) : Value := .agg #[.int .i64 c.v, .int .u64 (c.p : Int), .int .u64 (c.i : Int), .bool c.e, .int .i64 c.r]

set_option maxHeartbeats 800000 in
theorem May_any (c : Cap) (w : World) :
    Calls Tryz.prog 141 #[capV c] w fun e w' => e = .returned (.bool (may c)) ∧ Below w.heap.size w w' := by
  obtain ⟨v, p, i, e, r⟩ := c
  unfold capV
  simp only
  by_cases h0 : v = 0
  · subst h0
    have HE := Lib.hid (show may ⟨0, p, i, e, r⟩ = decide (p = 0 ∧ i = 0 ∧ e = false ∧ r = 0) from rfl)
    go_enter Tryz.func141, Tryz.ntmps141
    go_wp2_with fail
    all_goals go_ret
    all_goals refine ⟨?_, by (repeat' (first | exact Below.refl _ _ | assumption | refine gr_drew ?_ | refine gr_drewN ?_ _ | refine gr_alloc ?_ _ | refine gr_set ?_ ?_ _ | refine gr_call ?_ (by assumption)) <;> (try (simp; done)) <;> (try (simp; omega)) <;> (try omega))⟩
    all_goals rw [HE.out]
    all_goals show Ending.returned (.bool _) = _
    all_goals simp [*]
  have t0 : (v == 0) = false := by simpa using h0
  by_cases h2 : v = 2
  · subst h2
    have HE := Lib.hid (show may ⟨2, p, i, e, r⟩ = decide (r = 0) from rfl)
    clear t0 h0
    by_cases hr : r = 0
    · have t1 : (r == 0) = true := by simpa using hr
      have HF := Lib.hid (HE.out.trans (decide_eq_true hr))
      clear HE hr
      go_enter Tryz.func141, Tryz.ntmps141
      go_wp2_with fail
      go_ret
      exact ⟨by rw [HF.out]; rfl, by (repeat' (first | exact Below.refl _ _ | assumption | refine gr_drew ?_ | refine gr_drewN ?_ _ | refine gr_alloc ?_ _ | refine gr_set ?_ ?_ _ | refine gr_call ?_ (by assumption)) <;> (try (simp; done)) <;> (try (simp; omega)) <;> (try omega))⟩
    · have t1 : (r == 0) = false := by simpa using hr
      have HF := Lib.hid (HE.out.trans (decide_eq_false hr))
      clear HE hr
      go_enter Tryz.func141, Tryz.ntmps141
      go_wp2_with fail
      go_ret
      exact ⟨by rw [HF.out]; rfl, by (repeat' (first | exact Below.refl _ _ | assumption | refine gr_drew ?_ | refine gr_drewN ?_ _ | refine gr_alloc ?_ _ | refine gr_set ?_ ?_ _ | refine gr_call ?_ (by assumption)) <;> (try (simp; done)) <;> (try (simp; omega)) <;> (try omega))⟩
  have t2 : (v == 2) = false := by simpa using h2
  by_cases h3 : v = 3
  · subst h3
    have HE := Lib.hid (show may ⟨3, p, i, e, r⟩ = decide (0 ≤ r ∧ r ≤ 2147483647) from rfl)
    clear t0 t2 h0 h2
    by_cases hr : 0 ≤ r
    · by_cases hs : r ≤ 2147483647
      · have t1 : decide (0 ≤ r) = true := decide_eq_true hr
        have t3 : decide (r ≤ 2147483647) = true := decide_eq_true hs
        have HF := Lib.hid (HE.out.trans (decide_eq_true ⟨hr, hs⟩))
        clear HE
        go_enter Tryz.func141, Tryz.ntmps141
        go_wp2_with fail
        go_ret
        exact ⟨by rw [HF.out]; rfl, by (repeat' (first | exact Below.refl _ _ | assumption | refine gr_drew ?_ | refine gr_drewN ?_ _ | refine gr_alloc ?_ _ | refine gr_set ?_ ?_ _ | refine gr_call ?_ (by assumption)) <;> (try (simp; done)) <;> (try (simp; omega)) <;> (try omega))⟩
      · have t1 : decide (0 ≤ r) = true := decide_eq_true hr
        have t3 : decide (r ≤ 2147483647) = false := decide_eq_false hs
        have HF := Lib.hid (HE.out.trans (decide_eq_false (fun h => hs h.2)))
        clear HE
        go_enter Tryz.func141, Tryz.ntmps141
        go_wp2_with fail
        go_ret
        exact ⟨by rw [HF.out]; rfl, by (repeat' (first | exact Below.refl _ _ | assumption | refine gr_drew ?_ | refine gr_drewN ?_ _ | refine gr_alloc ?_ _ | refine gr_set ?_ ?_ _ | refine gr_call ?_ (by assumption)) <;> (try (simp; done)) <;> (try (simp; omega)) <;> (try omega))⟩
    · have t1 : decide (0 ≤ r) = false := decide_eq_false hr
      have HF := Lib.hid (HE.out.trans (decide_eq_false (fun h => hr h.1)))
      clear HE
      go_enter Tryz.func141, Tryz.ntmps141
      go_wp2_with fail
      go_ret
      exact ⟨by rw [HF.out]; rfl, by (repeat' (first | exact Below.refl _ _ | assumption | refine gr_drew ?_ | refine gr_drewN ?_ _ | refine gr_alloc ?_ _ | refine gr_set ?_ ?_ _ | refine gr_call ?_ (by assumption)) <;> (try (simp; done)) <;> (try (simp; omega)) <;> (try omega))⟩
  have t3 : (v == 3) = false := by simpa using h3
  have HF := Lib.hid (show may ⟨v, p, i, e, r⟩ = false by unfold may; simp only; rw [if_neg h0, if_neg h2, if_neg h3])
  clear h0 h2 h3
  go_enter Tryz.func141, Tryz.ntmps141
  go_wp2_with fail
  go_ret
  exact ⟨by rw [HF.out]; rfl, by (repeat' (first | exact Below.refl _ _ | assumption | refine gr_drew ?_ | refine gr_drewN ?_ _ | refine gr_alloc ?_ _ | refine gr_set ?_ ?_ _ | refine gr_call ?_ (by assumption)) <;> (try (simp; done)) <;> (try (simp; omega)) <;> (try omega))⟩
set_option maxHeartbeats 800000 in
theorem refMay_any (c : Cap) (w : World) :
    Calls Tryz.prog 126 #[capV c] w fun e w' => e = .returned (.bool (may c)) ∧ Below w.heap.size w w' := by
  obtain ⟨v, p, i, e, r⟩ := c
  unfold capV
  simp only
  by_cases h0 : v = 0
  · subst h0
    have HE := Lib.hid (show may ⟨0, p, i, e, r⟩ = decide (p = 0 ∧ i = 0 ∧ e = false ∧ r = 0) from rfl)
    go_enter Tryz.func126, Tryz.ntmps126
    go_wp2_with fail
    all_goals go_ret
    all_goals refine ⟨?_, by (repeat' (first | exact Below.refl _ _ | assumption | refine gr_drew ?_ | refine gr_drewN ?_ _ | refine gr_alloc ?_ _ | refine gr_set ?_ ?_ _ | refine gr_call ?_ (by assumption)) <;> (try (simp; done)) <;> (try (simp; omega)) <;> (try omega))⟩
    all_goals rw [HE.out]
    all_goals show Ending.returned (.bool _) = _
    all_goals simp [*]
  have t0 : (v == 0) = false := by simpa using h0
  by_cases h2 : v = 2
  · subst h2
    have HE := Lib.hid (show may ⟨2, p, i, e, r⟩ = decide (r = 0) from rfl)
    clear t0 h0
    by_cases hr : r = 0
    · have t1 : (r == 0) = true := by simpa using hr
      have HF := Lib.hid (HE.out.trans (decide_eq_true hr))
      clear HE hr
      go_enter Tryz.func126, Tryz.ntmps126
      go_wp2_with fail
      go_ret
      exact ⟨by rw [HF.out]; rfl, by (repeat' (first | exact Below.refl _ _ | assumption | refine gr_drew ?_ | refine gr_drewN ?_ _ | refine gr_alloc ?_ _ | refine gr_set ?_ ?_ _ | refine gr_call ?_ (by assumption)) <;> (try (simp; done)) <;> (try (simp; omega)) <;> (try omega))⟩
    · have t1 : (r == 0) = false := by simpa using hr
      have HF := Lib.hid (HE.out.trans (decide_eq_false hr))
      clear HE hr
      go_enter Tryz.func126, Tryz.ntmps126
      go_wp2_with fail
      go_ret
      exact ⟨by rw [HF.out]; rfl, by (repeat' (first | exact Below.refl _ _ | assumption | refine gr_drew ?_ | refine gr_drewN ?_ _ | refine gr_alloc ?_ _ | refine gr_set ?_ ?_ _ | refine gr_call ?_ (by assumption)) <;> (try (simp; done)) <;> (try (simp; omega)) <;> (try omega))⟩
  have t2 : (v == 2) = false := by simpa using h2
  by_cases h3 : v = 3
  · subst h3
    have HE := Lib.hid (show may ⟨3, p, i, e, r⟩ = decide (0 ≤ r ∧ r ≤ 2147483647) from rfl)
    clear t0 t2 h0 h2
    by_cases hr : 0 ≤ r
    · by_cases hs : r ≤ 2147483647
      · have t1 : decide (0 ≤ r) = true := decide_eq_true hr
        have t3 : decide (r ≤ 2147483647) = true := decide_eq_true hs
        have HF := Lib.hid (HE.out.trans (decide_eq_true ⟨hr, hs⟩))
        clear HE
        go_enter Tryz.func126, Tryz.ntmps126
        go_wp2_with fail
        go_ret
        exact ⟨by rw [HF.out]; rfl, by (repeat' (first | exact Below.refl _ _ | assumption | refine gr_drew ?_ | refine gr_drewN ?_ _ | refine gr_alloc ?_ _ | refine gr_set ?_ ?_ _ | refine gr_call ?_ (by assumption)) <;> (try (simp; done)) <;> (try (simp; omega)) <;> (try omega))⟩
      · have t1 : decide (0 ≤ r) = true := decide_eq_true hr
        have t3 : decide (r ≤ 2147483647) = false := decide_eq_false hs
        have HF := Lib.hid (HE.out.trans (decide_eq_false (fun h => hs h.2)))
        clear HE
        go_enter Tryz.func126, Tryz.ntmps126
        go_wp2_with fail
        go_ret
        exact ⟨by rw [HF.out]; rfl, by (repeat' (first | exact Below.refl _ _ | assumption | refine gr_drew ?_ | refine gr_drewN ?_ _ | refine gr_alloc ?_ _ | refine gr_set ?_ ?_ _ | refine gr_call ?_ (by assumption)) <;> (try (simp; done)) <;> (try (simp; omega)) <;> (try omega))⟩
    · have t1 : decide (0 ≤ r) = false := decide_eq_false hr
      have HF := Lib.hid (HE.out.trans (decide_eq_false (fun h => hr h.1)))
      clear HE
      go_enter Tryz.func126, Tryz.ntmps126
      go_wp2_with fail
      go_ret
      exact ⟨by rw [HF.out]; rfl, by (repeat' (first | exact Below.refl _ _ | assumption | refine gr_drew ?_ | refine gr_drewN ?_ _ | refine gr_alloc ?_ _ | refine gr_set ?_ ?_ _ | refine gr_call ?_ (by assumption)) <;> (try (simp; done)) <;> (try (simp; omega)) <;> (try omega))⟩
  have t3 : (v == 3) = false := by simpa using h3
  have HF := Lib.hid (show may ⟨v, p, i, e, r⟩ = false by unfold may; simp only; rw [if_neg h0, if_neg h2, if_neg h3])
  clear h0 h2 h3
  go_enter Tryz.func126, Tryz.ntmps126
  go_wp2_with fail
  go_ret
  exact ⟨by rw [HF.out]; rfl, by (repeat' (first | exact Below.refl _ _ | assumption | refine gr_drew ?_ | refine gr_drewN ?_ _ | refine gr_alloc ?_ _ | refine gr_set ?_ ?_ _ | refine gr_call ?_ (by assumption)) <;> (try (simp; done)) <;> (try (simp; omega)) <;> (try omega))⟩
end Go.Proofs.YtbhnhoenjoagbaaGreatDoor.CapsW
