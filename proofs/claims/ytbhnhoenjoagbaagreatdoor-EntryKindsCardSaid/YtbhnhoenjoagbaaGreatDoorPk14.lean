/- Bundle of 5 texts. -/
import Derived.Test.YtbhnhoenjoagbaaGreatDoorPk13
import Derived.Test.YtbhnhoenjoagbaaGreatDoorChecked
import Derived.Deep.QuietTactic
import Derived.BigQuiet
import Derived.Outline
import Derived.Recover
import Derived.Test.YtbhnhoenjoagbaaGreatDoorPk04
import Derived.Lib.AppendStr
import Derived.Test.YtbhnhoenjoagbaaGreatDoorKit
import Derived.Test.YtbhnhoenjoagbaaGreatDoorPk10
/- Walks over package flags: May, bitOf. -/
namespace Go.Proofs.YtbhnhoenjoagbaaGreatDoor.FlagsW
open Go.RowKit
open FlagsM
set_option linter.unusedVariables false

def noFlags : List PanicEntry := [{ v := .iface 233 (.agg #[]), recovered := false }]
def natEnd (o : Option Nat) (e : Ending) : Prop := match o with
  | some n => e = .returned (.int .i64 (n : Int))
  | none => e = .panicked noFlags

theorem may_any (n : Int) (w : World) : Calls Tryz.prog 138 #[.int .i64 n] w fun e w' => e = .returned (.bool (mayI n)) ∧ w' = w := by
  have Hd := Lib.hid (show mayI n = (decide (0 ≤ n) && decide (n ≤ 15)) from rfl)
  by_cases h1 : 0 ≤ n
  · go_enter Tryz.func138, Tryz.ntmps138
    go_wp2_with fail
    go_ret
    exact ⟨ret_bool (by rw [Hd.out, decide_eq_true h1]; rfl), rfl⟩
  · go_enter Tryz.func138, Tryz.ntmps138
    go_wp2_with fail
    go_ret
    exact ⟨ret_bool (by rw [Hd.out, decide_eq_false (by omega)]; rfl), rfl⟩
theorem Amb.named {w : World} (h : Amb w) : ∃ N0 N1 N2 N3 : ByteArray, (w.cell? ⟨0, 0, none⟩ = some (.string N0) ∧ w.cell? ⟨0, 1, none⟩ = some (.string N1) ∧
    w.cell? ⟨0, 2, none⟩ = some (.string N2) ∧ w.cell? ⟨0, 3, none⟩ = some (.string N3)) ∧ Hid (N0 = strOf (nm 0) ∧ N1 = strOf (nm 1) ∧ N2 = strOf (nm 2) ∧ N3 = strOf (nm 3)) :=
  ⟨_, _, _, _, h.cells, Lib.hid ⟨rfl, rfl, rfl, rfl⟩⟩
end Go.Proofs.YtbhnhoenjoagbaaGreatDoor.FlagsW

/- Walks over package flags: Text. -/
namespace Go.Proofs.YtbhnhoenjoagbaaGreatDoor.FlagsW
open Go.RowKit
open FlagsM
set_option linter.unusedVariables false
attribute [local irreducible] BRow

theorem wp_append_s {ops : Array Oper} {rest : List Oper} {o : Oper} {a : Act} {Q : Exit → Act → World → Prop} (hgd : o.guard = none) (s x : Operand)
    (ho : o.op = .call { callee := .builtin .append, args := #[s, x], argTypes := #[49, 9] })
    (B : Nat) (v : Value) (l : List UInt8) (w : World) (S : ByteArray)
    (hs : a.eval s = v) (hrow : BRow B v l w) (hx : a.eval x = .string S) (hlen : l.length + S.size ≤ 1000000) (hB : B ≤ w.heap.size)
    (h : ∀ v' w', BRow B v' (l ++ S.data.toList) w' → Below B w w' → wpList Tryz.prog ops Q rest (a.put o.dst v') w') :
    wpList Tryz.prog ops Q (o :: rest) a w := by
  obtain ⟨i0, hi, hz0, hz1, hz2⟩ := info_parts (show (Tryz.prog.info? 5).map (fun i => (i.zero, i.size, i.bytes)) = some (some (.int .u8 0), 1, 1) by kernel_rfl)
  unfold BRow at hrow h
  refine Lib.wpList_append_own_string _ hgd s x 49 9 ho B 5 i0 Tryz.underlying49 Tryz.underlying9 hi hz0 hz1 hz2 _ _ _ hs hrow S hx (by unfold maxLen; omega) (by omega) hB ?_
  intro v' w' h1 h2 _
  refine h v' w' ?_ ?_
  · rw [Lib.byteCells_append, List.length_append, len_list]
    exact h1
  · exact (Below.refl B w).grown h2 hB (fun k hk => (World.ownsRow.lt hrow k hk).1)

theorem bit_no (n i : Nat) (hn : n < 9223372036854775808) : (bits .and .i64 ((n : Int) / 2 ^ i) 1 == 0) = !isBit n i := by
  have e : ((n : Int) / 2 ^ i) = ((n / 2 ^ i : Nat) : Int) := by simp
  have hlt : n / 2 ^ i < 9223372036854775808 := Nat.lt_of_le_of_lt (Nat.div_le_self _ _) hn
  unfold isBit
  rw [e, show (1 : Int) = ((1 : Nat) : Int) from rfl, and_i64 _ 1 hlt (by omega), Nat.and_one_is_mod]
  by_cases h : n / 2 ^ i % 2 = 1
  · rw [h, decide_eq_true rfl]; rfl
  · rw [decide_eq_false h]; rw [Bool.not_false, beq_iff_eq]; omega
theorem up_hit {n i : Nat} (h : isBit n i = true) : upTo n (i + 1) = addN (upTo n i) i := by
  show (if isBit n i then _ else _) = _
  rw [if_pos h]
theorem up_miss {n i : Nat} (h : isBit n i = false) : upTo n (i + 1) = upTo n i := by
  show (if isBit n i then _ else _) = _
  rw [h]; rfl
set_option maxHeartbeats 3200000 in
set_option maxRecDepth 100000 in
theorem text_any (n : Int) (w : World) (hA : Amb w) :
    Calls Tryz.prog 69 #[.int .i64 n] w fun e w' => e = .returned (.string (strOf (textI n))) ∧ Below w.heap.size w w' := by
  by_cases hn : 0 ≤ n ∧ n ≤ 15
  · have HT := Lib.hid (show textI n = textL n.toNat from if_pos hn)
    have hm := Lib.hid (may_any n)
    rw [show mayI n = true by unfold mayI; rw [decide_eq_true hn.1, decide_eq_true hn.2]; rfl] at hm
    obtain ⟨k, rfl⟩ : ∃ k : Nat, n = (k : Int) := ⟨n.toNat, by omega⟩
    rw [Int.toNat_natCast] at HT
    have hk : k < 16 := by omega
    obtain ⟨N0, N1, N2, N3, ⟨c0, c1, c2, c3⟩, HN⟩ := hA.named
    have hx : ∀ i, i < 4 → ∃ X : ByteArray, Hid (X = strOf (nm i)) ∧ X.size ≤ 6 ∧ ∀ W, (Instr.index 149 (.agg #[.string N0, .string N1, .string N2, .string N3]) (.int .i64 (i : Int))).run Tryz.prog W = .ok (.string X) W := by
      intro i hi
      obtain rfl | rfl | rfl | rfl : i = 0 ∨ i = 1 ∨ i = 2 ∨ i = 3 := by omega
      · exact ⟨N0, Lib.hid HN.out.1, by rw [HN.out.1]; decide, fun W => by kernel_rfl⟩
      · exact ⟨N1, Lib.hid HN.out.2.1, by rw [HN.out.2.1]; decide, fun W => by kernel_rfl⟩
      · exact ⟨N2, Lib.hid HN.out.2.2.1, by rw [HN.out.2.2.1]; decide, fun W => by kernel_rfl⟩
      · exact ⟨N3, Lib.hid HN.out.2.2.2, by rw [HN.out.2.2.2]; decide, fun W => by kernel_rfl⟩
    have Hx := Lib.hid hx
    have Hb := Lib.hid (fun i => bit_no k i (by omega))
    have HU := Lib.hid (fun i (hi : i ≤ 4) => up_len (n := k) (i := i) hk hi)
    obtain ⟨C1, hC1⟩ : ∃ O : ByteArray, (⟨#[44]⟩ : ByteArray) = O := ⟨_, rfl⟩
    have HC := Lib.hid (show C1.data.toList = [44] ∧ C1.size = 1 by rw [← hC1]; exact ⟨rfl, rfl⟩)
    clear hx hn hA HN
    go_enter Tryz.func69, Tryz.ntmps69
    simp only [hC1]
    clear hC1
    go_wp2_with fail
    refine (hm.out _).mono ?_
    rintro e w ⟨rfl, rfl⟩
    go_wp2_with fail
    go_loopw [3, 10] (fun lv iv wr => ∃ i : Nat, iv = .int .i64 (i : Int) ∧ i ≤ 4 ∧ BRow w.heap.size lv (upTo k i) wr ∧ Below w.heap.size w wr) (fun _ iv _ => 4 - (intOf iv).toNat)
    case atStart => exact ⟨0, rfl, by omega, BRow.nil _ _, Below.refl _ _⟩
    case round =>
      obtain ⟨i, rfl, hi, hR, hbl⟩ := hrel
      rename World => wr
      have hsz := hbl.size
      by_cases hlt : i < 4
      · have hlt' : decide ((i : Int) < 4) = true := decide_eq_true (by omega)
        have hlt2 : decide (i < 4) = true := decide_eq_true hlt
        obtain ⟨X, HX, hX6, hidx⟩ := Hx.out i hlt
        have hul := HU.out i hi
        have hb := Hb.out i
        rcases hbit : isBit k i with _ | _
        · rw [hbit] at hb
          rw [← up_miss hbit] at hR
          clear hbit
          simp only [Bool.not_false] at hb
          go_wp2_with fail
          go_roundw
          case rel => exact ⟨i + 1, rfl, by omega, hR, hbl⟩
          case measure => simp only [intOf]; omega
        · rw [hbit] at hb
          have HE := Lib.hid (up_hit hbit)
          clear hbit
          simp only [Bool.not_true] at hb
          obtain ⟨p, cap, rfl⟩ := hR.shape
          obtain ⟨L, hL⟩ : ∃ L, upTo k i = L := ⟨_, rfl⟩
          rw [hL] at HE hR hul ⊢
          clear hL
          by_cases hl0 : L = []
          · have d0 : decide (0 < (L.length : Int)) = false := decide_eq_false (by rw [hl0]; decide)
            have d1 : decide (0 < L.length) = false := decide_eq_false (by rw [hl0]; decide)
            have HE2 : Hid (upTo k (i + 1) = L ++ X.data.toList) := Lib.hid (by rw [HE.out, HX.out, strOf_list, hl0]; rfl)
            clear HE hl0
            go_wp2_with (at_builtin; refine wp_append_s rfl _ _ rfl w.heap.size _ L wr X rfl (by exact hR) rfl (by omega) hsz ?_)
            intro v' w' hR' hb'
            rw [← HE2.out] at hR'
            have hbl' := hbl.trans hb'
            clear hR hbl hb'
            go_wp2_with fail
            go_roundw
            case rel => exact ⟨i + 1, rfl, by omega, hR', hbl'⟩
            case measure => simp only [intOf]; omega
          · have hpos : 0 < L.length := List.length_pos_iff.2 hl0
            have d0 : decide (0 < (L.length : Int)) = true := decide_eq_true (by omega)
            have d1 : decide (0 < L.length) = true := decide_eq_true hpos
            have HE2 : Hid (upTo k (i + 1) = (L ++ C1.data.toList) ++ X.data.toList) := Lib.hid (by rw [HE.out, HX.out, HC.out.1, strOf_list]; unfold addN; rw [if_neg hl0]; simp)
            have hc1 := HC.out.2
            clear HE hl0
            go_wp2_with (at_builtin; refine wp_append_s rfl _ _ rfl w.heap.size _ L wr C1 rfl (by exact hR) rfl (by omega) hsz ?_)
            intro v1 w1 hR1 hb1
            have hbl1 := hbl.trans hb1
            have hsz1 := hbl1.size
            have hl1 : (L ++ C1.data.toList).length + X.size ≤ 1000000 := by rw [List.length_append, len_list]; omega
            clear hR hbl hb1 hc1
            go_wp2_with (at_builtin; refine wp_append_s rfl _ _ rfl w.heap.size _ (L ++ C1.data.toList) w1 X rfl (by exact hR1) rfl hl1 hsz1 ?_)
            intro v' w' hR' hb'
            rw [← List.append_assoc, ← HE2.out] at hR'
            have hbl' := hbl1.trans hb'
            clear hR1 hbl1 hb'
            go_wp2_with fail
            go_roundw
            case rel => exact ⟨i + 1, rfl, by omega, hR', hbl'⟩
            case measure => simp only [intOf]; omega
      · obtain rfl : i = 4 := by omega
        have hstr := hR.str
        have HE := Lib.hid (show textL k = upTo k 4 from rfl)
        obtain ⟨p, cap, rfl⟩ := hR.shape
        generalize upTo k 4 = L at *
        clear hR Hx Hb HU hi hlt
        go_wp2_with fail
        go_ret
        exact ⟨ret_str (by rw [HT.out, HE.out]; rfl), hbl⟩
  · have HT := Lib.hid (show textI n = [] from if_neg hn)
    have hm := Lib.hid (may_any n)
    rw [show mayI n = false by unfold mayI; rw [Bool.and_eq_false_iff, decide_eq_false_iff_not, decide_eq_false_iff_not]; omega] at hm
    clear hn
    go_enter Tryz.func69, Tryz.ntmps69
    go_wp2_with fail
    refine (hm.out _).mono ?_
    rintro e w ⟨rfl, rfl⟩
    go_wp2_with fail
    go_ret
    exact ⟨ret_str (by rw [HT.out]; rfl), Below.refl _ _⟩
end Go.Proofs.YtbhnhoenjoagbaaGreatDoor.FlagsW

/- A file's capabilities as the document has them, in plain Lean: which may be, their bytes, what any bytes say. -/
namespace Go.Proofs.YtbhnhoenjoagbaaGreatDoor.CapsM
set_option linter.unusedVariables false

structure Cap where
  v : Int
  p : Nat
  i : Nat
  e : Bool
  r : Int

def Fits (c : Cap) : Prop := c.p < 18446744073709551616 ∧ c.i < 18446744073709551616
def none0 : Cap := ⟨0, 0, 0, false, 0⟩
def may (c : Cap) : Bool :=
  if c.v = 0 then decide (c.p = 0 ∧ c.i = 0 ∧ c.e = false ∧ c.r = 0)
  else if c.v = 2 then decide (c.r = 0)
  else if c.v = 3 then decide (0 ≤ c.r ∧ c.r ≤ 2147483647) else false
def four (n : Nat) : List UInt8 := [UInt8.ofNat n, UInt8.ofNat (n / 256), UInt8.ofNat (n / 65536), UInt8.ofNat (n / 16777216)]
def first (c : Cap) : Nat := c.v.toNat * 16777216 + if c.e then 1 else 0
def nums (c : Cap) : List Nat := first c :: c.p % 4294967296 :: c.i % 4294967296 :: c.p / 4294967296 :: c.i / 4294967296 :: if c.v = 3 then [c.r.toNat] else []
def bytesOf (l : List Nat) : List UInt8 := l.flatMap four
def putL (c : Cap) : List UInt8 := if may c = true ∧ c.v ≠ 0 then bytesOf (nums c) else []
def le4 : List UInt8 → Nat
  | a :: b :: c :: d :: _ => a.toNat + b.toNat * 256 + c.toNat * 65536 + d.toNat * 16777216
  | _ => 0
def guess (l : List UInt8) (r : Nat) : Cap :=
  ⟨(le4 l / 16777216 : Nat), le4 (l.drop 4) + le4 (l.drop 12) * 4294967296, le4 (l.drop 8) + le4 (l.drop 16) * 4294967296, decide (le4 l % 2 = 1), (r : Nat)⟩
open Classical in
noncomputable def getL (l : List UInt8) : Option Cap :=
  if l = [] then some none0 else if putL (guess l (le4 (l.drop 20))) = l then some (guess l (le4 (l.drop 20))) else none

theorem four_length (n : Nat) : (four n).length = 4 := rfl
theorem bytesOf_length (l : List Nat) : (bytesOf l).length = 4 * l.length := by
  induction l with
  | nil => rfl
  | cons a l ih => simp only [bytesOf, List.flatMap_cons, List.length_append, four_length, List.length_cons] at ih ⊢; omega
theorem nums_length (c : Cap) : (nums c).length = if c.v = 3 then 6 else 5 := by
  unfold nums; split <;> rfl
theorem may_ver {c : Cap} (h : may c = true) : c.v = 0 ∨ c.v = 2 ∨ c.v = 3 := by
  unfold may at h
  split at h
  · exact .inl ‹_›
  · split at h
    · exact .inr (.inl ‹_›)
    · split at h
      · exact .inr (.inr ‹_›)
      · cases h
theorem may_root {c : Cap} (h : may c = true) : 0 ≤ c.r ∧ c.r ≤ 2147483647 ∧ (c.v = 2 → c.r = 0) := by
  unfold may at h
  split at h
  · have := of_decide_eq_true h
    omega
  · split at h
    · have := of_decide_eq_true h
      omega
    · split at h
      · have := of_decide_eq_true h
        omega
      · cases h
theorem putL_length {c : Cap} (h : may c = true) (hv : c.v ≠ 0) : (putL c).length = if c.v = 3 then 24 else 20 := by
  unfold putL
  rw [if_pos ⟨h, hv⟩, bytesOf_length, nums_length]
  split <;> rfl
theorem putL_none {c : Cap} (h : ¬ (may c = true ∧ c.v ≠ 0)) : putL c = [] := by unfold putL; rw [if_neg h]
theorem putL_size (c : Cap) : (putL c).length ≤ 24 := by
  by_cases hc : may c = true ∧ c.v ≠ 0
  · rw [putL_length hc.1 hc.2]; split <;> omega
  · rw [putL_none hc]; simp

theorem first_lt {c : Cap} (h : c.v = 2 ∨ c.v = 3) : first c < 4294967296 := by
  unfold first
  split <;> omega
def gval (l : List UInt8) : Cap := guess l (if le4 l / 16777216 = 3 then le4 (l.drop 20) else 0)
end Go.Proofs.YtbhnhoenjoagbaaGreatDoor.CapsM

/- Walks over package caps, and the document's answer: which capabilities may be. -/
namespace Go.Proofs.YtbhnhoenjoagbaaGreatDoor.CapsW
open Go.RowKit
open CapsM
set_option linter.unusedVariables false

def capV (c : Cap) : Value := .agg #[.int .i64 c.v, .int .u64 (c.p : Int), .int .u64 (c.i : Int), .bool c.e, .int .i64 c.r]

set_option maxHeartbeats 800000 in
theorem May_any (c : Cap) (w : World) :
    Calls Tryz.prog 141 #[capV c] w fun e w' => e = .returned (.bool (may c)) ∧ Below w.heap.size w w' := by
  obtain ⟨v, p, i, e, r⟩ := c
  unfold capV
  simp only
  by_cases h0 : v = 0
  · subst h0
    have HE := Lib.hid (show may ⟨0, p, i, e, r⟩ = decide (p = 0 ∧ i = 0 ∧ e = false ∧ r = 0) from rfl)
    go_enter Tryz.func141, Tryz.ntmps141
    go_wp2_with fail
    all_goals go_ret
    all_goals refine ⟨?_, by (repeat' (first | exact Below.refl _ _ | assumption | refine gr_drew ?_ | refine gr_drewN ?_ _ | refine gr_alloc ?_ _ | refine gr_set ?_ ?_ _ | refine gr_call ?_ (by assumption)) <;> (try (simp; done)) <;> (try (simp; omega)) <;> (try omega))⟩
    all_goals rw [HE.out]
    all_goals show Ending.returned (.bool _) = _
    all_goals simp [*]
  have t0 : (v == 0) = false := by simpa using h0
  by_cases h2 : v = 2
  · subst h2
    have HE := Lib.hid (show may ⟨2, p, i, e, r⟩ = decide (r = 0) from rfl)
    clear t0 h0
    by_cases hr : r = 0
    · have t1 : (r == 0) = true := by simpa using hr
      have HF := Lib.hid (HE.out.trans (decide_eq_true hr))
      clear HE hr
      go_enter Tryz.func141, Tryz.ntmps141
      go_wp2_with fail
      go_ret
      exact ⟨by rw [HF.out]; rfl, by (repeat' (first | exact Below.refl _ _ | assumption | refine gr_drew ?_ | refine gr_drewN ?_ _ | refine gr_alloc ?_ _ | refine gr_set ?_ ?_ _ | refine gr_call ?_ (by assumption)) <;> (try (simp; done)) <;> (try (simp; omega)) <;> (try omega))⟩
    · have t1 : (r == 0) = false := by simpa using hr
      have HF := Lib.hid (HE.out.trans (decide_eq_false hr))
      clear HE hr
      go_enter Tryz.func141, Tryz.ntmps141
      go_wp2_with fail
      go_ret
      exact ⟨by rw [HF.out]; rfl, by (repeat' (first | exact Below.refl _ _ | assumption | refine gr_drew ?_ | refine gr_drewN ?_ _ | refine gr_alloc ?_ _ | refine gr_set ?_ ?_ _ | refine gr_call ?_ (by assumption)) <;> (try (simp; done)) <;> (try (simp; omega)) <;> (try omega))⟩
  have t2 : (v == 2) = false := by simpa using h2
  by_cases h3 : v = 3
  · subst h3
    have HE := Lib.hid (show may ⟨3, p, i, e, r⟩ = decide (0 ≤ r ∧ r ≤ 2147483647) from rfl)
    clear t0 t2 h0 h2
    by_cases hr : 0 ≤ r
    · by_cases hs : r ≤ 2147483647
      · have t1 : decide (0 ≤ r) = true := decide_eq_true hr
        have t3 : decide (r ≤ 2147483647) = true := decide_eq_true hs
        have HF := Lib.hid (HE.out.trans (decide_eq_true ⟨hr, hs⟩))
        clear HE
        go_enter Tryz.func141, Tryz.ntmps141
        go_wp2_with fail
        go_ret
        exact ⟨by rw [HF.out]; rfl, by (repeat' (first | exact Below.refl _ _ | assumption | refine gr_drew ?_ | refine gr_drewN ?_ _ | refine gr_alloc ?_ _ | refine gr_set ?_ ?_ _ | refine gr_call ?_ (by assumption)) <;> (try (simp; done)) <;> (try (simp; omega)) <;> (try omega))⟩
      · have t1 : decide (0 ≤ r) = true := decide_eq_true hr
        have t3 : decide (r ≤ 2147483647) = false := decide_eq_false hs
        have HF := Lib.hid (HE.out.trans (decide_eq_false (fun h => hs h.2)))
        clear HE
        go_enter Tryz.func141, Tryz.ntmps141
        go_wp2_with fail
        go_ret
        exact ⟨by rw [HF.out]; rfl, by (repeat' (first | exact Below.refl _ _ | assumption | refine gr_drew ?_ | refine gr_drewN ?_ _ | refine gr_alloc ?_ _ | refine gr_set ?_ ?_ _ | refine gr_call ?_ (by assumption)) <;> (try (simp; done)) <;> (try (simp; omega)) <;> (try omega))⟩
    · have t1 : decide (0 ≤ r) = false := decide_eq_false hr
      have HF := Lib.hid (HE.out.trans (decide_eq_false (fun h => hr h.1)))
      clear HE
      go_enter Tryz.func141, Tryz.ntmps141
      go_wp2_with fail
      go_ret
      exact ⟨by rw [HF.out]; rfl, by (repeat' (first | exact Below.refl _ _ | assumption | refine gr_drew ?_ | refine gr_drewN ?_ _ | refine gr_alloc ?_ _ | refine gr_set ?_ ?_ _ | refine gr_call ?_ (by assumption)) <;> (try (simp; done)) <;> (try (simp; omega)) <;> (try omega))⟩
  have t3 : (v == 3) = false := by simpa using h3
  have HF := Lib.hid (show may ⟨v, p, i, e, r⟩ = false by unfold may; simp only; rw [if_neg h0, if_neg h2, if_neg h3])
  clear h0 h2 h3
  go_enter Tryz.func141, Tryz.ntmps141
  go_wp2_with fail
  go_ret
  exact ⟨by rw [HF.out]; rfl, by (repeat' (first | exact Below.refl _ _ | assumption | refine gr_drew ?_ | refine gr_drewN ?_ _ | refine gr_alloc ?_ _ | refine gr_set ?_ ?_ _ | refine gr_call ?_ (by assumption)) <;> (try (simp; done)) <;> (try (simp; omega)) <;> (try omega))⟩
end Go.Proofs.YtbhnhoenjoagbaaGreatDoor.CapsW

/- Walks over package caps: the numbers and the bytes of capabilities; the document's four bytes of a number. -/
namespace Go.Proofs.YtbhnhoenjoagbaaGreatDoor.CapsW
open Go.RowKit
open CapsM
set_option linter.unusedVariables false
attribute [local irreducible] Row At

def u32E : Elt Nat where
  t := 64
  st := 152
  k := 1
  z := .int .u32 0
  bytes := 4
  enc n := [.int .u32 (n : Int)]
  len _ := rfl
  one n u h := by
    rw [List.mem_singleton.1 h]
    rfl
  pos := by decide
  und := Tryz.underlying152
  inf := by kernel_rfl
  zk := rfl
  small := by decide

theorem nums_two (p i : Nat) (e : Bool) (r : Int) : nums ⟨2, p, i, e, r⟩ = [first ⟨2, p, i, e, r⟩, p % 4294967296, i % 4294967296, p / 4294967296, i / 4294967296] := by unfold nums; rw [if_neg (by simp)]
theorem nums_three (p i : Nat) (e : Bool) (r : Nat) : nums ⟨3, p, i, e, r⟩ = [first ⟨3, p, i, e, r⟩, p % 4294967296, i % 4294967296, p / 4294967296, i / 4294967296] ++ [r] := by unfold nums; rw [if_pos rfl]; rfl
theorem row_five (w : World) (B a b c d e : Nat) (hB : B ≤ w.heap.size) (cs : Array Value) (h : cs = #[.int .u32 (a : Int), .int .u32 (b : Int), .int .u32 (c : Int), .int .u32 (d : Int), .int .u32 (e : Int)]) :
    Row u32E B (.slice (some ⟨w.heap.size, 0, none⟩) 5 5) [a, b, c, d, e] (w.alloc (.cells cs 64)) := by
  subst h
  exact lit_row (E := u32E) w [a, b, c, d, e] _ B 5 rfl hB (by simp) rfl
theorem five_eq {n p i : Nat} {F : Int} (h : (n : Int) = F) : (#[.int .u32 F, .int .u32 ((p : Int) % 4294967296), .int .u32 ((i : Int) % 4294967296), .int .u32 ((p : Int) / 4294967296), .int .u32 ((i : Int) / 4294967296)] : Array Value) = #[.int .u32 (n : Int), .int .u32 ((p % 4294967296 : Nat) : Int), .int .u32 ((i % 4294967296 : Nat) : Int), .int .u32 ((p / 4294967296 : Nat) : Int), .int .u32 ((i / 4294967296 : Nat) : Int)] := by
  subst h
  rfl
theorem row_two (w : World) (B p i : Nat) (e : Bool) (r : Int) (hB : B ≤ w.heap.size) (G : Nat) (hG : w.heap.size = G) (F : Int) (hF : F = if e then 33554433 else 33554432) :
    Row u32E B (.slice (some ⟨G, 0, none⟩) 5 5) [first ⟨2, p, i, e, r⟩, p % 4294967296, i % 4294967296, p / 4294967296, i / 4294967296] (w.alloc (.cells #[.int .u32 F, .int .u32 ((p : Int) % 4294967296), .int .u32 ((i : Int) % 4294967296), .int .u32 ((p : Int) / 4294967296), .int .u32 ((i : Int) / 4294967296)] 64)) :=
  hG ▸ row_five w B _ _ _ _ _ hB _ (five_eq (show (first ⟨2, p, i, e, r⟩ : Int) = F by unfold first; simp only; rw [hF]; split <;> omega))
theorem row_three (w : World) (B p i : Nat) (e : Bool) (r : Int) (hB : B ≤ w.heap.size) (G : Nat) (hG : w.heap.size = G) (F : Int) (hF : F = if e then 50331649 else 50331648) :
    Row u32E B (.slice (some ⟨G, 0, none⟩) 5 5) [first ⟨3, p, i, e, r⟩, p % 4294967296, i % 4294967296, p / 4294967296, i / 4294967296] (w.alloc (.cells #[.int .u32 F, .int .u32 ((p : Int) % 4294967296), .int .u32 ((i : Int) % 4294967296), .int .u32 ((p : Int) / 4294967296), .int .u32 ((i : Int) / 4294967296)] 64)) :=
  hG ▸ row_five w B _ _ _ _ _ hB _ (five_eq (show (first ⟨3, p, i, e, r⟩ : Int) = F by unfold first; simp only; rw [hF]; split <;> omega))
theorem row_one (w : World) (B a : Nat) (hB : B ≤ w.heap.size) (G : Nat) (hG : w.heap.size = G) : Row u32E B (.slice (some ⟨G, 0, none⟩) 1 1) [a] (w.alloc (.cells #[.int .u32 (a : Int)] 64)) :=
  hG ▸ lit_row (E := u32E) w [a] _ B 1 rfl hB (by simp) rfl
theorem or2 : bits .or .u32 33554432 1 = 33554433 := by decide +kernel
theorem or3 : bits .or .u32 50331648 1 = 50331649 := by decide +kernel
set_option maxHeartbeats 800000 in
theorem numbers_any (c : Cap) (hf : Fits c) (hm : may c = true) (hv : c.v ≠ 0) (w : World) :
    Calls Tryz.prog 142 #[capV c] w fun e w' => (∃ v, e = .returned v ∧ Row u32E w.heap.size v (nums c) w') ∧ Below w.heap.size w w' := by
  obtain ⟨v, p, i, e, r⟩ := c
  have hr := may_root hm
  obtain ⟨hp, hi⟩ := hf
  unfold capV
  simp only at hv hr hp hi ⊢
  rcases may_ver hm with h | h | h
  · exact absurd h hv
  · simp only at h
    subst h
    clear hm hv
    obtain rfl : r = 0 := hr.2.2 rfl
    rw [nums_two]
    have hor := or2
    have R := fun (W : World) (h : w.heap.size ≤ W.heap.size) (G : Nat) (hG : W.heap.size = G) (F : Int) (hF : F = if e then 33554433 else 33554432) => row_two W w.heap.size p i e 0 h G hG F hF
    generalize [first ⟨2, p, i, e, 0⟩, p % 4294967296, i % 4294967296, p / 4294967296, i / 4294967296] = l at *
    rcases e with _ | _
    all_goals
      go_enter Tryz.func142, Tryz.ntmps142
      go_wp2_with fail
      go_ret
      refine ⟨⟨.slice (some ⟨w.heap.size + 1, 0, none⟩) 5 5, rfl, R (w.alloc _) (by simp) _ (by simp) _ ?_⟩, by (repeat' (first | exact Below.refl _ _ | assumption | refine gr_drew ?_ | refine gr_drewN ?_ _ | refine gr_alloc ?_ _ | refine gr_set ?_ ?_ _ | refine gr_call ?_ (by assumption)) <;> (try (simp; done)) <;> (try (simp; omega)) <;> (try omega))⟩
      rfl
  · simp only at h
    subst h
    clear hm hv
    obtain ⟨k, rfl⟩ : ∃ k : Nat, r = (k : Int) := ⟨r.toNat, by omega⟩
    have hk : (k : Int) % 4294967296 = (k : Int) := by omega
    clear hr
    rw [nums_three]
    have hor := or3
    have R := fun (W : World) (h : w.heap.size ≤ W.heap.size) (G : Nat) (hG : W.heap.size = G) (F : Int) (hF : F = if e then 50331649 else 50331648) => row_three W w.heap.size p i e k h G hG F hF
    have hlen : ([first ⟨3, p, i, e, (k : Int)⟩, p % 4294967296, i % 4294967296, p / 4294967296, i / 4294967296]).length + ([k]).length ≤ 1000000 := by simp
    generalize [first ⟨3, p, i, e, (k : Int)⟩, p % 4294967296, i % 4294967296, p / 4294967296, i / 4294967296] = l at *
    rcases e with _ | _
    all_goals
      go_enter Tryz.func142, Tryz.ntmps142
      go_wp2_with (at_builtin; refine wp_append_at u32E rfl _ _ rfl w.heap.size (.slice (some ⟨w.heap.size + 1, 0, none⟩) 5 5) (.slice (some ⟨w.heap.size + 1 + 1, 0, none⟩) 1 1) l [k] _ rfl ((R (w.alloc _) (by simp) _ (by simp) _ ?_).alloc _) rfl ((row_one ((w.alloc _).alloc _) w.heap.size k (by simp; omega) _ (by simp)).at) hlen (by simp; omega) ?_)
      intro v' w' h1 h2 h3 h4
      go_wp2_with fail
      go_ret
      exact ⟨⟨_, rfl, h1⟩, Below.trans (by (repeat' (first | exact Below.refl _ _ | assumption | refine gr_drew ?_ | refine gr_drewN ?_ _ | refine gr_alloc ?_ _ | refine gr_set ?_ ?_ _ | refine gr_call ?_ (by assumption)) <;> (try (simp; done)) <;> (try (simp; omega)) <;> (try omega))) h2⟩

theorem u32_look {v : Value} {l : List Nat} {w : World} (h : At u32E v l w) : ∃ p cap, v = .slice p l.length cap ∧ l.length ≤ cap ∧ ∀ j (h : j < l.length), ∃ g off, p = some ⟨g, off, none⟩ ∧ g < w.heap.size ∧ w.cell? ⟨g, off + j, none⟩ = some (.int .u32 (l[j] : Int)) := by
  by_cases hl : l = []
  · obtain ⟨p, cap, h1, h2⟩ := h.shape
    exact ⟨p, cap, h1, h2, fun j hj => by subst hl; simp at hj⟩
  · obtain ⟨g, off, cap, h1, h2, h3, h4⟩ := h.open hl
    refine ⟨_, cap, h1, h2, fun j hj => ⟨g, off, rfl, h3, ?_⟩⟩
    have e : off + (j * u32E.k + 0) = off + j := by show off + (j * 1 + 0) = _; omega
    have a0 := h4 j hj 0 _ rfl
    rw [e] at a0
    exact a0
theorem nums_lt {c : Cap} (hf : Fits c) (hm : may c = true) (hv : c.v ≠ 0) : ∀ n ∈ nums c, n < 4294967296 := by
  obtain ⟨hp, hi⟩ := hf
  have hr := may_root hm
  have hfst := first_lt (c := c) (by rcases may_ver hm with h | h | h; exact absurd h hv; exact .inl h; exact .inr h)
  intro n hn
  unfold nums at hn
  simp only [List.mem_cons] at hn
  rcases hn with rfl | rfl | rfl | rfl | rfl | hn
  · exact hfst
  · omega
  · omega
  · omega
  · omega
  · split at hn
    · rw [List.mem_singleton] at hn
      omega
    · cases hn
theorem bytesOf_take {l : List Nat} {i : Nat} (h : i < l.length) : bytesOf (l.take (i + 1)) = bytesOf (l.take i) ++ four l[i] := by
  unfold bytesOf
  rw [List.take_succ_eq_append_getElem h, List.flatMap_append]
  simp
theorem four_take (n : Nat) (j : Nat) (hj : j < 4) : (four n).take (j + 1) = (four n).take j ++ [UInt8.ofNat (n / 256 ^ j)] := by
  have : j = 0 ∨ j = 1 ∨ j = 2 ∨ j = 3 := by omega
  rcases this with rfl | rfl | rfl | rfl
  · simp [four]
  · rfl
  · rfl
  · rfl

set_option maxHeartbeats 1600000 in
theorem Put_any (c : Cap) (hf : Fits c) (w : World) :
    Calls Tryz.prog 71 #[capV c] w fun e w' => e = .returned (.string (strOf (putL c))) ∧ Below w.heap.size w w' := by
  have hmay := May_any c
  by_cases hm : may c = true
  · rw [hm] at hmay
    by_cases hv : c.v = 0
    · have t0 : (c.v == 0) = true := by simpa using hv
      have HE := Lib.hid (show putL c = [] from putL_none (by simp [hv]))
      obtain ⟨v, p, i, e, r⟩ := c
      unfold capV at hmay ⊢
      simp only at t0 hmay ⊢
      have Hm := Lib.hid hmay
      clear hmay hm hv hf
      go_enter Tryz.func71, Tryz.ntmps71
      go_wp2_with fail
      refine (Hm.out _).mono ?_
      rintro e w1 ⟨rfl, hb1⟩
      have : w1.cell? ⟨w.heap.size, 0, none⟩ = some (.int .i64 v) := cell_kept hb1 (by simp [go_sem])
      go_wp2_with fail
      go_ret
      exact ⟨by rw [HE.out]; rfl, by (repeat' (first | exact Below.refl _ _ | assumption | refine gr_drew ?_ | refine gr_drewN ?_ _ | refine gr_alloc ?_ _ | refine gr_set ?_ ?_ _ | refine gr_call ?_ (by assumption)) <;> (try (simp; done)) <;> (try (simp; omega)) <;> (try omega))⟩
    · have t0 : (c.v == 0) = false := by simpa using hv
      have hnum := numbers_any c hf hm hv
      have hlt := nums_lt hf hm hv
      have HE := Lib.hid (show putL c = bytesOf (nums c) by unfold putL; rw [if_pos ⟨hm, hv⟩])
      have hz : (nums c).length ≤ 6 := by rw [nums_length]; split <;> omega
      generalize nums c = l at *
      obtain ⟨v, p, i, e, r⟩ := c
      unfold capV at hmay hnum ⊢
      simp only at t0 hmay hnum ⊢
      have Hm := Lib.hid hmay
      have Hn := Lib.hid hnum
      obtain ⟨z, hzl⟩ : ∃ z, l.length = z := ⟨_, rfl⟩
      have Hz := Lib.hid hzl
      rw [hzl] at hz
      have Hlt := Lib.hid hlt
      clear hmay hm hv hf hnum hzl hlt
      go_enter Tryz.func71, Tryz.ntmps71
      go_wp2_with fail
      refine (Hm.out _).mono ?_
      rintro e1 w1 ⟨rfl, hb1⟩
      have c0 : w1.cell? ⟨w.heap.size, 0, none⟩ = some (.int .i64 v) := cell_kept hb1 (by simp [go_sem])
      have c1 : w1.cell? ⟨w.heap.size, 1, none⟩ = some (.int .u64 p) := cell_kept hb1 (by simp [go_sem])
      have c2 : w1.cell? ⟨w.heap.size, 2, none⟩ = some (.int .u64 i) := cell_kept hb1 (by simp [go_sem])
      have c3 : w1.cell? ⟨w.heap.size, 3, none⟩ = some (.bool e) := cell_kept hb1 (by simp [go_sem])
      have c4 : w1.cell? ⟨w.heap.size, 4, none⟩ = some (.int .i64 r) := cell_kept hb1 (by simp [go_sem])
      have hbl1 : Below w.heap.size w w1 := gr_call (by (repeat' (first | exact Below.refl _ _ | assumption | refine gr_drew ?_ | refine gr_drewN ?_ _ | refine gr_alloc ?_ _ | refine gr_set ?_ ?_ _ | refine gr_call ?_ (by assumption)) <;> (try (simp; done)) <;> (try (simp; omega)) <;> (try omega))) hb1
      clear hb1 Hm
      go_wp2_with fail
      refine (Hn.out _).mono ?_
      rintro e2 w2 ⟨⟨sv, rfl, hR⟩, hb2⟩
      have hbl2 := gr_call hbl1 hb2
      obtain ⟨ad, cap, rfl, hcap, hcell⟩ := u32_look hR.at
      rw [Hz.out] at hcap ⊢
      have Hcell := Lib.hid hcell
      clear hcell hR hb2 hbl1 c0 c1 c2 c3 c4 Hn
      go_wp2_with fail
      go_loopw [3, 17] (fun ov iv wr => ∃ k : Nat, iv = .int .i64 (k : Int) ∧ k ≤ z ∧ BRow w2.heap.size ov (bytesOf (l.take k)) wr ∧ Below w2.heap.size w2 wr) (fun _ iv _ => z - (intOf iv).toNat)
      case atStart => exact ⟨0, rfl, by omega, BRow.nil _ _, Below.refl _ _⟩
      case round =>
        obtain ⟨k, rfl, hk, hB, hbm⟩ := hrel
        rename World => wr
        by_cases hlt : k < z
        · have hlt' : decide ((k : Int) < (z : Int)) = true := decide_eq_true (by omega)
          have hlt2 : decide (k < z) = true := decide_eq_true hlt
          have hk' : k < l.length := by rw [Hz.out]; exact hlt
          obtain ⟨g, off, rfl, hg, d0⟩ := Hcell.out k hk'
          replace d0 := cell_kept hbm d0
          have hn := Hlt.out _ (List.getElem_mem hk')
          have HT := Lib.hid (bytesOf_take hk')
          have hol : (bytesOf (l.take k)).length ≤ 24 := by rw [bytesOf_length, List.length_take]; omega
          generalize l[k] = n at *
          generalize bytesOf (l.take k) = out at *
          clear Hcell
          go_wp2_with fail
          go_loopw [3, 5, 21] (fun ov nv jv wx => ∃ j m : Nat, jv = .int .i64 (j : Int) ∧ j ≤ 4 ∧ nv = .int .u32 (m : Int) ∧ m < 4294967296 ∧ Hid (m = n / 256 ^ j) ∧ BRow w2.heap.size ov (out ++ (four n).take j) wx ∧ Below w2.heap.size w2 wx) (fun _ _ jv _ => 4 - (intOf jv).toNat)
          case atStart => exact ⟨0, n, rfl, by omega, rfl, hn, Lib.hid (by simp), by simpa using hB, hbm⟩
          case round =>
            clear hB hbm
            obtain ⟨j, m, rfl, hj, rfl, hm4, HM, hB, hbm⟩ := hrel
            by_cases hj4 : j < 4
            · have hj' : decide ((j : Int) < 4) = true := decide_eq_true (by omega)
              have hj2 : decide (j < 4) = true := decide_eq_true hj4
              have HA := Lib.hid (show (out ++ (four n).take j) ++ [UInt8.ofNat m] = out ++ (four n).take (j + 1) by rw [four_take n j hj4, HM.out, List.append_assoc])
              have hl1 : (out ++ (four n).take j).length + [UInt8.ofNat m].length ≤ 1000000 := by simp; omega
              have harr : (#[.int .u8 ((m : Int) % 256)] : Array Value).toList = Lib.byteCells [UInt8.ofNat m] := by simp [Lib.byteCells]
              have hsz := hbm.size
              generalize out ++ (four n).take j = o1 at *
              go_wp2_with (at_builtin; refine wp_append rfl _ _ rfl w2.heap.size _ o1 _ [UInt8.ofNat m] #[.int .u8 ((m : Int) % 256)] harr rfl (by exact hB) rfl hl1 hsz ?_)
              intro v' w' h1 h2
              rw [HA.out] at h1
              have hbm' := hbm.trans h2
              clear hB hbm h2 harr
              go_wp2_with fail
              go_roundw
              case rel => exact ⟨j + 1, m / 256, rfl, by omega, rfl, by omega, Lib.hid (by rw [HM.out, Nat.pow_succ, Nat.div_div_eq_div_mul]), h1, hbm'⟩
              case measure => simp only [intOf]; omega
            · have hj' : decide ((j : Int) < 4) = false := decide_eq_false (by omega)
              have hj2 : decide (j < 4) = false := decide_eq_false hj4
              have HA := Lib.hid (show out ++ (four n).take j = bytesOf (l.take (k + 1)) by rw [HT.out, List.take_of_length_le (by rw [four_length]; omega)])
              rw [HA.out] at hB
              go_wp2_with fail
              go_roundw
              case rel => exact ⟨k + 1, rfl, by omega, hB, hbm⟩
              case measure => simp only [intOf]; omega
        · have hlt' : decide ((k : Int) < (z : Int)) = false := decide_eq_false (by omega)
          have hlt2 : decide (k < z) = false := decide_eq_false hlt
          have hT : bytesOf (l.take k) = bytesOf l := by rw [List.take_of_length_le (by rw [Hz.out]; omega)]
          rw [hT, ← HE.out] at hB
          have hcv := hB.str
          clear hT hB
          go_wp2_with fail
          go_ret
          exact ⟨rfl, gr_call hbl2 hbm⟩
  · have hm' : may c = false := by simpa using hm
    rw [hm'] at hmay
    have HE := Lib.hid (show putL c = [] from putL_none (by simp [hm']))
    obtain ⟨v, p, i, e, r⟩ := c
    unfold capV at hmay ⊢
    simp only at hmay ⊢
    have Hm := Lib.hid hmay
    clear hmay hm hm' hf
    go_enter Tryz.func71, Tryz.ntmps71
    go_wp2_with fail
    refine (Hm.out _).mono ?_
    rintro e w1 ⟨rfl, hb1⟩
    go_wp2_with fail
    go_ret
    exact ⟨by rw [HE.out]; rfl, by (repeat' (first | exact Below.refl _ _ | assumption | refine gr_drew ?_ | refine gr_drewN ?_ _ | refine gr_alloc ?_ _ | refine gr_set ?_ ?_ _ | refine gr_call ?_ (by assumption)) <;> (try (simp; done)) <;> (try (simp; omega)) <;> (try omega))⟩
end Go.Proofs.YtbhnhoenjoagbaaGreatDoor.CapsW
