/- Bundle of 6 texts. -/
import Derived.Test.YtbhnhoenjoagbaaGreatDoorPk07
import Derived.Test.YtbhnhoenjoagbaaGreatDoorPk06
import Derived.Test.YtbhnhoenjoagbaaGreatDoorKit
import Derived.Test.YtbhnhoenjoagbaaGreatDoorRows
import Derived.Lib.LaidTab
import Derived.OpenShut
import Derived.ChangeOld
import Derived.Below
import Derived.Deep.QuietTactic
import Derived.BigQuiet
import Derived.Recover
/- Walks over package rec: Join. -/
namespace Go.Proofs.YtbhnhoenjoagbaaGreatDoor.RecW
open Go.RowKit
open RecM
set_option linter.unusedVariables false

theorem _root_.Go.Proofs.YtbhnhoenjoagbaaGreatDoor.Bld.alloc {b : Nat} {l : List UInt8} {w : World} (h : Bld b l w) (o : Obj) : Bld b l (w.alloc o) := h.keep (gr_alloc (Below.refl _ w) o)
theorem join_succ (l : List (List UInt8 × List UInt8)) (i : Nat) (h : i < l.length) : joinF (l.take (i + 1)) = joinF (l.take i) ++ putF l[i].1 l[i].2 := by
  rw [List.take_succ_eq_append_getElem h]
  unfold joinF
  rw [List.map_append, List.flatten_append, List.map_cons, List.map_nil, List.flatten_cons, List.flatten_nil, List.append_nil]
theorem put_len (k v : List UInt8) (h : k.length + v.length ≤ 9000) : (putF k v).length ≤ 9009 := by
  unfold putF
  split
  · have h1 := enc_length k v (by omega)
    have h2 := (lenF_bounds (3 + k.length + v.length)).2
    omega
  · simp
theorem join_len (l : List (List UInt8 × List UInt8)) (h : ∀ r ∈ l, r.1.length + r.2.length ≤ 9000) : (joinF l).length ≤ l.length * 9009 := by
  induction l with
  | nil => simp [joinF]
  | cons r l ih =>
    have h1 := put_len r.1 r.2 (h r (List.mem_cons_self ..))
    have h2 := ih (fun y hy => h y (List.mem_cons_of_mem _ hy))
    have e : joinF (r :: l) = putF r.1 r.2 ++ joinF l := by unfold joinF; rw [List.map_cons, List.flatten_cons]
    rw [e, List.length_append, List.length_cons]
    omega

set_option maxHeartbeats 1600000 in
theorem join_any (v : Value) (l : List (List UInt8 × List UInt8)) (w : World) (hA : AmbB w) (hat : RecAt v l w) (hs : ∀ r ∈ l, r.1.length + r.2.length ≤ 9000) (hl : l.length ≤ 100) :
    Calls Tryz.prog 120 #[v] w fun e w' => e = .returned (.string (strOf (joinF l))) ∧ Below w.heap.size w w' := by
  obtain ⟨p, cap, rfl⟩ := hat.shape
  obtain ⟨n, hn⟩ : ∃ n, l.length = n := ⟨_, rfl⟩
  have HN := Lib.hid hn
  have HS := Lib.hid hs
  have Hat := Lib.hid hat
  rw [hn] at hl ⊢
  clear hs hat hn
  go_enter Tryz.func120, Tryz.ntmps120
  go_wp2_with fail
  go_loopw [8] (fun iv wr => ∃ i : Nat, iv = .int .i64 (i : Int) ∧ i ≤ n ∧ Bld w.heap.size (joinF (l.take i)) wr ∧ Below w.heap.size w wr) (fun iv _ => n - (intOf iv).toNat)
  case atStart => exact ⟨0, rfl, by omega, newBld w, by (repeat' (first | exact Below.refl _ _ | assumption | refine gr_drew ?_ | refine gr_drewN ?_ _ | refine gr_alloc ?_ _ | refine gr_set ?_ ?_ _ | refine gr_call ?_ (by assumption)) <;> (try (simp; done)) <;> (try (simp; omega)) <;> (try omega))⟩
  case round =>
    obtain ⟨i, rfl, hi, hB, hbl⟩ := hrel
    rename_i wr
    by_cases hlt : i < n
    · have hlt' : decide ((i : Int) < (n : Int)) = true := decide_eq_true (by omega)
      have hlt2 : decide (i < n) = true := decide_eq_true hlt
      have hil : i < l.length := by rw [HN.out]; exact hlt
      obtain ⟨g, cap', ev, hc, hg, hj⟩ := Hat.out.open (by intro e; rw [e] at hil; simp at hil)
      simp only [Value.slice.injEq] at ev
      obtain ⟨rfl, _, rfl⟩ := ev
      have c0 := cell_kept hbl (hj i hil).1
      have c1 := cell_kept hbl (hj i hil).2
      rw [Nat.mul_comm 2 i] at c0 c1
      have hsz := HS.out l[i] (List.getElem_mem hil)
      have Hsucc := Lib.hid (join_succ l i hil)
      have hjl := join_len (l.take (i + 1)) (fun r hr => HS.out r (List.mem_of_mem_take hr))
      rw [Hsucc.out, List.length_append, List.length_take] at hjl
      obtain ⟨r, hr⟩ : ∃ r, l[i] = r := ⟨_, rfl⟩
      rw [hr] at c0 c1 hsz Hsucc hjl
      obtain ⟨k, u⟩ := r
      dsimp only at c0 c1 hsz Hsucc hjl
      have hp := Lib.hid (fun W h => put_any (strOf k) (strOf u) (by rw [strOf_size, strOf_size]; omega) W h)
      rw [strOf_list, strOf_list] at hp
      have hw1 : (joinF (l.take i)).length + (strOf (putF k u)).size ≤ 1000000 := by rw [strOf_size]; omega
      have HP := Lib.hid (strOf_list (putF k u))
      have i1 : (i : Int) < (n : Int) := by omega
      have i0 : (0 : Int) ≤ (i : Int) := by omega
      generalize putF k u = P at *
      have hB2 := hB.alloc (.cells #[.string (strOf k), .string (strOf u)] 28)
      clear hj hr hsz hjl hlt hB
      go_wp2_with fail
      refine (hp.out _ (hA.on (by (repeat' (first | exact Below.refl _ _ | assumption | refine gr_drew ?_ | refine gr_drewN ?_ _ | refine gr_alloc ?_ _ | refine gr_set ?_ ?_ _ | refine gr_call ?_ (by assumption)) <;> (try (simp; done)) <;> (try (simp; omega)) <;> (try omega))))).mono ?_
      rintro e w1 ⟨rfl, hb1⟩
      have hB3 := hB2.keep hb1
      have hbl1 : Below w.heap.size w w1 := by (repeat' (first | exact Below.refl _ _ | assumption | refine gr_drew ?_ | refine gr_drewN ?_ _ | refine gr_alloc ?_ _ | refine gr_set ?_ ?_ _ | refine gr_call ?_ (by assumption)) <;> (try (simp; done)) <;> (try (simp; omega)) <;> (try omega))
      clear hB2 hb1
      go_wp2_with fail
      refine (writeStr_b w.heap.size _ (strOf P) w1 hB3 hw1 (bld_lt hB3)).mono ?_
      rintro e w2 ⟨rfl, hB4, hb2⟩
      rw [HP.out, ← Hsucc.out] at hB4
      have hbl2 : Below w.heap.size w w2 := hbl1.trans hb2
      clear hB3 hb2
      go_wp2_with fail
      go_roundw
      case rel => exact ⟨i + 1, by go_num, by omega, hB4, hbl2⟩
      case measure => simp only [intOf]; omega
    · have hlt' : decide ((i : Int) < (n : Int)) = false := decide_eq_false (by omega)
      have hlt2 : decide (i < n) = false := decide_eq_false hlt
      rw [List.take_of_length_le (by rw [HN.out]; omega)] at hB
      clear hlt
      go_wp2_with fail
      refine (string_b _ _ _ hB).mono ?_
      rintro e w2 ⟨rfl, hb2⟩
      go_wp2_with fail
      go_ret
      exact ⟨rfl, hbl.trans hb2⟩
end Go.Proofs.YtbhnhoenjoagbaaGreatDoor.RecW

/- A listed table of structs and arrays of plain things: its cells are those of its datum, flat, one behind the other. -/
namespace Go.Proofs.YtbhnhoenjoagbaaGreatDoor
namespace TabM
open Go.ChangeShapes

def flat {H : Type} : Nat → DataW H → List Value
  | 0, _ => []
  | n + 1, .agg ds => ds.flatMap (flat n)
  | _ + 1, .lit (.int k z) => [.int k z]
  | _ + 1, .lit (.bool b) => [.bool b]
  | _ + 1, .lit (.string l) => [.string ⟨l.toArray⟩]
  | _ + 1, _ => []
def tiles (P : Program) : Nat → List Field → Nat → Bool
  | off, [], all => off == all
  | off, f :: fs, all => f.offset == off && tiles P (off + P.cellsOf f.type) fs all
def fits {H : Type} (P : Program) : Nat → TypeId → DataW H → Bool
  | 0, _, _ => false
  | n + 1, t, .agg ds => match P.underlying t with
    | some (.array m e) => ds.length == m && P.cellsOf t == m * P.cellsOf e && ds.all (fits P n e)
    | some (.struct fs) => tiles P 0 fs.toList (P.cellsOf t) && ds.length == fs.size && ((fs.toList.zip ds).all fun x => fits P n x.1.type x.2)
    | _ => false
  | _ + 1, t, .lit (.int k _) => match P.underlying t with
    | some (.int k') => k == k'
    | _ => false
  | _ + 1, t, .lit (.bool _) => match P.underlying t with
    | some .bool => true
    | _ => false
  | _ + 1, t, .lit (.string _) => match P.underlying t with
    | some .string => true
    | _ => false
  | _ + 1, _, _ => false

theorem tiles_flat {P : Program} (cs : List Value) : ∀ (fs : List Field) (parts : List (List Value)) (off : Nat), tiles P off fs cs.length = true → parts.length = fs.length →
    (∀ (i : Nat) f, fs[i]? = some f → parts[i]? = some ((cs.drop f.offset).take (P.cellsOf f.type))) → cs.drop off = parts.flatten
  | [], parts, off, ht, hl, _ => by
    simp only [tiles, beq_iff_eq] at ht
    obtain rfl : parts = [] := List.eq_nil_of_length_eq_zero hl
    simp [ht]
  | f :: fs, parts, off, ht, hl, hf => by
    simp only [tiles, Bool.and_eq_true, beq_iff_eq] at ht
    obtain ⟨h0, ht⟩ := ht
    match parts, hl with
    | p :: ps, hl =>
      have ih := tiles_flat cs fs ps _ ht (by simpa using hl) (fun i g hg => by simpa using hf (i + 1) g (by simpa using hg))
      have hp := hf 0 f rfl
      simp only [List.getElem?_cons_zero, Option.some.injEq] at hp
      rw [List.flatten_cons, ← ih, hp, h0, ← List.drop_drop, List.take_append_drop]

theorem flat_of {H : Type} {enc : TypeId × Value → H} {P : Program} {w : World} {base : Nat} {sp : Nat → Bool} {held : Bool} : ∀ (n : Nat) (d : DataW H) (t : TypeId) (fuel : Nat) (cs : List Value) (p : List MemPlace),
    DataW.trod enc P w base sp held fuel t cs = some (d, p) → fits P n t d = true → cs = flat n d
  | 0, _, _, _, _, _, _, hf => by simp [fits] at hf
  | n + 1, .agg ds, t, fuel, cs, p, h, hf => by
    unfold fits at hf
    split at hf
    · rename_i m e hu
      obtain ⟨xs, q, _, hx, hl, hlen, hi⟩ := DataW.trod_array hu h
      simp only [Bool.and_eq_true, beq_iff_eq, List.all_eq_true] at hf
      obtain ⟨⟨h1, h2⟩, h3⟩ := hf
      obtain rfl : ds = xs.map (·.1) := by
        have := congrArg Prod.fst hx
        simpa using this
      have hpart : ∀ i, i < m → (cs.drop (i * P.cellsOf e)).take (P.cellsOf e) = flat n ((xs.map (·.1)).getD i (.agg [])) := by
        intro i hm
        have hi' := hi i hm
        have hxi : xs[i]? = some (xs[i]'(by omega)) := List.getElem?_eq_getElem (by omega)
        rw [hxi] at hi'
        have := flat_of n (xs[i]'(by omega)).1 e q _ (xs[i]'(by omega)).2 hi' (h3 _ (List.mem_map_of_mem (List.getElem_mem (by omega))))
        rw [this]
        simp [List.getD, hxi]
      show cs = (xs.map (·.1)).flatMap (flat n)
      have hgo : ∀ j, j ≤ m → cs.drop ((m - j) * P.cellsOf e) = ((xs.map (·.1)).drop (m - j)).flatMap (flat n) := by
        intro j
        induction j with
        | zero =>
          intro _
          rw [Nat.sub_zero, List.drop_eq_nil_of_le (by omega), List.drop_eq_nil_of_le (by simp; omega)]
          rfl
        | succ j ih =>
          intro hj
          have ih := ih (by omega)
          have e1 : m - j = (m - (j + 1)) + 1 := by omega
          rw [e1] at ih
          have hlt : m - (j + 1) < (xs.map (·.1)).length := by simp; omega
          rw [List.drop_eq_getElem_cons hlt, List.flatMap_cons, ← ih, Nat.add_mul, Nat.one_mul, ← List.drop_drop]
          have := hpart (m - (j + 1)) (by omega)
          rw [show (xs.map (·.1)).getD (m - (j + 1)) (.agg []) = (xs.map (·.1))[m - (j + 1)] by simp only [List.getD, List.getElem?_eq_getElem hlt, Option.getD_some]] at this
          rw [← this, List.take_append_drop]
      have := hgo m (Nat.le_refl _)
      simpa using this
    · rename_i fs hu
      obtain ⟨xs, q, _, hx, hl, hlen, hi⟩ := DataW.trod_struct hu h
      simp only [Bool.and_eq_true, beq_iff_eq, List.all_eq_true] at hf
      obtain ⟨⟨h1, h2⟩, h3⟩ := hf
      obtain rfl : ds = xs.map (·.1) := by
        have := congrArg Prod.fst hx
        simpa using this
      show cs = (xs.map (·.1)).flatMap (flat n)
      rw [← hl] at h1
      have := tiles_flat cs fs.toList ((xs.map (·.1)).map (flat n)) 0 h1 (by simpa using hlen) (by
        intro i f hfi
        have hfi' : fs[i]? = some f := by simpa using hfi
        have hi' := hi i f hfi'
        have hil : i < xs.length := by rw [hlen]; exact (Array.getElem?_eq_some_iff.1 hfi').1
        have hxi : xs[i]? = some xs[i] := List.getElem?_eq_getElem hil
        rw [hxi] at hi'
        have := flat_of n xs[i].1 f.type q _ xs[i].2 hi' (h3 (f, xs[i].1) (by
          rw [List.mem_iff_getElem?]
          exact ⟨i, by simp [List.getElem?_zip_eq_some, hfi', hxi]⟩))
        rw [this]
        simp [hxi])
      rw [List.drop_zero] at this
      rw [List.flatMap_def]
      exact this
    · cases hf
  | n + 1, .lit l, t, fuel, cs, p, h, hf => by
    cases l with
    | int k z =>
      unfold fits at hf
      split at hf
      · rename_i k' hu
        obtain ⟨z', hc, hx, _⟩ := DataW.trod_int hu h
        have hx := congrArg Prod.fst hx
        simp only [DataW.lit.injEq, Lit.int.injEq] at hx
        obtain ⟨rfl, rfl⟩ := hx
        exact hc
      · cases hf
    | bool b =>
      unfold fits at hf
      split at hf
      · rename_i hu
        obtain ⟨z', hc, hx⟩ := DataW.trod_bool hu h
        have hx := congrArg Prod.fst hx
        simp only [DataW.lit.injEq, Lit.bool.injEq] at hx
        obtain rfl := hx
        exact hc
      · cases hf
    | string l =>
      unfold fits at hf
      split at hf
      · rename_i hu
        obtain ⟨z', hc, hx, _⟩ := DataW.trod_string hu h
        have hx := congrArg Prod.fst hx
        simp only [DataW.lit.injEq, Lit.string.injEq] at hx
        obtain rfl := hx
        show cs = [Value.string ⟨z'.data.toList.toArray⟩]
        rw [hc]
      · cases hf
    | _ => simp [fits] at hf
  | _ + 1, .nil, _, _, _, _, _, hf | _ + 1, .ptr _, _, _, _, _, _, hf | _ + 1, .slice _ _, _, _, _, _, _, hf | _ + 1, .iface _ _, _, _, _, _, _, hf | _ + 1, .map _, _, _, _, _, _, hf | _ + 1, .held _, _, _, _, _, _, hf => by simp [fits] at hf

theorem cells_of_head {P : Program} {W : World} {name : String} {d : DataW Unit} {rest : List (String × DataW Unit)} {g : Nat} {t : TypeId} (n : Nat)
    (hg : P.globalNamed name = some g) (hty : (P.globals[g]?).map (·.type) = some t) (hf : fits P n t d = true)
    (h : laidMet P ((name, d) :: rest) W) : ∀ i v, (flat n d)[i]? = some v → W.cell? ⟨g, i, none⟩ = some v := by
  obtain ⟨ps, ⟨g', t', cs, fuel, p, q, hg', ht', hvar, hd, _, _⟩, _⟩ := h
  obtain rfl := Option.some.inj (hg.symm.trans hg')
  obtain rfl := Option.some.inj (hty.symm.trans ht')
  intro i v hv
  rw [World.var?_cell hg hvar i]
  rw [← flat_of n d t fuel cs.toList p hd hf] at hv
  simpa using hv
end TabM
end Go.Proofs.YtbhnhoenjoagbaaGreatDoor

/- Characters in bytes: what package text computes, as plain functions; how characters join, and what a part of them is. -/
namespace Go.Proofs.YtbhnhoenjoagbaaGreatDoor.TextW
namespace TextM

def bitsOf : Nat → Nat
  | 1 => 7
  | 2 => 5
  | 3 => 4
  | 4 => 3
  | _ => 0
def leastOf : Nat → Nat
  | 2 => 128
  | 3 => 2048
  | 4 => 65536
  | _ => 0
def lenOf (c : UInt8) : Nat := if c.toNat < 128 then 1 else if c.toNat / 32 = 6 then 2 else if c.toNat / 16 = 14 then 3 else if c.toNat / 8 = 30 then 4 else 0
def conts : Nat → Nat → List UInt8 → Option Nat
  | 0, n, _ => some n
  | _ + 1, _, [] => none
  | k + 1, n, c :: r => if c.toNat / 64 = 2 then conts k (n * 64 + c.toNat % 64) r else none
def named (n : Nat) : Bool := decide (n ≤ 1114111) && (decide (n < 55296) || decide (57343 < n))
def good (k n : Nat) : Bool := decide (leastOf k ≤ n) && named n
def sgn : List UInt8 → Option Nat
  | [] => some 0
  | c :: r => if lenOf c = 0 then some 0 else (conts (lenOf c - 1) (c.toNat % 2 ^ bitsOf (lenOf c)) r).map fun n => if good (lenOf c) n then lenOf c else 0
def sg (l : List UInt8) : Nat := (sgn l).getD 0

theorem sg_cons (c : UInt8) (r : List UInt8) : sg (c :: r) = (if lenOf c = 0 then some 0 else (conts (lenOf c - 1) (c.toNat % 2 ^ bitsOf (lenOf c)) r).map fun n => if good (lenOf c) n then lenOf c else 0).getD 0 := rfl
theorem lenOf_le (c : UInt8) : lenOf c ≤ 4 := by unfold lenOf; split <;> (try split) <;> (try split) <;> (try split) <;> omega
theorem conts_len : ∀ (k n : Nat) (l : List UInt8) (m : Nat), conts k n l = some m → k ≤ l.length
  | 0, _, _, _, _ => Nat.zero_le _
  | k + 1, n, [], m, h => by simp [conts] at h
  | k + 1, n, c :: r, m, h => by
    unfold conts at h
    split at h
    · have := conts_len k _ r m h
      simp; omega
    · cases h
theorem sg_le (l : List UInt8) : sg l ≤ 4 := by
  cases l with
  | nil => decide
  | cons c r =>
    rw [sg_cons]
    by_cases h : lenOf c = 0
    · rw [if_pos h]; decide
    · rw [if_neg h]
      cases conts (lenOf c - 1) (c.toNat % 2 ^ bitsOf (lenOf c)) r with
      | none => exact Nat.zero_le _
      | some n =>
        simp only [Option.map_some, Option.getD_some]
        split
        · exact lenOf_le c
        · decide
theorem sg_pos {c : UInt8} {r : List UInt8} (h : sg (c :: r) ≠ 0) : sg (c :: r) = lenOf c ∧ lenOf c ≠ 0 ∧ ∃ n, conts (lenOf c - 1) (c.toNat % 2 ^ bitsOf (lenOf c)) r = some n ∧ good (lenOf c) n = true := by
  rw [sg_cons] at h ⊢
  by_cases h1 : lenOf c = 0
  · rw [if_pos h1] at h; exact absurd rfl h
  · rw [if_neg h1] at h ⊢
    cases hc : conts (lenOf c - 1) (c.toNat % 2 ^ bitsOf (lenOf c)) r with
    | none => rw [hc] at h; exact absurd rfl h
    | some n =>
      rw [hc] at h
      simp only [Option.map_some, Option.getD_some] at h ⊢
      split at h
      · rename_i h2
        rw [if_pos h2]
        exact ⟨rfl, h1, n, rfl, h2⟩
      · exact absurd rfl h
theorem sg_len (l : List UInt8) : sg l ≤ l.length := by
  cases l with
  | nil => decide
  | cons c r =>
    by_cases h : sg (c :: r) = 0
    · omega
    · obtain ⟨h1, _, n, hn, _⟩ := sg_pos h
      have := conts_len _ _ _ _ hn
      simp; omega
def rd (l : List UInt8) : Nat × Nat × Bool :=
  if _h : l = [] then (0, 0, true) else
  if _h2 : sg l = 0 then (0, 0, false) else
  let x := rd (l.drop (sg l))
  (x.1 + sg l, x.2.1 + 1, x.2.2)
termination_by l.length
decreasing_by
  have : 0 < l.length := List.length_pos_iff.2 _h
  simp; omega
theorem rd_nil : rd [] = (0, 0, true) := by rw [rd]; simp
theorem rd_bad {l : List UInt8} (h : sg l = 0) (hl : l ≠ []) : rd l = (0, 0, false) := by rw [rd, dif_neg hl, dif_pos h]
theorem rd_step {l : List UInt8} (h : sg l ≠ 0) : rd l = ((rd (l.drop (sg l))).1 + sg l, (rd (l.drop (sg l))).2.1 + 1, (rd (l.drop (sg l))).2.2) := by
  have hl : l ≠ [] := by rintro rfl; exact h rfl
  conv => lhs; rw [rd, dif_neg hl, dif_neg h]
def badI (l : List UInt8) : Int := if (rd l).2.2 then -1 else ((rd l).1 : Int)
def cntN (l : List UInt8) : Nat := (rd l).2.1
def Chars (l : List UInt8) (k : Nat) : Prop := rd l = (l.length, k, true)
end TextM
end Go.Proofs.YtbhnhoenjoagbaaGreatDoor.TextW

/- What the walks of this seat lean on in memory: package text's table of forms; it stays as it is whatever a call makes. -/
namespace Go.Proofs.YtbhnhoenjoagbaaGreatDoor.TextW
open Go.RowKit

def formCells : List Value := [.int .u8 0, .int .i64 7, .int .i64 0, .int .u8 6, .int .i64 5, .int .i64 128, .int .u8 14, .int .i64 4, .int .i64 2048, .int .u8 30, .int .i64 3, .int .i64 65536]
def Amb (w : World) : Prop := ∀ (i : Nat) v, formCells[i]? = some v → w.cell? ⟨1, i, none⟩ = some v
theorem Amb.on {w w' : World} (h : Amb w) (hb : Below w.heap.size w w') : Amb w' := fun i v hv => cell_kept hb (h i v hv)
theorem Amb.cells {w : World} (h : Amb w) :
    w.cell? ⟨1, 0, none⟩ = some (.int .u8 0) ∧ w.cell? ⟨1, 1, none⟩ = some (.int .i64 7) ∧ w.cell? ⟨1, 2, none⟩ = some (.int .i64 0) ∧
    w.cell? ⟨1, 3, none⟩ = some (.int .u8 6) ∧ w.cell? ⟨1, 4, none⟩ = some (.int .i64 5) ∧ w.cell? ⟨1, 5, none⟩ = some (.int .i64 128) ∧
    w.cell? ⟨1, 6, none⟩ = some (.int .u8 14) ∧ w.cell? ⟨1, 7, none⟩ = some (.int .i64 4) ∧ w.cell? ⟨1, 8, none⟩ = some (.int .i64 2048) ∧
    w.cell? ⟨1, 9, none⟩ = some (.int .u8 30) ∧ w.cell? ⟨1, 10, none⟩ = some (.int .i64 3) ∧ w.cell? ⟨1, 11, none⟩ = some (.int .i64 65536) :=
  ⟨h 0 _ rfl, h 1 _ rfl, h 2 _ rfl, h 3 _ rfl, h 4 _ rfl, h 5 _ rfl, h 6 _ rfl, h 7 _ rfl, h 8 _ rfl, h 9 _ rfl, h 10 _ rfl, h 11 _ rfl⟩
end Go.Proofs.YtbhnhoenjoagbaaGreatDoor.TextW

/- Walks over package text: low, length, further, named. -/
namespace Go.Proofs.YtbhnhoenjoagbaaGreatDoor.TextW
open Go.RowKit
open TextM
set_option linter.unusedVariables false

theorem low_any (c : UInt8) (b : Nat) (hb : b = 3 ∨ b = 4 ∨ b = 5 ∨ b = 6 ∨ b = 7) (x : Int) (hx : x = (b : Int)) (w : World) :
    Calls Tryz.prog 281 #[.int .u8 (c.toNat : Int), .int .i64 x] w fun e w' => e = .returned (.int .i64 ((c.toNat % 2 ^ b : Nat) : Int)) ∧ w' = w := by
  subst hx
  obtain ⟨n, hn⟩ : ∃ n, c.toNat = n := ⟨_, rfl⟩
  have hn2 : n < 256 := by have := c.toNat_lt; omega
  have ha : bits .and .i64 (n : Int) ((2 ^ b - 1 : Nat) : Int) = ((n % 2 ^ b : Nat) : Int) := by
    rw [and_i64 _ _ (by omega) (by rcases hb with rfl | rfl | rfl | rfl | rfl <;> decide), Nat.and_two_pow_sub_one_eq_mod]
  rw [hn]
  rcases hb with rfl | rfl | rfl | rfl | rfl
  all_goals
    have ha' := ha
    simp at ha'
    go_enter Tryz.func281, Tryz.ntmps281
    go_wp2_with fail
    go_ret
    exact ⟨ret_num (by simp), rfl⟩

theorem named_any (n : Nat) (hn : n < 4611686018427387904) (w : World) :
    Calls Tryz.prog 283 #[.int .i64 (n : Int)] w fun e w' => e = .returned (.bool (named n)) ∧ w' = w := by
  have hd : named n = (decide ((n : Int) ≤ 1114111) && (decide ((n : Int) < 55296) || decide (57343 < (n : Int)))) := by
    unfold named
    rw [Bool.eq_iff_iff]
    simp only [Bool.and_eq_true, Bool.or_eq_true, decide_eq_true_eq]
    omega
  have Hd := Lib.hid hd
  clear hd
  obtain ⟨x, hx⟩ : ∃ x : Int, (n : Int) = x := ⟨_, rfl⟩
  rw [hx] at Hd ⊢
  clear hx hn
  by_cases h1 : x ≤ 1114111
  · by_cases h2 : x < 55296
    · go_enter Tryz.func283, Tryz.ntmps283
      go_wp2_with fail
      go_ret
      exact ⟨ret_bool (by rw [Hd.out, Bool.eq_iff_iff]; simp; omega), rfl⟩
    · go_enter Tryz.func283, Tryz.ntmps283
      go_wp2_with fail
      go_ret
      exact ⟨ret_bool (by rw [Hd.out, Bool.eq_iff_iff]; simp; omega), rfl⟩
  · go_enter Tryz.func283, Tryz.ntmps283
    go_wp2_with fail
    go_ret
    exact ⟨ret_bool (by rw [Hd.out, Bool.eq_iff_iff]; simp; omega), rfl⟩

def endsEarly : List PanicEntry := [{ v := .iface 264 (.agg #[]), recovered := false }]
theorem idx_at {P : Program} {t : TypeId} (ht : P.underlying t = some .string) (S : ByteArray) (i : Nat) (h : i < S.size) : ∃ c : UInt8, S.data.toList[i]? = some c ∧ ∀ w, (Instr.index t (.string S) (.int .i64 (i : Int))).run P w = .ok (.int .u8 (c.toNat : Int)) w := by
  refine ⟨S[i], ?_, ?_⟩
  · rw [List.getElem?_eq_getElem (by simpa using h)]; rfl
  · intro w
    simp [go_sem, ht, h]
theorem drop_at {l : List UInt8} {i : Nat} {c : UInt8} (h : l[i]? = some c) : l.drop i = c :: l.drop (i + 1) := by
  obtain ⟨hi, rfl⟩ := List.getElem?_eq_some_iff.1 h
  exact List.drop_eq_getElem_cons hi
def furAt (l : List UInt8) (p : Nat) : Option Nat := (l[p]?).bind fun c => if c.toNat / 64 = 2 then some (c.toNat % 64) else none

theorem further_yes (S : ByteArray) (hS : S.size ≤ 1000000) (p : Nat) (k : Nat) (h : furAt S.data.toList p = some k) (x : Int) (hx : x = (p : Int)) (w : World) :
    Calls Tryz.prog 282 #[.string S, .int .i64 x] w fun e w' => e = .returned (.int .i64 (k : Int)) ∧ w' = w := by
  subst hx
  obtain ⟨c, hc, hk⟩ := Option.bind_eq_some_iff.1 h
  have hc2 : c.toNat / 64 = 2 ∧ c.toNat % 64 = k := by
    split at hk
    · exact ⟨by assumption, Option.some.inj hk⟩
    · cases hk
  obtain ⟨n, hn⟩ : ∃ n, S.size = n := ⟨_, rfl⟩
  have hp : p < S.size := by have := (List.getElem?_eq_some_iff.1 hc).1; simpa using this
  obtain ⟨c', hc', hidx⟩ := idx_at Tryz.underlying9 S p hp
  obtain rfl : c' = c := by rw [hc] at hc'; exact (Option.some.inj hc').symm
  have hlow := low_any c' 6 (by omega)
  rw [show c'.toNat % 2 ^ 6 = k from hc2.2] at hlow
  have h2 : ¬ (n : Int) ≤ (p : Int) := by omega
  have h3 := hc2.1
  have h4 : ((c'.toNat : Int) / 64 != 2) = false := by
    have : (c'.toNat : Int) / 64 = 2 := by omega
    rw [this]; rfl
  clear h hc hc' hk hc2 h3
  go_enter Tryz.func282, Tryz.ntmps282
  go_wp2_with fail
  refine (hlow _ rfl _).mono ?_
  rintro e w4 ⟨rfl, rfl⟩
  go_wp2_with fail
  go_ret
  exact ⟨rfl, rfl⟩
theorem further_no (S : ByteArray) (hS : S.size ≤ 1000000) (p : Nat) (h : furAt S.data.toList p = none) (x : Int) (hx : x = (p : Int)) (w : World) :
    Calls Tryz.prog 282 #[.string S, .int .i64 x] w fun e w' => e = .panicked endsEarly ∧ w' = w := by
  subst hx
  obtain ⟨n, hn⟩ : ∃ n, S.size = n := ⟨_, rfl⟩
  by_cases hp : p < S.size
  · obtain ⟨c, hc, hidx⟩ := idx_at Tryz.underlying9 S p hp
    have hk : ¬ c.toNat / 64 = 2 := by unfold furAt at h; rw [hc] at h; intro h2; rw [Option.bind_some, if_pos h2] at h; cases h
    have h4 : ((c.toNat : Int) / 64 != 2) = true := by
      rw [bne_iff_ne]
      intro h5; apply hk; omega
    have h2 : ¬ (n : Int) ≤ (p : Int) := by omega
    clear h hc hk
    go_enter Tryz.func282, Tryz.ntmps282
    go_wp2_with fail
    exact ⟨rfl, rfl, rfl⟩
  · have h2 : (n : Int) ≤ (p : Int) := by omega
    clear h hp
    go_enter Tryz.func282, Tryz.ntmps282
    go_wp2_with fail
    exact ⟨rfl, rfl, rfl⟩
end Go.Proofs.YtbhnhoenjoagbaaGreatDoor.TextW

/- Walks over package text: length. -/
namespace Go.Proofs.YtbhnhoenjoagbaaGreatDoor.TextW
open Go.RowKit
open TextM
set_option linter.unusedVariables false

set_option maxHeartbeats 1600000 in
theorem length_any (c : UInt8) (w : World) (hA : Amb w) :
    Calls Tryz.prog 280 #[.int .u8 (c.toNat : Int)] w fun e w' => e = .returned (.int .i64 (lenOf c : Int)) ∧ Below w.heap.size w w' := by
  obtain ⟨n, hn⟩ : ∃ n, c.toNat = n := ⟨_, rfl⟩
  have hn2 : n < 256 := by have := c.toNat_lt; omega
  have HL := Lib.hid (show (lenOf c = 1 ∧ n < 128) ∨ (lenOf c = 2 ∧ n / 32 = 6) ∨ (lenOf c = 3 ∧ n / 16 = 14) ∨ (lenOf c = 4 ∧ n / 8 = 30) ∨ (lenOf c = 0 ∧ ¬ n < 128 ∧ ¬ n / 32 = 6 ∧ ¬ n / 16 = 14 ∧ ¬ n / 8 = 30) by
    unfold lenOf
    rw [hn]
    split
    · omega
    · split
      · omega
      · split
        · omega
        · split <;> omega)
  generalize lenOf c = m at *
  rw [hn]
  clear hn
  go_enter Tryz.func280, Tryz.ntmps280
  go_wp2_with fail
  go_loopw [4] (fun iv wr => ∃ i : Nat, iv = .int .i64 (i : Int) ∧ i ≤ 4 ∧ Below w.heap.size w wr ∧ (m = 0 ∨ i + 1 ≤ m)) (fun iv _ => 4 - (intOf iv).toNat)
  case atStart => exact ⟨0, rfl, by omega, Below.refl _ _, by rcases HL.out with h | h | h | h | h <;> omega⟩
  case round =>
    obtain ⟨i, rfl, hi, hbl, him⟩ := hrel
    rename_i wr
    have hA' : Amb wr := hA.on hbl
    obtain ⟨c0, c1, c2, c3, c4, c5, c6, c7, c8, c9, c10, c11⟩ := hA'.cells
    obtain rfl | rfl | rfl | rfl | rfl : i = 0 ∨ i = 1 ∨ i = 2 ∨ i = 3 ∨ i = 4 := by omega
    · clear c2 c3 c4 c5 c6 c7 c8 c9 c10 c11
      have HL := HL.out
      by_cases ht : m = 1
      · have hq : ((n : Int) / 128 == 0) = true := by rcases HL with h | h | h | h | h <;> (rw [beq_iff_eq]; omega)
        clear HL
        go_wp2_with fail
        go_quiet (fail)
        go_wp2_with fail
        subst ht
        exact bodyPost_ret (v := .int .i64 (1 : Nat)) (by simp [results, Tryz.results280, go_sem, *]) rfl ⟨rfl, gr_drewN hbl _⟩
      · have hq : ((n : Int) / 128 == 0) = false := by
          rw [beq_eq_false_iff_ne]
          rcases HL with h | h | h | h | h <;> omega
        have him2 : m = 0 ∨ 1 + 1 ≤ m := by omega
        clear HL him
        go_wp2_with fail
        go_quiet (fail)
        go_wp2_with fail
        go_roundw
        case rel => exact ⟨1, rfl, by omega, gr_drewN hbl _, him2⟩
        case measure => simp only [intOf]; omega
    · clear c0 c1 c2 c5 c6 c7 c8 c9 c10 c11
      have HL := HL.out
      by_cases ht : m = 2
      · have hq : ((n : Int) / 32 == 6) = true := by rcases HL with h | h | h | h | h <;> (rw [beq_iff_eq]; omega)
        clear HL
        go_wp2_with fail
        go_quiet (fail)
        go_wp2_with fail
        subst ht
        exact bodyPost_ret (v := .int .i64 (2 : Nat)) (by simp [results, Tryz.results280, go_sem, *]) rfl ⟨rfl, gr_drewN hbl _⟩
      · have hq : ((n : Int) / 32 == 6) = false := by
          rw [beq_eq_false_iff_ne]
          rcases HL with h | h | h | h | h <;> omega
        have him2 : m = 0 ∨ 2 + 1 ≤ m := by omega
        clear HL him
        go_wp2_with fail
        go_quiet (fail)
        go_wp2_with fail
        go_roundw
        case rel => exact ⟨2, rfl, by omega, gr_drewN hbl _, him2⟩
        case measure => simp only [intOf]; omega
    · clear c0 c1 c2 c3 c4 c5 c8 c9 c10 c11
      have HL := HL.out
      by_cases ht : m = 3
      · have hq : ((n : Int) / 16 == 14) = true := by rcases HL with h | h | h | h | h <;> (rw [beq_iff_eq]; omega)
        clear HL
        go_wp2_with fail
        go_quiet (fail)
        go_wp2_with fail
        subst ht
        exact bodyPost_ret (v := .int .i64 (3 : Nat)) (by simp [results, Tryz.results280, go_sem, *]) rfl ⟨rfl, gr_drewN hbl _⟩
      · have hq : ((n : Int) / 16 == 14) = false := by
          rw [beq_eq_false_iff_ne]
          rcases HL with h | h | h | h | h <;> omega
        have him2 : m = 0 ∨ 3 + 1 ≤ m := by omega
        clear HL him
        go_wp2_with fail
        go_quiet (fail)
        go_wp2_with fail
        go_roundw
        case rel => exact ⟨3, rfl, by omega, gr_drewN hbl _, him2⟩
        case measure => simp only [intOf]; omega
    · clear c0 c1 c2 c3 c4 c5 c6 c7 c8 c11
      have HL := HL.out
      by_cases ht : m = 4
      · have hq : ((n : Int) / 8 == 30) = true := by rcases HL with h | h | h | h | h <;> (rw [beq_iff_eq]; omega)
        clear HL
        go_wp2_with fail
        go_quiet (fail)
        go_wp2_with fail
        subst ht
        exact bodyPost_ret (v := .int .i64 (4 : Nat)) (by simp [results, Tryz.results280, go_sem, *]) rfl ⟨rfl, gr_drewN hbl _⟩
      · have hq : ((n : Int) / 8 == 30) = false := by
          rw [beq_eq_false_iff_ne]
          rcases HL with h | h | h | h | h <;> omega
        have him2 : m = 0 ∨ 4 + 1 ≤ m := by omega
        clear HL him
        go_wp2_with fail
        go_quiet (fail)
        go_wp2_with fail
        go_roundw
        case rel => exact ⟨4, rfl, by omega, gr_drewN hbl _, him2⟩
        case measure => simp only [intOf]; omega
    · have h0 : m = 0 := by rcases HL.out with h | h | h | h | h <;> omega
      clear c0 c1 c2 c3 c4 c5 c6 c7 c8 c9 c10 c11
      go_wp2_with fail
      subst h0
      go_ret
      exact ⟨rfl, hbl⟩
end Go.Proofs.YtbhnhoenjoagbaaGreatDoor.TextW
