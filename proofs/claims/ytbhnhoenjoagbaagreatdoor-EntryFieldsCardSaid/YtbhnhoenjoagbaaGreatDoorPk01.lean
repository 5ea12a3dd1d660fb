/- Bundle of 5 texts. -/
import Derived.Test.YtbhnhoenjoagbaaGreatDoorRows
import Derived.Test.YtbhnhoenjoagbaaGreatDoorChecked
import Derived.Test.YtbhnhoenjoagbaaGreatDoorShelf
import Derived.Test.YtbhnhoenjoagbaaGreatDoorKit
import Derived.Shelf.RegionOpenPlain
import Derived.Lib.AppendStr
import Derived.Laws.Externs
import Derived.Lib.Hide
/- strings.Builder in this program (its copy check ends in a refusal where the shelf's has a panic): copyCheck, WriteByte, WriteString of one letter, at a builder of the call's own. -/
namespace Go.Proofs.YtbhnhoenjoagbaaGreatDoor
open Go.RowKit
set_option linter.unusedVariables false

def Bld (b : Nat) (l : List UInt8) (w : World) : Prop := Lib.IsBuilder 142 5 b b (Lib.byteCells l) w

set_option maxHeartbeats 1000000 in
set_option maxRecDepth 100000 in
theorem check_used (b : Nat) (w : World) (h0 : w.cell? ⟨b, 0, none⟩ = some (.pointer (some ⟨b, 0, none⟩))) :
    Calls Tryz.prog 195 #[.pointer (some ⟨b, 0, none⟩)] w fun e w' => e = .returned (.tuple #[]) ∧ w' = w := by
  obtain ⟨j, hj, hjs⟩ := Option.map_eq_some_iff.1 (show (Tryz.prog.info? 142).map (·.size) = some 2 by kernel_rfl)
  go_enter Tryz.func195, Tryz.ntmps195
  go_wp2
  rw [Lib.run_neq_ptr_same w _ Tryz.underlying140 hj]
  go_wp2
  go_end0
  exact ⟨rfl, rfl⟩

set_option maxHeartbeats 1000000 in
set_option maxRecDepth 100000 in
theorem check_fresh (b : Nat) (w : World) (h0 : w.cell? ⟨b, 0, none⟩ = some (.pointer none)) (hsh : w.shape? b = some (142, 2)) (hfz : w.frozen? ⟨b, 0, none⟩ = false) :
    Calls Tryz.prog 195 #[.pointer (some ⟨b, 0, none⟩)] w fun e w' => e = .returned (.tuple #[]) ∧ w' = w.setCell ⟨b, 0, none⟩ (.pointer (some ⟨b, 0, none⟩)) := by
  obtain ⟨j, hj, hjs⟩ := Option.map_eq_some_iff.1 (show (Tryz.prog.info? 142).map (·.size) = some 2 by kernel_rfl)
  have hlies : liesAt Tryz.prog Tryz.prog.depth 142 (2 / Tryz.prog.cellsOf 142) 0 142 1 = true := by kernel_rfl
  go_enter Tryz.func195, Tryz.ntmps195
  go_wp2
  rw [Lib.run_to_unsafe w ⟨b, 0, none⟩ Tryz.underlying140 Tryz.underlying217 hj (by rw [hjs]; decide) hsh (Nat.zero_lt_succ 1)]
  simp only [Result.andThen]
  rw [Oper.upon_value]
  go_wp2
  rw [run_callFunc_extern Tryz.func248 (by kernel_rfl) (by kernel_rfl) (by kernel_rfl) (e := Extern.AbiNoEscape.same) (by kernel_rfl)]
  rw [Lib.run_noEscape]
  simp only [Result.andThen]
  rw [Oper.upon_value]
  go_wp2
  rw [Lib.run_from_unsafe w ⟨b, 0, none⟩ Tryz.underlying217 Tryz.underlying140 hj hsh hlies]
  simp only [Result.andThen]
  rw [Oper.upon_value]
  go_wp2
  go_end0
  exact ⟨rfl, rfl⟩

theorem check_any (B b : Nat) (bs : List Value) (w : World) (h : Lib.IsBuilder 142 5 B b bs w) :
    Calls Tryz.prog 195 #[.pointer (some ⟨b, 0, none⟩)] w fun e w' => e = .returned (.tuple #[]) ∧ (Lib.BuilderAt 142 5 B b (.pointer (some ⟨b, 0, none⟩)) bs w' ∧ Below B w w') := by
  rcases h with h | h
  · refine (check_fresh b w h.cell0 h.shape h.frozen0).mono ?_
    rintro e w' ⟨rfl, rfl⟩
    exact ⟨rfl, h.used _, (Below.refl B w).setCell (p := ⟨b, 0, none⟩) h.1 _⟩
  · refine (check_used b w h.cell0).mono ?_
    rintro e w' ⟨rfl, rfl⟩
    exact ⟨rfl, h, Below.refl B _⟩

set_option maxHeartbeats 2000000 in
set_option maxRecDepth 100000 in
theorem writeByte_any (B b : Nat) (bs : List Value) (c : Int) (w : World) (h : Lib.IsBuilder 142 5 B b bs w) (hlen : bs.length + 1 ≤ 140737488355328) (hBw : B ≤ w.heap.size) :
    Calls Tryz.prog 134 #[.pointer (some ⟨b, 0, none⟩), .int .u8 c] w fun e w' => e = .returned .nilIface ∧ (Lib.IsBuilder 142 5 B b (bs ++ [.int .u8 c]) w' ∧ Below B w w') := by
  obtain ⟨i0, hi, hz0, hz1, hz2⟩ := info_parts (show (Tryz.prog.info? 5).map (fun i => (i.zero, i.size, i.bytes)) = some (some (.int .u8 0), 1, 1) by kernel_rfl)
  go_enter Tryz.func134, Tryz.ntmps134
  go_wp2_with (go_at_call 195; refine (check_any B b bs _ h).mono ?_)
  rintro e w1 ⟨rfl, h1, hb1⟩
  obtain ⟨hB, v, hbk, hown, hne⟩ := h1
  have hBw1 := hb1.size
  have c0 : w1.cell? ⟨b, 0, none⟩ = some (.pointer (some ⟨b, 0, none⟩)) := by rw [Lib.cell_of_heap hbk]; rfl
  have c1 : w1.cell? ⟨b, 1, none⟩ = some v := by rw [Lib.cell_of_heap hbk]; rfl
  have hlt : b < w1.heap.size := (Array.getElem?_eq_some_iff.1 hbk).1
  go_wp2_with (at_builtin; refine wpList_append_own _ rfl _ _ 49 rfl B 5 i0 (.int .u8 0) 1 1 Tryz.underlying49 hi hz0 hz1 hz2 rfl (by decide) _ _ _ rfl (hown.alloc _) ⟨w1.heap.size, 0, none⟩ 1 1 [.int .u8 c] rfl rfl ?c1 ?c2 ?c3 ?c4 ?c5 ?_)
  case c1 =>
    intro j u hj
    match j, hj with
    | 0, hj => simp at hj; subst hj; simp [Addr.add]
  case c2 => intro u hu; simp at hu; subst hu; rfl
  case c3 => unfold maxLen; omega
  case c4 => omega
  case c5 => simp; omega
  intro v' w2 hown' hgrow _
  have hb2 : w2.heap[b]? = some (.cells #[.pointer (some ⟨b, 0, none⟩), v] 142 (0, 0)) := by
    rw [hgrow.block b (by simp; omega) (fun e => hne e.symm), Lib.alloc_old w1 _ b hlt]
    exact hbk
  have d1 : w2.cell? ⟨b, 1, none⟩ = some v := by rw [Lib.cell_of_heap hb2]; rfl
  have f1 : w2.frozen? ⟨b, 1, none⟩ = false := Lib.frozen_of_heap hb2 1
  obtain ⟨g, cap, rfl⟩ : ∃ g cap, v' = .slice (some ⟨g, 0, none⟩) (bs.length + 1) cap := by
    rcases hown'.2 with ⟨_, h0⟩ | ⟨g, cap, cur, hv, _⟩
    · omega
    · exact ⟨g, cap, hv⟩
  go_wp2
  go_ret
  refine ⟨rfl, .inr ?_, ?_⟩
  · exact Lib.BuilderAt.put (T := 142) (e := 5) hB hb2 (bs' := bs ++ [.int .u8 c]) (by simpa using hown') (by decide)
  · exact ((hb1.alloc (by omega) _).grown hgrow (by simp; omega) (fun k hk => (hown.lt k hk).1)).setCell (p := ⟨b, 1, none⟩) hB _

set_option maxHeartbeats 2000000 in
set_option maxRecDepth 100000 in
theorem writeString_any (B b : Nat) (bs : List Value) (s : ByteArray) (w : World) (h : Lib.IsBuilder 142 5 B b bs w) (hlen : bs.length + s.size ≤ 140737488355328) (hBw : B ≤ w.heap.size) :
    Calls Tryz.prog 135 #[.pointer (some ⟨b, 0, none⟩), .string s] w fun e w' => e = .returned (.tuple #[.int .i64 s.size, .nilIface]) ∧ (Lib.IsBuilder 142 5 B b (bs ++ Lib.strCells s) w' ∧ Below B w w') := by
  obtain ⟨i0, hi, hz0, hz1, hz2⟩ := info_parts (show (Tryz.prog.info? 5).map (fun i => (i.zero, i.size, i.bytes)) = some (some (.int .u8 0), 1, 1) by kernel_rfl)
  go_enter Tryz.func135, Tryz.ntmps135
  go_wp2_with (go_at_call 195; refine (check_any B b bs _ h).mono ?_)
  rintro e w1 ⟨rfl, h1, hb1⟩
  obtain ⟨hB, v, hbk, hown, hne⟩ := h1
  have hBw1 := hb1.size
  have c0 : w1.cell? ⟨b, 0, none⟩ = some (.pointer (some ⟨b, 0, none⟩)) := by rw [Lib.cell_of_heap hbk]; rfl
  have c1 : w1.cell? ⟨b, 1, none⟩ = some v := by rw [Lib.cell_of_heap hbk]; rfl
  have hlt : b < w1.heap.size := (Array.getElem?_eq_some_iff.1 hbk).1
  go_wp2_with (at_builtin; refine Lib.wpList_append_own_string _ rfl _ _ 49 9 rfl B 5 i0 Tryz.underlying49 Tryz.underlying9 hi hz0 hz1 hz2 _ _ _ rfl hown s rfl ?c3 ?c4 ?c5 ?_)
  case c3 => unfold maxLen; omega
  case c4 => omega
  case c5 => omega
  intro v' w2 hown' hgrow _
  have hb2 : w2.heap[b]? = some (.cells #[.pointer (some ⟨b, 0, none⟩), v] 142 (0, 0)) := by
    rw [hgrow.block b hlt (fun e => hne e.symm)]
    exact hbk
  have d1 : w2.cell? ⟨b, 1, none⟩ = some v := by rw [Lib.cell_of_heap hb2]; rfl
  have f1 : w2.frozen? ⟨b, 1, none⟩ = false := Lib.frozen_of_heap hb2 1
  obtain ⟨ao, n', cap, rfl⟩ : ∃ ao n' cap, v' = .slice ao n' cap := by
    rcases hown'.2 with ⟨hv, _⟩ | ⟨g, cap, cur, hv, _⟩
    · exact ⟨_, _, _, hv⟩
    · exact ⟨_, _, _, hv⟩
  go_wp2
  go_ret2
  refine ⟨rfl, .inr ?_, ?_⟩
  · exact Lib.BuilderAt.put (T := 142) (e := 5) hB hb2 (bs' := bs ++ Lib.strCells s) (by simpa [Lib.strCells_length] using hown') (by decide)
  · exact (hb1.grown hgrow (by omega) (fun k hk => (hown.lt k hk).1)).setCell (p := ⟨b, 1, none⟩) hB _
end Go.Proofs.YtbhnhoenjoagbaaGreatDoor

/- Plain mathematics of numbers in fields: octal digits, bytes. No program. -/
namespace Go.Proofs.YtbhnhoenjoagbaaGreatDoor.NumM

def digs : Nat → Nat → List UInt8
  | 0, _ => []
  | k + 1, n => digs k (n / 8) ++ [UInt8.ofNat (48 + n % 8)]

theorem digs_length (k n : Nat) : (digs k n).length = k := by
  induction k generalizing n with
  | zero => rfl
  | succ k ih => simp [digs, ih]

theorem digs_cons (k n : Nat) : digs (k + 1) n = UInt8.ofNat (48 + n / 8 ^ k % 8) :: digs k n := by
  induction k generalizing n with
  | zero => simp [digs]
  | succ k ih =>
    have h1 : digs (k + 1 + 1) n = digs (k + 1) (n / 8) ++ [UInt8.ofNat (48 + n % 8)] := rfl
    rw [h1, ih]
    have h2 : digs (k + 1) n = digs k (n / 8) ++ [UInt8.ofNat (48 + n % 8)] := rfl
    rw [h2, Nat.div_div_eq_div_mul, List.cons_append]
    congr 5
    rw [Nat.pow_succ, Nat.mul_comm]

def bes : Nat → Int → List UInt8
  | 0, _ => []
  | k + 1, n => bes k (n / 256) ++ [UInt8.ofNat (n % 256).toNat]

theorem bes_length (k : Nat) (n : Int) : (bes k n).length = k := by
  induction k generalizing n with
  | zero => rfl
  | succ k ih => simp [bes, ih]

theorem bes_cons (k : Nat) (n : Int) : bes (k + 1) n = UInt8.ofNat (n / 256 ^ k % 256).toNat :: bes k n := by
  induction k generalizing n with
  | zero => simp [bes]
  | succ k ih =>
    have h1 : bes (k + 1 + 1) n = bes (k + 1) (n / 256) ++ [UInt8.ofNat (n % 256).toNat] := rfl
    rw [h1, ih]
    have h2 : bes (k + 1) n = bes k (n / 256) ++ [UInt8.ofNat (n % 256).toNat] := rfl
    rw [h2, Int.ediv_ediv_of_nonneg (by decide), List.cons_append]
    congr 5
    rw [Int.pow_succ, Int.mul_comm]

def isW (w : Int) : Bool := w == 8 || w == 12

def octO (n w : Int) : Option (List UInt8) := if (isW w && decide (0 ≤ n) && decide (n < 8 ^ (w.toNat - 1))) = true then some (digs (w.toNat - 1) n.toNat ++ [0]) else none

def basO (n w : Int) : Option (List UInt8) :=
  if (isW w && (w == 12 || (decide (-72057594037927936 ≤ n) && decide (n < 72057594037927936)))) = true then some ((if n < 0 then 255 else 128) :: bes (w.toNat - 1) n) else none

def fieldO (n w : Int) : Option (List UInt8) := (octO n w).or (basO n w)

def bstr (o : Option (List UInt8)) : ByteArray := ⟨(o.getD []).toArray⟩
def numOf (o : Option Int) : Int := o.getD 0

end Go.Proofs.YtbhnhoenjoagbaaGreatDoor.NumM

/- Walks over package num: the callees that compute. -/
namespace Go.Proofs.YtbhnhoenjoagbaaGreatDoor.HeadW
open Go.RowKit
open NumM

abbrev noFieldPanic : Ending := .panicked [{ v := .iface 253 (.agg #[]), recovered := false }]

theorem checkWidth_ok (n : Int) (hn : isW n = true) (w : World) :
    Calls Tryz.prog 295 #[.int .i64 n] w fun e w' => e = .returned (.tuple #[]) ∧ w = w' := by
  have h : n = 8 ∨ n = 12 := by simpa [isW] using hn
  rcases h with rfl | rfl
  · clear hn
    go_enter Tryz.func295, Tryz.ntmps295
    go_wp2
    go_end0
    exact ⟨rfl, rfl⟩
  · clear hn
    go_enter Tryz.func295, Tryz.ntmps295
    go_wp2
    go_end0
    exact ⟨rfl, rfl⟩

theorem checkWidth_no (n : Int) (hn : isW n = false) (w : World) :
    Calls Tryz.prog 295 #[.int .i64 n] w fun e w' => e = noFieldPanic ∧ w = w' := by
  have h : n ≠ 8 ∧ n ≠ 12 := by simpa [isW] using hn
  have h1 : (n != 8) = true := by simpa using h.1
  have h2 : (n != 12) = true := by simpa using h.2
  clear h hn
  go_enter Tryz.func295, Tryz.ntmps295
  go_wp2
  exact ⟨rfl, rfl, rfl⟩
end Go.Proofs.YtbhnhoenjoagbaaGreatDoor.HeadW

/- Walks over package num: octal. -/
namespace Go.Proofs.YtbhnhoenjoagbaaGreatDoor.HeadW
open Go.RowKit
open NumM

def oRow (d n j : Nat) : List UInt8 := List.replicate (d - j) 0 ++ digs j n ++ [0]
theorem oRow_length (d n j : Nat) (h : j ≤ d) : (oRow d n j).length = d + 1 := by simp [oRow, digs_length]; omega
theorem oRow_at (d n j k : Nat) (h : j + k + 1 = d) : (oRow d n j)[k]? = some 0 := by
  unfold oRow
  rw [List.append_assoc, List.getElem?_append_left (by simp; omega), List.getElem?_replicate, if_pos (by omega)]
theorem oRow_set (d n j k : Nat) (h : j + k + 1 = d) : (oRow d n j).set k (UInt8.ofNat (48 + n / 8 ^ j % 8)) = oRow d n (j + 1) := by
  unfold oRow
  rw [digs_cons, List.append_assoc, List.set_append_left _ _ (by simp; omega)]
  have h1 : d - j = k + 1 := by omega
  have h2 : d - (j + 1) = k := by omega
  rw [h1, h2, List.replicate_succ', List.set_append_right _ _ (by simp)]
  simp

theorem digit_and (m : Nat) (h : m < 9223372036854775808) : bits .and .i64 (m : Int) 7 = ((m % 8 : Nat) : Int) := by
  have := and_i64 m 7 h (by omega)
  rw [Nat.and_two_pow_sub_one_eq_mod m 3] at this
  exact this

theorem oct_eight (n : Nat) (w : World) (h1 : n < 2097152) :
    Calls Tryz.prog 257 #[.int .i64 n, .int .i64 8] w fun e w' => e = .returned (.string ⟨(digs 7 n ++ [0]).toArray⟩) ∧ Below w.heap.size w w' := by
  have hmk : ∀ w, (Instr.makeSlice 49 (.int .i64 8) (.int .i64 8)).run Tryz.prog w = .ok (.slice (some ⟨w.heap.size, 0, none⟩) 8 8) (w.alloc (.cells (cellsOf (oRow 7 n 0)) 5)) := fun _ => by kernel_rfl
  have h2 : ((n : Int) / 2097152 != 0) = false := by simp; omega
  have h3 : decide ((n : Int) < 0) = false := by simp
  go_enter Tryz.func257, Tryz.ntmps257
  go_wp2_with (go_at_call 295; refine (checkWidth_ok 8 (by decide) _).mono ?_; rintro e w' ⟨rfl, rfl⟩)
  go_loopw [0, 7] (fun nv iv wr => ∃ j k : Nat, j + k = 7 ∧ nv = .int .i64 ((n / 8 ^ j : Nat) : Int) ∧ iv = .int .i64 ((k : Int) - 1) ∧ BlkIs wr w.heap.size 5 (cellsOf (oRow 7 n j)) ∧ Below w.heap.size w wr) (fun _ iv _ => (intOf iv + 1).toNat)
  case atStart => exact ⟨0, 7, rfl, by simp, rfl, BlkIs.made _ _ _, (Below.refl _ _).alloc (Nat.le_refl _) _⟩
  case round =>
    obtain ⟨j, k, hjk, hn, hi, hb, hbl⟩ := hrel
    rcases k with _ | k
    · obtain rfl : j = 7 := by omega
      rw [show (((0 : Nat) : Int) - 1) = -1 from rfl] at hi
      subst hi hn
      have hcv := conv_back (P := Tryz.prog) (src := 49) (dst := 9) (oRow 7 n 7) 8 hb Tryz.underlying49 Tryz.underlying5 Tryz.underlying9
      rw [oRow_length 7 n 7 (Nat.le_refl _)] at hcv
      clear hb hmk
      go_wp2
      go_ret
      exact ⟨ret_str (by simp [oRow]), hbl⟩
    · rw [show (((k + 1 : Nat) : Int) - 1) = (k : Int) from by omega] at hi
      subst hi
      have hlt : n / 8 ^ j < 2097152 := Nat.lt_of_le_of_lt (Nat.div_le_self _ _) h1
      have hs := oRow_set 7 n j k (by omega)
      have hc := hb.cell_some k (.int .u8 0) (by rw [cellsOf_at, oRow_at 7 n j k (by omega)]; rfl)
      have hf := hb.free k
      have Hb := hb.put k (.int .u8 ((UInt8.ofNat (48 + n / 8 ^ j % 8)).toNat : Int))
      rw [cellsOf_set, hs] at Hb
      have hd : (UInt8.ofNat (48 + n / 8 ^ j % 8)).toNat = 48 + n / 8 ^ j % 8 := by simp; omega
      rw [hd] at Hb
      have hnx : n / 8 ^ (j + 1) = n / 8 ^ j / 8 := by rw [Nat.div_div_eq_div_mul, Nat.pow_succ]
      have Hnx := Lib.hid hnx
      clear hb hs hd hnx
      generalize n / 8 ^ j = m at *
      subst hn
      have hand := digit_and m (by omega)
      have hm8 : m % 8 < 8 := Nat.mod_lt _ (by omega)
      have hk : k < 8 := by omega
      go_wp2
      all_goals
        go_roundw
        case rel => exact ⟨j + 1, k, by omega, by rw [Hnx.out]; go_num, by go_num, Hb, hbl.setCell (Nat.le_refl _) _⟩
        case measure => simp [intOf]
theorem oct_twelve (n : Nat) (w : World) (h1 : n < 8589934592) :
    Calls Tryz.prog 257 #[.int .i64 n, .int .i64 12] w fun e w' => e = .returned (.string ⟨(digs 11 n ++ [0]).toArray⟩) ∧ Below w.heap.size w w' := by
  have hmk : ∀ w, (Instr.makeSlice 49 (.int .i64 12) (.int .i64 12)).run Tryz.prog w = .ok (.slice (some ⟨w.heap.size, 0, none⟩) 12 12) (w.alloc (.cells (cellsOf (oRow 11 n 0)) 5)) := fun _ => by kernel_rfl
  have h2 : ((n : Int) / 8589934592 != 0) = false := by simp; omega
  have h3 : decide ((n : Int) < 0) = false := by simp
  go_enter Tryz.func257, Tryz.ntmps257
  go_wp2_with (go_at_call 295; refine (checkWidth_ok 12 (by decide) _).mono ?_; rintro e w' ⟨rfl, rfl⟩)
  go_loopw [0, 7] (fun nv iv wr => ∃ j k : Nat, j + k = 11 ∧ nv = .int .i64 ((n / 8 ^ j : Nat) : Int) ∧ iv = .int .i64 ((k : Int) - 1) ∧ BlkIs wr w.heap.size 5 (cellsOf (oRow 11 n j)) ∧ Below w.heap.size w wr) (fun _ iv _ => (intOf iv + 1).toNat)
  case atStart => exact ⟨0, 11, rfl, by simp, rfl, BlkIs.made _ _ _, (Below.refl _ _).alloc (Nat.le_refl _) _⟩
  case round =>
    obtain ⟨j, k, hjk, hn, hi, hb, hbl⟩ := hrel
    rcases k with _ | k
    · obtain rfl : j = 11 := by omega
      rw [show (((0 : Nat) : Int) - 1) = -1 from rfl] at hi
      subst hi hn
      have hcv := conv_back (P := Tryz.prog) (src := 49) (dst := 9) (oRow 11 n 11) 12 hb Tryz.underlying49 Tryz.underlying5 Tryz.underlying9
      rw [oRow_length 11 n 11 (Nat.le_refl _)] at hcv
      clear hb hmk
      go_wp2
      go_ret
      exact ⟨ret_str (by simp [oRow]), hbl⟩
    · rw [show (((k + 1 : Nat) : Int) - 1) = (k : Int) from by omega] at hi
      subst hi
      have hlt : n / 8 ^ j < 8589934592 := Nat.lt_of_le_of_lt (Nat.div_le_self _ _) h1
      have hs := oRow_set 11 n j k (by omega)
      have hc := hb.cell_some k (.int .u8 0) (by rw [cellsOf_at, oRow_at 11 n j k (by omega)]; rfl)
      have hf := hb.free k
      have Hb := hb.put k (.int .u8 ((UInt8.ofNat (48 + n / 8 ^ j % 8)).toNat : Int))
      rw [cellsOf_set, hs] at Hb
      have hd : (UInt8.ofNat (48 + n / 8 ^ j % 8)).toNat = 48 + n / 8 ^ j % 8 := by simp; omega
      rw [hd] at Hb
      have hnx : n / 8 ^ (j + 1) = n / 8 ^ j / 8 := by rw [Nat.div_div_eq_div_mul, Nat.pow_succ]
      have Hnx := Lib.hid hnx
      clear hb hs hd hnx
      generalize n / 8 ^ j = m at *
      subst hn
      have hand := digit_and m (by omega)
      have hm8 : m % 8 < 8 := Nat.mod_lt _ (by omega)
      have hk : k < 12 := by omega
      go_wp2
      all_goals
        go_roundw
        case rel => exact ⟨j + 1, k, by omega, by rw [Hnx.out]; go_num, by go_num, Hb, hbl.setCell (Nat.le_refl _) _⟩
        case measure => simp [intOf]

theorem oct_bad (n v : Int) (hv : isW v = false) (w : World) :
    Calls Tryz.prog 257 #[.int .i64 n, .int .i64 v] w fun e w' => e = noFieldPanic ∧ Below w.heap.size w w' := by
  go_enter Tryz.func257, Tryz.ntmps257
  go_wp2_with (go_at_call 295; refine (checkWidth_no v hv _).mono ?_; rintro e w' ⟨rfl, rfl⟩)
  exact ⟨rfl, rfl, Below.refl _ _⟩

theorem oct_neg (n v : Int) (hv : isW v = true) (hn : n < 0) (w : World) :
    Calls Tryz.prog 257 #[.int .i64 n, .int .i64 v] w fun e w' => e = noFieldPanic ∧ Below w.heap.size w w' := by
  have h3 : decide (n < 0) = true := by simpa using hn
  have h : v = 8 ∨ v = 12 := by simpa [isW] using hv
  clear hv
  rcases h with rfl | rfl
  all_goals
    go_enter Tryz.func257, Tryz.ntmps257
    go_wp2_with (go_at_call 295; refine (checkWidth_ok _ (by decide) _).mono ?_; rintro e w' ⟨rfl, rfl⟩)
    exact ⟨rfl, rfl, Below.refl _ _⟩

theorem oct_big (n v : Int) (hv : isW v = true) (hn : 8 ^ (v.toNat - 1) ≤ n) (w : World) :
    Calls Tryz.prog 257 #[.int .i64 n, .int .i64 v] w fun e w' => e = noFieldPanic ∧ Below w.heap.size w w' := by
  have h : v = 8 ∨ v = 12 := by simpa [isW] using hv
  clear hv
  rcases h with rfl | rfl
  · have hn' : 2097152 ≤ n := hn
    clear hn
    have h3 : decide (n < 0) = false := by simp; omega
    have h2 : (n / 2097152 != 0) = true := by simp; omega
    go_enter Tryz.func257, Tryz.ntmps257
    go_wp2_with (go_at_call 295; refine (checkWidth_ok _ (by decide) _).mono ?_; rintro e w' ⟨rfl, rfl⟩)
    exact ⟨rfl, rfl, Below.refl _ _⟩
  · have hn' : 8589934592 ≤ n := hn
    clear hn
    have h3 : decide (n < 0) = false := by simp; omega
    have h2 : (n / 8589934592 != 0) = true := by simp; omega
    go_enter Tryz.func257, Tryz.ntmps257
    go_wp2_with (go_at_call 295; refine (checkWidth_ok _ (by decide) _).mono ?_; rintro e w' ⟨rfl, rfl⟩)
    exact ⟨rfl, rfl, Below.refl _ _⟩

theorem octO_bad (n v : Int) (h : isW v = false) : octO n v = none := by simp [octO, h]
theorem octO_neg (n v : Int) (h : n < 0) : octO n v = none := by simp [octO]; omega
theorem octO_big (n v : Int) (h : 8 ^ (v.toNat - 1) ≤ n) : octO n v = none := by simp [octO]; omega

theorem octal_yes (n v : Int) (l : List UInt8) (h : octO n v = some l) (w : World) :
    Calls Tryz.prog 257 #[.int .i64 n, .int .i64 v] w fun e w' => e = .returned (.string ⟨l.toArray⟩) ∧ Below w.heap.size w w' := by
  unfold octO at h
  split at h
  · rename_i hc
    injection h with h
    subst h
    simp only [Bool.and_eq_true, decide_eq_true_eq] at hc
    obtain ⟨⟨hv, h0⟩, h1⟩ := hc
    obtain ⟨m, rfl⟩ := Int.eq_ofNat_of_zero_le h0
    have h : v = 8 ∨ v = 12 := by simpa [isW] using hv
    rcases h with rfl | rfl
    · exact oct_eight m w (by have h2 : (m : Int) < 2097152 := h1; omega)
    · exact oct_twelve m w (by have h2 : (m : Int) < 8589934592 := h1; omega)
  · cases h
theorem octal_no (n v : Int) (h : octO n v = none) (w : World) :
    Calls Tryz.prog 257 #[.int .i64 n, .int .i64 v] w fun e w' => e = noFieldPanic ∧ Below w.heap.size w w' := by
  rcases hv : isW v with _ | _
  · exact oct_bad n v hv w
  · by_cases h0 : n < 0
    · exact oct_neg n v hv h0 w
    · refine oct_big n v hv ?_ w
      by_cases h1 : n < 8 ^ (v.toNat - 1)
      · have h2 : 0 ≤ n := by omega
        simp [octO, hv, h2, h1] at h
      · omega
end Go.Proofs.YtbhnhoenjoagbaaGreatDoor.HeadW

/- Walks over package num: base. -/
namespace Go.Proofs.YtbhnhoenjoagbaaGreatDoor.HeadW
open Go.RowKit
open NumM

def bRow (h : UInt8) (d : Nat) (n : Int) (j : Nat) : List UInt8 := h :: (List.replicate (d - j) 0 ++ bes j n)
theorem bRow_length (h : UInt8) (d : Nat) (n : Int) (j : Nat) (hj : j ≤ d) : (bRow h d n j).length = d + 1 := by simp [bRow, bes_length]; omega
theorem bRow_at (h : UInt8) (d : Nat) (n : Int) (j k : Nat) (hk : j + k + 1 = d) : (bRow h d n j)[k + 1]? = some 0 := by
  unfold bRow
  rw [List.getElem?_cons_succ, List.getElem?_append_left (by simp; omega), List.getElem?_replicate, if_pos (by omega)]
theorem bRow_set (h : UInt8) (d : Nat) (n : Int) (j k : Nat) (hk : j + k + 1 = d) : (bRow h d n j).set (k + 1) (UInt8.ofNat (n / 256 ^ j % 256).toNat) = bRow h d n (j + 1) := by
  unfold bRow
  rw [bes_cons, List.set_cons_succ, List.set_append_left _ _ (by simp; omega)]
  have h1 : d - j = k + 1 := by omega
  have h2 : d - (j + 1) = k := by omega
  rw [h1, h2, List.replicate_succ', List.set_append_right _ _ (by simp)]
  simp
theorem byte_of (m : Int) : ((UInt8.ofNat (m % 256).toNat).toNat : Int) = m % 256 := by
  have h1 := Int.emod_nonneg m (b := 256) (by decide)
  have h2 := Int.emod_lt_of_pos m (b := 256) (by decide)
  simp; omega
theorem shr_step (n : Int) (j : Nat) : n / 256 ^ (j + 1) = n / 256 ^ j / 256 := by
  rw [Int.pow_succ, Int.ediv_ediv_of_nonneg (Int.pow_nonneg (by decide))]

theorem base8p (n : Int) (w : World) (h0 : 0 ≤ n) (hx : n < 72057594037927936) :
    Calls Tryz.prog 294 #[.int .i64 n, .int .i64 8] w fun e w' => e = .returned (.string ⟨(128 :: bes 7 n).toArray⟩) ∧ Below w.heap.size w w' := by
  have hmk : ∀ w, (Instr.makeSlice 49 (.int .i64 8) (.int .i64 8)).run Tryz.prog w = .ok (.slice (some ⟨w.heap.size, 0, none⟩) 8 8) (w.alloc (.cells (cellsOf (bRow 0 7 n 0)) 5)) := fun _ => by kernel_rfl
  have h1 : decide (n < 0) = false := by simpa using h0
  have h2 : (n / 72057594037927936 != 0) = false := by simp; omega
  have hz0 : (cellsOf (bRow 0 7 n 0))[0]? = some (.int .u8 0) := rfl
  go_enter Tryz.func294, Tryz.ntmps294
  go_wp2_with (go_at_call 295; refine (checkWidth_ok 8 (by decide) _).mono ?_; rintro e w' ⟨rfl, rfl⟩)
  go_loopw [0, 7] (fun nv iv wr => ∃ j k : Nat, j + k = 7 ∧ nv = .int .i64 (n / 256 ^ j) ∧ iv = .int .i64 (k : Int) ∧ BlkIs wr w.heap.size 5 (cellsOf (bRow 128 7 n j)) ∧ Below w.heap.size w wr) (fun _ iv _ => (intOf iv).toNat)
  case atStart => exact ⟨0, 7, rfl, by simp, rfl, (by have h := BlkIs.made w 5 ((cellsOf (bRow 0 7 n 0)).setIfInBounds 0 (.int .u8 ((128 : UInt8).toNat : Int))); rw [cellsOf_set] at h; exact h), (Below.refl _ _).alloc (Nat.le_refl _) _⟩
  case round =>
    obtain ⟨j, k, hjk, hn, hi, hb, hbl⟩ := hrel
    rcases k with _ | k
    · obtain rfl : j = 7 := by omega
      rw [show ((0 : Nat) : Int) = 0 from rfl] at hi
      subst hi hn
      have hcv := conv_back (P := Tryz.prog) (src := 49) (dst := 9) (bRow 128 7 n 7) 8 hb Tryz.underlying49 Tryz.underlying5 Tryz.underlying9
      rw [bRow_length 128 7 n 7 (Nat.le_refl _)] at hcv
      clear hb hmk
      go_wp2
      go_ret
      exact ⟨ret_str (by simp [bRow]), hbl⟩
    · rw [show ((k + 1 : Nat) : Int) = (k : Int) + 1 from rfl] at hi
      subst hi
      have hs := bRow_set 128 7 n j k (by omega)
      have hc := hb.cell_some (k + 1) (.int .u8 0) (by rw [cellsOf_at, bRow_at 128 7 n j k (by omega)]; rfl)
      have hf := hb.free (k + 1)
      have Hb := hb.put (k + 1) (.int .u8 ((UInt8.ofNat (n / 256 ^ j % 256).toNat).toNat : Int))
      rw [cellsOf_set, hs, byte_of] at Hb
      have Hnx := Lib.hid (shr_step n j)
      clear hb hs
      generalize n / 256 ^ j = m at *
      subst hn
      have hk : k + 1 < 8 := by omega
      go_wp2
      all_goals
        go_roundw
        case rel => exact ⟨j + 1, k, by omega, by rw [Hnx.out], rfl, Hb, hbl.setCell (Nat.le_refl _) _⟩
        case measure => simp [intOf]

theorem base8n (n : Int) (w : World) (h0 : n < 0) (hx : -72057594037927936 ≤ n) :
    Calls Tryz.prog 294 #[.int .i64 n, .int .i64 8] w fun e w' => e = .returned (.string ⟨(255 :: bes 7 n).toArray⟩) ∧ Below w.heap.size w w' := by
  have hmk : ∀ w, (Instr.makeSlice 49 (.int .i64 8) (.int .i64 8)).run Tryz.prog w = .ok (.slice (some ⟨w.heap.size, 0, none⟩) 8 8) (w.alloc (.cells (cellsOf (bRow 0 7 n 0)) 5)) := fun _ => by kernel_rfl
  have h1 : decide (n < 0) = true := by simpa using h0
  have h2 : (n / 72057594037927936 != 0) = true := by simp; omega
  have h3 : (n / 72057594037927936 != -1) = false := by simp; omega
  have hz0 : (cellsOf (bRow 0 7 n 0))[0]? = some (.int .u8 0) := rfl
  go_enter Tryz.func294, Tryz.ntmps294
  go_wp2_with (go_at_call 295; refine (checkWidth_ok 8 (by decide) _).mono ?_; rintro e w' ⟨rfl, rfl⟩)
  go_loopw [0, 7] (fun nv iv wr => ∃ j k : Nat, j + k = 7 ∧ nv = .int .i64 (n / 256 ^ j) ∧ iv = .int .i64 (k : Int) ∧ BlkIs wr w.heap.size 5 (cellsOf (bRow 255 7 n j)) ∧ Below w.heap.size w wr) (fun _ iv _ => (intOf iv).toNat)
  case atStart => exact ⟨0, 7, rfl, by simp, rfl, (by have h := BlkIs.made w 5 ((cellsOf (bRow 0 7 n 0)).setIfInBounds 0 (.int .u8 ((255 : UInt8).toNat : Int))); rw [cellsOf_set] at h; exact h), (Below.refl _ _).alloc (Nat.le_refl _) _⟩
  case round =>
    obtain ⟨j, k, hjk, hn, hi, hb, hbl⟩ := hrel
    rcases k with _ | k
    · obtain rfl : j = 7 := by omega
      rw [show ((0 : Nat) : Int) = 0 from rfl] at hi
      subst hi hn
      have hcv := conv_back (P := Tryz.prog) (src := 49) (dst := 9) (bRow 255 7 n 7) 8 hb Tryz.underlying49 Tryz.underlying5 Tryz.underlying9
      rw [bRow_length 255 7 n 7 (Nat.le_refl _)] at hcv
      clear hb hmk
      go_wp2
      go_ret
      exact ⟨ret_str (by simp [bRow]), hbl⟩
    · rw [show ((k + 1 : Nat) : Int) = (k : Int) + 1 from rfl] at hi
      subst hi
      have hs := bRow_set 255 7 n j k (by omega)
      have hc := hb.cell_some (k + 1) (.int .u8 0) (by rw [cellsOf_at, bRow_at 255 7 n j k (by omega)]; rfl)
      have hf := hb.free (k + 1)
      have Hb := hb.put (k + 1) (.int .u8 ((UInt8.ofNat (n / 256 ^ j % 256).toNat).toNat : Int))
      rw [cellsOf_set, hs, byte_of] at Hb
      have Hnx := Lib.hid (shr_step n j)
      clear hb hs
      generalize n / 256 ^ j = m at *
      subst hn
      have hk : k + 1 < 8 := by omega
      go_wp2
      all_goals
        go_roundw
        case rel => exact ⟨j + 1, k, by omega, by rw [Hnx.out], rfl, Hb, hbl.setCell (Nat.le_refl _) _⟩
        case measure => simp [intOf]

theorem base12p (n : Int) (w : World) (h0 : 0 ≤ n) :
    Calls Tryz.prog 294 #[.int .i64 n, .int .i64 12] w fun e w' => e = .returned (.string ⟨(128 :: bes 11 n).toArray⟩) ∧ Below w.heap.size w w' := by
  have hmk : ∀ w, (Instr.makeSlice 49 (.int .i64 12) (.int .i64 12)).run Tryz.prog w = .ok (.slice (some ⟨w.heap.size, 0, none⟩) 12 12) (w.alloc (.cells (cellsOf (bRow 0 11 n 0)) 5)) := fun _ => by kernel_rfl
  have h1 : decide (n < 0) = false := by simpa using h0
  have hz0 : (cellsOf (bRow 0 11 n 0))[0]? = some (.int .u8 0) := rfl
  go_enter Tryz.func294, Tryz.ntmps294
  go_wp2_with (go_at_call 295; refine (checkWidth_ok 12 (by decide) _).mono ?_; rintro e w' ⟨rfl, rfl⟩)
  go_loopw [0, 7] (fun nv iv wr => ∃ j k : Nat, j + k = 11 ∧ nv = .int .i64 (n / 256 ^ j) ∧ iv = .int .i64 (k : Int) ∧ BlkIs wr w.heap.size 5 (cellsOf (bRow 128 11 n j)) ∧ Below w.heap.size w wr) (fun _ iv _ => (intOf iv).toNat)
  case atStart => exact ⟨0, 11, rfl, by simp, rfl, (by have h := BlkIs.made w 5 ((cellsOf (bRow 0 11 n 0)).setIfInBounds 0 (.int .u8 ((128 : UInt8).toNat : Int))); rw [cellsOf_set] at h; exact h), (Below.refl _ _).alloc (Nat.le_refl _) _⟩
  case round =>
    obtain ⟨j, k, hjk, hn, hi, hb, hbl⟩ := hrel
    rcases k with _ | k
    · obtain rfl : j = 11 := by omega
      rw [show ((0 : Nat) : Int) = 0 from rfl] at hi
      subst hi hn
      have hcv := conv_back (P := Tryz.prog) (src := 49) (dst := 9) (bRow 128 11 n 11) 12 hb Tryz.underlying49 Tryz.underlying5 Tryz.underlying9
      rw [bRow_length 128 11 n 11 (Nat.le_refl _)] at hcv
      clear hb hmk
      go_wp2
      go_ret
      exact ⟨ret_str (by simp [bRow]), hbl⟩
    · rw [show ((k + 1 : Nat) : Int) = (k : Int) + 1 from rfl] at hi
      subst hi
      have hs := bRow_set 128 11 n j k (by omega)
      have hc := hb.cell_some (k + 1) (.int .u8 0) (by rw [cellsOf_at, bRow_at 128 11 n j k (by omega)]; rfl)
      have hf := hb.free (k + 1)
      have Hb := hb.put (k + 1) (.int .u8 ((UInt8.ofNat (n / 256 ^ j % 256).toNat).toNat : Int))
      rw [cellsOf_set, hs, byte_of] at Hb
      have Hnx := Lib.hid (shr_step n j)
      clear hb hs
      generalize n / 256 ^ j = m at *
      subst hn
      have hk : k + 1 < 12 := by omega
      go_wp2
      all_goals
        go_roundw
        case rel => exact ⟨j + 1, k, by omega, by rw [Hnx.out], rfl, Hb, hbl.setCell (Nat.le_refl _) _⟩
        case measure => simp [intOf]

theorem base12n (n : Int) (w : World) (h0 : n < 0) :
    Calls Tryz.prog 294 #[.int .i64 n, .int .i64 12] w fun e w' => e = .returned (.string ⟨(255 :: bes 11 n).toArray⟩) ∧ Below w.heap.size w w' := by
  have hmk : ∀ w, (Instr.makeSlice 49 (.int .i64 12) (.int .i64 12)).run Tryz.prog w = .ok (.slice (some ⟨w.heap.size, 0, none⟩) 12 12) (w.alloc (.cells (cellsOf (bRow 0 11 n 0)) 5)) := fun _ => by kernel_rfl
  have h1 : decide (n < 0) = true := by simpa using h0
  have hz0 : (cellsOf (bRow 0 11 n 0))[0]? = some (.int .u8 0) := rfl
  go_enter Tryz.func294, Tryz.ntmps294
  go_wp2_with (go_at_call 295; refine (checkWidth_ok 12 (by decide) _).mono ?_; rintro e w' ⟨rfl, rfl⟩)
  go_loopw [0, 7] (fun nv iv wr => ∃ j k : Nat, j + k = 11 ∧ nv = .int .i64 (n / 256 ^ j) ∧ iv = .int .i64 (k : Int) ∧ BlkIs wr w.heap.size 5 (cellsOf (bRow 255 11 n j)) ∧ Below w.heap.size w wr) (fun _ iv _ => (intOf iv).toNat)
  case atStart => exact ⟨0, 11, rfl, by simp, rfl, (by have h := BlkIs.made w 5 ((cellsOf (bRow 0 11 n 0)).setIfInBounds 0 (.int .u8 ((255 : UInt8).toNat : Int))); rw [cellsOf_set] at h; exact h), (Below.refl _ _).alloc (Nat.le_refl _) _⟩
  case round =>
    obtain ⟨j, k, hjk, hn, hi, hb, hbl⟩ := hrel
    rcases k with _ | k
    · obtain rfl : j = 11 := by omega
      rw [show ((0 : Nat) : Int) = 0 from rfl] at hi
      subst hi hn
      have hcv := conv_back (P := Tryz.prog) (src := 49) (dst := 9) (bRow 255 11 n 11) 12 hb Tryz.underlying49 Tryz.underlying5 Tryz.underlying9
      rw [bRow_length 255 11 n 11 (Nat.le_refl _)] at hcv
      clear hb hmk
      go_wp2
      go_ret
      exact ⟨ret_str (by simp [bRow]), hbl⟩
    · rw [show ((k + 1 : Nat) : Int) = (k : Int) + 1 from rfl] at hi
      subst hi
      have hs := bRow_set 255 11 n j k (by omega)
      have hc := hb.cell_some (k + 1) (.int .u8 0) (by rw [cellsOf_at, bRow_at 255 11 n j k (by omega)]; rfl)
      have hf := hb.free (k + 1)
      have Hb := hb.put (k + 1) (.int .u8 ((UInt8.ofNat (n / 256 ^ j % 256).toNat).toNat : Int))
      rw [cellsOf_set, hs, byte_of] at Hb
      have Hnx := Lib.hid (shr_step n j)
      clear hb hs
      generalize n / 256 ^ j = m at *
      subst hn
      have hk : k + 1 < 12 := by omega
      go_wp2
      all_goals
        go_roundw
        case rel => exact ⟨j + 1, k, by omega, by rw [Hnx.out], rfl, Hb, hbl.setCell (Nat.le_refl _) _⟩
        case measure => simp [intOf]

theorem base_bad (n v : Int) (hv : isW v = false) (w : World) :
    Calls Tryz.prog 294 #[.int .i64 n, .int .i64 v] w fun e w' => e = noFieldPanic ∧ Below w.heap.size w w' := by
  go_enter Tryz.func294, Tryz.ntmps294
  go_wp2_with (go_at_call 295; refine (checkWidth_no v hv _).mono ?_; rintro e w' ⟨rfl, rfl⟩)
  exact ⟨rfl, rfl, Below.refl _ _⟩
theorem base_far (n : Int) (hn : n < -72057594037927936 ∨ 72057594037927936 ≤ n) (w : World) :
    Calls Tryz.prog 294 #[.int .i64 n, .int .i64 8] w fun e w' => e = noFieldPanic ∧ Below w.heap.size w w' := by
  have h2 : (n / 72057594037927936 != 0) = true := by simp; omega
  have h3 : (n / 72057594037927936 != -1) = true := by simp; omega
  clear hn
  go_enter Tryz.func294, Tryz.ntmps294
  go_wp2_with (go_at_call 295; refine (checkWidth_ok _ (by decide) _).mono ?_; rintro e w' ⟨rfl, rfl⟩)
  exact ⟨rfl, rfl, Below.refl _ _⟩

theorem base_yes (n v : Int) (l : List UInt8) (h : basO n v = some l) (w : World) :
    Calls Tryz.prog 294 #[.int .i64 n, .int .i64 v] w fun e w' => e = .returned (.string ⟨l.toArray⟩) ∧ Below w.heap.size w w' := by
  unfold basO at h
  split at h
  · rename_i hc
    injection h with h
    subst h
    simp only [Bool.and_eq_true, Bool.or_eq_true, decide_eq_true_eq, beq_iff_eq] at hc
    obtain ⟨hv, hr⟩ := hc
    have h : v = 8 ∨ v = 12 := by simpa [isW] using hv
    rcases h with rfl | rfl
    · by_cases h0 : n < 0
      · rw [if_pos h0]
        exact base8n n w h0 (by omega)
      · rw [if_neg h0]
        exact base8p n w (by omega) (by omega)
    · by_cases h0 : n < 0
      · rw [if_pos h0]
        exact base12n n w h0
      · rw [if_neg h0]
        exact base12p n w (by omega)
  · cases h
theorem base_no (n v : Int) (h : basO n v = none) (w : World) :
    Calls Tryz.prog 294 #[.int .i64 n, .int .i64 v] w fun e w' => e = noFieldPanic ∧ Below w.heap.size w w' := by
  rcases hv : isW v with _ | _
  · exact base_bad n v hv w
  · have hv' : v = 8 ∨ v = 12 := by simpa [isW] using hv
    rcases hv' with rfl | rfl
    · refine base_far n ?_ w
      simp [basO, hv] at h
      omega
    · simp [basO, hv] at h
end Go.Proofs.YtbhnhoenjoagbaaGreatDoor.HeadW
