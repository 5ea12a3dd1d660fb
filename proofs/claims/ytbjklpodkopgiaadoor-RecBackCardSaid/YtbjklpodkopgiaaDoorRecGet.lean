/- Walks over package rec: the number ahead, the record that bytes begin with. -/
import Derived.Test.YtbjklpodkopgiaaDoorRecWalk
import Derived.Recover
import Derived.Lib.AtoiBound
namespace Go.Proofs.YtbjklpodkopgiaaDoor
open Go.RowKit
open RecM
open Go.Lib (decDigits)
set_option linter.unusedVariables false

/-- What ends the decoding. -/
def noRec : List PanicEntry := [{ v := .iface 68 (.agg #[]), recovered := false }]
/-- The number ahead, and the index behind its blank. -/
def numF (t : List UInt8) : Option (Int × Nat) :=
  if Lib.indexByte (t.take 6) 32 < 0 then none else
  match Lib.atoi (t.take (Lib.indexByte (t.take 6) 32).toNat) with
  | none => none
  | some n => some (n, (Lib.indexByte (t.take 6) 32).toNat + 1)
def NumEnd (o : Option (Int × Nat)) (e : Ending) : Prop := match o with
  | some (n, s) => e = .returned (.tuple #[.int .i64 n, .int .i64 (s : Int)])
  | none => e = .panicked noRec
theorem ext_take (S : ByteArray) (k : Nat) : (S.extract 0 k).data.toList = S.data.toList.take k := by
  simp

theorem number_any (S : ByteArray) (hS : S.size ≤ 1000000) (w : World) (hA : Amb w) :
    Calls Tryd.prog 31 #[.string S] w fun e w' => NumEnd (numF S.data.toList) e ∧ Below w.heap.size w w' := by
  obtain ⟨n, hn⟩ : ∃ n, S.size = n := ⟨_, rfl⟩
  have hd := Lib.hid (fun W (h : Amb W) => digits_any 65536 W h (by omega))
  have h5 : digN 65536 = 5 := rfl
  rw [h5] at hd
  have hmin : min (n : Int) 6 = ((min n 6 : Nat) : Int) := by omega
  have hm6 : min n 6 ≤ 6 := by omega
  have hmn : min n 6 ≤ n := by omega
  have hL := len_list S
  rw [hn] at hL hS
  have hidx := Lib.hid (indexByte_any (S.extract 0 (min n 6)) 32 32 rfl)
  have htk : S.data.toList.take (min n 6) = S.data.toList.take 6 := by
    rcases Nat.le_total n 6 with h | h
    · rw [Nat.min_eq_left h, List.take_of_length_le (by omega), List.take_of_length_le (by omega)]
    · rw [Nat.min_eq_right h]
  rw [ext_take, htk] at hidx
  generalize min n 6 = q at *
  clear htk
  unfold numF
  rcases Int.lt_or_le (Lib.indexByte (S.data.toList.take 6) 32) 0 with hneg | hpos
  · have Hneg := Lib.hid hneg
    rw [if_pos hneg]
    generalize Lib.indexByte (S.data.toList.take 6) 32 = x at *
    have hx : decide (x < 0) = true := by simpa using hneg
    clear hneg
    go_enter Tryd.func31, Tryd.ntmps31
    go_wp2_with fail
    refine (hd.out _ hA).mono ?_
    rintro e w1 ⟨rfl, hbw1⟩
    have hzw1 := hbw1.size
    try simp at hzw1
    go_wp2_with fail
    refine (hidx.out _).mono ?_
    rintro e w' ⟨rfl, rfl⟩
    go_wp2_with fail
    exact ⟨rfl, rfl, hbw1⟩
  · rw [if_neg (by omega)]
    obtain ⟨k, hk⟩ : ∃ k : Nat, Lib.indexByte (S.data.toList.take 6) 32 = (k : Int) := ⟨_, (Int.toNat_of_nonneg hpos).symm⟩
    have hk2 := (Lib.indexByte_some hk).1
    have hk3 : k < (S.data.toList.take 6).length := (List.getElem?_eq_some_iff.1 hk2).1
    rw [List.length_take, hL] at hk3
    rw [hk] at hidx ⊢
    rw [Int.toNat_natCast]
    have hkn : k ≤ n := by omega
    have hk5 : k ≤ 5 := by omega
    have hsz : (S.extract 0 k).size ≤ 18 := by rw [← len_list, ext_take, List.length_take]; omega
    clear hk hk2 hk3 hpos
    rcases ha : Lib.atoi (S.data.toList.take k) with _ | v
    · have hat := Lib.hid (fun W (h : Amb W) => atoi_no (S.extract 0 k) hsz (by rw [ext_take]; exact ha) W h)
      clear ha
      go_enter Tryd.func31, Tryd.ntmps31
      go_wp2_with fail
      refine (hd.out _ hA).mono ?_
      rintro e w1 ⟨rfl, hbw1⟩
      have hzw1 := hbw1.size
      try simp at hzw1
      go_wp2_with fail
      refine (hidx.out _).mono ?_
      rintro e w' ⟨rfl, rfl⟩
      go_wp2_with fail
      refine (hat.out _ (hA.on hbw1)).mono ?_
      rintro e w2 ⟨N, rfl, hb2⟩
      have hbl := gr_call hbw1 hb2
      go_wp2_with fail
      exact ⟨rfl, rfl, hbl⟩
    · have hat := Lib.hid (atoi_yes (S.extract 0 k) v hsz (by rw [ext_take]; exact ha))
      have hvb := Lib.atoi_bound ha (by rw [List.length_take]; omega)
      have hvb1 := hvb.1
      have hvb2 := hvb.2
      clear ha hvb
      go_enter Tryd.func31, Tryd.ntmps31
      go_wp2_with fail
      refine (hd.out _ hA).mono ?_
      rintro e w1 ⟨rfl, hbw1⟩
      have hzw1 := hbw1.size
      try simp at hzw1
      go_wp2_with fail
      refine (hidx.out _).mono ?_
      rintro e w' ⟨rfl, rfl⟩
      go_wp2_with fail
      refine (hat.out _).mono ?_
      rintro e w2 ⟨rfl, hb2⟩
      have hbl := gr_call hbw1 hb2
      go_wp2_with fail
      go_ret2
      exact ⟨rfl, hbl⟩

theorem get_num (t : List UInt8) : getF t = match numF t with
    | none => none
    | some (n, s) => if n < (s : Int) ∨ (t.length : Int) < n then none else
      if putF (Lib.cut (Lib.trimSuffix ((t.take n.toNat).drop s) [10]) [61]).1 (Lib.cut (Lib.trimSuffix ((t.take n.toNat).drop s) [10]) [61]).2.1 = t.take n.toNat
      then some ((Lib.cut (Lib.trimSuffix ((t.take n.toNat).drop s) [10]) [61]).1, (Lib.cut (Lib.trimSuffix ((t.take n.toNat).drop s) [10]) [61]).2.1, n.toNat) else none := by
  unfold getF numF
  split
  · rfl
  · split
    · rename_i h; rw [h]
    · rename_i h1 n h; rw [h]
      have e : Lib.indexByte (t.take 6) 32 + 1 = (((Lib.indexByte (t.take 6) 32).toNat + 1 : Nat) : Int) := by omega
      simp only [e]
theorem num_pos {t : List UInt8} {n : Int} {s : Nat} (h : numF t = some (n, s)) : 1 ≤ s ∧ s ≤ t.length := by
  unfold numF at h
  split at h
  · cases h
  · rename_i h0
    split at h
    · cases h
    · simp only [Option.some.injEq, Prod.mk.injEq] at h
      obtain ⟨_, rfl⟩ := h
      obtain ⟨k, hk⟩ : ∃ k : Nat, Lib.indexByte (t.take 6) 32 = (k : Int) := ⟨_, (Int.toNat_of_nonneg (by omega)).symm⟩
      have hk2 := (Lib.indexByte_some hk).1
      have hk3 : k < (t.take 6).length := (List.getElem?_eq_some_iff.1 hk2).1
      rw [List.length_take] at hk3
      rw [hk]
      omega
theorem cut_len (l : List UInt8) : (Lib.cut l [61]).1.length + (Lib.cut l [61]).2.1.length ≤ l.length := by
  unfold Lib.cut
  split
  · simp only [List.length_take, List.length_drop]
    omega
  · simp
theorem ext_mid (S : ByteArray) (a b : Nat) : (S.extract a b).data.toList = (S.data.toList.take b).drop a := by
  simp [List.drop_take]

/-- How the decoding ends. -/
def DecEnd (o : Option (List UInt8 × List UInt8 × Nat)) (e : Ending) : Prop := match o with
  | some (k, v, n) => e = .returned (.tuple #[.agg #[.string (strOf k), .string (strOf v)], .int .i64 (n : Int)])
  | none => e = .panicked noRec

set_option maxHeartbeats 1600000 in
theorem decode_any (S : ByteArray) (hS : S.size ≤ 90000) (w : World) (hA : Amb w) :
    Calls Tryd.prog 23 #[.string S] w fun e w' => DecEnd (getF S.data.toList) e ∧ Below w.heap.size w w' := by
  have hnum := number_any S (by omega)
  rw [get_num]
  obtain ⟨z, hz⟩ : ∃ z, S.size = z := ⟨_, rfl⟩
  have hL := len_list S
  rw [hz] at hL hS
  rcases hn : numF S.data.toList with _ | ⟨n, s⟩
  · rw [hn] at hnum
    have hnum := Lib.hid hnum
    clear hn
    go_enter Tryd.func23, Tryd.ntmps23
    go_wp2_with fail
    refine (hnum.out _ (hA.on (by (repeat' (first | exact Below.refl _ _ | assumption | refine gr_drew ?_ | refine gr_drewN ?_ _ | refine gr_alloc ?_ _ | refine gr_set ?_ ?_ _ | refine gr_call ?_ (by assumption)) <;> (try (simp; done)) <;> (try (simp; omega)) <;> (try omega))))).mono ?_
    rintro e w1 ⟨he, hb1⟩
    obtain rfl : e = .panicked noRec := he
    have hbl := gr_call (gr_alloc (Below.refl _ w) _) hb1
    go_wp2_with fail
    exact ⟨rfl, rfl, hbl⟩
  · have hsp := num_pos hn
    have hs1 := hsp.1
    have hs2 := hsp.2
    rw [hn] at hnum
    have hnum := Lib.hid hnum
    rw [hL] at hs2 ⊢
    clear hn hsp
    dsimp only
    by_cases hlt : n < (s : Int)
    · have hlt' : decide (n < (s : Int)) = true := by simpa using hlt
      rw [if_pos (Or.inl hlt)]
      clear hlt
      go_enter Tryd.func23, Tryd.ntmps23
      go_wp2_with fail
      refine (hnum.out _ (hA.on (by (repeat' (first | exact Below.refl _ _ | assumption | refine gr_drew ?_ | refine gr_drewN ?_ _ | refine gr_alloc ?_ _ | refine gr_set ?_ ?_ _ | refine gr_call ?_ (by assumption)) <;> (try (simp; done)) <;> (try (simp; omega)) <;> (try omega))))).mono ?_
      rintro e w1 ⟨he, hb1⟩
      obtain rfl : e = .returned (.tuple #[.int .i64 n, .int .i64 (s : Int)]) := he
      have hbl := gr_call (gr_alloc (Below.refl _ w) _) hb1
      go_wp2_with fail
      exact ⟨rfl, rfl, hbl⟩
    · have hlt' : decide (n < (s : Int)) = false := by simpa using hlt
      by_cases hgt : (z : Int) < n
      · have hgt' : decide ((z : Int) < n) = true := by simpa using hgt
        rw [if_pos (Or.inr hgt)]
        clear hlt hgt
        go_enter Tryd.func23, Tryd.ntmps23
        go_wp2_with fail
        refine (hnum.out _ (hA.on (by (repeat' (first | exact Below.refl _ _ | assumption | refine gr_drew ?_ | refine gr_drewN ?_ _ | refine gr_alloc ?_ _ | refine gr_set ?_ ?_ _ | refine gr_call ?_ (by assumption)) <;> (try (simp; done)) <;> (try (simp; omega)) <;> (try omega))))).mono ?_
        rintro e w1 ⟨he, hb1⟩
        obtain rfl : e = .returned (.tuple #[.int .i64 n, .int .i64 (s : Int)]) := he
        have hbl := gr_call (gr_alloc (Below.refl _ w) _) hb1
        go_wp2_with fail
        exact ⟨rfl, rfl, hbl⟩
      · have hgt' : decide ((z : Int) < n) = false := by simpa using hgt
        rw [if_neg (by omega)]
        obtain ⟨m, rfl⟩ : ∃ m : Nat, n = (m : Int) := ⟨_, (Int.toNat_of_nonneg (by omega)).symm⟩
        rw [Int.toNat_natCast]
        have hsm : s ≤ m := by omega
        have hmz : m ≤ z := by omega
        clear hlt hgt
        have htrim := Lib.hid (trim_any (S.extract s m))
        rw [ext_mid] at htrim
        have hesz : (S.extract s m).size ≤ 9223372036854775807 := by rw [← len_list, ext_mid, List.length_drop, List.length_take]; omega
        have hbl := Lib.trimSuffix_le ((S.data.toList.take m).drop s) [10]
        rw [List.length_drop, List.length_take] at hbl
        generalize hbd : Lib.trimSuffix ((S.data.toList.take m).drop s) [10] = body at *
        have hbz : (strOf body).size < 4294967281 := by rw [strOf_size]; omega
        have hcut := Lib.hid (cut_any (strOf body))
        rw [strOf_list] at hcut
        have hcl := cut_len body
        generalize (Lib.cut body [61]).2.2 = found at *
        generalize (Lib.cut body [61]).1 = K at *
        generalize (Lib.cut body [61]).2.1 = V at *
        have hput := Lib.hid (fun W (h : Amb W) => put_any (strOf K) (strOf V) (by rw [strOf_size, strOf_size]; omega) W h)
        rw [strOf_list, strOf_list] at hput
        have hkz : (strOf K).size ≤ 281474976710656 := by rw [strOf_size]; omega
        have hvz : (strOf V).size ≤ 281474976710656 := by rw [strOf_size]; omega
        have hcmp := str_beq (strOf (putF K V)) (S.extract 0 m)
        rw [strOf_list, ext_take] at hcmp
        generalize strOf (putF K V) = P at *
        clear hbd hbl hcl
        by_cases heq : putF K V = S.data.toList.take m
        · rw [decide_eq_true heq] at hcmp
          rw [if_pos heq]
          clear heq
          go_enter Tryd.func23, Tryd.ntmps23
          go_wp2_with fail
          refine (hnum.out _ (hA.on (by (repeat' (first | exact Below.refl _ _ | assumption | refine gr_drew ?_ | refine gr_drewN ?_ _ | refine gr_alloc ?_ _ | refine gr_set ?_ ?_ _ | refine gr_call ?_ (by assumption)) <;> (try (simp; done)) <;> (try (simp; omega)) <;> (try omega))))).mono ?_
          rintro e w1 ⟨he, hbw1⟩
          obtain rfl : e = .returned (.tuple #[.int .i64 (m : Int), .int .i64 (s : Int)]) := he
          have hzw1 := hbw1.size
          try simp at hzw1
          have : w.heap.size < w1.heap.size := by omega
          have : w.heap.size ≤ w1.heap.size := by omega
          have : w1.cell? ⟨w.heap.size, 0, none⟩ = some (.string ⟨#[]⟩) := cell_kept hbw1 (by simp [go_sem, *])
          have : w1.frozen? ⟨w.heap.size, 0, none⟩ = false := free_kept hbw1 (v := .string ⟨#[]⟩) (by simp [go_sem, *]) (by simp [go_sem, *])
          have : w.heap.size < w1.heap.size := by omega
          have : w.heap.size ≤ w1.heap.size := by omega
          have : w1.cell? ⟨w.heap.size, 1, none⟩ = some (.string ⟨#[]⟩) := cell_kept hbw1 (by simp [go_sem, *])
          have : w1.frozen? ⟨w.heap.size, 1, none⟩ = false := free_kept hbw1 (v := .string ⟨#[]⟩) (by simp [go_sem, *]) (by simp [go_sem, *])
          go_wp2_with fail
          refine (htrim.out _ hesz).mono ?_
          rintro e w' ⟨rfl, rfl⟩
          go_wp2_with fail
          refine (hcut.out _ (hA.on (by (repeat' (first | exact Below.refl _ _ | assumption | refine gr_drew ?_ | refine gr_drewN ?_ _ | refine gr_alloc ?_ _ | refine gr_set ?_ ?_ _ | refine gr_call ?_ (by assumption)) <;> (try (simp; done)) <;> (try (simp; omega)) <;> (try omega)))) hbz).mono ?_
          rintro e w2 ⟨rfl, hbw2⟩
          have hzw2 := hbw2.size
          have : w.heap.size < w2.heap.size := by omega
          have : w.heap.size ≤ w2.heap.size := by omega
          have : w2.cell? ⟨w.heap.size, 0, none⟩ = some (.string ⟨#[]⟩) := cell_kept hbw2 (by simp [go_sem, *])
          have : w2.frozen? ⟨w.heap.size, 0, none⟩ = false := free_kept hbw2 (v := .string ⟨#[]⟩) (by simp [go_sem, *]) (by simp [go_sem, *])
          have : w.heap.size < w2.heap.size := by omega
          have : w.heap.size ≤ w2.heap.size := by omega
          have : w2.cell? ⟨w.heap.size, 1, none⟩ = some (.string ⟨#[]⟩) := cell_kept hbw2 (by simp [go_sem, *])
          have : w2.frozen? ⟨w.heap.size, 1, none⟩ = false := free_kept hbw2 (v := .string ⟨#[]⟩) (by simp [go_sem, *]) (by simp [go_sem, *])
          have hB1 : Below w.heap.size w ((w2.setCell ⟨w.heap.size, 0, none⟩ (.string (strOf K))).setCell ⟨w.heap.size, 1, none⟩ (.string (strOf V))) := by (repeat' (first | exact Below.refl _ _ | assumption | refine gr_drew ?_ | refine gr_drewN ?_ _ | refine gr_alloc ?_ _ | refine gr_set ?_ ?_ _ | refine gr_call ?_ (by assumption)) <;> (try (simp; done)) <;> (try (simp; omega)) <;> (try omega))
          have hA1 := hA.on (gr_drew hB1)
          have hP := pair_set (.string (strOf K)) (.string (strOf V)) (show w2.cell? ⟨w.heap.size, 0, none⟩ = some (.string ⟨#[]⟩) by assumption) (show w2.cell? ⟨w.heap.size, 1, none⟩ = some (.string ⟨#[]⟩) by assumption)
          have hP1 := hP.1
          have hP2 := hP.2
          have hF1 : ((w2.setCell ⟨w.heap.size, 0, none⟩ (.string (strOf K))).setCell ⟨w.heap.size, 1, none⟩ (.string (strOf V))).drew.frozen? ⟨w.heap.size, 0, none⟩ = false := by simp [go_sem, *]
          have hF2 : ((w2.setCell ⟨w.heap.size, 0, none⟩ (.string (strOf K))).setCell ⟨w.heap.size, 1, none⟩ (.string (strOf V))).drew.frozen? ⟨w.heap.size, 1, none⟩ = false := by simp [go_sem, *]
          clear hP
          go_wp2_with fail
          generalize ((w2.setCell ⟨w.heap.size, 0, none⟩ (.string (strOf K))).setCell ⟨w.heap.size, 1, none⟩ (.string (strOf V))) = w3 at *
          go_region_held3 (fun w' => Amb w' ∧ Below w.heap.size w w' ∧ w'.cell? ⟨w.heap.size, 0, none⟩ = some (.string (strOf K)) ∧ w'.cell? ⟨w.heap.size, 1, none⟩ = some (.string (strOf V)) ∧ w'.frozen? ⟨w.heap.size, 0, none⟩ = false ∧ w'.frozen? ⟨w.heap.size, 1, none⟩ = false)
            (first | (go_keep; done) | (go_split_ands; (repeat' apply And.intro) <;> (first | assumption | exact Amb.on (by assumption) hb1 | exact gr_call (by assumption) hb1 | exact cell_kept hb1 (by assumption) | exact free_kept hb1 (by assumption) (by assumption) | (show Below _ _ _; (repeat' (first | exact Below.refl _ _ | assumption | refine gr_drew ?_ | refine gr_drewN ?_ _ | refine gr_alloc ?_ _ | refine gr_set ?_ ?_ _ | refine gr_call ?_ (by assumption)) <;> (try (simp; done)) <;> (try (simp; omega)) <;> (try omega)); done) | (go_keep; done) | (simp [go_sem, *]; done))))
            (first | (go_at_call 15; go_split_ands; refine (hput.out _ (by assumption)).mono ?_; rintro e w1 ⟨rfl, hb1⟩))
          all_goals
            go_split_ands
            go_wp2_with fail
            have e1 : Below w.heap.size w w1 := by assumption
            have e2 := gr_drew e1
            have e3 := hA.on e2
            have c1 : w1.drew.cell? ⟨w.heap.size, 0, none⟩ = some (.string (strOf K)) := (show w1.cell? ⟨w.heap.size, 0, none⟩ = some (.string (strOf K)) by assumption)
            have c2 : w1.drew.cell? ⟨w.heap.size, 1, none⟩ = some (.string (strOf V)) := (show w1.cell? ⟨w.heap.size, 1, none⟩ = some (.string (strOf V)) by assumption)
            have c3 : w1.drew.frozen? ⟨w.heap.size, 0, none⟩ = false := (show w1.frozen? ⟨w.heap.size, 0, none⟩ = false by assumption)
            have c4 : w1.drew.frozen? ⟨w.heap.size, 1, none⟩ = false := (show w1.frozen? ⟨w.heap.size, 1, none⟩ = false by assumption)
            have hlt3 : w.heap.size < w1.drew.heap.size := block_lt c1
            clear hB1 hA1 hP1 hP2 hF1 hF2 hcmp hcut hput hnum htrim hbw1 hbw2
            go_region_held3 (fun w' => Below w.heap.size w w' ∧ w'.cell? ⟨w.heap.size, 0, none⟩ = some (.string (strOf K)) ∧ w'.cell? ⟨w.heap.size, 1, none⟩ = some (.string (strOf V)) ∧ w'.frozen? ⟨w.heap.size, 0, none⟩ = false ∧ w'.frozen? ⟨w.heap.size, 1, none⟩ = false)
              (first | (go_keep; done) | (go_split_ands; (repeat' apply And.intro) <;> (first | assumption | exact Amb.on (by assumption) hb1 | exact gr_call (by assumption) hb1 | exact cell_kept hb1 (by assumption) | exact free_kept hb1 (by assumption) (by assumption) | (show Below _ _ _; (repeat' (first | exact Below.refl _ _ | assumption | refine gr_drew ?_ | refine gr_drewN ?_ _ | refine gr_alloc ?_ _ | refine gr_set ?_ ?_ _ | refine gr_call ?_ (by assumption)) <;> (try (simp; done)) <;> (try (simp; omega)) <;> (try omega)); done) | (go_keep; done) | (simp [go_sem, *]; done))))
              (first | (go_at_call 34; go_split_ands; refine (clone_any _ _ (by assumption)).mono ?_; rintro e w1 ⟨rfl, hb1⟩))
            all_goals
              go_split_ands
              go_wp2_with fail
              exact bodyPost_ret (v := .tuple #[.agg #[.string (strOf K), .string (strOf V)], .int .i64 (m : Int)]) (by simp [results, Tryd.results23, go_sem, *]) rfl ⟨rfl, by assumption⟩
        · rw [decide_eq_false heq] at hcmp
          rw [if_neg heq]
          clear heq
          go_enter Tryd.func23, Tryd.ntmps23
          go_wp2_with fail
          refine (hnum.out _ (hA.on (by (repeat' (first | exact Below.refl _ _ | assumption | refine gr_drew ?_ | refine gr_drewN ?_ _ | refine gr_alloc ?_ _ | refine gr_set ?_ ?_ _ | refine gr_call ?_ (by assumption)) <;> (try (simp; done)) <;> (try (simp; omega)) <;> (try omega))))).mono ?_
          rintro e w1 ⟨he, hbw1⟩
          obtain rfl : e = .returned (.tuple #[.int .i64 (m : Int), .int .i64 (s : Int)]) := he
          have hzw1 := hbw1.size
          try simp at hzw1
          have : w.heap.size < w1.heap.size := by omega
          have : w.heap.size ≤ w1.heap.size := by omega
          have : w1.cell? ⟨w.heap.size, 0, none⟩ = some (.string ⟨#[]⟩) := cell_kept hbw1 (by simp [go_sem, *])
          have : w1.frozen? ⟨w.heap.size, 0, none⟩ = false := free_kept hbw1 (v := .string ⟨#[]⟩) (by simp [go_sem, *]) (by simp [go_sem, *])
          have : w.heap.size < w1.heap.size := by omega
          have : w.heap.size ≤ w1.heap.size := by omega
          have : w1.cell? ⟨w.heap.size, 1, none⟩ = some (.string ⟨#[]⟩) := cell_kept hbw1 (by simp [go_sem, *])
          have : w1.frozen? ⟨w.heap.size, 1, none⟩ = false := free_kept hbw1 (v := .string ⟨#[]⟩) (by simp [go_sem, *]) (by simp [go_sem, *])
          go_wp2_with fail
          refine (htrim.out _ hesz).mono ?_
          rintro e w' ⟨rfl, rfl⟩
          go_wp2_with fail
          refine (hcut.out _ (hA.on (by (repeat' (first | exact Below.refl _ _ | assumption | refine gr_drew ?_ | refine gr_drewN ?_ _ | refine gr_alloc ?_ _ | refine gr_set ?_ ?_ _ | refine gr_call ?_ (by assumption)) <;> (try (simp; done)) <;> (try (simp; omega)) <;> (try omega)))) hbz).mono ?_
          rintro e w2 ⟨rfl, hbw2⟩
          have hzw2 := hbw2.size
          have : w.heap.size < w2.heap.size := by omega
          have : w.heap.size ≤ w2.heap.size := by omega
          have : w2.cell? ⟨w.heap.size, 0, none⟩ = some (.string ⟨#[]⟩) := cell_kept hbw2 (by simp [go_sem, *])
          have : w2.frozen? ⟨w.heap.size, 0, none⟩ = false := free_kept hbw2 (v := .string ⟨#[]⟩) (by simp [go_sem, *]) (by simp [go_sem, *])
          have : w.heap.size < w2.heap.size := by omega
          have : w.heap.size ≤ w2.heap.size := by omega
          have : w2.cell? ⟨w.heap.size, 1, none⟩ = some (.string ⟨#[]⟩) := cell_kept hbw2 (by simp [go_sem, *])
          have : w2.frozen? ⟨w.heap.size, 1, none⟩ = false := free_kept hbw2 (v := .string ⟨#[]⟩) (by simp [go_sem, *]) (by simp [go_sem, *])
          have hB1 : Below w.heap.size w ((w2.setCell ⟨w.heap.size, 0, none⟩ (.string (strOf K))).setCell ⟨w.heap.size, 1, none⟩ (.string (strOf V))) := by (repeat' (first | exact Below.refl _ _ | assumption | refine gr_drew ?_ | refine gr_drewN ?_ _ | refine gr_alloc ?_ _ | refine gr_set ?_ ?_ _ | refine gr_call ?_ (by assumption)) <;> (try (simp; done)) <;> (try (simp; omega)) <;> (try omega))
          have hA1 := hA.on (gr_drew hB1)
          have hP := pair_set (.string (strOf K)) (.string (strOf V)) (show w2.cell? ⟨w.heap.size, 0, none⟩ = some (.string ⟨#[]⟩) by assumption) (show w2.cell? ⟨w.heap.size, 1, none⟩ = some (.string ⟨#[]⟩) by assumption)
          have hP1 := hP.1
          have hP2 := hP.2
          have hF1 : ((w2.setCell ⟨w.heap.size, 0, none⟩ (.string (strOf K))).setCell ⟨w.heap.size, 1, none⟩ (.string (strOf V))).drew.frozen? ⟨w.heap.size, 0, none⟩ = false := by simp [go_sem, *]
          have hF2 : ((w2.setCell ⟨w.heap.size, 0, none⟩ (.string (strOf K))).setCell ⟨w.heap.size, 1, none⟩ (.string (strOf V))).drew.frozen? ⟨w.heap.size, 1, none⟩ = false := by simp [go_sem, *]
          clear hP
          go_wp2_with fail
          generalize ((w2.setCell ⟨w.heap.size, 0, none⟩ (.string (strOf K))).setCell ⟨w.heap.size, 1, none⟩ (.string (strOf V))) = w3 at *
          go_region_held3 (fun w' => Amb w' ∧ Below w.heap.size w w' ∧ w'.cell? ⟨w.heap.size, 0, none⟩ = some (.string (strOf K)) ∧ w'.cell? ⟨w.heap.size, 1, none⟩ = some (.string (strOf V)) ∧ w'.frozen? ⟨w.heap.size, 0, none⟩ = false ∧ w'.frozen? ⟨w.heap.size, 1, none⟩ = false)
            (first | (go_keep; done) | (go_split_ands; (repeat' apply And.intro) <;> (first | assumption | exact Amb.on (by assumption) hb1 | exact gr_call (by assumption) hb1 | exact cell_kept hb1 (by assumption) | exact free_kept hb1 (by assumption) (by assumption) | (show Below _ _ _; (repeat' (first | exact Below.refl _ _ | assumption | refine gr_drew ?_ | refine gr_drewN ?_ _ | refine gr_alloc ?_ _ | refine gr_set ?_ ?_ _ | refine gr_call ?_ (by assumption)) <;> (try (simp; done)) <;> (try (simp; omega)) <;> (try omega)); done) | (go_keep; done) | (simp [go_sem, *]; done))))
            (first | (go_at_call 15; go_split_ands; refine (hput.out _ (by assumption)).mono ?_; rintro e w1 ⟨rfl, hb1⟩))
          all_goals
            go_split_ands
            go_wp2_with fail
            exact ⟨rfl, rfl, by assumption⟩
end Go.Proofs.YtbjklpodkopgiaaDoor
