/- Walks over package head: checksum, mayTexts, mayNumbers, May. -/
import Derived.Test.YtbhnhoenjoagbaaGreatDoorPk03
namespace Go.Proofs.YtbhnhoenjoagbaaGreatDoor.HeadW
open Go.RowKit
open HeadM NumM
set_option linter.unusedVariables false

theorem sumL_snoc (l : List UInt8) (c : UInt8) : sumL (l ++ [c]) = sumL l + c.toNat := by simp [sumL]
theorem sumL_app (a b : List UInt8) : sumL (a ++ b) = sumL a + sumL b := by simp [sumL]
theorem sumL_le (l : List UInt8) : sumL l ≤ 255 * l.length := by
  induction l with
  | nil => simp [sumL]
  | cons c l ih =>
    have := c.toNat_lt
    simp only [sumL, List.map_cons, List.sum_cons, List.length_cons] at *
    omega
theorem take_succ_L (s : ByteArray) (k : Nat) (h : k < s.size) : (L s).take (k + 1) = (L s).take k ++ [s[k]] := by
  have : k < (L s).length := by rw [size_L]; exact h
  rw [List.take_succ_eq_append_getElem this]
  rfl
theorem octO_sum (n : Nat) (h : n < 2097152) : octO (n : Int) 8 = some (digs 7 n ++ [0]) := by
  unfold octO
  have h2 : (isW 8 && decide (0 ≤ (n : Int)) && decide ((n : Int) < 8 ^ (Int.toNat 8 - 1))) = true := by
    have : (8 : Int) ^ (Int.toNat 8 - 1) = 2097152 := by decide
    rw [this]
    simp [isW]
    omega
  rw [if_pos h2]
  rfl
theorem chk_of (n : Nat) : (strOf (digs 7 n ++ [0])).extract 1 (strOf (digs 7 n ++ [0])).size ++ ⟨#[32]⟩ = strOf (chkL n) := by
  apply str_L
  rw [L_app]
  have e : L ((strOf (digs 7 n ++ [0])).extract 1 (strOf (digs 7 n ++ [0])).size) = digs 6 n ++ [0] := by
    show ((strOf (digs 7 n ++ [0])).extract 1 _).data.toList = _
    rw [Lib.extract_data, strOf_sz, digs_cons]
    simp only [strOf, List.cons_append, List.drop_succ_cons, List.drop_zero]
    exact List.take_of_length_le (by simp [digs_length])
  rw [e]
  unfold chkL
  rw [List.append_assoc]
  rfl

theorem checksum_any (s : ByteArray) (hs : s.size ≤ 8000) (w : World) :
    Calls Tryz.prog 154 #[.string s] w fun e w' => e = .returned (.string (strOf (chkL (sumL (L s))))) ∧ Below w.heap.size w w' := by
  have hoct := Lib.hid (fun (n : Nat) (h : n < 2097152) => Octal_yes (n : Int) 8 _ (octO_sum n h))
  go_enter Tryz.func154, Tryz.ntmps154
  go_wp2_with fail
  go_loop [3, 4, 9] (fun sv _ iv => ∃ k : Nat, k ≤ s.size ∧ iv = .int .i64 (k : Int) ∧ sv = .int .i64 (sumL ((L s).take k) : Int)) (fun _ _ iv => s.size - (intOf iv).toNat)
  case atStart => exact ⟨0, Nat.zero_le _, rfl, rfl⟩
  case round =>
    obtain ⟨k, hk, rfl, rfl⟩ := hrel
    have hb := sumL_le ((L s).take k)
    have hb2 : ((L s).take k).length ≤ 8000 := by have := List.length_take_le k (L s); omega
    by_cases hlt : k < s.size
    · have hb1 := sumL_le ((L s).take (k + 1))
      have hb3 : ((L s).take (k + 1)).length ≤ 8000 := by rw [List.length_take, size_L]; omega
      have Hs := Lib.hid (show (sumL ((L s).take (k + 1)) : Int) = (sumL ((L s).take k) : Int) + ((s[k]'hlt).toNat : Int) by
        rw [take_succ_L s k hlt, sumL_snoc]; rfl)
      have hc := (s[k]'hlt).toNat_lt
      obtain ⟨m', hm'⟩ : ∃ m', sumL ((L s).take (k + 1)) = m' := ⟨_, rfl⟩
      rw [hm'] at Hs hb1
      have HM := Lib.hid hm'
      clear hm'
      generalize sumL ((L s).take k) = m at *
      have hm : m ≤ 2040000 := by omega
      clear hb hb2 hb1 hb3
      have hd : (k : Int) < (s.size : Int) := by omega
      go_wp2
      all_goals
        go_round
        case rel => exact ⟨k + 1, by omega, by go_num, by rw [HM.out, Hs.out]⟩
        case measure => simp [intOf]; omega
    · obtain rfl : k = s.size := by omega
      have e : (L s).take s.size = L s := List.take_of_length_le (by rw [size_L]; exact Nat.le_refl _)
      rw [e] at hb hb2 ⊢
      have hd : ¬ (s.size : Int) < (s.size : Int) := by omega
      obtain ⟨n, hn'⟩ : ∃ n, sumL (L s) = n := ⟨_, rfl⟩
      rw [hn'] at hb ⊢
      have HN := Lib.hid hn'
      clear hn'
      have hn : n < 2097152 := by omega
      have ho := Lib.hid (show ∀ w, Calls Tryz.prog 205 #[.int .i64 (n : Int), .int .i64 8] w fun e w' => e = .returned (.tuple #[.string (strOf (digs 7 n ++ [0])), .bool true]) ∧ Below w.heap.size w w' from hoct.out n hn)
      have hc := Lib.hid (chk_of n)
      have hz : (strOf (digs 7 n ++ [0])).size = 8 := by rw [strOf_sz]; simp [digs_length]
      generalize strOf (digs 7 n ++ [0]) = D at *
      rw [hz] at hc
      have hez : (D.extract 1 8).size = 7 := by simp [hz]
      clear hb hb2 hoct e hlt
      go_wp2_with fail
      refine (ho.out _).mono ?_
      rintro e w1 ⟨rfl, hb1⟩
      go_wp2_with fail
      go_ret
      exact ⟨ret_str (by rw [HN.out]; exact hc.out), hb1⟩

theorem b2 : ∀ {a b : Bool}, a = true → b = true → (a && b) = true := by decide
theorem mayTexts_any (h : Hd) (w : World) :
    Calls Tryz.prog 202 #[.agg #[.string h.name, .int .i64 h.mode, .int .i64 h.uid, .int .i64 h.gid, .int .i64 h.size, .int .i64 h.mtime, .int .u8 (h.typ.toNat : Int), .string h.link, .string h.uname, .string h.gname, .int .i64 h.major, .int .i64 h.minor, .string h.pre]] w fun e w' => e = .returned (.bool (mayTs h)) ∧ Below w.heap.size w w' := by
  have c100 := fun s w => mayText_any s 100 100 rfl w
  have c32 := fun s w => mayText_any s 32 32 rfl w
  have c155 := fun s w => mayText_any s 155 155 rfl w
  unfold mayTs
  rcases h1 : mayT (L h.name) 100 with _ | _
  · go_enter Tryz.func202, Tryz.ntmps202
    go_wp2_with fail
    refine (c100 _ _).mono ?_
    rintro e w' ⟨rfl, rfl⟩
    go_wp2_with fail
    go_ret
    exact ⟨rfl, by (repeat' (first | exact Below.refl _ _ | assumption | refine gr_drew ?_ | refine gr_drewN ?_ _ | refine gr_alloc ?_ _ | refine gr_set ?_ ?_ _ | refine gr_call ?_ (by assumption)) <;> (try (simp; done)) <;> (try (simp; omega)) <;> (try omega))⟩
  rcases h2 : mayT (L h.link) 100 with _ | _
  · go_enter Tryz.func202, Tryz.ntmps202
    go_wp2_with fail
    refine (c100 _ _).mono ?_
    rintro e w' ⟨rfl, rfl⟩
    go_wp2_with fail
    refine (c100 _ _).mono ?_
    rintro e w' ⟨rfl, rfl⟩
    go_wp2_with fail
    go_ret
    exact ⟨rfl, by (repeat' (first | exact Below.refl _ _ | assumption | refine gr_drew ?_ | refine gr_drewN ?_ _ | refine gr_alloc ?_ _ | refine gr_set ?_ ?_ _ | refine gr_call ?_ (by assumption)) <;> (try (simp; done)) <;> (try (simp; omega)) <;> (try omega))⟩
  rcases h3 : mayT (L h.uname) 32 with _ | _
  · go_enter Tryz.func202, Tryz.ntmps202
    go_wp2_with fail
    refine (c100 _ _).mono ?_
    rintro e w' ⟨rfl, rfl⟩
    go_wp2_with fail
    refine (c100 _ _).mono ?_
    rintro e w' ⟨rfl, rfl⟩
    go_wp2_with fail
    refine (c32 _ _).mono ?_
    rintro e w' ⟨rfl, rfl⟩
    go_wp2_with fail
    go_ret
    exact ⟨rfl, by (repeat' (first | exact Below.refl _ _ | assumption | refine gr_drew ?_ | refine gr_drewN ?_ _ | refine gr_alloc ?_ _ | refine gr_set ?_ ?_ _ | refine gr_call ?_ (by assumption)) <;> (try (simp; done)) <;> (try (simp; omega)) <;> (try omega))⟩
  rcases h4 : mayT (L h.gname) 32 with _ | _
  · go_enter Tryz.func202, Tryz.ntmps202
    go_wp2_with fail
    refine (c100 _ _).mono ?_
    rintro e w' ⟨rfl, rfl⟩
    go_wp2_with fail
    refine (c100 _ _).mono ?_
    rintro e w' ⟨rfl, rfl⟩
    go_wp2_with fail
    refine (c32 _ _).mono ?_
    rintro e w' ⟨rfl, rfl⟩
    go_wp2_with fail
    refine (c32 _ _).mono ?_
    rintro e w' ⟨rfl, rfl⟩
    go_wp2_with fail
    go_ret
    exact ⟨rfl, by (repeat' (first | exact Below.refl _ _ | assumption | refine gr_drew ?_ | refine gr_drewN ?_ _ | refine gr_alloc ?_ _ | refine gr_set ?_ ?_ _ | refine gr_call ?_ (by assumption)) <;> (try (simp; done)) <;> (try (simp; omega)) <;> (try omega))⟩
  go_enter Tryz.func202, Tryz.ntmps202
  go_wp2_with fail
  refine (c100 _ _).mono ?_
  rintro e w' ⟨rfl, rfl⟩
  go_wp2_with fail
  refine (c100 _ _).mono ?_
  rintro e w' ⟨rfl, rfl⟩
  go_wp2_with fail
  refine (c32 _ _).mono ?_
  rintro e w' ⟨rfl, rfl⟩
  go_wp2_with fail
  refine (c32 _ _).mono ?_
  rintro e w' ⟨rfl, rfl⟩
  go_wp2_with fail
  refine (c155 _ _).mono ?_
  rintro e w' ⟨rfl, rfl⟩
  go_wp2_with fail
  go_ret
  exact ⟨rfl, by (repeat' (first | exact Below.refl _ _ | assumption | refine gr_drew ?_ | refine gr_drewN ?_ _ | refine gr_alloc ?_ _ | refine gr_set ?_ ?_ _ | refine gr_call ?_ (by assumption)) <;> (try (simp; done)) <;> (try (simp; omega)) <;> (try omega))⟩

def ns5 (h : Hd) : Nat → Int
  | 0 => h.mode
  | 1 => h.uid
  | 2 => h.gid
  | 3 => h.major
  | _ => h.minor
theorem mayNs_all (h : Hd) : mayNs h = (mayN (ns5 h 0) 8 && (mayN (ns5 h 1) 8 && (mayN (ns5 h 2) 8 && (mayN (ns5 h 3) 8 && (mayN (ns5 h 4) 8 && (mayN h.size 12 && hasF h.mtime 12)))))) := rfl
theorem mayNs_no {h : Hd} {k : Nat} (hk : k < 5) (h1 : mayN (ns5 h k) 8 = false) : mayNs h = false := by
  rw [mayNs_all]
  have : k = 0 ∨ k = 1 ∨ k = 2 ∨ k = 3 ∨ k = 4 := by omega
  rcases this with rfl | rfl | rfl | rfl | rfl <;> simp [h1]
theorem mayNs_yes {h : Hd} (h1 : ∀ k, k < 5 → mayN (ns5 h k) 8 = true) : mayNs h = (mayN h.size 12 && hasF h.mtime 12) := by
  rw [mayNs_all, h1 0 (by omega), h1 1 (by omega), h1 2 (by omega), h1 3 (by omega), h1 4 (by omega)]
  rfl
theorem mayNumbers_any (h : Hd) (w : World) :
    Calls Tryz.prog 203 #[.agg #[.string h.name, .int .i64 h.mode, .int .i64 h.uid, .int .i64 h.gid, .int .i64 h.size, .int .i64 h.mtime, .int .u8 (h.typ.toNat : Int), .string h.link, .string h.uname, .string h.gname, .int .i64 h.major, .int .i64 h.minor, .string h.pre]] w fun e w' => e = .returned (.bool (mayNs h)) ∧ Below w.heap.size w w' := by
  have ix0 : ∀ w, (Instr.index 220 (.agg #[.int .i64 h.mode, .int .i64 h.uid, .int .i64 h.gid, .int .i64 h.major, .int .i64 h.minor]) (.int .i64 0)).run Tryz.prog w = .ok (.int .i64 h.mode) w := fun w => by kernel_rfl
  have ix1 : ∀ w, (Instr.index 220 (.agg #[.int .i64 h.mode, .int .i64 h.uid, .int .i64 h.gid, .int .i64 h.major, .int .i64 h.minor]) (.int .i64 1)).run Tryz.prog w = .ok (.int .i64 h.uid) w := fun w => by kernel_rfl
  have ix2 : ∀ w, (Instr.index 220 (.agg #[.int .i64 h.mode, .int .i64 h.uid, .int .i64 h.gid, .int .i64 h.major, .int .i64 h.minor]) (.int .i64 2)).run Tryz.prog w = .ok (.int .i64 h.gid) w := fun w => by kernel_rfl
  have ix3 : ∀ w, (Instr.index 220 (.agg #[.int .i64 h.mode, .int .i64 h.uid, .int .i64 h.gid, .int .i64 h.major, .int .i64 h.minor]) (.int .i64 3)).run Tryz.prog w = .ok (.int .i64 h.major) w := fun w => by kernel_rfl
  have ix4 : ∀ w, (Instr.index 220 (.agg #[.int .i64 h.mode, .int .i64 h.uid, .int .i64 h.gid, .int .i64 h.major, .int .i64 h.minor]) (.int .i64 4)).run Tryz.prog w = .ok (.int .i64 h.minor) w := fun w => by kernel_rfl
  have hf := Lib.hid (fun n v w => hasField_any n v w)
  have hb0 := BlkIs.made w 23 #[.string h.name, .int .i64 h.mode, .int .i64 h.uid, .int .i64 h.gid, .int .i64 h.size, .int .i64 h.mtime, .int .u8 (h.typ.toNat : Int), .string h.link, .string h.uname, .string h.gname, .int .i64 h.major, .int .i64 h.minor, .string h.pre]
  go_enter Tryz.func203, Tryz.ntmps203
  go_wp2_with fail
  go_loopw [4, 16] (fun _ iv wr => ∃ k : Nat, iv = .int .i64 (k : Int) ∧ k ≤ 5 ∧ (∀ j, j < k → mayN (ns5 h j) 8 = true) ∧ BlkIs wr w.heap.size 23 #[.string h.name, .int .i64 h.mode, .int .i64 h.uid, .int .i64 h.gid, .int .i64 h.size, .int .i64 h.mtime, .int .u8 (h.typ.toNat : Int), .string h.link, .string h.uname, .string h.gname, .int .i64 h.major, .int .i64 h.minor, .string h.pre] ∧ Below w.heap.size w wr) (fun _ iv _ => 5 - (intOf iv).toNat)
  case atStart => exact ⟨0, rfl, by omega, fun j hj => absurd hj (Nat.not_lt_zero j), hb0, by (repeat' (first | exact Below.refl _ _ | assumption | refine gr_drew ?_ | refine gr_drewN ?_ _ | refine gr_alloc ?_ _ | refine gr_set ?_ ?_ _ | refine gr_call ?_ (by assumption)) <;> (try (simp; done)) <;> (try (simp; omega)) <;> (try omega))⟩
  case round =>
    obtain ⟨k, rfl, hk, hall, hblk, hbl⟩ := hrel
    have hall := Lib.hid hall
    by_cases h5 : k = 5
    · subst h5
      have hy := Lib.hid (mayNs_yes hall.out)
      clear hall
      have c4 := hblk.cell_some 4 (.int .i64 h.size) rfl
      have c5 := hblk.cell_some 5 (.int .i64 h.mtime) rfl
      by_cases h0 : h.size < 0
      · have h1 : decide (0 ≤ h.size) = false := decide_eq_false (by omega)
        go_wp2_with fail
        go_ret
        exact ⟨ret_bool (by rw [hy.out]; simp [mayN, h1]), by (repeat' (first | exact Below.refl _ _ | assumption | refine gr_drew ?_ | refine gr_drewN ?_ _ | refine gr_alloc ?_ _ | refine gr_set ?_ ?_ _ | refine gr_call ?_ (by assumption)) <;> (try (simp; done)) <;> (try (simp; omega)) <;> (try omega))⟩
      · have h1 : 0 ≤ h.size := by omega
        rcases hs : hasF h.size 12 with _ | _
        · go_wp2_with fail
          refine (hf.out _ _ _).mono ?_
          rintro e w1 ⟨rfl, hbw1⟩
          go_wp2_with fail
          go_ret
          exact ⟨ret_bool (by rw [hy.out]; simp [mayN, hs]), by (repeat' (first | exact Below.refl _ _ | assumption | refine gr_drew ?_ | refine gr_drewN ?_ _ | refine gr_alloc ?_ _ | refine gr_set ?_ ?_ _ | refine gr_call ?_ (by assumption)) <;> (try (simp; done)) <;> (try (simp; omega)) <;> (try omega))⟩
        · go_wp2_with fail
          refine (hf.out _ _ _).mono ?_
          rintro e w1 ⟨rfl, hbw1⟩
          have d5 := cell_kept hbw1 c5
          go_wp2_with fail
          refine (hf.out _ _ _).mono ?_
          rintro e w2 ⟨rfl, hbw2⟩
          go_wp2_with fail
          go_ret
          exact ⟨ret_bool (by rw [hy.out]; simp [mayN, hs, h1]), by (repeat' (first | exact Below.refl _ _ | assumption | refine gr_drew ?_ | refine gr_drewN ?_ _ | refine gr_alloc ?_ _ | refine gr_set ?_ ?_ _ | refine gr_call ?_ (by assumption)) <;> (try (simp; done)) <;> (try (simp; omega)) <;> (try omega))⟩
    · have hk5 : k < 5 := by omega
      have hcase : k = 0 ∨ k = 1 ∨ k = 2 ∨ k = 3 ∨ k = 4 := by omega
      by_cases h0 : ns5 h k < 0
      · have hno := Lib.hid (mayNs_no hk5 (show mayN (ns5 h k) 8 = false by simp [mayN]; omega))
        clear hall hk hk5 h5
        rcases hcase with rfl | rfl | rfl | rfl | rfl
        · have h2 : h.mode < 0 := h0
          try simp only [Int.cast_ofNat_Int]
          clear h0
          go_wp2_with fail
          go_ret
          exact ⟨ret_bool (by rw [hno.out]), by (repeat' (first | exact Below.refl _ _ | assumption | refine gr_drew ?_ | refine gr_drewN ?_ _ | refine gr_alloc ?_ _ | refine gr_set ?_ ?_ _ | refine gr_call ?_ (by assumption)) <;> (try (simp; done)) <;> (try (simp; omega)) <;> (try omega))⟩
        · have h2 : h.uid < 0 := h0
          try simp only [Int.cast_ofNat_Int]
          clear h0
          go_wp2_with fail
          go_ret
          exact ⟨ret_bool (by rw [hno.out]), by (repeat' (first | exact Below.refl _ _ | assumption | refine gr_drew ?_ | refine gr_drewN ?_ _ | refine gr_alloc ?_ _ | refine gr_set ?_ ?_ _ | refine gr_call ?_ (by assumption)) <;> (try (simp; done)) <;> (try (simp; omega)) <;> (try omega))⟩
        · have h2 : h.gid < 0 := h0
          try simp only [Int.cast_ofNat_Int]
          clear h0
          go_wp2_with fail
          go_ret
          exact ⟨ret_bool (by rw [hno.out]), by (repeat' (first | exact Below.refl _ _ | assumption | refine gr_drew ?_ | refine gr_drewN ?_ _ | refine gr_alloc ?_ _ | refine gr_set ?_ ?_ _ | refine gr_call ?_ (by assumption)) <;> (try (simp; done)) <;> (try (simp; omega)) <;> (try omega))⟩
        · have h2 : h.major < 0 := h0
          try simp only [Int.cast_ofNat_Int]
          clear h0
          go_wp2_with fail
          go_ret
          exact ⟨ret_bool (by rw [hno.out]), by (repeat' (first | exact Below.refl _ _ | assumption | refine gr_drew ?_ | refine gr_drewN ?_ _ | refine gr_alloc ?_ _ | refine gr_set ?_ ?_ _ | refine gr_call ?_ (by assumption)) <;> (try (simp; done)) <;> (try (simp; omega)) <;> (try omega))⟩
        · have h2 : h.minor < 0 := h0
          try simp only [Int.cast_ofNat_Int]
          clear h0
          go_wp2_with fail
          go_ret
          exact ⟨ret_bool (by rw [hno.out]), by (repeat' (first | exact Below.refl _ _ | assumption | refine gr_drew ?_ | refine gr_drewN ?_ _ | refine gr_alloc ?_ _ | refine gr_set ?_ ?_ _ | refine gr_call ?_ (by assumption)) <;> (try (simp; done)) <;> (try (simp; omega)) <;> (try omega))⟩
      · have h1 : 0 ≤ ns5 h k := by omega
        rcases hs : hasF (ns5 h k) 8 with _ | _
        · have hno := Lib.hid (mayNs_no hk5 (show mayN (ns5 h k) 8 = false by simp [mayN, hs]))
          clear hall hk hk5 h5
          rcases hcase with rfl | rfl | rfl | rfl | rfl
          · have h2 : ¬ h.mode < 0 := h0
            have h3 : hasF h.mode 8 = false := hs
            try simp only [Int.cast_ofNat_Int]
            clear h0 h1 hs
            go_wp2_with fail
            refine (hf.out _ _ _).mono ?_
            rintro e w1 ⟨rfl, hbw1⟩
            go_wp2_with fail
            go_ret
            exact ⟨ret_bool (by rw [hno.out]), by (repeat' (first | exact Below.refl _ _ | assumption | refine gr_drew ?_ | refine gr_drewN ?_ _ | refine gr_alloc ?_ _ | refine gr_set ?_ ?_ _ | refine gr_call ?_ (by assumption)) <;> (try (simp; done)) <;> (try (simp; omega)) <;> (try omega))⟩
          · have h2 : ¬ h.uid < 0 := h0
            have h3 : hasF h.uid 8 = false := hs
            try simp only [Int.cast_ofNat_Int]
            clear h0 h1 hs
            go_wp2_with fail
            refine (hf.out _ _ _).mono ?_
            rintro e w1 ⟨rfl, hbw1⟩
            go_wp2_with fail
            go_ret
            exact ⟨ret_bool (by rw [hno.out]), by (repeat' (first | exact Below.refl _ _ | assumption | refine gr_drew ?_ | refine gr_drewN ?_ _ | refine gr_alloc ?_ _ | refine gr_set ?_ ?_ _ | refine gr_call ?_ (by assumption)) <;> (try (simp; done)) <;> (try (simp; omega)) <;> (try omega))⟩
          · have h2 : ¬ h.gid < 0 := h0
            have h3 : hasF h.gid 8 = false := hs
            try simp only [Int.cast_ofNat_Int]
            clear h0 h1 hs
            go_wp2_with fail
            refine (hf.out _ _ _).mono ?_
            rintro e w1 ⟨rfl, hbw1⟩
            go_wp2_with fail
            go_ret
            exact ⟨ret_bool (by rw [hno.out]), by (repeat' (first | exact Below.refl _ _ | assumption | refine gr_drew ?_ | refine gr_drewN ?_ _ | refine gr_alloc ?_ _ | refine gr_set ?_ ?_ _ | refine gr_call ?_ (by assumption)) <;> (try (simp; done)) <;> (try (simp; omega)) <;> (try omega))⟩
          · have h2 : ¬ h.major < 0 := h0
            have h3 : hasF h.major 8 = false := hs
            try simp only [Int.cast_ofNat_Int]
            clear h0 h1 hs
            go_wp2_with fail
            refine (hf.out _ _ _).mono ?_
            rintro e w1 ⟨rfl, hbw1⟩
            go_wp2_with fail
            go_ret
            exact ⟨ret_bool (by rw [hno.out]), by (repeat' (first | exact Below.refl _ _ | assumption | refine gr_drew ?_ | refine gr_drewN ?_ _ | refine gr_alloc ?_ _ | refine gr_set ?_ ?_ _ | refine gr_call ?_ (by assumption)) <;> (try (simp; done)) <;> (try (simp; omega)) <;> (try omega))⟩
          · have h2 : ¬ h.minor < 0 := h0
            have h3 : hasF h.minor 8 = false := hs
            try simp only [Int.cast_ofNat_Int]
            clear h0 h1 hs
            go_wp2_with fail
            refine (hf.out _ _ _).mono ?_
            rintro e w1 ⟨rfl, hbw1⟩
            go_wp2_with fail
            go_ret
            exact ⟨ret_bool (by rw [hno.out]), by (repeat' (first | exact Below.refl _ _ | assumption | refine gr_drew ?_ | refine gr_drewN ?_ _ | refine gr_alloc ?_ _ | refine gr_set ?_ ?_ _ | refine gr_call ?_ (by assumption)) <;> (try (simp; done)) <;> (try (simp; omega)) <;> (try omega))⟩
        · have hyes := Lib.hid (show ∀ j, j < k + 1 → mayN (ns5 h j) 8 = true from fun j hj => by
            rcases Nat.lt_succ_iff_lt_or_eq.1 hj with h6 | h6
            · exact hall.out j h6
            · rw [h6]; simp [mayN, hs, h1])
          clear hall hk hk5 h5
          rcases hcase with rfl | rfl | rfl | rfl | rfl
          · have h2 : ¬ h.mode < 0 := h0
            have h3 : hasF h.mode 8 = true := hs
            try simp only [Int.cast_ofNat_Int]
            clear h0 h1 hs
            go_wp2_with fail
            refine (hf.out _ _ _).mono ?_
            rintro e w1 ⟨rfl, hbw1⟩
            have hblk1 := hblk.kept hbw1 hblk.size
            go_wp2_with fail
            go_roundw
            case rel => exact ⟨1, by go_num, by omega, hyes.out, hblk1, by (repeat' (first | exact Below.refl _ _ | assumption | refine gr_drew ?_ | refine gr_drewN ?_ _ | refine gr_alloc ?_ _ | refine gr_set ?_ ?_ _ | refine gr_call ?_ (by assumption)) <;> (try (simp; done)) <;> (try (simp; omega)) <;> (try omega))⟩
            case measure => simp only [intOf]; omega
          · have h2 : ¬ h.uid < 0 := h0
            have h3 : hasF h.uid 8 = true := hs
            try simp only [Int.cast_ofNat_Int]
            clear h0 h1 hs
            go_wp2_with fail
            refine (hf.out _ _ _).mono ?_
            rintro e w1 ⟨rfl, hbw1⟩
            have hblk1 := hblk.kept hbw1 hblk.size
            go_wp2_with fail
            go_roundw
            case rel => exact ⟨2, by go_num, by omega, hyes.out, hblk1, by (repeat' (first | exact Below.refl _ _ | assumption | refine gr_drew ?_ | refine gr_drewN ?_ _ | refine gr_alloc ?_ _ | refine gr_set ?_ ?_ _ | refine gr_call ?_ (by assumption)) <;> (try (simp; done)) <;> (try (simp; omega)) <;> (try omega))⟩
            case measure => simp only [intOf]; omega
          · have h2 : ¬ h.gid < 0 := h0
            have h3 : hasF h.gid 8 = true := hs
            try simp only [Int.cast_ofNat_Int]
            clear h0 h1 hs
            go_wp2_with fail
            refine (hf.out _ _ _).mono ?_
            rintro e w1 ⟨rfl, hbw1⟩
            have hblk1 := hblk.kept hbw1 hblk.size
            go_wp2_with fail
            go_roundw
            case rel => exact ⟨3, by go_num, by omega, hyes.out, hblk1, by (repeat' (first | exact Below.refl _ _ | assumption | refine gr_drew ?_ | refine gr_drewN ?_ _ | refine gr_alloc ?_ _ | refine gr_set ?_ ?_ _ | refine gr_call ?_ (by assumption)) <;> (try (simp; done)) <;> (try (simp; omega)) <;> (try omega))⟩
            case measure => simp only [intOf]; omega
          · have h2 : ¬ h.major < 0 := h0
            have h3 : hasF h.major 8 = true := hs
            try simp only [Int.cast_ofNat_Int]
            clear h0 h1 hs
            go_wp2_with fail
            refine (hf.out _ _ _).mono ?_
            rintro e w1 ⟨rfl, hbw1⟩
            have hblk1 := hblk.kept hbw1 hblk.size
            go_wp2_with fail
            go_roundw
            case rel => exact ⟨4, by go_num, by omega, hyes.out, hblk1, by (repeat' (first | exact Below.refl _ _ | assumption | refine gr_drew ?_ | refine gr_drewN ?_ _ | refine gr_alloc ?_ _ | refine gr_set ?_ ?_ _ | refine gr_call ?_ (by assumption)) <;> (try (simp; done)) <;> (try (simp; omega)) <;> (try omega))⟩
            case measure => simp only [intOf]; omega
          · have h2 : ¬ h.minor < 0 := h0
            have h3 : hasF h.minor 8 = true := hs
            try simp only [Int.cast_ofNat_Int]
            clear h0 h1 hs
            go_wp2_with fail
            refine (hf.out _ _ _).mono ?_
            rintro e w1 ⟨rfl, hbw1⟩
            have hblk1 := hblk.kept hbw1 hblk.size
            go_wp2_with fail
            go_roundw
            case rel => exact ⟨5, by go_num, by omega, hyes.out, hblk1, by (repeat' (first | exact Below.refl _ _ | assumption | refine gr_drew ?_ | refine gr_drewN ?_ _ | refine gr_alloc ?_ _ | refine gr_set ?_ ?_ _ | refine gr_call ?_ (by assumption)) <;> (try (simp; done)) <;> (try (simp; omega)) <;> (try omega))⟩
            case measure => simp only [intOf]; omega

theorem may_any (h : Hd) (w : World) :
    Calls Tryz.prog 151 #[.agg #[.string h.name, .int .i64 h.mode, .int .i64 h.uid, .int .i64 h.gid, .int .i64 h.size, .int .i64 h.mtime, .int .u8 (h.typ.toNat : Int), .string h.link, .string h.uname, .string h.gname, .int .i64 h.major, .int .i64 h.minor, .string h.pre]] w fun e w' => e = .returned (.bool (mayH h)) ∧ Below w.heap.size w w' := by
  have ht := Lib.hid (mayTexts_any h)
  have hn := Lib.hid (mayNumbers_any h)
  unfold mayH
  generalize mayNs h = b2 at *
  generalize mayTs h = b1 at *
  cases b1
  · go_enter Tryz.func151, Tryz.ntmps151
    go_wp2_with fail
    refine (ht.out _).mono ?_
    rintro e w1 ⟨rfl, hbw1⟩
    have hzw1 := hbw1.size
    try simp at hzw1
    go_wp2_with fail
    go_ret
    exact ⟨rfl, by (repeat' (first | exact Below.refl _ _ | assumption | refine gr_drew ?_ | refine gr_drewN ?_ _ | refine gr_alloc ?_ _ | refine gr_set ?_ ?_ _ | refine gr_call ?_ (by assumption)) <;> (try (simp; done)) <;> (try (simp; omega)) <;> (try omega))⟩
  · have hb0 := BlkIs.made w 23 #[.string h.name, .int .i64 h.mode, .int .i64 h.uid, .int .i64 h.gid, .int .i64 h.size, .int .i64 h.mtime, .int .u8 (h.typ.toNat : Int), .string h.link, .string h.uname, .string h.gname, .int .i64 h.major, .int .i64 h.minor, .string h.pre]
    go_enter Tryz.func151, Tryz.ntmps151
    go_wp2_with fail
    refine (ht.out _).mono ?_
    rintro e w1 ⟨rfl, hbw1⟩
    have hb1 := hb0.kept hbw1 hb0.size
    have c0 := hb1.cell_some 0 _ rfl
    have c1 := hb1.cell_some 1 _ rfl
    have c2 := hb1.cell_some 2 _ rfl
    have c3 := hb1.cell_some 3 _ rfl
    have c4 := hb1.cell_some 4 _ rfl
    have c5 := hb1.cell_some 5 _ rfl
    have c6 := hb1.cell_some 6 _ rfl
    have c7 := hb1.cell_some 7 _ rfl
    have c8 := hb1.cell_some 8 _ rfl
    have c9 := hb1.cell_some 9 _ rfl
    have c10 := hb1.cell_some 10 _ rfl
    have c11 := hb1.cell_some 11 _ rfl
    have c12 := hb1.cell_some 12 _ rfl
    go_wp2_with fail
    refine (hn.out _).mono ?_
    rintro e w2 ⟨rfl, hbw2⟩
    go_wp2_with fail
    go_ret
    exact ⟨rfl, by (repeat' (first | exact Below.refl _ _ | assumption | refine gr_drew ?_ | refine gr_drewN ?_ _ | refine gr_alloc ?_ _ | refine gr_set ?_ ?_ _ | refine gr_call ?_ (by assumption)) <;> (try (simp; done)) <;> (try (simp; omega)) <;> (try omega))⟩
end Go.Proofs.YtbhnhoenjoagbaaGreatDoor.HeadW
