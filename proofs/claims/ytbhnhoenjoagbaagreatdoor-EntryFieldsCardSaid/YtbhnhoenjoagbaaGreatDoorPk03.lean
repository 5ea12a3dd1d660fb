/- Bundle of 2 texts. -/
import Derived.Test.YtbhnhoenjoagbaaGreatDoorPk02
/- strings.Repeat of one byte 0, in this program (the builder's copy check ends in a refusal where the shelf's has a panic). -/
namespace Go.Proofs.YtbhnhoenjoagbaaGreatDoor.HeadW
open Go.RowKit
open HeadM
set_option linter.unusedVariables false

theorem check_f (B b : Nat) (bs : List Value) (w : World) (h : Lib.IsBuilderF 142 5 B b bs w) :
    Calls Tryz.prog 195 #[.pointer (some ⟨b, 0, none⟩)] w fun e w' => e = .returned (.tuple #[]) ∧ (Lib.BuilderAtF 142 5 B b (.pointer (some ⟨b, 0, none⟩)) bs w' ∧ Below B w w') := by
  rcases h with h | h
  · refine (check_fresh b w h.cell0 h.shape h.frozen0).mono ?_
    rintro e w' ⟨rfl, rfl⟩
    exact ⟨rfl, h.used _, (Below.refl B w).setCell (p := ⟨b, 0, none⟩) h.1 _⟩
  · refine (check_used b w h.cell0).mono ?_
    rintro e w' ⟨rfl, rfl⟩
    exact ⟨rfl, h, Below.refl B _⟩

set_option maxHeartbeats 2000000 in
set_option maxRecDepth 100000 in
theorem writeString_f (B b : Nat) (bs : List Value) (s : ByteArray) (w : World) (h : Lib.IsBuilderF 142 5 B b bs w) (hlen : bs.length + s.size ≤ 140737488355328) (hBw : B ≤ w.heap.size) :
    Calls Tryz.prog 135 #[.pointer (some ⟨b, 0, none⟩), .string s] w fun e w' => e = .returned (.tuple #[.int .i64 s.size, .nilIface]) ∧ (Lib.IsBuilderF 142 5 B b (bs ++ Lib.strCells s) w' ∧ Below B w w') := by
  obtain ⟨i0, hi, hz0, hz1, hz2⟩ := info_parts (show (Tryz.prog.info? 5).map (fun i => (i.zero, i.size, i.bytes)) = some (some (.int .u8 0), 1, 1) by kernel_rfl)
  go_enter Tryz.func135, Tryz.ntmps135
  go_wp2_with (go_at_call 195; refine (check_f B b bs _ h).mono ?_)
  rintro e w1 ⟨rfl, h1, hb1⟩
  obtain ⟨hB, v, hbk, hown, hne⟩ := h1
  have hBw1 := hb1.size
  have c0 : w1.cell? ⟨b, 0, none⟩ = some (.pointer (some ⟨b, 0, none⟩)) := by rw [Lib.cell_of_heap hbk]; rfl
  have c1 : w1.cell? ⟨b, 1, none⟩ = some v := by rw [Lib.cell_of_heap hbk]; rfl
  have hlt : b < w1.heap.size := (Array.getElem?_eq_some_iff.1 hbk).1
  go_wp2_with (at_builtin; refine Lib.wpList_append_own_stringF _ rfl _ _ 49 9 rfl B 5 i0 Tryz.underlying49 Tryz.underlying9 hi hz0 hz1 hz2 _ _ _ rfl hown s rfl ?c3 ?c4 ?c5 ?_)
  case c3 => unfold maxLen; omega
  case c4 => omega
  case c5 => omega
  intro v' w2 hown' hgrow _
  have hb2 : w2.heap[b]? = some (.cells #[.pointer (some ⟨b, 0, none⟩), v] 142 (0, 0)) := by
    rw [hgrow.block b hlt (fun e => hne e.symm)]
    exact hbk
  have d1 : w2.cell? ⟨b, 1, none⟩ = some v := by rw [Lib.cell_of_heap hb2]; rfl
  have f1 : w2.frozen? ⟨b, 1, none⟩ = false := Lib.frozen_of_heap hb2 1
  obtain ⟨ao, n', cap, rfl⟩ : ∃ ao n' cap, v' = .slice ao n' cap := by
    rcases hown'.2 with ⟨hv, _⟩ | ⟨g, cap, cur, fz, hv, _⟩
    · exact ⟨_, _, _, hv⟩
    · exact ⟨_, _, _, hv⟩
  go_wp2
  go_ret2
  refine ⟨rfl, .inr ?_, ?_⟩
  · exact Lib.BuilderAtF.put (T := 142) (e := 5) hB hb2 (bs' := bs ++ Lib.strCells s) (by simpa [Lib.strCells_length] using hown') (by decide)
  · exact (hb1.grown hgrow (by omega) (fun k hk => (hown.lt k hk).1)).setCell (p := ⟨b, 1, none⟩) hB _

def Zs (b q : Nat) (w : World) : Prop := Lib.IsBuilderF 142 5 b b (Lib.byteCells (List.replicate q 0)) w
theorem zs_len (b q : Nat) (w : World) (h : Zs b q w) :
    Calls Tryz.prog 140 #[.pointer (some ⟨b, 0, none⟩)] w fun e w' => e = .returned (.int .i64 (q : Int)) ∧ w' = w := by
  have := Tryz.Builder_Len_f b b _ w h
  rw [Lib.byteCells_length, List.length_replicate] at this
  exact this
theorem zs_lt {b q : Nat} {w : World} (h : Zs b q w) : b < w.heap.size := by
  rcases h with h | h
  · obtain ⟨_, v, hb, _⟩ := h; exact (Array.getElem?_eq_some_iff.1 hb).1
  · obtain ⟨_, v, hb, _⟩ := h; exact (Array.getElem?_eq_some_iff.1 hb).1
theorem zs_str (b q : Nat) (w : World) (h : Zs b q w) :
    Calls Tryz.prog 137 #[.pointer (some ⟨b, 0, none⟩)] w fun e w' => e = .returned (.string (strOf (List.replicate q 0))) ∧ (Zs b q w' ∧ Below b w w') :=
  Tryz.Builder_String_any_f b b _ w h (Nat.le_of_lt (zs_lt h))
theorem zs_write (b q k : Nat) (s : ByteArray) (hs : L s = List.replicate k 0) (w : World) (h : Zs b q w) (hq : q + k ≤ 100000) :
    Calls Tryz.prog 135 #[.pointer (some ⟨b, 0, none⟩), .string s] w fun e w' => e = .returned (.tuple #[.int .i64 s.size, .nilIface]) ∧ (Zs b (q + k) w' ∧ Below b w w') := by
  have hz : s.size = k := by rw [← size_L, hs, List.length_replicate]
  refine (writeString_f b b _ s w h (by rw [Lib.byteCells_length, List.length_replicate]; omega) (Nat.le_of_lt (zs_lt h))).mono ?_
  rintro e w' ⟨h1, h2, h3⟩
  refine ⟨h1, ?_, h3⟩
  unfold Zs
  rw [← List.replicate_append_replicate, Lib.byteCells_append, ← hs]
  rw [Lib.strCells_eq] at h2
  exact h2
theorem zs_grow (n : Nat) (w : World) (hn : n ≤ 200000) :
    Calls Tryz.prog 139 #[.pointer (some ⟨w.heap.size, 0, none⟩), .int .i64 (n : Int)] (w.alloc (.cells #[.pointer none, .slice none 0 0] 142)) fun e w' => e = .returned (.tuple #[]) ∧ (Zs w.heap.size 0 w' ∧ Below w.heap.size w w') := by
  refine (Tryz.Builder_Grow_fresh w.heap.size w.heap.size n _ (Nat.le_refl _) (heap_alloc_new w _) (by simp) (by omega)).mono ?_
  rintro e w' ⟨h1, h2, h3⟩
  exact ⟨h1, Lib.IsBuilderF.of (.inr h2), ((Below.refl _ w).alloc (Nat.le_refl _) _).trans h3⟩

theorem run_min_three {P : Program} {w : World} (ts : Array TypeId) (t : TypeId) (k k' k'' : IntKind) (x y z : Int) :
    (Builtin.min_ ts t #[.int k x, .int k' y, .int k'' z]).run P w = .ok (.int k (if z < (if y < x then y else x) then z else (if y < x then y else x))) w := by
  simp [Builtin.min_, Builtin.min2]

set_option maxHeartbeats 3200000 in
set_option maxRecDepth 100000 in
theorem rep_two (c : Nat) (hc2 : 2 ≤ c) (hc : c ≤ 8000) (w : World) :
    Calls Tryz.prog 156 #[.string ⟨#[0]⟩, .int .i64 (c : Int)] w fun e w' => e = .returned (.string (strOf (List.replicate c 0))) ∧ Below w.heap.size w w' := by
  have hMul := Lib.hid (fun w => Tryz.bits_Mul 1 c (by omega) (by omega) w)
  have e1 : 1 * c / 18446744073709551616 = 0 := by omega
  have e2 : 1 * c % 18446744073709551616 = c := by omega
  rw [e1, e2] at hMul
  clear e1 e2
  have hz : (⟨#[0]⟩ : ByteArray).size = 1 := rfl
  have hL : L (⟨#[0]⟩ : ByteArray) = List.replicate 1 0 := rfl
  have hi : ∀ w, (Instr.index 9 (.string ⟨#[0]⟩) (.int .i64 0)).run Tryz.prog w = .ok (.int .u8 0) w := fun w => by kernel_rfl
  obtain ⟨Z, hZ⟩ : ∃ Z : ByteArray, (⟨#[0]⟩ : ByteArray) = Z := ⟨_, rfl⟩
  rw [hZ] at hz hi hL
  rw [hZ]
  clear hZ
  have hL := Lib.hid hL
  go_enter Tryz.func156, Tryz.ntmps156
  go_wp2_with (first
    | (go_at_call 206; go_fit (hMul.out _); rintro e w' ⟨rfl, hw⟩; rw [hw])
    | (go_at_call 139; refine (zs_grow c w (by omega)).mono ?_; rintro e W1 ⟨rfl, h1, b1⟩))
  refine (zs_write w.heap.size 0 1 Z hL.out W1 h1 (by omega)).mono ?_
  rintro e W2 ⟨rfl, h2, b2⟩
  rw [Nat.zero_add] at h2
  have b02 : Below w.heap.size w W2 := b1.trans b2
  clear h1 b1 b2 hMul hi hw
  go_wp2_with fail
  go_loopg [] (c - 1) (fun g wx => ∃ q : Nat, 1 ≤ q ∧ q + g = c ∧ Zs w.heap.size q wx ∧ Below w.heap.size w wx)
  case atStart => exact ⟨1, Nat.le_refl _, by omega, h2, b02⟩
  case round =>
    obtain ⟨q, hq1, hqg, hB, hbx⟩ := hrel
    have cLen := Lib.hid (zs_len w.heap.size q wr hB)
    have cStr := Lib.hid (zs_str w.heap.size q wr hB)
    obtain ⟨S, hS⟩ : ∃ S : ByteArray, strOf (List.replicate q 0) = S := ⟨_, rfl⟩
    rw [hS] at cStr
    cases gk with
    | zero =>
      obtain rfl : q = c := by omega
      have hQn : ¬ ((q : Int) < (q : Int)) := by omega
      go_wp2_with (first
        | (go_at_call 140; go_fit cLen.out; rintro e w' ⟨rfl, hw⟩; rw [hw])
        | (go_at_call 137; go_fit cStr.out; rintro e W3 ⟨rfl, h3, b3⟩))
      go_ret
      exact ⟨by rw [hS]; rfl, hbx.trans b3⟩
    | succ g =>
      have hqc : q < c := by omega
      have hSd : L S = List.replicate q 0 := by rw [← hS, L_strOf]
      have hSz : S.size = q := by rw [← hS, strOf_sz, List.length_replicate]
      have hQn : (q : Int) < (c : Int) := by omega
      obtain ⟨k, hk⟩ : ∃ k : Nat, k = min (c - q) q := ⟨_, rfl⟩
      have hk1 : 1 ≤ k := by omega
      have hkq : k ≤ q := by omega
      have hkc : q + k ≤ c := by omega
      have hmin3 : ∀ (ts : Array TypeId) (t : TypeId) (W : World), (Builtin.min_ ts t #[.int .i64 ((c : Int) - (q : Int)), .int .i64 (q : Int), .int .i64 (c : Int)]).run Tryz.prog W = .ok (.int .i64 (k : Int)) W := fun ts t W => by
        rw [run_min_three]
        congr 2
        omega
      have hX : L (S.extract 0 k) = List.replicate k 0 := by
        show (S.extract 0 k).data.toList = _
        rw [Lib.extract_data]
        have : S.data.toList = List.replicate q 0 := hSd
        rw [this]
        simp
        omega
      have hX := Lib.hid hX
      clear hSd hk hS
      go_wp2_with (first
        | (go_at_call 140; go_fit cLen.out; rintro e w' ⟨rfl, hw⟩; rw [hw])
        | (go_at_call 137; go_fit cStr.out; rintro e W3 ⟨rfl, h3, b3⟩))
      refine (zs_write w.heap.size q k (S.extract 0 k) hX.out W3 h3 (by omega)).mono ?_
      rintro e W4 ⟨rfl, h4, b4⟩
      go_wp2_with fail
      go_roundg (c - (q + k))
      case measure => omega
      case rel => exact ⟨q + k, by omega, by omega, h4, hbx.trans (b3.trans b4)⟩
set_option maxRecDepth 100000 in
theorem rep_zero (w : World) :
    Calls Tryz.prog 156 #[.string ⟨#[0]⟩, .int .i64 0] w fun e w' => e = .returned (.string ⟨#[]⟩) ∧ w = w' := by
  obtain ⟨Z, hZ⟩ : ∃ Z : ByteArray, (⟨#[0]⟩ : ByteArray) = Z := ⟨_, rfl⟩
  rw [hZ]
  clear hZ
  go_enter Tryz.func156, Tryz.ntmps156
  go_wp2
  go_ret
  exact ⟨rfl, rfl⟩
set_option maxRecDepth 100000 in
theorem rep_one (w : World) :
    Calls Tryz.prog 156 #[.string ⟨#[0]⟩, .int .i64 1] w fun e w' => e = .returned (.string ⟨#[0]⟩) ∧ w = w' := by
  obtain ⟨Z, hZ⟩ : ∃ Z : ByteArray, (⟨#[0]⟩ : ByteArray) = Z := ⟨_, rfl⟩
  rw [hZ]
  clear hZ
  go_enter Tryz.func156, Tryz.ntmps156
  go_wp2
  go_ret
  exact ⟨rfl, rfl⟩
theorem rep_any (c : Nat) (x : Int) (hx : x = (c : Int)) (hc : c ≤ 8000) (w : World) :
    Calls Tryz.prog 156 #[.string ⟨#[0]⟩, .int .i64 x] w fun e w' => e = .returned (.string (strOf (List.replicate c 0))) ∧ Below w.heap.size w w' := by
  subst hx
  match c, hc with
  | 0, _ => exact (rep_zero w).mono fun e w' ⟨he, hw⟩ => ⟨he, hw ▸ Below.refl _ _⟩
  | 1, _ => exact (rep_one w).mono fun e w' ⟨he, hw⟩ => ⟨he, hw ▸ Below.refl _ _⟩
  | c + 2, hc => exact rep_two (c + 2) (by omega) hc w
end Go.Proofs.YtbhnhoenjoagbaaGreatDoor.HeadW

/- Walks over package head: mayText, hasField, text, number, checksum, mayTexts, mayNumbers, May. -/
namespace Go.Proofs.YtbhnhoenjoagbaaGreatDoor.HeadW
open Go.RowKit
open HeadM NumM
set_option linter.unusedVariables false

theorem mayText_any (s : ByteArray) (n : Nat) (x : Int) (hx : x = (n : Int)) (w : World) :
    Calls Tryz.prog 251 #[.string s, .int .i64 x] w fun e w' => e = .returned (.bool (mayT (L s) n)) ∧ w' = w := by
  have hc := Lib.hid (fun w => indexByte_any s 0 0 rfl w)
  have hr := mayT_index (L s) n
  rw [size_L] at hr
  generalize Lib.indexByte (L s) 0 = I at *
  rw [hr]
  clear hr
  subst hx
  rcases h : decide (s.size ≤ n) with _ | _
  · have h1 := of_decide_eq_false h
    have h2 : decide ((s.size : Int) ≤ (n : Int)) = false := decide_eq_false (by omega)
    clear h1
    go_enter Tryz.func251, Tryz.ntmps251
    go_wp2_with fail
    go_ret
    exact ⟨rfl, rfl⟩
  · have h1 := of_decide_eq_true h
    have h2 : decide ((s.size : Int) ≤ (n : Int)) = true := decide_eq_true (by omega)
    clear h1
    go_enter Tryz.func251, Tryz.ntmps251
    go_wp2_with fail
    refine (hc.out _).mono ?_
    rintro e w' ⟨rfl, rfl⟩
    go_wp2_with fail
    go_ret
    exact ⟨rfl, rfl⟩

theorem hasField_any (n v : Int) (w : World) :
    Calls Tryz.prog 252 #[.int .i64 n, .int .i64 v] w fun e w' => e = .returned (.bool (hasF n v)) ∧ Below w.heap.size w w' := by
  unfold hasF
  rcases h : fieldO n v with _ | l
  · have hc := Lib.hid (Field_no n v h)
    go_enter Tryz.func252, Tryz.ntmps252
    go_wp2_with fail
    refine (hc.out _).mono ?_
    rintro e w1 ⟨rfl, hbw1⟩
    have hzw1 := hbw1.size
    try simp at hzw1
    go_wp2_with fail
    go_ret
    exact ⟨rfl, hbw1⟩
  · have hc := Lib.hid (Field_yes n v l h)
    go_enter Tryz.func252, Tryz.ntmps252
    go_wp2_with fail
    refine (hc.out _).mono ?_
    rintro e w1 ⟨rfl, hbw1⟩
    have hzw1 := hbw1.size
    try simp at hzw1
    go_wp2_with fail
    go_ret
    exact ⟨rfl, hbw1⟩

theorem number_any (n v : Int) (w : World) :
    Calls Tryz.prog 153 #[.int .i64 n, .int .i64 v] w fun e w' => e = .returned (.string (strOf (fl n v))) ∧ Below w.heap.size w w' := by
  unfold fl
  rcases h : fieldO n v with _ | l
  · have hc := Lib.hid (Field_no n v h)
    go_enter Tryz.func153, Tryz.ntmps153
    go_wp2_with fail
    refine (hc.out _).mono ?_
    rintro e w1 ⟨rfl, hbw1⟩
    have hzw1 := hbw1.size
    try simp at hzw1
    go_wp2_with fail
    go_ret
    exact ⟨rfl, hbw1⟩
  · have hc := Lib.hid (Field_yes n v l h)
    go_enter Tryz.func153, Tryz.ntmps153
    go_wp2_with fail
    refine (hc.out _).mono ?_
    rintro e w1 ⟨rfl, hbw1⟩
    have hzw1 := hbw1.size
    try simp at hzw1
    go_wp2_with fail
    go_ret
    exact ⟨rfl, hbw1⟩

theorem text_any (s : ByteArray) (n : Nat) (x : Int) (hx : x = (n : Int)) (hs : s.size ≤ n) (hn : n ≤ 8000) (w : World) :
    Calls Tryz.prog 152 #[.string s, .int .i64 x] w fun e w' => e = .returned (.string (strOf (padL (L s) n))) ∧ Below w.heap.size w w' := by
  subst hx
  have hc := Lib.hid (rep_any (n - s.size) ((n : Int) - (s.size : Int)) (by omega) (by omega))
  have hsz : (strOf (List.replicate (n - s.size) 0)).size = n - s.size := by rw [strOf_sz, List.length_replicate]
  have he : s ++ strOf (List.replicate (n - s.size) 0) = strOf (padL (L s) n) := by
    unfold padL
    rw [← strOf_app, strOf_L, size_L]
  generalize strOf (List.replicate (n - s.size) 0) = Z at *
  have hlen : ¬ 9223372036854775807 < s.size + Z.size := by omega
  have hlen2 : s.size + Z.size ≤ 9223372036854775807 := by omega
  rw [← he]
  clear he hsz
  obtain ⟨Y, hY⟩ : ∃ Y : ByteArray, (⟨#[0]⟩ : ByteArray) = Y := ⟨_, rfl⟩
  rw [hY] at hc
  go_enter Tryz.func152, Tryz.ntmps152
  rw [hY]
  go_wp2_with fail
  refine (hc.out _).mono ?_
  rintro e w1 ⟨rfl, hbw1⟩
  have hzw1 := hbw1.size
  try simp at hzw1
  go_wp2_with fail
  go_ret
  exact ⟨rfl, hbw1⟩
end Go.Proofs.YtbhnhoenjoagbaaGreatDoor.HeadW
