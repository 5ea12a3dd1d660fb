/- strings.ContainsAny of any bytes among four letters below 128. -/
import Derived.Test.YtikdpoekjfbpaaaDoorWideRef1
import Derived.Test.YtikdpoekjfbpaaaDoorShelf
import Derived.Lib.OthersKept
import Derived.Lib.TrimUEq
import Derived.Laws.RangeAny
import Derived.WalkMore
namespace Go.Proofs.YtikdpoekjfbpaaaDoor
open Go.RowKit
open WideM
set_option linter.unusedVariables false

/-! ### Runes -/
theorem decode_skip {l : List UInt8} {S : ByteArray} (hS : S.data.toList = l) {p : Nat} (hp : p < l.length) (hc : 128 ≤ (l.getD p 0).toNat) :
    128 ≤ (Utf8.decode S p).1 ∧ (Utf8.decode S p).1 ≤ 1114111 ∧ 1 ≤ (Utf8.decode S p).2 ∧ p + (Utf8.decode S p).2 ≤ l.length ∧ ∀ j, p ≤ j → j < p + (Utf8.decode S p).2 → 128 ≤ (l.getD j 0).toNat := by
  have hr := Lib.rune_le S p
  rw [Lib.decode_N, hS] at hr ⊢
  generalize h0 : (l.getD p 0).toNat = b0 at *
  generalize h1 : (l.getD (p + 1) 0).toNat = b1 at *
  generalize h2 : (l.getD (p + 2) 0).toNat = b2 at *
  generalize h3 : (l.getD (p + 3) 0).toNat = b3 at *
  have fin : ∀ k, k ≤ 4 → (1 < k → 128 ≤ b1) → (2 < k → 128 ≤ b2) → (3 < k → 128 ≤ b3) → ∀ j, p ≤ j → j < p + k → 128 ≤ (l.getD j 0).toNat := by
    intro k hk e1 e2 e3 j hj1 hj2
    have : j = p ∨ j = p + 1 ∨ j = p + 2 ∨ j = p + 3 := by omega
    rcases this with rfl | rfl | rfl | rfl
    · omega
    · have := e1 (by omega); omega
    · have := e2 (by omega); omega
    · have := e3 (by omega); omega
  refine ⟨?_, hr, Lib.decodeN_ge1 _ _ _ _ _, ?_, ?_⟩
  · unfold Lib.decodeN
    rw [if_neg (by omega)]
    repeat' split
    all_goals (simp only; omega)
  · unfold Lib.decodeN
    repeat' split
    all_goals (simp only; omega)
  · refine fin _ ?_ ?_ ?_ ?_
    all_goals unfold Lib.decodeN
    all_goals repeat' split
    all_goals (simp only; omega)
theorem noL_low {c : UInt8} (h : 128 ≤ c.toNat) : noL.contains c = false := by
  rw [Bool.eq_false_iff]
  intro e
  simp only [noL, List.contains_eq_mem, List.mem_cons, List.not_mem_nil, or_false, decide_eq_true_eq] at e
  rcases e with rfl | rfl | rfl | rfl <;> exact absurd h (by decide)
theorem any_skip {l : List UInt8} {p : Nat} : ∀ k, p + k ≤ l.length → (∀ j, p ≤ j → j < p + k → 128 ≤ (l.getD j 0).toNat) → anyOf (l.drop p) noL = anyOf (l.drop (p + k)) noL
  | 0, _, _ => rfl
  | k + 1, hk, h => by
    rw [any_skip k (by omega) (fun j h1 h2 => h j h1 (by omega))]
    have hlt : p + k < l.length := by omega
    have hc := h (p + k) (by omega) (by omega)
    rw [List.getD_eq_getElem?_getD, List.getElem?_eq_getElem hlt, Option.getD_some] at hc
    rw [any_step (List.getElem?_eq_getElem hlt), noL_low hc]
    rfl
theorem index_high {m : List UInt8} {c : UInt8} (h : ∀ x ∈ m, x.toNat < 128) (hc : 128 ≤ c.toNat) : Lib.indexByte m c = -1 := by
  induction m with
  | nil => rfl
  | cons x m ih =>
    have hx := h x (by simp)
    have e : (x == c) = false := beq_eq_false_iff_ne.2 (by rintro rfl; omega)
    unfold Lib.indexByte
    rw [e, ih (fun y hy => h y (by simp [hy]))]
    rfl
/-- The last byte of a rune's letters. -/
theorem encode_last {r : Int} (h : 128 ≤ r) : ∃ (n : Nat) (d : UInt8), (Utf8.encode r).size = n ∧ 2 ≤ n ∧ n ≤ 4 ∧ 128 ≤ d.toNat ∧ (Utf8.encode r).data.toList[n - 1]? = some d := by
  unfold Utf8.encode
  have hv : (if Utf8.valid r then r.toNat else Utf8.runeError) ≥ 128 := by
    split
    · omega
    · decide
  generalize (if Utf8.valid r then r.toNat else Utf8.runeError) = c at *
  simp only
  rw [if_neg (by omega)]
  split
  · refine ⟨2, UInt8.ofNat (0x80 + c % 64), rfl, by omega, by omega, ?_, rfl⟩
    simp; omega
  · split
    · refine ⟨3, UInt8.ofNat (0x80 + c % 64), rfl, by omega, by omega, ?_, rfl⟩
      simp; omega
    · refine ⟨4, UInt8.ofNat (0x80 + c % 64), rfl, by omega, by omega, ?_, rfl⟩
      simp; omega

def isB (e : Ending) : Prop := ∃ b : Bool, e = .returned (.bool b)
theorem validRune_any (r : Int) (w : World) : Calls Tryd.prog 64 #[.int .i32 r] w fun e w' => isB e ∧ w = w' := by
  by_cases h1 : 0 ≤ r ∧ r < 55296
  · obtain ⟨h1, h2⟩ := h1
    go_enter Tryd.func64, Tryd.ntmps64
    go_wp2_with fail
    go_ret
    exact ⟨⟨_, rfl⟩, rfl⟩
  · by_cases h2 : 0 ≤ r
    · have h3 : ¬ r < 55296 := by omega
      by_cases h4 : 57343 < r
      · clear h1
        go_enter Tryd.func64, Tryd.ntmps64
        go_wp2_with fail
        all_goals go_ret
        all_goals exact ⟨⟨_, rfl⟩, rfl⟩
      · clear h1
        go_enter Tryd.func64, Tryd.ntmps64
        go_wp2_with fail
        all_goals go_ret
        all_goals exact ⟨⟨_, rfl⟩, rfl⟩
    · have h4 : ¬ 57343 < r := by omega
      clear h1
      go_enter Tryd.func64, Tryd.ntmps64
      go_wp2_with fail
      all_goals go_ret
      all_goals exact ⟨⟨_, rfl⟩, rfl⟩

set_option maxHeartbeats 3200000 in
set_option maxRecDepth 100000 in
theorem indexRune_none (M : ByteArray) (hM : M.size = 4) (hasc : ∀ x ∈ M.data.toList, x.toNat < 128) (r : Int) (h0 : 128 ≤ r) (h1 : r ≤ 1114111) (w : World) :
    Calls Tryd.prog 55 #[.string M, .int .i32 r] w fun e w' => e = .returned (.int .i64 (-1)) ∧ Below w.heap.size w w' := by
  have Hidx := Lib.hid (fun i h => idxAt (P := Tryd.prog) Tryd.underlying9 M i (by rw [hM]; exact h))
  have Hasc := Lib.hid hasc
  clear hasc
  have g0 : decide (0 ≤ r) = true := decide_eq_true (by omega)
  have g1 : decide (r < 128) = false := decide_eq_false (by omega)
  by_cases hE : r = 65533
  · subst hE
    have hnx : ∀ (W : World) (i : Nat), i < 4 → W.heap[w.heap.size]? = some (.stringIter M i) → ∃ c : UInt8, c.toNat < 128 ∧ ∀ ty, (Instr.next (.pointer (some ⟨w.heap.size, 0, none⟩)) true ty).run Tryd.prog W = .ok (.tuple #[.bool true, .int .i64 i, .int .i32 (c.toNat : Int)]) (W.iterAt w.heap.size M (i + 1)) := by
      intro W i hi hk
      have hlt : i < M.size := by omega
      have hlow : (M[i]'hlt).toNat < 128 := Hasc.out _ (by
        have : M.data.toList[i]? = some (M[i]'hlt) := by rw [List.getElem?_eq_getElem (by simpa using hlt)]; rfl
        exact List.mem_of_getElem? this)
      exact ⟨M[i]'hlt, hlow, fun ty => Lib.run_next_ascii_at W w.heap.size M i ty hk hlt hlow⟩
    have Hnx := Lib.hid hnx
    have Hen := Lib.hid (fun (W : World) (i : Nat) (hi : ¬ i < M.size) (hk : W.heap[w.heap.size]? = some (.stringIter M i)) ty => Lib.run_next_end_at (P := Tryd.prog) W w.heap.size M i ty hk hi)
    have hit0 := World.iter_heap w M 0
    have hb0 : Below w.heap.size w (w.iter M 0) := (Below.refl _ w).alloc (Nat.le_refl _) _
    clear hnx
    go_enter Tryd.func55, Tryd.ntmps55
    go_wp2_with fail
    go_loopw [] (fun wr => ∃ i : Nat, i ≤ 4 ∧ wr.heap[w.heap.size]? = some (.stringIter M i) ∧ Below w.heap.size w wr) (fun wr => 4 - wr.iterPos w.heap.size)
    case atStart => exact ⟨0, by omega, hit0, hb0⟩
    case round =>
      obtain ⟨i, hi, hit, hbl⟩ := hrel
      rename_i wr
      by_cases hlt : i < 4
      · obtain ⟨c, hc, hn⟩ := Hnx.out wr i hlt hit
        have hne : ((c.toNat : Int) == 65533) = false := beq_eq_false_iff_ne.2 (by omega)
        have hit2 := Lib.iterAt_heap wr w.heap.size M i (i + 1) hit
        have hbl2 := Lib.below_iterAt hbl (k := w.heap.size) (Nat.le_refl _) M (i + 1)
        have hp1 : wr.iterPos w.heap.size = i := by unfold World.iterPos; rw [hit]
        have hp2 : (wr.iterAt w.heap.size M (i + 1)).iterPos w.heap.size = i + 1 := by unfold World.iterPos; rw [hit2]
        obtain ⟨W2, hW2⟩ : ∃ W2, wr.iterAt w.heap.size M (i + 1) = W2 := ⟨_, rfl⟩
        rw [hW2] at hn hit2 hbl2 hp2
        clear hW2
        go_wp2_with fail
        go_roundw
        case rel => exact ⟨i + 1, by omega, hit2, hbl2⟩
        case measure => omega
      · have hen := Hen.out wr i (by omega) hit
        go_wp2_with fail
        go_ret
        exact ⟨rfl, hbl⟩
  · have hne : (r == 65533) = false := beq_eq_false_iff_ne.2 hE
    have hv := Lib.hid (validRune_any r)
    obtain ⟨n, d, hs, hn2, hn4, hd, hlast⟩ := encode_last h0
    have hcv : ∀ W, (convert 21 9 (.int .i32 r)).run Tryd.prog W = .ok (.string (Utf8.encode r)) W := by intro W; simp [go_sem, Tryd.underlying21, Tryd.underlying9]
    generalize Utf8.encode r = T at *
    have hti : ∀ W, (Instr.index 9 (.string T) (.int .i64 ((n - 1 : Nat) : Int))).run Tryd.prog W = .ok (.int .u8 (d.toNat : Int)) W := by
      obtain ⟨c, hc, h⟩ := idxAt (P := Tryd.prog) Tryd.underlying9 T (n - 1) (by omega)
      rw [hlast] at hc; cases hc
      exact h
    obtain ⟨c, hc, hidx⟩ := Hidx.out (n - 1) (by omega)
    have hcl := Hasc.out c (List.mem_of_getElem? hc)
    have hcd : ((c.toNat : Int) == (d.toNat : Int)) = false := beq_eq_false_iff_ne.2 (by omega)
    have hib : Hid (∀ W, Calls Tryd.prog 47 #[.string (M.extract n 4), .int .u8 (d.toNat : Int)] W fun e w' => e = .returned (.int .i64 (-1)) ∧ w' = W) := Lib.hid (fun W => by
      have := Tryd.strings_IndexByte (M.extract n 4) (d.toNat : Int) W
      rw [show ((d.toNat : Int)).toNat.toUInt8 = d by simp, index_high (m := (M.extract n 4).data.toList) (fun x hx => Hasc.out x (by
        simp only [ByteArray.data_extract, Array.toList_extract, List.extract] at hx
        exact List.mem_of_mem_drop (List.mem_of_mem_take hx))) hd] at this
      exact this)
    clear hc hlast hE hcl hd
    have h3 : n = 2 ∨ n = 3 ∨ n = 4 := by omega
    rcases h3 with rfl | rfl | rfl
    · simp only [show ((2 - 1 : Nat) : Int) = 1 from rfl] at hti hidx
      have hsl : ∀ W, (Instr.slice 9 (.string M) (some (.int .i64 2)) none none).run Tryd.prog W = .ok (.string (M.extract 2 4)) W := by intro W; simp [go_sem, hM]
      have hw : IntKind.i64.wrap 2 = 2 := rfl
      obtain ⟨X, hX⟩ : ∃ X, M.extract 2 4 = X := ⟨_, rfl⟩
      rw [hX] at hib
      rw [hX] at hsl
      clear hX
      go_enter Tryd.func55, Tryd.ntmps55
      go_wp2_with fail
      refine (hv.out _).mono ?_
      rintro e w1 ⟨⟨b, rfl⟩, rfl⟩
      rcases b with _ | _
      · go_wp2_with fail
        go_ret
        exact ⟨rfl, Below.refl _ _⟩
      · go_wp2_with fail
        go_step3
        go_wp2_with fail
        go_loopw [9] (fun iv wr => iv = .int .i64 1 ∧ wr = w) (fun _ _ => 0)
        case atStart => exact ⟨rfl, rfl⟩
        case round =>
          obtain ⟨rfl, rfl⟩ := hrel
          go_wp2_with fail
          go_step3
          go_wp2_with fail
          go_quiet (fail)
          have hW1 : Below wr.heap.size wr (wr.drewN nq) := gr_drewN (Below.refl _ _) nq
          obtain ⟨W, hW⟩ : ∃ W, wr.drewN nq = W := ⟨_, rfl⟩
          rw [hW] at hW1 ⊢
          clear hW
          go_wp2_with fail
          go_quiet ((go_at_call 47; exact Calls.quiet_of_same (hib.out _)))
          go_wp2_with fail
          simp only [Exit.noGoto_ret, Exit.inBlock]
          refine (show bodyPost Tryd.prog Tryd.f55 (fun e w' => e = .returned (.int .i64 (-1)) ∧ Below wr.heap.size wr w') .ret _ _ from ?_)
          go_ret
          exact ⟨rfl, by (repeat' (first | exact Below.refl _ _ | assumption | refine gr_drew ?_ | refine gr_drewN ?_ _ | refine gr_alloc ?_ _ | refine gr_set ?_ ?_ _ | refine gr_call ?_ (by assumption)) <;> (try (simp; done)) <;> (try (simp; omega)) <;> (try omega))⟩
    · simp only [show ((3 - 1 : Nat) : Int) = 2 from rfl] at hti hidx
      have hsl : ∀ W, (Instr.slice 9 (.string M) (some (.int .i64 3)) none none).run Tryd.prog W = .ok (.string (M.extract 3 4)) W := by intro W; simp [go_sem, hM]
      have hw : IntKind.i64.wrap 3 = 3 := rfl
      obtain ⟨X, hX⟩ : ∃ X, M.extract 3 4 = X := ⟨_, rfl⟩
      rw [hX] at hib
      rw [hX] at hsl
      clear hX
      go_enter Tryd.func55, Tryd.ntmps55
      go_wp2_with fail
      refine (hv.out _).mono ?_
      rintro e w1 ⟨⟨b, rfl⟩, rfl⟩
      rcases b with _ | _
      · go_wp2_with fail
        go_ret
        exact ⟨rfl, Below.refl _ _⟩
      · go_wp2_with fail
        go_step3
        go_wp2_with fail
        go_loopw [9] (fun iv wr => iv = .int .i64 2 ∧ wr = w) (fun _ _ => 0)
        case atStart => exact ⟨rfl, rfl⟩
        case round =>
          obtain ⟨rfl, rfl⟩ := hrel
          go_wp2_with fail
          go_step3
          go_wp2_with fail
          go_quiet (fail)
          have hW1 : Below wr.heap.size wr (wr.drewN nq) := gr_drewN (Below.refl _ _) nq
          obtain ⟨W, hW⟩ : ∃ W, wr.drewN nq = W := ⟨_, rfl⟩
          rw [hW] at hW1 ⊢
          clear hW
          go_wp2_with fail
          go_quiet ((go_at_call 47; exact Calls.quiet_of_same (hib.out _)))
          go_wp2_with fail
          simp only [Exit.noGoto_ret, Exit.inBlock]
          refine (show bodyPost Tryd.prog Tryd.f55 (fun e w' => e = .returned (.int .i64 (-1)) ∧ Below wr.heap.size wr w') .ret _ _ from ?_)
          go_ret
          exact ⟨rfl, by (repeat' (first | exact Below.refl _ _ | assumption | refine gr_drew ?_ | refine gr_drewN ?_ _ | refine gr_alloc ?_ _ | refine gr_set ?_ ?_ _ | refine gr_call ?_ (by assumption)) <;> (try (simp; done)) <;> (try (simp; omega)) <;> (try omega))⟩
    · simp only [show ((4 - 1 : Nat) : Int) = 3 from rfl] at hti hidx
      have hsl : ∀ W, (Instr.slice 9 (.string M) (some (.int .i64 4)) none none).run Tryd.prog W = .ok (.string (M.extract 4 4)) W := by intro W; simp [go_sem, hM]
      have hw : IntKind.i64.wrap 4 = 4 := rfl
      obtain ⟨X, hX⟩ : ∃ X, M.extract 4 4 = X := ⟨_, rfl⟩
      rw [hX] at hib
      rw [hX] at hsl
      clear hX
      go_enter Tryd.func55, Tryd.ntmps55
      go_wp2_with fail
      refine (hv.out _).mono ?_
      rintro e w1 ⟨⟨b, rfl⟩, rfl⟩
      rcases b with _ | _
      · go_wp2_with fail
        go_ret
        exact ⟨rfl, Below.refl _ _⟩
      · go_wp2_with fail
        go_step3
        go_wp2_with fail
        go_loopw [9] (fun iv wr => iv = .int .i64 3 ∧ wr = w) (fun _ _ => 0)
        case atStart => exact ⟨rfl, rfl⟩
        case round =>
          obtain ⟨rfl, rfl⟩ := hrel
          go_wp2_with fail
          go_step3
          go_wp2_with fail
          go_quiet (fail)
          have hW1 : Below wr.heap.size wr (wr.drewN nq) := gr_drewN (Below.refl _ _) nq
          obtain ⟨W, hW⟩ : ∃ W, wr.drewN nq = W := ⟨_, rfl⟩
          rw [hW] at hW1 ⊢
          clear hW
          go_wp2_with fail
          go_quiet ((go_at_call 47; exact Calls.quiet_of_same (hib.out _)))
          go_wp2_with fail
          simp only [Exit.noGoto_ret, Exit.inBlock]
          refine (show bodyPost Tryd.prog Tryd.f55 (fun e w' => e = .returned (.int .i64 (-1)) ∧ Below wr.heap.size wr w') .ret _ _ from ?_)
          go_ret
          exact ⟨rfl, by (repeat' (first | exact Below.refl _ _ | assumption | refine gr_drew ?_ | refine gr_drewN ?_ _ | refine gr_alloc ?_ _ | refine gr_set ?_ ?_ _ | refine gr_call ?_ (by assumption)) <;> (try (simp; done)) <;> (try (simp; omega)) <;> (try omega))⟩


theorem indexAny_iff : ∀ (l : List UInt8), decide (0 ≤ Lib.indexAny l noL) = anyOf l noL
  | [] => rfl
  | b :: l => by
    have ih := indexAny_iff l
    have hge := Lib.indexAny_ge noL l
    unfold Lib.indexAny anyOf
    rw [List.any_cons]
    unfold anyOf at ih
    rcases hb : noL.contains b with _ | _
    · rw [← ih, Bool.false_or]
      simp only [Bool.false_eq_true, if_false]
      by_cases h : Lib.indexAny l noL = -1
      · rw [h]; rfl
      · have e : (Lib.indexAny l noL == -1) = false := beq_eq_false_iff_ne.2 h
        rw [e]
        simp only [Bool.false_eq_true, if_false]
        exact decide_eq_decide.2 (by omega)
    · simp
/-- How IndexAny ends: whether there is one. -/
def idxEnd (b : Bool) (e : Ending) : Prop := ∃ k : Int, e = .returned (.int .i64 k) ∧ decide (0 ≤ k) = b

set_option maxHeartbeats 3200000 in
set_option maxRecDepth 100000 in
theorem indexAny_any (S M : ByteArray) (hS : S.size ≤ 1000000) (hM : M.data.toList = noL) (w : World) :
    Calls Tryd.prog 49 #[.string S, .string M] w fun e w' => idxEnd (anyOf S.data.toList noL) e ∧ Below w.heap.size w w' := by
  have hM4 : M.size = 4 := by rw [← len_list, hM]; rfl
  have hasc : ∀ x ∈ M.data.toList, x.toNat < 128 := by rw [hM]; decide
  by_cases h8 : 8 < S.size
  · have hz : (Tryd.prog.info? 81).map (fun i => (i.zero, i.size)) = some (some (.agg (Array.replicate 256 (.bool false))), 256) := by kernel_rfl
    refine (Tryd.strings_IndexAny_long (zero_of_info hz).1 S M w (by omega) h8 (by omega) (by omega) (fun j b hb => hasc b (List.mem_of_getElem? hb))).mono ?_
    rintro e w1 ⟨rfl, rfl⟩
    refine ⟨⟨_, rfl, by rw [hM]; exact indexAny_iff _⟩, ?_⟩
    exact gr_alloc (gr_alloc (Below.refl _ _) _) _
  · have Hrn := Lib.hid (fun r h0 h1 W => indexRune_none M hM4 hasc r h0 h1 W)
    have Hra := Lib.hid (fun (x : UInt8) (hx : x.toNat < 128) W => by
      have := Tryd.strings_IndexRune_ascii M (x.toNat : Int) W (by omega) (by omega)
      rw [show ((x.toNat : Int)).toNat.toUInt8 = x by simp] at this
      exact this)
    have Hsk := Lib.hid (fun p hp hc => @decode_skip S.data.toList S rfl p hp hc)
    have Hlen := Lib.hid (len_list S)
    have hemp : M.toList.isEmpty = false := by rw [Lib.toList_data, hM]; rfl
    have hemp2 : ¬ M.toList = [] := by rw [Lib.toList_data, hM]; decide
    have hemp3 : (M.toList == []) = false := by rw [Lib.toList_data, hM]; rfl
    obtain ⟨z, hz⟩ : ∃ z, S.size = z := ⟨_, rfl⟩
    have hn1 : ((M.size : Int) == 1) = false := by rw [hM4]; rfl
    have h8z : decide ((8 : Int) < (z : Int)) = false := decide_eq_false (by omega)
    have hsh := Lib.hid (Tryd.strings_shouldUseASCIISet (z : Int) )
    rw [h8z] at hsh
    have hit0 := World.iter_heap w S 0
    have hb0 : Below w.heap.size w (w.iter S 0) := (Below.refl _ w).alloc (Nat.le_refl _) _
    have Hcon := Lib.hid (fun c => Lib.contains_iff_indexByte M.data.toList c)
    rw [hM] at Hcon
    have Hz := Lib.hid hz
    clear hasc h8
    go_enter Tryd.func49, Tryd.ntmps49
    go_wp2_with fail
    refine (hsh.out _).mono ?_
    rintro e w1 ⟨rfl, rfl⟩
    go_wp2_with fail
    go_loopw [] (fun wr => ∃ i : Nat, wr.heap[w1.heap.size]? = some (.stringIter S i) ∧ i ≤ z ∧ Below w1.heap.size w1 wr ∧ Hid (anyOf S.data.toList noL = anyOf (S.data.toList.drop i) noL)) (fun wr => z - wr.iterPos w1.heap.size)
    case atStart => exact ⟨0, hit0, by omega, hb0, Lib.hid (by simp)⟩
    case round =>
      clear hit0 hb0
      obtain ⟨i, hit, hi, hbl, HR⟩ := hrel
      rename_i wr
      have hp1 : wr.iterPos w1.heap.size = i := by unfold World.iterPos; rw [hit]
      by_cases hlt : i < z
      · have hnx := fun ty => Lib.run_next_any_at (P := Tryd.prog) wr w1.heap.size S i ty hit (by rw [Hz.out]; exact hlt)
        have hil : i < S.data.toList.length := by rw [Hlen.out, Hz.out]; exact hlt
        obtain ⟨c, hc⟩ : ∃ c, S.data.toList[i]? = some c := ⟨_, List.getElem?_eq_getElem hil⟩
        have hgd : S.data.toList.getD i 0 = c := by rw [List.getD_eq_getElem?_getD, hc]; rfl
        have hit2 := fun k => Lib.iterAt_heap wr w1.heap.size S i k hit
        have hbl2 := fun k => Lib.below_iterAt hbl (k := w1.heap.size) (Nat.le_refl _) S k
        by_cases hlow : c.toNat < 128
        · have hde : Utf8.decode S i = (c.toNat, 1) := by
            have := decode_ascii S i (by rw [Hz.out]; exact hlt) (by
              have e : S.data.toList[i]? = some (S[i]'(by rw [Hz.out]; exact hlt)) := by rw [List.getElem?_eq_getElem hil]; rfl
              rw [hc] at e; cases e; exact hlow)
            have e : S.data.toList[i]? = some (S[i]'(by rw [Hz.out]; exact hlt)) := by rw [List.getElem?_eq_getElem hil]; rfl
            rw [hc] at e
            rw [this, ← Option.some.inj e]
          rw [hde] at hnx
          simp only at hnx
          replace hit2 := hit2 (i + 1)
          replace hbl2 := hbl2 (i + 1)
          have hp2 : (wr.iterAt w1.heap.size S (i + 1)).iterPos w1.heap.size = i + 1 := by unfold World.iterPos; rw [hit2]
          obtain ⟨W2, hW2⟩ : ∃ W2, wr.iterAt w1.heap.size S (i + 1) = W2 := ⟨_, rfl⟩
          rw [hW2] at hnx hit2 hbl2 hp2
          have hir := Lib.hid (Hra.out c hlow)
          have hcc := Hcon.out c
          have HS := Lib.hid (any_step (m := noL) hc)
          rw [hM] at hir
          generalize Lib.indexByte noL c = k at *
          clear hW2 hc hgd hlow hde
          rcases hb : noL.contains c with _ | _
          · rw [hb] at hcc
            have HE := Lib.hid (show anyOf S.data.toList noL = anyOf (S.data.toList.drop (i + 1)) noL by rw [HR.out, HS.out, hb, Bool.false_or])
            have hd : decide (0 ≤ k) = false := hcc.symm
            clear HS HR hcc hb
            go_wp2_with fail
            refine (hir.out _).mono ?_
            rintro e w2 ⟨rfl, rfl⟩
            go_wp2_with fail
            go_roundw
            case rel => exact ⟨i + 1, hit2, by omega, hbl2, HE⟩
            case measure => omega
          · rw [hb] at hcc
            have HE := Lib.hid (show anyOf S.data.toList noL = true by rw [HR.out, HS.out, hb, Bool.true_or])
            have hd : decide (0 ≤ k) = true := hcc.symm

            clear HS HR hcc hb
            go_wp2_with fail
            refine (hir.out _).mono ?_
            rintro e w2 ⟨rfl, rfl⟩
            go_wp2_with fail
            go_ret
            exact ⟨by rw [HE.out]; exact ⟨_, rfl, decide_eq_true (by omega)⟩, hbl2⟩
        · obtain ⟨hr0, hr1, hk1, hk2, hk3⟩ := Hsk.out i hil (by rw [hgd]; omega)
          have HS := Lib.hid (any_skip _ hk2 hk3)
          have hir := Lib.hid (fun W => Hrn.out ((Utf8.decode S i).1 : Int) (by omega) (by omega) W)
          rw [Hlen.out, Hz.out] at hk2
          replace hit2 := hit2 (i + (Utf8.decode S i).2)
          replace hbl2 := hbl2 (i + (Utf8.decode S i).2)
          generalize (Utf8.decode S i).1 = R at *
          generalize (Utf8.decode S i).2 = K at *
          have hp2 : (wr.iterAt w1.heap.size S (i + K)).iterPos w1.heap.size = i + K := by unfold World.iterPos; rw [hit2]
          obtain ⟨W2, hW2⟩ : ∃ W2, wr.iterAt w1.heap.size S (i + K) = W2 := ⟨_, rfl⟩
          rw [hW2] at hnx hit2 hbl2 hp2
          have HE := Lib.hid (show anyOf S.data.toList noL = anyOf (S.data.toList.drop (i + K)) noL by rw [HR.out, HS.out])
          have hlt2 := (Array.getElem?_eq_some_iff.1 hit2).1
          clear hW2 hc hgd hlow HS HR hk3
          go_wp2_with fail
          refine (hir.out _).mono ?_
          rintro e w2 ⟨rfl, hb2⟩
          have hit3 : w2.heap[w1.heap.size]? = some (.stringIter S (i + K)) := by rw [hb2.block _ hlt2]; exact hit2
          have hp3 : w2.iterPos w1.heap.size = i + K := by unfold World.iterPos; rw [hit3]
          have hbl3 := gr_call hbl2 hb2
          go_wp2_with fail
          go_roundw
          case rel => exact ⟨i + K, hit3, by omega, hbl3, HE⟩
          case measure => omega
      · have hen := fun ty => Lib.run_next_end_at (P := Tryd.prog) wr w1.heap.size S i ty hit (by rw [Hz.out]; exact hlt)
        have HE := Lib.hid (show anyOf S.data.toList noL = false by rw [HR.out, List.drop_eq_nil_of_le (by rw [Hlen.out, Hz.out]; omega)]; rfl)
        clear HR
        go_wp2_with fail
        go_ret
        exact ⟨by rw [HE.out]; exact ⟨_, rfl, by decide⟩, hbl⟩
theorem containsAny_any (S : ByteArray) (hS : S.size ≤ 1000000) (w : World) :
    Calls Tryd.prog 42 #[.string S, .string ⟨#[0, 58, 44, 10]⟩] w fun e w' => e = .returned (.bool (anyOf S.data.toList noL)) ∧ Below w.heap.size w w' := by
  obtain ⟨M, hM⟩ : ∃ M : ByteArray, ⟨#[0, 58, 44, 10]⟩ = M := ⟨_, rfl⟩
  have hi := Lib.hid (indexAny_any S M hS (by rw [← hM]; rfl) w)
  rw [hM]
  clear hM
  generalize anyOf S.data.toList noL = b at *
  go_enter Tryd.func42, Tryd.ntmps42
  go_wp2_with fail
  refine (hi.out).mono ?_
  rintro e w1 ⟨⟨k, rfl, hk⟩, hb1⟩
  go_wp2_with fail
  go_ret
  exact ⟨rfl, hb1⟩
end Go.Proofs.YtikdpoekjfbpaaaDoor
