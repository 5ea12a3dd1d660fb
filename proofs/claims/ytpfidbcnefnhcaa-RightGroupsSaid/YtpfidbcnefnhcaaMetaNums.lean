/- Make of the laws of meta, walked: the numbers. -/
import Derived.Test.YtpfidbcnefnhcaaPk12
import Derived.Test.YtpfidbcnefnhcaaPk05
import Derived.Test.YtpfidbcnefnhcaaPk04
import Derived.Deep.CutBlock
namespace Go.Proofs.Ytpfidbcnefnhcaa
open Go.RowKit
open MetaM
set_option linter.unusedVariables false
def numsJ (zs : List Int) (j : Nat) : Array Value := ((List.range 12).map fun i => Value.int .i64 (if i < j then zs.getD i 0 else 0)).toArray
theorem nums_put {zs : List Int} {j G : Nat} {t : TypeId} {w : World} (h : BlkIs w G t (numsJ zs j)) (hj : j < 12) : BlkIs (w.setCell ⟨G, j, none⟩ (.int .i64 (zs.getD j 0))) G t (numsJ zs (j + 1)) := by
  have e : (numsJ zs j).setIfInBounds j (.int .i64 (zs.getD j 0)) = numsJ zs (j + 1) := by
    apply Array.ext_getElem?
    intro q
    by_cases hq : q < 12
    · by_cases e : q = j
      · subst e; simp [numsJ, hq]
      · rw [Array.getElem?_setIfInBounds_ne (Ne.symm e)]
        by_cases h1 : q < j
        · simp [numsJ, hq, h1, show q < j + 1 by omega]
        · simp [numsJ, hq, h1, show ¬ q < j + 1 by omega]
    · rw [Array.getElem?_eq_none (by simp [numsJ]; omega), Array.getElem?_eq_none (by simp [numsJ]; omega)]
  rw [← e]
  exact h.put j _
theorem nums_at {zs : List Int} {j G : Nat} {t : TypeId} {w : World} (h : BlkIs w G t (numsJ zs j)) (hj : j < 12) : w.cell? ⟨G, j, none⟩ = some (.int .i64 0) := h.cell_some j _ (by simp [numsJ, hj])
theorem nums_end (zs : List Int) (len : Nat) : numsJ zs (min 12 len) = #[.int .i64 (numK zs len 0), .int .i64 (numK zs len 1), .int .i64 (numK zs len 2), .int .i64 (numK zs len 3), .int .i64 (numK zs len 4), .int .i64 (numK zs len 5), .int .i64 (numK zs len 6), .int .i64 (numK zs len 7), .int .i64 (numK zs len 8), .int .i64 (numK zs len 9), .int .i64 (numK zs len 10), .int .i64 (numK zs len 11)] := by
  have h : ∀ i, i < 12 → (if i < min 12 len then zs.getD i 0 else 0) = numK zs len i := by
    intro i hi
    unfold numK
    by_cases h : i < len
    · rw [if_pos h, if_pos (by omega)]
    · rw [if_neg h, if_neg (by omega)]
  rw [← h 0 (by omega), ← h 1 (by omega), ← h 2 (by omega), ← h 3 (by omega), ← h 4 (by omega), ← h 5 (by omega), ← h 6 (by omega), ← h 7 (by omega), ← h 8 (by omega), ← h 9 (by omega), ← h 10 (by omega), ← h 11 (by omega)]
  rfl
theorem numK_range {zs : List Int} {len : Nat} (h : ∀ j, j < len → (Lit.int .u8 (zs.getD j 0)).wf = true) (i : Nat) : 0 ≤ numK zs len i ∧ numK zs len i ≤ 255 := by
  unfold numK
  by_cases hi : i < len
  · rw [if_pos hi]
    have := h i hi
    simpa [Lit.wf, IntKind.min, IntKind.max, IntKind.signed, IntKind.bits] using this
  · rw [if_neg hi]; omega
theorem IsRow.tail2 {k : IntKind} {w : World} {b off len cap : Nat} {zs : List Int} (h : IsRow k w (some ⟨b, off, none⟩) len cap zs) (n : Nat) (hn : n ≤ len) :
    IsRow k w (if cap = n then some ⟨b, off, none⟩ else some ⟨b, off + n, none⟩) (len - n) (cap - n) (zs.drop n) := by
  by_cases hc : cap = n
  · rw [if_pos hc]
    rcases h with ⟨h, _⟩ | ⟨x, hx, hl, hm, hz, _, hw⟩
    · cases h
    · have hd : zs.drop n = [] := List.drop_eq_nil_of_le (by omega)
      rw [hd]
      exact .inr ⟨_, rfl, by omega, by omega, by simp; omega, fun i hi => by simp at hi, fun q hq => by simp at hq⟩
  · rw [if_neg hc]; exact h.tail n hn
theorem put14_row {α : Type} {E : Elt α} {B g : Nat} {v : Value} {l : List α} {w : World} (h : Row E B v l w) (hn : v.ownBlock ≠ some g) (c0 c1 c2 c3 c4 c5 c6 c7 c8 c9 c10 c11 c12 c13 : Value) : Row E B v l (put14 w g c0 c1 c2 c3 c4 c5 c6 c7 c8 c9 c10 c11 c12 c13) := by
  unfold put14
  exact ((((((((((((((h.other (a := ⟨g, 0, none⟩) hn c0).other (a := ⟨g, 1, none⟩) hn c1).other (a := ⟨g, 2, none⟩) hn c2).other (a := ⟨g, 3, none⟩) hn c3).other (a := ⟨g, 4, none⟩) hn c4).other (a := ⟨g, 5, none⟩) hn c5).other (a := ⟨g, 6, none⟩) hn c6).other (a := ⟨g, 7, none⟩) hn c7).other (a := ⟨g, 8, none⟩) hn c8).other (a := ⟨g, 9, none⟩) hn c9).other (a := ⟨g, 10, none⟩) hn c10).other (a := ⟨g, 11, none⟩) hn c11).other (a := ⟨g, 12, none⟩) hn c12).other (a := ⟨g, 13, none⟩) hn c13)
structure OwnM (B : Nat) (va vd vx : Value) : Prop where
  a : ∀ q, va.ownBlock = some q → B ≤ q
  d : ∀ q, vd.ownBlock = some q → B ≤ q
  x : ∀ q, vx.ownBlock = some q → B ≤ q
attribute [local irreducible] Row At

set_option maxHeartbeats 6400000 in
set_option maxRecDepth 100000 in
theorem metaMake_own (a : Option Addr) (len cap : Nat) (zs : List Int) (k : Int) (w : World) (hr : IsRow .u8 w a len cap zs) (hlen : len ≤ 9223372036854775807) (hka : kAny k) :
    Calls Try.prog 20 #[.slice a len cap, .int .i64 k] w fun e w' => ((∃ va vd vx, e = .returned (.agg (metaC (madeM zs len k) va vd vx)) ∧ MetaAt (madeM zs len k) va vd vx w' ∧ OwnM w.heap.size va vd vx) ∧ (mayM (madeM zs len k) k = true ∧ XOk (madeM zs len k).xat)) ∧ Below w.heap.size w w' := by
  have HKA := Lib.hid hka
  clear hka
  have Hopen := Lib.hid (fun h => IsRow.open hr h)
  have HR := Lib.hid hr
  have HK := Lib.hid (fun i => numK_range (zs := zs) (len := len) (fun j hj => by obtain ⟨b, off, _, _, _, h⟩ := IsRow.open hr (by omega); exact (h j hj).2) i)
  clear hr
  have hmk : ∀ W : World, (Instr.makeSlice 31 (.int .i64 12) (.int .i64 12)).run Try.prog W = .ok (.slice (some ⟨W.heap.size, 0, none⟩) 12 12) (W.alloc (.cells (numsJ zs 0) 3)) := fun _ => by kernel_rfl
  go_enter Try.func20, Try.ntmps20
  obtain ⟨W1, hW1⟩ : ∃ W, w.alloc (.cells #[.int .i64 0, .int .i64 0, .int .i64 0, .int .i64 0, .int .i64 0, .slice none 0 0, .slice none 0 0, .slice none 0 0, .int .i64 0, .int .u64 0, .int .u64 0, .bool false, .int .i64 0, .int .i64 0] 30) = W := ⟨_, rfl⟩
  have qR : BlkIs W1 w.heap.size 30 #[.int .i64 0, .int .i64 0, .int .i64 0, .int .i64 0, .int .i64 0, .slice none 0 0, .slice none 0 0, .slice none 0 0, .int .i64 0, .int .u64 0, .int .u64 0, .bool false, .int .i64 0, .int .i64 0] := by rw [← hW1]; exact BlkIs.made _ _ _
  have hbl1 : Below w.heap.size w W1 := by rw [← hW1]; exact gr_alloc (Below.refl _ _) _
  obtain ⟨W2, hW2⟩ : ∃ W, W1.alloc (.cells (numsJ zs 0) 3) = W := ⟨_, rfl⟩
  have qK : BlkIs W2 W1.heap.size 3 (numsJ zs 0) := by rw [← hW2]; exact BlkIs.made _ _ _
  have hbl2 : Below w.heap.size w W2 := by rw [← hW2]; exact gr_alloc hbl1 _
  replace qR := qR.alloc (.cells (numsJ zs 0) 3)
  rw [hW2] at qR
  obtain ⟨G, hG⟩ : ∃ G, W1.heap.size = G := ⟨_, rfl⟩
  have hsG : w.heap.size < G := by rw [← hG, ← hW1]; simp
  rw [hG] at qK
  go_upto_block 0 with fail
  go_cut [6] from 9 to 27 (fun s6 wx => BlkIs wx G 3 #[.int .i64 (numK zs len 0), .int .i64 (numK zs len 1), .int .i64 (numK zs len 2), .int .i64 (numK zs len 3), .int .i64 (numK zs len 4), .int .i64 (numK zs len 5), .int .i64 (numK zs len 6), .int .i64 (numK zs len 7), .int .i64 (numK zs len 8), .int .i64 (numK zs len 9), .int .i64 (numK zs len 10), .int .i64 (numK zs len 11)] ∧ Below G W2 wx)
  case first =>
    go_wp2_with fail
    clear hW2 hW1 hbl1 hG hmk
    go_loopw [6] (fun iv w9 => ∃ (j : Nat), iv = .int .i64 (j : Int) ∧ j ≤ 12 ∧ j ≤ len ∧ Below G W2 w9 ∧ BlkIs w9 G 3 (numsJ zs j)) (fun iv _ => 12 - (intOf iv).toNat)
    case atStart => exact ⟨0, rfl, by omega, by omega, Below.refl _ _, qK⟩
    case round =>
      clear qK
      obtain ⟨j, rfl, hj, hjl, hbG, qK⟩ := hrel
      rename World => wr
      have hblr : Below w.heap.size w wr := hbl2.trans (hbG.mono (Nat.le_of_lt hsG))
      by_cases hc : j < 12 ∧ j < len
      · obtain ⟨b, off, rfl, hb, hlc, hcells⟩ := Hopen.out (by omega)
        obtain ⟨c0, wf0⟩ := hcells j hc.2
        replace c0 := cell_kept hblr c0
        have e1 : decide ((j : Int) < 12) = true := decide_eq_true (by omega)
        have e1' : (j : Int) < 12 := by omega
        have e2 : decide ((j : Int) < (len : Int)) = true := decide_eq_true (by omega)
        have e2' : (j : Int) < (len : Int) := by omega
        have e3 := hc.2
        have e4 := hc.1
        have kz := nums_at qK hc.1
        have fz := qK.free j
        have hput := nums_put qK hc.1
        have hbp : Below G W2 (wr.setCell ⟨G, j, none⟩ (.int .i64 (zs.getD j 0))) := hbG.setCell (p := ⟨G, j, none⟩) (Nat.le_refl _) _
        generalize zs.getD j 0 = x at *
        have hwx : IntKind.i64.wrap x = x := by
          have : 0 ≤ x ∧ x ≤ 255 := by simpa [Lit.wf, IntKind.min, IntKind.max, IntKind.signed, IntKind.bits] using wf0
          rw [IntKind.wrap_i64]; omega
        have hwj : IntKind.i64.wrap ((j : Int) + 1) = (j : Int) + 1 := by rw [IntKind.wrap_i64]; omega
        clear hcells wf0 qK
        go_wp2_with fail
        go_roundw
        case rel => exact ⟨j + 1, rfl, by omega, by omega, hbp, hput⟩
        case measure => simp only [intOf]; omega
      · have hjm : j = min 12 len := by omega
        rw [hjm, nums_end] at qK
        have hcond : (decide ((j : Int) < 12) = false ∧ decide (j < 12) = false) ∨ (decide ((j : Int) < 12) = true ∧ decide (j < 12) = true ∧ decide ((j : Int) < (len : Int)) = false ∧ decide (j < len) = false) := by
          by_cases h1 : j < 12
          · exact .inr ⟨decide_eq_true (by omega), decide_eq_true h1, decide_eq_false (by omega), decide_eq_false (by omega)⟩
          · exact .inl ⟨decide_eq_false (by omega), decide_eq_false h1⟩
        rcases hcond with ⟨hcond, hcondn⟩ | ⟨hcond, hcondn, hcond2, hcond3⟩
        · clear hjm
          go_wp2_with fail
          go_meet
          exact ⟨qK, hbG⟩
        · clear hjm
          go_wp2_with fail
          go_meet
          exact ⟨qK, hbG⟩
  case rest =>
    clear qK
    obtain ⟨qK, hbG⟩ := hcut
    rename World => wr
    have hblr : Below w.heap.size w wr := hbl2.trans (hbG.mono (Nat.le_of_lt hsG))
    replace qR := qR.kept hbG hsG
    have hGr := qK.size
    have hRr := qR.size
    clear hW2 hW1 hbl1 hG hmk hbG hbl2
    have HR0 := Lib.hid (HK.out 0)
    obtain ⟨x0, hx0⟩ : ∃ q, numK zs len 0 = q := ⟨_, rfl⟩
    obtain ⟨x1, hx1⟩ : ∃ q, numK zs len 1 = q := ⟨_, rfl⟩
    obtain ⟨x2, hx2⟩ : ∃ q, numK zs len 2 = q := ⟨_, rfl⟩
    obtain ⟨x3, hx3⟩ : ∃ q, numK zs len 3 = q := ⟨_, rfl⟩
    obtain ⟨x4, hx4⟩ : ∃ q, numK zs len 4 = q := ⟨_, rfl⟩
    obtain ⟨x5, hx5⟩ : ∃ q, numK zs len 5 = q := ⟨_, rfl⟩
    have b0 := HK.out 0
    have b1 := HK.out 1
    have b2 := HK.out 2
    have b3 := HK.out 3
    have b4 := HK.out 4
    have b5 := HK.out 5
    rw [hx0] at b0
    rw [hx1] at b1
    rw [hx2] at b2
    rw [hx3] at b3
    rw [hx4] at b4
    rw [hx5] at b5
    rw [hx0, hx1, hx2, hx3, hx4, hx5] at qK
    have HX := Lib.hid (And.intro hx0 (And.intro hx1 (And.intro hx2 (And.intro hx3 (And.intro hx4 hx5)))))
    clear hx0 hx1 hx2 hx3 hx4 hx5 HR0
    have t1 : x1.tmod 16 = x1 % 16 := Int.tmod_eq_emod_of_nonneg b1.1
    have t2 : x2.tmod 6 = x2 % 6 := Int.tmod_eq_emod_of_nonneg b2.1
    have t3 : x3.tmod 6 = x3 % 6 := Int.tmod_eq_emod_of_nonneg b3.1
    have t5 : x5.tmod 2 = x5 % 2 := Int.tmod_eq_emod_of_nonneg b5.1
    have m0 : IntKind.i64.wrap (x0 * 16) = x0 * 16 := by rw [IntKind.wrap_i64]; omega
    have m1 : IntKind.i64.wrap (x0 * 16 + x1 % 16) = x0 * 16 + x1 % 16 := by rw [IntKind.wrap_i64]; omega
    have m4 : IntKind.i64.wrap (x4 * 1000) = x4 * 1000 := by rw [IntKind.wrap_i64]; omega
    have m5 : IntKind.i64.wrap (x4 * 1000 - 50000) = x4 * 1000 - 50000 := by rw [IntKind.wrap_i64]; omega
    have m6 : IntKind.i64.wrap (x5 % 2 * 500000000) = x5 % 2 * 500000000 := by rw [IntKind.wrap_i64]; omega
    go_wp2_with fail
    have hblk := qK
    refine region_oneUL (S := fun W => Below wr.heap.size wr W) 30
      [(fun W v => v = .slice (some ⟨G, 0, none⟩) 12 12),
      (fun W v => v = .pointer (some ⟨G, 0, none⟩)),
      (fun W v => v = .int .i64 x0),
      (fun W v => v = .int .i64 (x0 * 16)),
      (fun W v => v = .slice (some ⟨G, 0, none⟩) 12 12),
      (fun W v => v = .pointer (some ⟨G, 1, none⟩)),
      (fun W v => v = .int .i64 x1),
      (fun W v => v = .int .i64 (x1 % 16)),
      (fun W v => v = .int .i64 (x0 * 16 + x1 % 16)),
      (fun W v => v = .slice (some ⟨G, 0, none⟩) 12 12),
      (fun W v => v = .pointer (some ⟨G, 2, none⟩)),
      (fun W v => v = .int .i64 x2),
      (fun W v => v = .int .i64 (x2 % 6)),
      (fun W v => v = .slice (some ⟨G, 0, none⟩) 12 12),
      (fun W v => v = .pointer (some ⟨G, 3, none⟩)),
      (fun W v => v = .int .i64 x3),
      (fun W v => v = .int .i64 (x3 % 6)),
      (fun W v => v = .slice (some ⟨G, 0, none⟩) 12 12),
      (fun W v => v = .pointer (some ⟨G, 4, none⟩)),
      (fun W v => v = .int .i64 x4),
      (fun W v => v = .int .i64 (x4 * 1000)),
      (fun W v => v = .int .i64 (x4 * 1000 - 50000)),
      (fun W v => v = .slice (some ⟨G, 0, none⟩) 12 12),
      (fun W v => v = .pointer (some ⟨G, 5, none⟩)),
      (fun W v => v = .int .i64 x5),
      (fun W v => v = .int .i64 (x5 % 2)),
      (fun W v => v = .int .i64 (x5 % 2 * 500000000)),
      (fun W v => v = .agg #[.int .i64 (x4 * 1000 - 50000), .int .i64 (x5 % 2 * 500000000)]),
      (fun W v => v = .agg #[.int .i64 (x0 * 16 + x1 % 16), .int .i64 (x2 % 6), .int .i64 (x3 % 6), .int .i64 (x4 * 1000 - 50000), .int .i64 (x5 % 2 * 500000000), .slice none 0 0, .slice none 0 0, .slice none 0 0, .int .i64 0, .int .u64 0, .int .u64 0, .bool false, .int .i64 0, .int .i64 0]),
      (fun W v => ∃ g, v = .pointer (some ⟨g, 0, none⟩) ∧ wr.heap.size ≤ g ∧ BlkIs W g 30 #[.int .i64 0, .int .i64 0, .int .i64 0, .int .i64 0, .int .i64 0, .slice none 0 0, .slice none 0 0, .slice none 0 0, .int .i64 0, .int .u64 0, .int .u64 0, .bool false, .int .i64 0, .int .i64 0])] (by rfl) (by kernel_rfl) (by kernel_rfl) (by kernel_rfl) (by kernel_rfl) (by rfl) (by kernel_rfl) ?hS ?hp ?hs ?he
    case hS => exact gr_drew (Below.refl _ _)
    case hp => repeat' (first | exact trivial | refine ⟨fun _ _ _ _ h => h, ?_⟩ | refine ⟨fun _ _ _ hb h => ?_, ?_⟩ | (obtain ⟨h', e1, e2, e3⟩ := h; exact ⟨h', e1, e2, e3.kept hb e3.size⟩))
    case hs =>
      simp only [List.take_succ_cons, List.take_zero]
      refine ⟨?_, ?_, ?_, ?_, ?_, ?_, ?_, ?_, ?_, ?_, ?_, ?_, ?_, ?_, ?_, ?_, ?_, ?_, ?_, ?_, ?_, ?_, ?_, ?_, ?_, ?_, ?_, ?_, ?_, ?_, trivial⟩
      · refine .inl ⟨met_none rfl, ?_⟩
        intro a W K hS hd hD hf hK
        have e5 : a.tmps.getD 5 undef = .slice (some ⟨G, 0, none⟩) 12 12 := hf 5 (by kernel_rfl)
        clear hd hf hD
        go_simp
        exact hK _ _ (Below.refl _ _) hS rfl (fun h => absurd h (by decide))
      · refine .inl ⟨met_none rfl, ?_⟩
        intro a W K hS hd hD hf hK
        have e27 : a.tmps.getD 27 undef = .slice (some ⟨G, 0, none⟩) 12 12 := hd ⟨0, .data⟩ (by simp) rfl
        clear hd hf hD
        go_simp
        exact hK _ _ (Below.refl _ _) hS rfl (fun h => absurd h (by decide))
      · refine .inl ⟨met_none rfl, ?_⟩
        intro a W K hS hd hD hf hK
        have e28 : a.tmps.getD 28 undef = .pointer (some ⟨G, 0, none⟩) := hd ⟨1, .data⟩ (by simp) rfl
        have k0 := (hblk.kept hS hblk.size).cell_some 0 _ rfl
        clear hd hf hD
        go_simp
        exact hK _ _ (Below.refl _ _) hS rfl (fun h => absurd h (by decide))
      · refine .inl ⟨met_none rfl, ?_⟩
        intro a W K hS hd hD hf hK
        have e29 : a.tmps.getD 29 undef = .int .i64 x0 := hd ⟨2, .data⟩ (by simp) rfl
        clear hd hf hD
        go_simp
        exact hK _ _ (Below.refl _ _) hS rfl (fun h => absurd h (by decide))
      · refine .inl ⟨met_none rfl, ?_⟩
        intro a W K hS hd hD hf hK
        have e5 : a.tmps.getD 5 undef = .slice (some ⟨G, 0, none⟩) 12 12 := hf 5 (by kernel_rfl)
        clear hd hf hD
        go_simp
        exact hK _ _ (Below.refl _ _) hS rfl (fun h => absurd h (by decide))
      · refine .inl ⟨met_none rfl, ?_⟩
        intro a W K hS hd hD hf hK
        have e31 : a.tmps.getD 31 undef = .slice (some ⟨G, 0, none⟩) 12 12 := hd ⟨4, .data⟩ (by simp) rfl
        clear hd hf hD
        go_simp
        exact hK _ _ (Below.refl _ _) hS rfl (fun h => absurd h (by decide))
      · refine .inl ⟨met_none rfl, ?_⟩
        intro a W K hS hd hD hf hK
        have e32 : a.tmps.getD 32 undef = .pointer (some ⟨G, 1, none⟩) := hd ⟨5, .data⟩ (by simp) rfl
        have k0 := (hblk.kept hS hblk.size).cell_some 1 _ rfl
        clear hd hf hD
        go_simp
        exact hK _ _ (Below.refl _ _) hS rfl (fun h => absurd h (by decide))
      · refine .inl ⟨met_none rfl, ?_⟩
        intro a W K hS hd hD hf hK
        have e33 : a.tmps.getD 33 undef = .int .i64 x1 := hd ⟨6, .data⟩ (by simp) rfl
        clear hd hf hD
        go_simp
        exact hK _ _ (Below.refl _ _) hS rfl (fun h => absurd h (by decide))
      · refine .inl ⟨met_none rfl, ?_⟩
        intro a W K hS hd hD hf hK
        have e30 : a.tmps.getD 30 undef = .int .i64 (x0 * 16) := hd ⟨3, .data⟩ (by simp) rfl
        have e34 : a.tmps.getD 34 undef = .int .i64 (x1 % 16) := hd ⟨7, .data⟩ (by simp) rfl
        clear hd hf hD
        go_simp
        exact hK _ _ (Below.refl _ _) hS rfl (fun h => absurd h (by decide))
      · refine .inl ⟨met_none rfl, ?_⟩
        intro a W K hS hd hD hf hK
        have e5 : a.tmps.getD 5 undef = .slice (some ⟨G, 0, none⟩) 12 12 := hf 5 (by kernel_rfl)
        clear hd hf hD
        go_simp
        exact hK _ _ (Below.refl _ _) hS rfl (fun h => absurd h (by decide))
      · refine .inl ⟨met_none rfl, ?_⟩
        intro a W K hS hd hD hf hK
        have e36 : a.tmps.getD 36 undef = .slice (some ⟨G, 0, none⟩) 12 12 := hd ⟨9, .data⟩ (by simp) rfl
        clear hd hf hD
        go_simp
        exact hK _ _ (Below.refl _ _) hS rfl (fun h => absurd h (by decide))
      · refine .inl ⟨met_none rfl, ?_⟩
        intro a W K hS hd hD hf hK
        have e37 : a.tmps.getD 37 undef = .pointer (some ⟨G, 2, none⟩) := hd ⟨10, .data⟩ (by simp) rfl
        have k0 := (hblk.kept hS hblk.size).cell_some 2 _ rfl
        clear hd hf hD
        go_simp
        exact hK _ _ (Below.refl _ _) hS rfl (fun h => absurd h (by decide))
      · refine .inl ⟨met_none rfl, ?_⟩
        intro a W K hS hd hD hf hK
        have e38 : a.tmps.getD 38 undef = .int .i64 x2 := hd ⟨11, .data⟩ (by simp) rfl
        clear hd hf hD
        go_simp
        exact hK _ _ (Below.refl _ _) hS rfl (fun h => absurd h (by decide))
      · refine .inl ⟨met_none rfl, ?_⟩
        intro a W K hS hd hD hf hK
        have e5 : a.tmps.getD 5 undef = .slice (some ⟨G, 0, none⟩) 12 12 := hf 5 (by kernel_rfl)
        clear hd hf hD
        go_simp
        exact hK _ _ (Below.refl _ _) hS rfl (fun h => absurd h (by decide))
      · refine .inl ⟨met_none rfl, ?_⟩
        intro a W K hS hd hD hf hK
        have e40 : a.tmps.getD 40 undef = .slice (some ⟨G, 0, none⟩) 12 12 := hd ⟨13, .data⟩ (by simp) rfl
        clear hd hf hD
        go_simp
        exact hK _ _ (Below.refl _ _) hS rfl (fun h => absurd h (by decide))
      · refine .inl ⟨met_none rfl, ?_⟩
        intro a W K hS hd hD hf hK
        have e41 : a.tmps.getD 41 undef = .pointer (some ⟨G, 3, none⟩) := hd ⟨14, .data⟩ (by simp) rfl
        have k0 := (hblk.kept hS hblk.size).cell_some 3 _ rfl
        clear hd hf hD
        go_simp
        exact hK _ _ (Below.refl _ _) hS rfl (fun h => absurd h (by decide))
      · refine .inl ⟨met_none rfl, ?_⟩
        intro a W K hS hd hD hf hK
        have e42 : a.tmps.getD 42 undef = .int .i64 x3 := hd ⟨15, .data⟩ (by simp) rfl
        clear hd hf hD
        go_simp
        exact hK _ _ (Below.refl _ _) hS rfl (fun h => absurd h (by decide))
      · refine .inl ⟨met_none rfl, ?_⟩
        intro a W K hS hd hD hf hK
        have e5 : a.tmps.getD 5 undef = .slice (some ⟨G, 0, none⟩) 12 12 := hf 5 (by kernel_rfl)
        clear hd hf hD
        go_simp
        exact hK _ _ (Below.refl _ _) hS rfl (fun h => absurd h (by decide))
      · refine .inl ⟨met_none rfl, ?_⟩
        intro a W K hS hd hD hf hK
        have e44 : a.tmps.getD 44 undef = .slice (some ⟨G, 0, none⟩) 12 12 := hd ⟨17, .data⟩ (by simp) rfl
        clear hd hf hD
        go_simp
        exact hK _ _ (Below.refl _ _) hS rfl (fun h => absurd h (by decide))
      · refine .inl ⟨met_none rfl, ?_⟩
        intro a W K hS hd hD hf hK
        have e45 : a.tmps.getD 45 undef = .pointer (some ⟨G, 4, none⟩) := hd ⟨18, .data⟩ (by simp) rfl
        have k0 := (hblk.kept hS hblk.size).cell_some 4 _ rfl
        clear hd hf hD
        go_simp
        exact hK _ _ (Below.refl _ _) hS rfl (fun h => absurd h (by decide))
      · refine .inl ⟨met_none rfl, ?_⟩
        intro a W K hS hd hD hf hK
        have e46 : a.tmps.getD 46 undef = .int .i64 x4 := hd ⟨19, .data⟩ (by simp) rfl
        clear hd hf hD
        go_simp
        exact hK _ _ (Below.refl _ _) hS rfl (fun h => absurd h (by decide))
      · refine .inl ⟨met_none rfl, ?_⟩
        intro a W K hS hd hD hf hK
        have e47 : a.tmps.getD 47 undef = .int .i64 (x4 * 1000) := hd ⟨20, .data⟩ (by simp) rfl
        clear hd hf hD
        go_simp
        exact hK _ _ (Below.refl _ _) hS rfl (fun h => absurd h (by decide))
      · refine .inl ⟨met_none rfl, ?_⟩
        intro a W K hS hd hD hf hK
        have e5 : a.tmps.getD 5 undef = .slice (some ⟨G, 0, none⟩) 12 12 := hf 5 (by kernel_rfl)
        clear hd hf hD
        go_simp
        exact hK _ _ (Below.refl _ _) hS rfl (fun h => absurd h (by decide))
      · refine .inl ⟨met_none rfl, ?_⟩
        intro a W K hS hd hD hf hK
        have e49 : a.tmps.getD 49 undef = .slice (some ⟨G, 0, none⟩) 12 12 := hd ⟨22, .data⟩ (by simp) rfl
        clear hd hf hD
        go_simp
        exact hK _ _ (Below.refl _ _) hS rfl (fun h => absurd h (by decide))
      · refine .inl ⟨met_none rfl, ?_⟩
        intro a W K hS hd hD hf hK
        have e50 : a.tmps.getD 50 undef = .pointer (some ⟨G, 5, none⟩) := hd ⟨23, .data⟩ (by simp) rfl
        have k0 := (hblk.kept hS hblk.size).cell_some 5 _ rfl
        clear hd hf hD
        go_simp
        exact hK _ _ (Below.refl _ _) hS rfl (fun h => absurd h (by decide))
      · refine .inl ⟨met_none rfl, ?_⟩
        intro a W K hS hd hD hf hK
        have e51 : a.tmps.getD 51 undef = .int .i64 x5 := hd ⟨24, .data⟩ (by simp) rfl
        clear hd hf hD
        go_simp
        exact hK _ _ (Below.refl _ _) hS rfl (fun h => absurd h (by decide))
      · refine .inl ⟨met_none rfl, ?_⟩
        intro a W K hS hd hD hf hK
        have e52 : a.tmps.getD 52 undef = .int .i64 (x5 % 2) := hd ⟨25, .data⟩ (by simp) rfl
        clear hd hf hD
        go_simp
        exact hK _ _ (Below.refl _ _) hS rfl (fun h => absurd h (by decide))
      · refine .inl ⟨met_none rfl, ?_⟩
        intro a W K hS hd hD hf hK
        have e48 : a.tmps.getD 48 undef = .int .i64 (x4 * 1000 - 50000) := hd ⟨21, .data⟩ (by simp) rfl
        have e53 : a.tmps.getD 53 undef = .int .i64 (x5 % 2 * 500000000) := hd ⟨26, .data⟩ (by simp) rfl
        have f48 := e48
        rw [Array.getD_eq_getD_getElem?] at f48
        have f53 := e53
        rw [Array.getD_eq_getD_getElem?] at f53
        clear hd hf hD
        go_simp
        exact hK _ _ (Below.refl _ _) hS rfl (fun h => absurd h (by decide))
      · refine .inl ⟨met_none rfl, ?_⟩
        intro a W K hS hd hD hf hK
        have e35 : a.tmps.getD 35 undef = .int .i64 (x0 * 16 + x1 % 16) := hd ⟨8, .data⟩ (by simp) rfl
        have e39 : a.tmps.getD 39 undef = .int .i64 (x2 % 6) := hd ⟨12, .data⟩ (by simp) rfl
        have e43 : a.tmps.getD 43 undef = .int .i64 (x3 % 6) := hd ⟨16, .data⟩ (by simp) rfl
        have e54 : a.tmps.getD 54 undef = .agg #[.int .i64 (x4 * 1000 - 50000), .int .i64 (x5 % 2 * 500000000)] := hd ⟨27, .data⟩ (by simp) rfl
        have f35 := e35
        rw [Array.getD_eq_getD_getElem?] at f35
        have f39 := e39
        rw [Array.getD_eq_getD_getElem?] at f39
        have f43 := e43
        rw [Array.getD_eq_getD_getElem?] at f43
        have f54 := e54
        rw [Array.getD_eq_getD_getElem?] at f54
        clear hd hf hD
        go_simp
        exact hK _ _ (Below.refl _ _) hS rfl (fun h => absurd h (by decide))
      · refine .inl ⟨met_none rfl, ?_⟩
        intro a W K hS hd hD hf hK
        have hs := hS.size
        clear hd hf hD
        go_simp
        exact hK _ _ ((Below.refl _ _).alloc (Nat.le_refl _) _) (gr_alloc hS _) ⟨_, rfl, hs, BlkIs.made _ _ _⟩ (fun h => absurd h (by decide))
    case he =>
      intro vals w6 K hS6 hV hK
      have e28 := hV 28 (by omega)
      have e29 := hV 29 (by omega)
      clear hV
      simp only [List.getD_cons_succ, List.getD_cons_zero] at e28 e29
      obtain ⟨g, e29, hg, hblk⟩ := e29
      refine Later.mk ?_
      simp only [List.append_eq, List.cons_append, List.nil_append, setN, Nat.reduceAdd, List.setIfInBounds_toArray, List.set_cons_succ, List.set_cons_zero]
      rw [show vals 28 = _ from e28, show vals 29 = _ from e29]
      have k0 := hblk.cell_some 0 _ rfl; have k1 := hblk.cell_some 1 _ rfl; have k2 := hblk.cell_some 2 _ rfl; have k3 := hblk.cell_some 3 _ rfl; have k4 := hblk.cell_some 4 _ rfl; have k5 := hblk.cell_some 5 _ rfl; have k6 := hblk.cell_some 6 _ rfl; have k7 := hblk.cell_some 7 _ rfl; have k8 := hblk.cell_some 8 _ rfl; have k9 := hblk.cell_some 9 _ rfl; have k10 := hblk.cell_some 10 _ rfl; have k11 := hblk.cell_some 11 _ rfl; have k12 := hblk.cell_some 12 _ rfl; have k13 := hblk.cell_some 13 _ rfl
      have f0 := hblk.free 0; have f1 := hblk.free 1; have f2 := hblk.free 2; have f3 := hblk.free 3; have f4 := hblk.free 4; have f5 := hblk.free 5; have f6 := hblk.free 6; have f7 := hblk.free 7; have f8 := hblk.free 8; have f9 := hblk.free 9; have f10 := hblk.free 10; have f11 := hblk.free 11; have f12 := hblk.free 12; have f13 := hblk.free 13
      go_simp
      refine hK _ _ ?_
      have qM := put14_is hblk rfl (.int .i64 (x0 * 16 + x1 % 16)) (.int .i64 (x2 % 6)) (.int .i64 (x3 % 6)) (.int .i64 (x4 * 1000 - 50000)) (.int .i64 (x5 % 2 * 500000000)) (.slice none 0 0) (.slice none 0 0) (.slice none 0 0) (.int .i64 0) (.int .u64 0) (.int .u64 0) (.bool false) (.int .i64 0) (.int .i64 0)
      have hbl6 := gr_call hblr hS6
      have hgw : w.heap.size ≤ g := Nat.le_trans hblr.size hg
      have hbl7 := put14_below hbl6 hgw (.int .i64 (x0 * 16 + x1 % 16)) (.int .i64 (x2 % 6)) (.int .i64 (x3 % 6)) (.int .i64 (x4 * 1000 - 50000)) (.int .i64 (x5 % 2 * 500000000)) (.slice none 0 0) (.slice none 0 0) (.slice none 0 0) (.int .i64 0) (.int .u64 0) (.int .u64 0) (.bool false) (.int .i64 0) (.int .i64 0)
      have nGg : G ≠ g := by omega
      have nRg : w.heap.size ≠ g := by omega
      have nGR : G ≠ w.heap.size := by omega
      replace qK := put14_other (qK.kept hS6 qK.size) nGg (.int .i64 (x0 * 16 + x1 % 16)) (.int .i64 (x2 % 6)) (.int .i64 (x3 % 6)) (.int .i64 (x4 * 1000 - 50000)) (.int .i64 (x5 % 2 * 500000000)) (.slice none 0 0) (.slice none 0 0) (.slice none 0 0) (.int .i64 0) (.int .u64 0) (.int .u64 0) (.bool false) (.int .i64 0) (.int .i64 0)
      replace qR := put14_other (qR.kept hS6 qR.size) nRg (.int .i64 (x0 * 16 + x1 % 16)) (.int .i64 (x2 % 6)) (.int .i64 (x3 % 6)) (.int .i64 (x4 * 1000 - 50000)) (.int .i64 (x5 % 2 * 500000000)) (.slice none 0 0) (.slice none 0 0) (.slice none 0 0) (.int .i64 0) (.int .u64 0) (.int .u64 0) (.bool false) (.int .i64 0) (.int .i64 0)
      obtain ⟨W7, hW7⟩ : ∃ W, put14 w6 g (.int .i64 (x0 * 16 + x1 % 16)) (.int .i64 (x2 % 6)) (.int .i64 (x3 % 6)) (.int .i64 (x4 * 1000 - 50000)) (.int .i64 (x5 % 2 * 500000000)) (.slice none 0 0) (.slice none 0 0) (.slice none 0 0) (.int .i64 0) (.int .u64 0) (.int .u64 0) (.bool false) (.int .i64 0) (.int .i64 0) = W := ⟨_, rfl⟩
      rw [hW7] at qM qK qR hbl7
      have HZ7 := Lib.hid (show w.heap.size ≤ W7.heap.size from hbl7.size)
      unfold put14 at hW7
      rw [hW7]
      have hgG : G < W7.heap.size := qK.size
      have hgR : w.heap.size < W7.heap.size := qR.size
      have hgg : g < W7.heap.size := qM.size
      clear hW7 hK hS6 hblk e28 e29 hbl6 k0 k1 k2 k3 k4 k5 k6 k7 k8 k9 k10 k11 k12 k13 f0 f1 f2 f3 f4 f5 f6 f7 f8 f9 f10 f11 f12 f13 t1 t2 t3 t5 m0 m1 m4 m5 m6
      have HXM := Lib.hid (fun (b off : Nat) (h : a = some ⟨b, off, none⟩) (h2 : 12 ≤ len) (W : World) (hb : Below w.heap.size w W) => XatW.make_fn (some ⟨b, off + 12, none⟩) (len - 12) (cap - 12) (zs.drop 12) W (isRow_call (IsRow.tail (by rw [← h]; exact HR.out) 12 h2) hb) (by omega))
      go_upto_if 58 with fail
      go_cut [60] from 56 to 64 (fun _ wx => ∃ px nx cx, BlkIs wx g 30 #[.int .i64 (x0 * 16 + x1 % 16), .int .i64 (x2 % 6), .int .i64 (x3 % 6), .int .i64 (x4 * 1000 - 50000), .int .i64 (x5 % 2 * 500000000), .slice none 0 0, .slice none 0 0, .slice px nx cx, .int .i64 0, .int .u64 0, .int .u64 0, .bool false, .int .i64 0, .int .i64 0] ∧ Row XatW.xatE W7.heap.size (.slice px nx cx) (xatK zs len) wx ∧ XOk (xatK zs len) ∧ BlkIs wx G 3 #[.int .i64 x0, .int .i64 x1, .int .i64 x2, .int .i64 x3, .int .i64 x4, .int .i64 x5, .int .i64 (numK zs len 6), .int .i64 (numK zs len 7), .int .i64 (numK zs len 8), .int .i64 (numK zs len 9), .int .i64 (numK zs len 10), .int .i64 (numK zs len 11)] ∧ BlkIs wx w.heap.size 30 #[.int .i64 0, .int .i64 0, .int .i64 0, .int .i64 0, .int .i64 0, .slice none 0 0, .slice none 0 0, .slice none 0 0, .int .i64 0, .int .u64 0, .int .u64 0, .bool false, .int .i64 0, .int .i64 0] ∧ Below w.heap.size w wx)
      case first =>
        by_cases h12 : 12 < len
        · have e1 : decide ((12 : Int) < (len : Int)) = true := decide_eq_true (by omega)
          have e2 : decide (12 < len) = true := decide_eq_true h12
          obtain ⟨b, off, hab, hb, hlc, _⟩ := Hopen.out (by omega)
          have HX2 := Lib.hid (HXM.out b off hab (by omega))
          subst hab
          have e3 : (12 : Int) ≤ (len : Int) := by omega
          have e4 : 12 ≤ len := by omega
          have e5 : len ≤ cap := hlc
          go_wp2_with fail
          refine (HX2.out _ hbl7).mono ?_
          rintro e w8 ⟨⟨v, rfl, hRx, hGx, hx6⟩, hb8⟩
          have hmx : xatK zs len = XatW.madeX (zs.drop 12) (len - 12) := by unfold xatK; rw [if_pos h12]
          have hgM := qM.size
          have hfar : v.ownBlock ≠ some g := fun e => by have := (hRx.lt _ e).1; omega
          obtain ⟨px, cx, hsh, _⟩ := hRx.at.shape
          obtain ⟨nx, hnx⟩ : ∃ q, (XatW.madeX (zs.drop 12) (len - 12)).length = q := ⟨_, rfl⟩
          rw [hnx] at hsh
          clear hnx
          subst hsh
          replace hbl7 := gr_call hbl7 hb8
          replace qM := qM.kept hb8 qM.size
          replace qK := qK.kept hb8 qK.size
          replace qR := qR.kept hb8 qR.size
          clear hb8
          have k7 := qM.cell_some 7 _ rfl
          have f7 := qM.free 7
          go_wp2_with fail
          go_meet
          exact ⟨px, nx, cx, qM.put 7 _, by rw [hmx]; exact (hRx.other (a := ⟨g, 7, none⟩) hfar _), by rw [hmx]; exact ⟨hx6, XatW.Good.may hGx (by omega), fun x hx => (hGx.all x hx).2.2⟩, qK.other nGg _, qR.other nRg _, gr_set hbl7 hgw _⟩
        · have e1 : decide ((12 : Int) < (len : Int)) = false := decide_eq_false (by omega)
          have e2 : decide (12 < len) = false := decide_eq_false h12
          have hxn : xatK zs len = [] := by unfold xatK; rw [if_neg h12]
          go_wp2_with fail
          go_meet
          exact ⟨none, 0, 0, qM, by rw [hxn]; exact Row.nil _ _, by rw [hxn]; exact ⟨by simp, rfl, by simp⟩, qK, qR, hbl7⟩
      case rest =>
        clear qM qK qR hbl7
        obtain ⟨px, nx, cx, qM, hX, hXO, qK, qR, hbl7⟩ := hcut
        have hxl := hXO.1
        have HXO := Lib.hid hXO
        clear hXO
        rename World => W8
        have hfx : (Value.slice px nx cx).ownBlock ≠ some g := fun e => by have := (hX.lt _ e).1; omega
        have hfr : (Value.slice px nx cx).ownBlock ≠ some w.heap.size := fun e => by have := (hX.lt _ e).1; omega
        clear hgG hgR hgg
        have b6 := HK.out 6
        have b7 := HK.out 7
        obtain ⟨x6, hx6⟩ : ∃ q, numK zs len 6 = q := ⟨_, rfl⟩
        obtain ⟨x7, hx7⟩ : ∃ q, numK zs len 7 = q := ⟨_, rfl⟩
        rw [hx6, hx7] at qK
        rw [hx6] at b6
        rw [hx7] at b7
        have HX6 := Lib.hid (And.intro hx6 hx7)
        clear hx6 hx7
        have t6 : x6.tmod 16 = x6 % 16 := Int.tmod_eq_emod_of_nonneg b6.1
        have t7 : x7.tmod 2 = x7 % 2 := Int.tmod_eq_emod_of_nonneg b7.1
        have q6 := qK.cell_some 6 _ rfl
        have q7 := qK.cell_some 7 _ rfl
        by_cases hk3 : k = 3
        · have hs : (k == 3) = true := by rw [hk3]; rfl
          have k0 := qM.cell_some 0 _ rfl
          have f0 := qM.free 0
          go_upto_region 11 with fail
          clear k0 f0
          obtain ⟨W10, hW10⟩ : ∃ W, W8.setCell ⟨g, 0, none⟩ (.int .i64 511) = W := ⟨_, rfl⟩
          have hblj : BlkIs W10 w.heap.size 30 #[.int .i64 0, .int .i64 0, .int .i64 0, .int .i64 0, .int .i64 0, .slice none 0 0, .slice none 0 0, .slice none 0 0, .int .i64 0, .int .u64 0, .int .u64 0, .bool false, .int .i64 0, .int .i64 0] := by rw [← hW10]; exact qR.other nRg _
          have hblm : BlkIs W10 g 30 #[.int .i64 511, .int .i64 (x2 % 6), .int .i64 (x3 % 6), .int .i64 (x4 * 1000 - 50000), .int .i64 (x5 % 2 * 500000000), .slice none 0 0, .slice none 0 0, .slice px nx cx, .int .i64 0, .int .u64 0, .int .u64 0, .bool false, .int .i64 0, .int .i64 0] := by rw [← hW10]; exact qM.put 0 _
          have hR10 : Row XatW.xatE W7.heap.size (.slice px nx cx) (xatK zs len) W10 := by rw [← hW10]; exact hX.other (a := ⟨g, 0, none⟩) hfx _
          have hbl10 : Below w.heap.size w W10 := by rw [← hW10]; exact gr_set hbl7 hgw _
          rw [hW10]
          clear hW10 qR qM hX hbl7 q6 q7 qK t6 t7
          have hblk := hblj
          have f0 := hblk.free 0; have f1 := hblk.free 1; have f2 := hblk.free 2; have f3 := hblk.free 3; have f4 := hblk.free 4; have f5 := hblk.free 5; have f6 := hblk.free 6; have f7 := hblk.free 7; have f8 := hblk.free 8; have f9 := hblk.free 9; have f10 := hblk.free 10; have f11 := hblk.free 11; have f12 := hblk.free 12; have f13 := hblk.free 13
          have j0 := hblj.cell_some 0 _ rfl; have j1 := hblj.cell_some 1 _ rfl; have j2 := hblj.cell_some 2 _ rfl; have j3 := hblj.cell_some 3 _ rfl; have j4 := hblj.cell_some 4 _ rfl; have j5 := hblj.cell_some 5 _ rfl; have j6 := hblj.cell_some 6 _ rfl; have j7 := hblj.cell_some 7 _ rfl; have j8 := hblj.cell_some 8 _ rfl; have j9 := hblj.cell_some 9 _ rfl; have j10 := hblj.cell_some 10 _ rfl; have j11 := hblj.cell_some 11 _ rfl; have j12 := hblj.cell_some 12 _ rfl; have j13 := hblj.cell_some 13 _ rfl
          clear hblk
          have hblk := hblm
          have k0 := hblk.cell_some 0 _ rfl; have k1 := hblk.cell_some 1 _ rfl; have k2 := hblk.cell_some 2 _ rfl; have k3 := hblk.cell_some 3 _ rfl; have k4 := hblk.cell_some 4 _ rfl; have k5 := hblk.cell_some 5 _ rfl; have k6 := hblk.cell_some 6 _ rfl; have k7 := hblk.cell_some 7 _ rfl; have k8 := hblk.cell_some 8 _ rfl; have k9 := hblk.cell_some 9 _ rfl; have k10 := hblk.cell_some 10 _ rfl; have k11 := hblk.cell_some 11 _ rfl; have k12 := hblk.cell_some 12 _ rfl; have k13 := hblk.cell_some 13 _ rfl
          clear hblk
          go_wp2_with fail
          clear k0 k1 k2 k3 k4 k5 k6 k7 k8 k9 k10 k11 k12 k13 j0 j1 j2 j3 j4 j5 j6 j7 j8 j9 j10 j11 j12 j13 f0 f1 f2 f3 f4 f5 f6 f7 f8 f9 f10 f11 f12 f13
          obtain ⟨W11, hW11⟩ : ∃ W, put14 W10 w.heap.size (.int .i64 511) (.int .i64 (x2 % 6)) (.int .i64 (x3 % 6)) (.int .i64 (x4 * 1000 - 50000)) (.int .i64 (x5 % 2 * 500000000)) (.slice none 0 0) (.slice none 0 0) (.slice px nx cx) (.int .i64 0) (.int .u64 0) (.int .u64 0) (.bool false) (.int .i64 0) (.int .i64 0) = W := ⟨_, rfl⟩
          have hblk : BlkIs W11 w.heap.size 30 #[.int .i64 511, .int .i64 (x2 % 6), .int .i64 (x3 % 6), .int .i64 (x4 * 1000 - 50000), .int .i64 (x5 % 2 * 500000000), .slice none 0 0, .slice none 0 0, .slice px nx cx, .int .i64 0, .int .u64 0, .int .u64 0, .bool false, .int .i64 0, .int .i64 0] := by rw [← hW11]; exact put14_is hblj rfl _ _ _ _ _ _ _ _ _ _ _ _ _ _
          have hR11 : Row XatW.xatE W7.heap.size (.slice px nx cx) (xatK zs len) W11 := by rw [← hW11]; exact put14_row hR10 hfr _ _ _ _ _ _ _ _ _ _ _ _ _ _
          have hbl11 : Below w.heap.size w W11 := by rw [← hW11]; exact put14_below hbl10 (Nat.le_refl _) _ _ _ _ _ _ _ _ _ _ _ _ _ _
          unfold put14 at hW11
          rw [hW11]
          clear hW11 hblj hblm hR10 hbl10
          have k0 := hblk.cell_some 0 _ rfl; have k1 := hblk.cell_some 1 _ rfl; have k2 := hblk.cell_some 2 _ rfl; have k3 := hblk.cell_some 3 _ rfl; have k4 := hblk.cell_some 4 _ rfl; have k5 := hblk.cell_some 5 _ rfl; have k6 := hblk.cell_some 6 _ rfl; have k7 := hblk.cell_some 7 _ rfl; have k8 := hblk.cell_some 8 _ rfl; have k9 := hblk.cell_some 9 _ rfl; have k10 := hblk.cell_some 10 _ rfl; have k11 := hblk.cell_some 11 _ rfl; have k12 := hblk.cell_some 12 _ rfl; have k13 := hblk.cell_some 13 _ rfl
          obtain ⟨hx0, hx1, hx2, hx3, hx4, hx5⟩ := HX.out
          have hM : madeM zs len k = ⟨511, x2 % 6, x3 % 6, x4 * 1000 - 50000, x5 % 2 * 500000000, [], [], xatK zs len, ⟨0, 0, 0, false, 0⟩, 0⟩ := by unfold madeM; rw [if_pos hk3, hx2, hx3, hx4, hx5]
          rw [hM]
          refine bodyPost_ret (v := .agg #[.int .i64 511, .int .i64 (x2 % 6), .int .i64 (x3 % 6), .int .i64 (x4 * 1000 - 50000), .int .i64 (x5 % 2 * 500000000), .slice none 0 0, .slice none 0 0, .slice px nx cx, .int .i64 0, .int .u64 0, .int .u64 0, .bool false, .int .i64 0, .int .i64 0]) (by simp [results, Try.results20, go_sem, *]) rfl ?_
          exact ⟨⟨⟨.slice none 0 0, .slice none 0 0, .slice px nx cx, rfl, ⟨At.nil _, At.nil _, hR11.at, by simp, by simp, by simp only; omega⟩, ⟨fun _ e => (by cases e), fun _ e => (by cases e), fun q e => Nat.le_trans HZ7.out (hR11.lt q e).1⟩⟩, ⟨by rw [hk3]; exact made_sym ⟨by omega, by omega⟩ ⟨by omega, by omega⟩ (stamp_ok ⟨by omega, by omega⟩ ⟨by omega, by omega⟩) HXO.out.2.1, HXO.out⟩⟩, hbl11⟩
        · have hs : (k == 3) = false := beq_eq_false_iff_ne.2 hk3
          have k13 := qM.cell_some 13 _ rfl
          have f13 := qM.free 13
          go_upto_if 76 with fail
          obtain ⟨W9, hW9⟩ : ∃ W, W8.setCell ⟨g, 13, none⟩ (.int .i64 (x6 % 16)) = W := ⟨_, rfl⟩
          have qM9 : BlkIs W9 g 30 #[.int .i64 (x0 * 16 + x1 % 16), .int .i64 (x2 % 6), .int .i64 (x3 % 6), .int .i64 (x4 * 1000 - 50000), .int .i64 (x5 % 2 * 500000000), .slice none 0 0, .slice none 0 0, .slice px nx cx, .int .i64 0, .int .u64 0, .int .u64 0, .bool false, .int .i64 0, .int .i64 (x6 % 16)] := by rw [← hW9]; exact qM.put 13 _
          have qK9 := qK.other nGg (p := ⟨g, 13, none⟩) (.int .i64 (x6 % 16))
          have qR9 := qR.other nRg (p := ⟨g, 13, none⟩) (.int .i64 (x6 % 16))
          have hX9 := hX.other (a := ⟨g, 13, none⟩) hfx (.int .i64 (x6 % 16))
          have hbl9 := gr_set hbl7 (p := ⟨g, 13, none⟩) hgw (.int .i64 (x6 % 16))
          rw [hW9] at qK9 qR9 hX9 hbl9 ⊢
          have HZ9 := Lib.hid (show w.heap.size ≤ W9.heap.size from hbl9.size)
          clear hW9 qM qK qR hX hbl7 k13 f13 q6 q7
          obtain ⟨N, hN⟩ : ∃ q, bits .and .i64 (x0 * 16 + x1 % 16) 511 = q := ⟨_, rfl⟩
          have hN2 : N = (x0 * 16 + x1 % 16) % 512 := by rw [← hN, and511]
          have h8 : x7 % 2 = 1 → 8 ≤ len := by
            intro h
            have := HX6.out.2
            unfold numK at this
            by_cases hl : 7 < len
            · omega
            · rw [if_neg hl] at this; omega
          have HAM := Lib.hid (fun (b off : Nat) (h : a = some ⟨b, off, none⟩) (h2 : 8 ≤ len) (W : World) (hb : Below w.heap.size w W) => AclW.make_fn (if cap = 8 then some ⟨b, off, none⟩ else some ⟨b, off + 8, none⟩) (len - 8) (cap - 8) (zs.drop 8) N W (isRow_call (IsRow.tail2 (by rw [← h]; exact HR.out) 8 h2) hb) (by omega) (by omega) (by omega))
          have hgg : g < W9.heap.size := qM9.size
          have hgG : G < W9.heap.size := qK9.size
          have hgR : w.heap.size < W9.heap.size := qR9.size
          go_cut [78] from 72 to 84 (fun _ wx => ∃ pa na ca, BlkIs wx g 30 #[.int .i64 (x0 * 16 + x1 % 16), .int .i64 (x2 % 6), .int .i64 (x3 % 6), .int .i64 (x4 * 1000 - 50000), .int .i64 (x5 % 2 * 500000000), .slice pa na ca, .slice none 0 0, .slice px nx cx, .int .i64 0, .int .u64 0, .int .u64 0, .bool false, .int .i64 0, .int .i64 (x6 % 16)] ∧ Row AclW.aceE W9.heap.size (.slice pa na ca) (aclK zs len (x0 * 16 + x1 % 16)) wx ∧ AOk (aclK zs len (x0 * 16 + x1 % 16)) (x0 * 16 + x1 % 16) ∧ Row XatW.xatE W7.heap.size (.slice px nx cx) (xatK zs len) wx ∧ BlkIs wx G 3 #[.int .i64 x0, .int .i64 x1, .int .i64 x2, .int .i64 x3, .int .i64 x4, .int .i64 x5, .int .i64 x6, .int .i64 x7, .int .i64 (numK zs len 8), .int .i64 (numK zs len 9), .int .i64 (numK zs len 10), .int .i64 (numK zs len 11)] ∧ BlkIs wx w.heap.size 30 #[.int .i64 0, .int .i64 0, .int .i64 0, .int .i64 0, .int .i64 0, .slice none 0 0, .slice none 0 0, .slice none 0 0, .int .i64 0, .int .u64 0, .int .u64 0, .bool false, .int .i64 0, .int .i64 0] ∧ Below w.heap.size w wx)
          case first =>
            by_cases h7 : x7 % 2 = 1
            · have e1 : (x7 % 2 == 1) = true := by rw [h7]; rfl
              have h8' := h8 h7
              obtain ⟨b, off, hab, hb, hlc, _⟩ := Hopen.out (by omega)
              have HA2 := Lib.hid (HAM.out b off hab h8')
              obtain ⟨A8, hA8⟩ : ∃ q, (if cap = 8 then some ⟨b, off, none⟩ else some ⟨b, off + 8, none⟩ : Option Addr) = q := ⟨_, rfl⟩
              rw [hA8] at HA2
              subst hab
              have e3 : (8 : Int) ≤ (len : Int) := by omega
              have e4 : 8 ≤ len := h8'
              have e5 : len ≤ cap := hlc
              have hL : aclK zs len (x0 * 16 + x1 % 16) = AclW.madeL (zs.drop 8) (len - 8) N := by unfold aclK; rw [HX6.out.2, if_pos h7, hN2]
              have HN2 := Lib.hid hN2
              clear hN2 h8
              go_wp2_with fail
              refine region_oneUL (S := fun W => Below W9.heap.size W9 W) 7
                [(fun W v => v = .slice (some ⟨b, off, none⟩) len cap),
                (fun W v => v = .slice A8 (len - 8) (cap - 8)),
                (fun W v => v = .pointer (some ⟨g, 0, none⟩)),
                (fun W v => v = .int .i64 (x0 * 16 + x1 % 16)),
                (fun W v => v = .int .i64 N),
                (fun W v => ∃ pa na ca, v = .slice pa na ca ∧ Row AclW.aceE W9.heap.size (.slice pa na ca) (AclW.madeL (zs.drop 8) (len - 8) N) W ∧ (AclM.may (AclW.madeL (zs.drop 8) (len - 8) N) = true ∧ AclW.modeL (AclW.madeL (zs.drop 8) (len - 8) N) = N)),
                (fun W v => v = .pointer (some ⟨g, 5, none⟩))] (by rfl) (by kernel_rfl) (by kernel_rfl) (by kernel_rfl) (by kernel_rfl) (by rfl) (by kernel_rfl) ?hS ?hp ?hs ?he
              case hS => exact gr_drew (Below.refl _ _)
              case hp => repeat' (first | exact trivial | refine ⟨fun _ _ _ _ h => h, ?_⟩ | refine ⟨fun _ _ _ hb h => ?_, ?_⟩ | (obtain ⟨p1, p2, p3, e1, e2, e3⟩ := h; exact ⟨p1, p2, p3, e1, e2.call hb, e3⟩))
              case hs =>
                simp only [List.take_succ_cons, List.take_zero]
                refine ⟨?_, ?_, ?_, ?_, ?_, ?_, ?_, trivial⟩
                · refine .inl ⟨met_none rfl, ?_⟩
                  intro a W K hS hd hD hf hK
                  have e0 : a.tmps.getD 0 undef = .slice (some ⟨b, off, none⟩) len cap := hf 0 (by kernel_rfl)
                  clear hd hf hD
                  go_simp
                  exact hK _ _ (Below.refl _ _) hS rfl (fun h => absurd h (by decide))
                · refine .inl ⟨met_none rfl, ?_⟩
                  intro a W K hS hd hD hf hK
                  have e77 : a.tmps.getD 77 undef = .slice (some ⟨b, off, none⟩) len cap := hd ⟨0, .data⟩ (by simp) rfl
                  clear hd hf hD
                  go_simp
                  exact hK _ _ (Below.refl _ _) hS rfl (fun h => absurd h (by decide))
                · refine .inl ⟨met_none rfl, ?_⟩
                  intro a W K hS hd hD hf hK
                  have e7 : a.tmps.getD 7 undef = .pointer (some ⟨g, 0, none⟩) := hf 7 (by kernel_rfl)
                  clear hd hf hD
                  go_simp
                  exact hK _ _ (Below.refl _ _) hS rfl (fun h => absurd h (by decide))
                · refine .inl ⟨met_none rfl, ?_⟩
                  intro a W K hS hd hD hf hK
                  have e79 : a.tmps.getD 79 undef = .pointer (some ⟨g, 0, none⟩) := hd ⟨2, .data⟩ (by simp) rfl
                  have k0 := (qM9.kept hS qM9.size).cell_some 0 _ rfl
                  clear hd hf hD
                  go_simp
                  exact hK _ _ (Below.refl _ _) hS rfl (fun h => absurd h (by decide))
                · refine .inl ⟨met_none rfl, ?_⟩
                  intro a W K hS hd hD hf hK
                  have e80 : a.tmps.getD 80 undef = .int .i64 (x0 * 16 + x1 % 16) := hd ⟨3, .data⟩ (by simp) rfl
                  clear hd hf hD
                  go_simp
                  exact hK _ _ (Below.refl _ _) hS rfl (fun h => absurd h (by decide))
                · refine .inl ⟨met_none rfl, ?_⟩
                  intro a W K hS hd hD hf hK
                  have e78 : a.tmps.getD 78 undef = .slice A8 (len - 8) (cap - 8) := hd ⟨1, .data⟩ (by simp) rfl
                  have e81 : a.tmps.getD 81 undef = .int .i64 N := hd ⟨4, .data⟩ (by simp) rfl
                  have hbq := gr_call hbl9 hS
                  have hsq := hS.size
                  clear hd hf hD
                  go_simp
                  go_at_call 35
                  refine (HA2.out _ hbq).mono ?_
                  rintro e w3 ⟨⟨v, rfl, hR, hmay, hmd⟩, hb⟩
                  obtain ⟨pa, ca, hsh, _⟩ := hR.at.shape
                  exact hK _ _ hb (gr_call hS hb) ⟨pa, _, ca, hsh, by rw [← hsh]; exact hR.mono hsq, hmay, hmd⟩ (fun h => absurd h (by decide))
                · refine .inl ⟨met_none rfl, ?_⟩
                  intro a W K hS hd hD hf hK
                  have e7 : a.tmps.getD 7 undef = .pointer (some ⟨g, 0, none⟩) := hf 7 (by kernel_rfl)
                  clear hd hf hD
                  go_simp
                  exact hK _ _ (Below.refl _ _) hS rfl (fun h => absurd h (by decide))
              case he =>
                intro vals2 w10 K hS10 hV hK
                have e5' := hV 5 (by omega)
                have e6' := hV 6 (by omega)
                clear hV
                simp only [List.getD_cons_succ, List.getD_cons_zero] at e5' e6'
                obtain ⟨pa, na, ca, ev, hRa, hmay, hmd⟩ := e5'
                refine Later.mk ?_
                simp only [List.append_eq, List.cons_append, List.nil_append, setN, Nat.reduceAdd, List.setIfInBounds_toArray, List.set_cons_succ, List.set_cons_zero]
                rw [show vals2 5 = _ from ev, show vals2 6 = _ from e6']
                replace hbl9 := gr_call hbl9 hS10
                replace qM9 := qM9.kept hS10 qM9.size
                replace qK9 := qK9.kept hS10 qK9.size
                replace qR9 := qR9.kept hS10 qR9.size
                replace hX9 := hX9.call hS10
                have hfa : (Value.slice pa na ca).ownBlock ≠ some g := fun e => by have := (hRa.lt _ e).1; omega
                have k5 := qM9.cell_some 5 _ rfl
                have f5 := qM9.free 5
                have HMD := Lib.hid (And.intro hmay hmd)
                clear hS10 hmay hmd
                go_simp
                refine hK _ _ ?_
                first | go_meet | (go_wp2_with fail; go_meet)
                exact ⟨pa, na, ca, qM9.put 5 _, by rw [hL]; exact hRa.other (a := ⟨g, 5, none⟩) hfa _, by rw [hL]; exact acl_ok HMD.out.1 HMD.out.2 HN2.out, hX9.other (a := ⟨g, 5, none⟩) hfx _, qK9.other nGg _, qR9.other nRg _, gr_set hbl9 hgw _⟩
            · have e1 : (x7 % 2 == 1) = false := beq_eq_false_iff_ne.2 h7
              have han : aclK zs len (x0 * 16 + x1 % 16) = [] := by unfold aclK; rw [HX6.out.2, if_neg h7]
              go_wp2_with fail
              go_meet
              exact ⟨none, 0, 0, qM9, by rw [han]; exact Row.nil _ _, by rw [han]; exact ⟨by simp, rfl⟩, hX9, qK9, qR9, hbl9⟩
          case rest =>
            clear qM9 qK9 qR9 hX9 hbl9
            obtain ⟨pa, na, ca, qM, hA, hAO, hX, qK, qR, hbl⟩ := hcut
            have hal := hAO.1
            have HAO := Lib.hid hAO
            clear hAO
            rename World => W11
            have HZ11 := Lib.hid (show w.heap.size ≤ W11.heap.size from hbl.size)
            have hfa : (Value.slice pa na ca).ownBlock ≠ some g := fun e => by have := (hA.lt _ e).1; omega
            have hfra : (Value.slice pa na ca).ownBlock ≠ some w.heap.size := fun e => by have := (hA.lt _ e).1; omega
            clear hgg hgG hgR HAM h8 hN hN2 t7 t6
            have hgg : g < W11.heap.size := qM.size
            have hgR : w.heap.size < W11.heap.size := qR.size
            have b9 := HK.out 9
            obtain ⟨x9, hx9⟩ : ∃ q, numK zs len 9 = q := ⟨_, rfl⟩
            rw [hx9] at b9 qK
            have HX9 := Lib.hid hx9
            clear hx9
            have q7 := qK.cell_some 7 _ rfl
            have t7 : x7.tmod 4 = x7 % 4 := Int.tmod_eq_emod_of_nonneg b7.1
            have hdc : dflK zs len k = if k = 6 ∧ 2 ≤ x7 % 4 then AclW.madeL (zs.drop (min len 9)) (len - min len 9) x9 else [] := by unfold dflK; rw [HX6.out.2, HX9.out]
            obtain ⟨m, hm⟩ : ∃ m, min len 9 = m := ⟨_, rfl⟩
            rw [hm] at hdc
            have HDC := Lib.hid hdc
            have hm1 : m ≤ len := by omega
            have hm2 : min (len : Int) 9 = (m : Int) := by omega
            have h7l : 2 ≤ x7 % 4 → 0 < len := by
              intro h
              have := HX6.out.2
              unfold numK at this
              by_cases hl : 7 < len
              · omega
              · rw [if_neg hl] at this; omega
            clear hdc hm
            have HAM := Lib.hid (fun (b off : Nat) (h : a = some ⟨b, off, none⟩) (W : World) (hb : Below w.heap.size w W) => AclW.make_fn (if cap = m then some ⟨b, off, none⟩ else some ⟨b, off + m, none⟩) (len - m) (cap - m) (zs.drop m) x9 W (isRow_call (IsRow.tail2 (by rw [← h]; exact HR.out) m hm1) hb) (by omega) (by omega) (by omega))
            obtain ⟨B6, hB6⟩ : ∃ B, decide (k = 6 ∧ 2 ≤ x7 % 4) = B := ⟨_, rfl⟩
            have HB6 := Lib.hid hB6
            clear hB6
            go_upto_region 15 with fail
            go_cut [92] from 84 to 93 (fun c wx => c = .bool B6 ∧ wx = W11)
            case first =>
              by_cases h6 : k = 6
              · have e0 : (k == 6) = true := by rw [h6]; rfl
                by_cases h2 : 2 ≤ x7 % 4
                · have e1 : decide (2 ≤ x7 % 4) = true := decide_eq_true h2
                  have hb : B6 = true := by rw [← HB6.out]; exact decide_eq_true ⟨h6, h2⟩
                  clear h6 h2
                  go_wp2_with fail
                  go_meet
                  exact ⟨by rw [hb], rfl⟩
                · have e1 : decide (2 ≤ x7 % 4) = false := decide_eq_false h2
                  have hb : B6 = false := by rw [← HB6.out]; exact decide_eq_false (fun h => h2 h.2)
                  clear h6 h2
                  go_wp2_with fail
                  go_meet
                  exact ⟨by rw [hb], rfl⟩
              · have e0 : (k == 6) = false := beq_eq_false_iff_ne.2 h6
                have hb : B6 = false := by rw [← HB6.out]; exact decide_eq_false (fun h => h6 h.1)
                clear h6
                go_wp2_with fail
                go_meet
                exact ⟨by rw [hb], rfl⟩
            case rest =>
              obtain ⟨rfl, hwc⟩ := hcut
              subst wc
              clear q7 t7
              go_upto_if 92 with fail
              go_cut [93] from 93 to 103 (fun _ wx => ∃ pd nd cd, BlkIs wx g 30 #[.int .i64 (x0 * 16 + x1 % 16), .int .i64 (x2 % 6), .int .i64 (x3 % 6), .int .i64 (x4 * 1000 - 50000), .int .i64 (x5 % 2 * 500000000), .slice pa na ca, .slice pd nd cd, .slice px nx cx, .int .i64 0, .int .u64 0, .int .u64 0, .bool false, .int .i64 0, .int .i64 (x6 % 16)] ∧ Row AclW.aceE W11.heap.size (.slice pd nd cd) (dflK zs len k) wx ∧ DOk (dflK zs len k) k ∧ Row AclW.aceE W9.heap.size (.slice pa na ca) (aclK zs len (x0 * 16 + x1 % 16)) wx ∧ Row XatW.xatE W7.heap.size (.slice px nx cx) (xatK zs len) wx ∧ BlkIs wx G 3 #[.int .i64 x0, .int .i64 x1, .int .i64 x2, .int .i64 x3, .int .i64 x4, .int .i64 x5, .int .i64 x6, .int .i64 x7, .int .i64 (numK zs len 8), .int .i64 x9, .int .i64 (numK zs len 10), .int .i64 (numK zs len 11)] ∧ BlkIs wx w.heap.size 30 #[.int .i64 0, .int .i64 0, .int .i64 0, .int .i64 0, .int .i64 0, .slice none 0 0, .slice none 0 0, .slice none 0 0, .int .i64 0, .int .u64 0, .int .u64 0, .bool false, .int .i64 0, .int .i64 0] ∧ Below w.heap.size w wx)
              case first =>
                rcases B6 with _ | _
                · have hdn : dflK zs len k = [] := by rw [HDC.out, if_neg (fun h => by have := HB6.out; rw [decide_eq_true h] at this; cases this)]
                  go_wp2_with fail
                  go_meet
                  exact ⟨none, 0, 0, qM, by rw [hdn]; exact Row.nil _ _, by rw [hdn]; exact ⟨by simp, rfl⟩, hA, hX, qK, qR, hbl⟩
                · have h62 := of_decide_eq_true HB6.out
                  obtain ⟨b, off, hab, hb, hlc, _⟩ := Hopen.out (h7l h62.2)
                  have HA2 := Lib.hid (HAM.out b off hab)
                  obtain ⟨A9, hA9⟩ : ∃ q, (if cap = m then some ⟨b, off, none⟩ else some ⟨b, off + m, none⟩ : Option Addr) = q := ⟨_, rfl⟩
                  rw [hA9] at HA2
                  subst hab
                  have e3 : (m : Int) ≤ (len : Int) := by omega
                  have e4 : m ≤ len := hm1
                  have e5 : len ≤ cap := hlc
                  have hL : dflK zs len k = AclW.madeL (zs.drop m) (len - m) x9 := by rw [HDC.out, if_pos h62]
                  clear h7l h62 HAM
                  go_wp2_with fail
                  refine region_oneUL (S := fun W => Below W11.heap.size W11 W) 10
                    [(fun W v => v = .slice (some ⟨b, off, none⟩) len cap),
                    (fun W v => v = .slice (some ⟨b, off, none⟩) len cap),
                    (fun W v => v = .int .i64 (len : Int)),
                    (fun W v => v = .int .i64 (m : Int)),
                    (fun W v => v = .slice A9 (len - m) (cap - m)),
                    (fun W v => v = .slice (some ⟨G, 0, none⟩) 12 12),
                    (fun W v => v = .pointer (some ⟨G, 9, none⟩)),
                    (fun W v => v = .int .i64 x9),
                    (fun W v => ∃ pd nd cd, v = .slice pd nd cd ∧ Row AclW.aceE W11.heap.size (.slice pd nd cd) (AclW.madeL (zs.drop m) (len - m) x9) W ∧ AclM.may (AclW.madeL (zs.drop m) (len - m) x9) = true),
                    (fun W v => v = .pointer (some ⟨g, 6, none⟩))] (by rfl) (by kernel_rfl) (by kernel_rfl) (by kernel_rfl) (by kernel_rfl) (by rfl) (by kernel_rfl) ?hS ?hp ?hs ?he
                  case hS => exact gr_drew (Below.refl _ _)
                  case hp => repeat' (first | exact trivial | refine ⟨fun _ _ _ _ h => h, ?_⟩ | refine ⟨fun _ _ _ hb h => ?_, ?_⟩ | (obtain ⟨p1, p2, p3, e1, e2, e3⟩ := h; exact ⟨p1, p2, p3, e1, e2.call hb, e3⟩))
                  case hs =>
                    simp only [List.take_succ_cons, List.take_zero]
                    refine ⟨?_, ?_, ?_, ?_, ?_, ?_, ?_, ?_, ?_, ?_, trivial⟩
                    · refine .inl ⟨met_none rfl, ?_⟩
                      intro a W K hS hd hD hf hK
                      have e0 : a.tmps.getD 0 undef = .slice (some ⟨b, off, none⟩) len cap := hf 0 (by kernel_rfl)
                      clear hd hf hD
                      go_simp
                      exact hK _ _ (Below.refl _ _) hS rfl (fun h => absurd h (by decide))
                    · refine .inl ⟨met_none rfl, ?_⟩
                      intro a W K hS hd hD hf hK
                      have e0 : a.tmps.getD 0 undef = .slice (some ⟨b, off, none⟩) len cap := hf 0 (by kernel_rfl)
                      clear hd hf hD
                      go_simp
                      exact hK _ _ (Below.refl _ _) hS rfl (fun h => absurd h (by decide))
                    · refine .inl ⟨met_none rfl, ?_⟩
                      intro a W K hS hd hD hf hK
                      have e94 : a.tmps.getD 94 undef = .slice (some ⟨b, off, none⟩) len cap := hd ⟨1, .data⟩ (by simp) rfl
                      clear hd hf hD
                      go_simp
                      exact hK _ _ (Below.refl _ _) hS rfl (fun h => absurd h (by decide))
                    · refine .inl ⟨met_none rfl, ?_⟩
                      intro a W K hS hd hD hf hK
                      have e95 : a.tmps.getD 95 undef = .int .i64 (len : Int) := hd ⟨2, .data⟩ (by simp) rfl
                      clear hd hf hD
                      go_simp
                      exact hK _ _ (Below.refl _ _) hS rfl (fun h => absurd h (by decide))
                    · refine .inl ⟨met_none rfl, ?_⟩
                      intro a W K hS hd hD hf hK
                      have e93 : a.tmps.getD 93 undef = .slice (some ⟨b, off, none⟩) len cap := hd ⟨0, .data⟩ (by simp) rfl
                      have e96 : a.tmps.getD 96 undef = .int .i64 (m : Int) := hd ⟨3, .data⟩ (by simp) rfl
                      clear hd hf hD
                      go_simp
                      exact hK _ _ (Below.refl _ _) hS rfl (fun h => absurd h (by decide))
                    · refine .inl ⟨met_none rfl, ?_⟩
                      intro a W K hS hd hD hf hK
                      have e5 : a.tmps.getD 5 undef = .slice (some ⟨G, 0, none⟩) 12 12 := hf 5 (by kernel_rfl)
                      clear hd hf hD
                      go_simp
                      exact hK _ _ (Below.refl _ _) hS rfl (fun h => absurd h (by decide))
                    · refine .inl ⟨met_none rfl, ?_⟩
                      intro a W K hS hd hD hf hK
                      have e98 : a.tmps.getD 98 undef = .slice (some ⟨G, 0, none⟩) 12 12 := hd ⟨5, .data⟩ (by simp) rfl
                      clear hd hf hD
                      go_simp
                      exact hK _ _ (Below.refl _ _) hS rfl (fun h => absurd h (by decide))
                    · refine .inl ⟨met_none rfl, ?_⟩
                      intro a W K hS hd hD hf hK
                      have e99 : a.tmps.getD 99 undef = .pointer (some ⟨G, 9, none⟩) := hd ⟨6, .data⟩ (by simp) rfl
                      have k0 := (qK.kept hS qK.size).cell_some 9 _ rfl
                      clear hd hf hD
                      go_simp
                      exact hK _ _ (Below.refl _ _) hS rfl (fun h => absurd h (by decide))
                    · refine .inl ⟨met_none rfl, ?_⟩
                      intro a W K hS hd hD hf hK
                      have e97 : a.tmps.getD 97 undef = .slice A9 (len - m) (cap - m) := hd ⟨4, .data⟩ (by simp) rfl
                      have e100 : a.tmps.getD 100 undef = .int .i64 x9 := hd ⟨7, .data⟩ (by simp) rfl
                      have hbq := gr_call hbl hS
                      have hsq := hS.size
                      clear hd hf hD
                      go_simp
                      go_at_call 35
                      refine (HA2.out _ hbq).mono ?_
                      rintro e w3 ⟨⟨v, rfl, hR, hmay, _⟩, hb⟩
                      obtain ⟨pd, cd, hsh, _⟩ := hR.at.shape
                      exact hK _ _ hb (gr_call hS hb) ⟨pd, _, cd, hsh, by rw [← hsh]; exact hR.mono hsq, hmay⟩ (fun h => absurd h (by decide))
                    · refine .inl ⟨met_none rfl, ?_⟩
                      intro a W K hS hd hD hf hK
                      have e7 : a.tmps.getD 7 undef = .pointer (some ⟨g, 0, none⟩) := hf 7 (by kernel_rfl)
                      clear hd hf hD
                      go_simp
                      exact hK _ _ (Below.refl _ _) hS rfl (fun h => absurd h (by decide))
                  case he =>
                    intro vals2 w12 K hS12 hV hK
                    have e8' := hV 8 (by omega)
                    have e9' := hV 9 (by omega)
                    clear hV
                    simp only [List.getD_cons_succ, List.getD_cons_zero] at e8' e9'
                    obtain ⟨pd, nd, cd, ev, hRd, hmay⟩ := e8'
                    refine Later.mk ?_
                    simp only [List.append_eq, List.cons_append, List.nil_append, setN, Nat.reduceAdd, List.setIfInBounds_toArray, List.set_cons_succ, List.set_cons_zero]
                    rw [show vals2 8 = _ from ev, show vals2 9 = _ from e9']
                    replace hbl := gr_call hbl hS12
                    replace qM := qM.kept hS12 qM.size
                    replace qK := qK.kept hS12 qK.size
                    replace qR := qR.kept hS12 qR.size
                    replace hX := hX.call hS12
                    replace hA := hA.call hS12
                    have hfd : (Value.slice pd nd cd).ownBlock ≠ some g := fun e => by have := (hRd.lt _ e).1; omega
                    have k6 := qM.cell_some 6 _ rfl
                    have f6 := qM.free 6
                    clear hS12
                    go_simp
                    refine hK _ _ ?_
                    first | go_meet | (go_wp2_with fail; go_meet)
                    exact ⟨pd, nd, cd, qM.put 6 _, by rw [hL]; exact hRd.other (a := ⟨g, 6, none⟩) hfd _, by rw [hL]; exact dfl_ok hmay (of_decide_eq_true HB6.out).1, hA.other (a := ⟨g, 6, none⟩) hfa _, hX.other (a := ⟨g, 6, none⟩) hfx _, qK.other nGg _, qR.other nRg _, gr_set hbl hgw _⟩
              case rest =>
                clear qM qK qR hA hX hbl
                obtain ⟨pd, nd, cd, qM, hD, hDO, hA, hX, qK, qR, hbl⟩ := hcut
                have hdl := hDO.1
                have HDO := Lib.hid hDO
                clear hDO
                rename World => W13
                have hfd : (Value.slice pd nd cd).ownBlock ≠ some g := fun e => by have := (hD.lt _ e).1; omega
                have hfrd : (Value.slice pd nd cd).ownBlock ≠ some w.heap.size := fun e => by have := (hD.lt _ e).1; omega
                clear HAM HDC HB6 h7l hm1 hm2 hgg hgR
                have b8 := HK.out 8
                have b10 := HK.out 10
                have b11 := HK.out 11
                obtain ⟨x8, hx8⟩ : ∃ q, numK zs len 8 = q := ⟨_, rfl⟩
                obtain ⟨x10, hx10⟩ : ∃ q, numK zs len 10 = q := ⟨_, rfl⟩
                obtain ⟨x11, hx11⟩ : ∃ q, numK zs len 11 = q := ⟨_, rfl⟩
                rw [hx8, hx10, hx11] at qK
                rw [hx8] at b8
                rw [hx10] at b10
                rw [hx11] at b11
                obtain ⟨X8, hX8⟩ : ∃ q : Nat, x8 = (q : Int) := ⟨_, (Int.toNat_of_nonneg b8.1).symm⟩
                obtain ⟨X10, hX10⟩ : ∃ q : Nat, x10 = (q : Int) := ⟨_, (Int.toNat_of_nonneg b10.1).symm⟩
                obtain ⟨X11, hX11⟩ : ∃ q : Nat, x11 = (q : Int) := ⟨_, (Int.toNat_of_nonneg b11.1).symm⟩
                obtain ⟨P9, hP9⟩ : ∃ q : Nat, x9 * 1099511627776 = (q : Int) := ⟨_, (Int.toNat_of_nonneg (by omega)).symm⟩
                have w8 : IntKind.u64.wrap x8 = (X8 : Int) := by simp [IntKind.wrap, IntKind.bits, IntKind.signed]; omega
                have w9 : IntKind.u64.wrap x9 = x9 := by simp [IntKind.wrap, IntKind.bits, IntKind.signed]; omega
                have w9s : IntKind.u64.wrap (x9 * 1099511627776) = (P9 : Int) := by simp [IntKind.wrap, IntKind.bits, IntKind.signed]; omega
                have w11 : IntKind.u32.wrap x11 = (X11 : Int) := by simp [IntKind.wrap, IntKind.bits, IntKind.signed]; omega
                obtain ⟨cv, cp, ci, ce, cr, hC⟩ : ∃ cv cp ci ce cr, capK zs len k = ⟨cv, cp, ci, ce, cr⟩ := ⟨_, _, _, _, _, rfl⟩
                have HC := Lib.hid hC
                obtain ⟨B10, hB10⟩ : ∃ B, decide (k = 1 ∧ x10 % 3 = 0 ∧ 10 < len) = B := ⟨_, rfl⟩
                have HB10 := Lib.hid hB10
                have hz10 : 10 < len → zs.getD 10 0 = (X10 : Int) := fun h => by
                  have h2 := hx10
                  unfold numK at h2
                  rw [if_pos h] at h2
                  rw [h2, hX10]
                have HZ10 := Lib.hid hz10
                have hcap : B10 = true → mkC X8 P9 X10 X11 = ⟨cv, cp, ci, ce, cr⟩ := fun h => by
                  have h2 := of_decide_eq_true (hB10.trans h)
                  rw [← hC]
                  unfold capK
                  rw [if_pos (by rw [hx10]; exact h2), hx8, hx11, HX9.out, hz10 h2.2.2, hX8, hX11, hP9]
                  simp only [Int.toNat_natCast]
                have hcan : B10 = false → capK zs len k = ⟨0, 0, 0, false, 0⟩ := fun h => by
                  unfold capK
                  rw [if_neg (by rw [hx10]; exact of_decide_eq_false (hB10.trans h))]
                have HCY := Lib.hid hcap
                have HCN := Lib.hid hcan
                have t10 : x10.tmod 3 = x10 % 3 := Int.tmod_eq_emod_of_nonneg b10.1
                have q10 := qK.cell_some 10 _ rfl
                have r10 : X10 < 256 := by omega
                have r11 : X11 < 4294967296 := by omega
                have HMK := Lib.hid (fun W => CapsMake_any X8 P9 X10 X11 r10 r11 W)
                clear hx8 hx10 hx11 hX8 hX10 hX11 hP9 hC hB10 hz10 hcap hcan r10 r11
                go_upto_region 17 with fail
                go_cut [116] from 103 to 117 (fun c wx => c = .bool B10 ∧ wx = W13)
                case first =>
                  by_cases h1 : k = 1
                  · have e0 : (k == 1) = true := by rw [h1]; rfl
                    by_cases h2 : x10 % 3 = 0
                    · have e1 : (x10 % 3 == 0) = true := by rw [h2]; rfl
                      by_cases h3 : 10 < len
                      · have e2 : decide ((10 : Int) < (len : Int)) = true := decide_eq_true (by omega)
                        have e3 : decide (10 < len) = true := decide_eq_true h3
                        have hb : B10 = true := by rw [← HB10.out]; exact decide_eq_true ⟨h1, h2, h3⟩
                        clear h1 h2 h3
                        go_wp2_with fail
                        go_meet
                        exact ⟨by rw [hb], rfl⟩
                      · have e2 : decide ((10 : Int) < (len : Int)) = false := decide_eq_false (by omega)
                        have e3 : decide (10 < len) = false := decide_eq_false h3
                        have hb : B10 = false := by rw [← HB10.out]; exact decide_eq_false (fun h => h3 h.2.2)
                        clear h1 h2 h3
                        go_wp2_with fail
                        go_meet
                        exact ⟨by rw [hb], rfl⟩
                    · have e1 : (x10 % 3 == 0) = false := beq_eq_false_iff_ne.2 h2
                      have hb : B10 = false := by rw [← HB10.out]; exact decide_eq_false (fun h => h2 h.2.1)
                      clear h1 h2
                      go_wp2_with fail
                      go_meet
                      exact ⟨by rw [hb], rfl⟩
                  · have e0 : (k == 1) = false := beq_eq_false_iff_ne.2 h1
                    have hb : B10 = false := by rw [← HB10.out]; exact decide_eq_false (fun h => h1 h.1)
                    clear h1
                    go_wp2_with fail
                    go_meet
                    exact ⟨by rw [hb], rfl⟩
                case rest =>
                  obtain ⟨rfl, hwc⟩ := hcut
                  subst wc
                  clear q10 t10
                  go_upto_if 116 with fail
                  go_cut [117] from 117 to 135 (fun _ wx => BlkIs wx g 30 #[.int .i64 (x0 * 16 + x1 % 16), .int .i64 (x2 % 6), .int .i64 (x3 % 6), .int .i64 (x4 * 1000 - 50000), .int .i64 (x5 % 2 * 500000000), .slice pa na ca, .slice pd nd cd, .slice px nx cx, .int .i64 cv, .int .u64 (cp : Int), .int .u64 (ci : Int), .bool ce, .int .i64 cr, .int .i64 (x6 % 16)] ∧ Row AclW.aceE W11.heap.size (.slice pd nd cd) (dflK zs len k) wx ∧ Row AclW.aceE W9.heap.size (.slice pa na ca) (aclK zs len (x0 * 16 + x1 % 16)) wx ∧ Row XatW.xatE W7.heap.size (.slice px nx cx) (xatK zs len) wx ∧ BlkIs wx w.heap.size 30 #[.int .i64 0, .int .i64 0, .int .i64 0, .int .i64 0, .int .i64 0, .slice none 0 0, .slice none 0 0, .slice none 0 0, .int .i64 0, .int .u64 0, .int .u64 0, .bool false, .int .i64 0, .int .i64 0] ∧ Below w.heap.size w wx)
                  case first =>
                    rcases B10 with _ | _
                    · have hz := HC.out.symm.trans (HCN.out rfl)
                      obtain ⟨rfl, rfl, rfl, rfl, rfl⟩ := CapsM.Cap.mk.inj hz
                      clear hz
                      go_wp2_with fail
                      go_meet
                      exact ⟨qM, hD, hA, hX, qR, hbl⟩
                    · have h10 : 10 < len := (of_decide_eq_true HB10.out).2.2
                      obtain ⟨b, off, hab, hb, hlc, hcells⟩ := Hopen.out (by omega)
                      obtain ⟨c0, _⟩ := hcells 10 h10
                      rw [HZ10.out h10] at c0
                      replace c0 := cell_kept hbl c0
                      clear hcells
                      subst hab
                      have e3 : (10 : Int) < (len : Int) := by omega
                      have e4 : 10 < len := h10
                      have HM2 := Lib.hid HMK.out
                      rw [HCY.out rfl] at HM2
                      unfold capV at HM2
                      simp only at HM2
                      go_wp2_with fail
                      refine region_oneUL (S := fun W => Below W13.heap.size W13 W) 18
                        [(fun W v => v = .slice (some ⟨G, 0, none⟩) 12 12),
                        (fun W v => v = .pointer (some ⟨G, 8, none⟩)),
                        (fun W v => v = .int .i64 x8),
                        (fun W v => v = .int .u64 (X8 : Int)),
                        (fun W v => v = .slice (some ⟨G, 0, none⟩) 12 12),
                        (fun W v => v = .pointer (some ⟨G, 9, none⟩)),
                        (fun W v => v = .int .i64 x9),
                        (fun W v => v = .int .u64 x9),
                        (fun W v => v = .int .u64 (P9 : Int)),
                        (fun W v => v = .slice (some ⟨b, off, none⟩) len cap),
                        (fun W v => v = .pointer (some ⟨b, off + 10, none⟩)),
                        (fun W v => v = .int .u8 (X10 : Int)),
                        (fun W v => v = .slice (some ⟨G, 0, none⟩) 12 12),
                        (fun W v => v = .pointer (some ⟨G, 11, none⟩)),
                        (fun W v => v = .int .i64 x11),
                        (fun W v => v = .int .u32 (X11 : Int)),
                        (fun W v => v = .agg #[.int .i64 cv, .int .u64 (cp : Int), .int .u64 (ci : Int), .bool ce, .int .i64 cr]),
                        (fun W v => v = .pointer (some ⟨g, 8, none⟩))] (by rfl) (by kernel_rfl) (by kernel_rfl) (by kernel_rfl) (by kernel_rfl) (by rfl) (by kernel_rfl) ?hS ?hp ?hs ?he
                      case hS => exact gr_drew (Below.refl _ _)
                      case hp => repeat' (first | exact trivial | refine ⟨fun _ _ _ _ h => h, ?_⟩)
                      case hs =>
                        simp only [List.take_succ_cons, List.take_zero]
                        refine ⟨?_, ?_, ?_, ?_, ?_, ?_, ?_, ?_, ?_, ?_, ?_, ?_, ?_, ?_, ?_, ?_, ?_, ?_, trivial⟩
                        · refine .inl ⟨met_none rfl, ?_⟩
                          intro a W K hS hd hD hf hK
                          have e5 : a.tmps.getD 5 undef = .slice (some ⟨G, 0, none⟩) 12 12 := hf 5 (by kernel_rfl)
                          clear hd hf hD
                          go_simp
                          exact hK _ _ (Below.refl _ _) hS rfl (fun h => absurd h (by decide))
                        · refine .inl ⟨met_none rfl, ?_⟩
                          intro a W K hS hd hD hf hK
                          have e117 : a.tmps.getD 117 undef = .slice (some ⟨G, 0, none⟩) 12 12 := hd ⟨0, .data⟩ (by simp) rfl
                          clear hd hf hD
                          go_simp
                          exact hK _ _ (Below.refl _ _) hS rfl (fun h => absurd h (by decide))
                        · refine .inl ⟨met_none rfl, ?_⟩
                          intro a W K hS hd hD hf hK
                          have e118 : a.tmps.getD 118 undef = .pointer (some ⟨G, 8, none⟩) := hd ⟨1, .data⟩ (by simp) rfl
                          have k0 := (qK.kept hS qK.size).cell_some 8 _ rfl
                          clear hd hf hD
                          go_simp
                          exact hK _ _ (Below.refl _ _) hS rfl (fun h => absurd h (by decide))
                        · refine .inl ⟨met_none rfl, ?_⟩
                          intro a W K hS hd hD hf hK
                          have e119 : a.tmps.getD 119 undef = .int .i64 x8 := hd ⟨2, .data⟩ (by simp) rfl
                          clear hd hf hD
                          go_simp
                          exact hK _ _ (Below.refl _ _) hS rfl (fun h => absurd h (by decide))
                        · refine .inl ⟨met_none rfl, ?_⟩
                          intro a W K hS hd hD hf hK
                          have e5 : a.tmps.getD 5 undef = .slice (some ⟨G, 0, none⟩) 12 12 := hf 5 (by kernel_rfl)
                          clear hd hf hD
                          go_simp
                          exact hK _ _ (Below.refl _ _) hS rfl (fun h => absurd h (by decide))
                        · refine .inl ⟨met_none rfl, ?_⟩
                          intro a W K hS hd hD hf hK
                          have e121 : a.tmps.getD 121 undef = .slice (some ⟨G, 0, none⟩) 12 12 := hd ⟨4, .data⟩ (by simp) rfl
                          clear hd hf hD
                          go_simp
                          exact hK _ _ (Below.refl _ _) hS rfl (fun h => absurd h (by decide))
                        · refine .inl ⟨met_none rfl, ?_⟩
                          intro a W K hS hd hD hf hK
                          have e122 : a.tmps.getD 122 undef = .pointer (some ⟨G, 9, none⟩) := hd ⟨5, .data⟩ (by simp) rfl
                          have k0 := (qK.kept hS qK.size).cell_some 9 _ rfl
                          clear hd hf hD
                          go_simp
                          exact hK _ _ (Below.refl _ _) hS rfl (fun h => absurd h (by decide))
                        · refine .inl ⟨met_none rfl, ?_⟩
                          intro a W K hS hd hD hf hK
                          have e123 : a.tmps.getD 123 undef = .int .i64 x9 := hd ⟨6, .data⟩ (by simp) rfl
                          clear hd hf hD
                          go_simp
                          exact hK _ _ (Below.refl _ _) hS rfl (fun h => absurd h (by decide))
                        · refine .inl ⟨met_none rfl, ?_⟩
                          intro a W K hS hd hD hf hK
                          have e124 : a.tmps.getD 124 undef = .int .u64 x9 := hd ⟨7, .data⟩ (by simp) rfl
                          clear hd hf hD
                          go_simp
                          exact hK _ _ (Below.refl _ _) hS rfl (fun h => absurd h (by decide))
                        · refine .inl ⟨met_none rfl, ?_⟩
                          intro a W K hS hd hD hf hK
                          have e0 : a.tmps.getD 0 undef = .slice (some ⟨b, off, none⟩) len cap := hf 0 (by kernel_rfl)
                          clear hd hf hD
                          go_simp
                          exact hK _ _ (Below.refl _ _) hS rfl (fun h => absurd h (by decide))
                        · refine .inl ⟨met_none rfl, ?_⟩
                          intro a W K hS hd hD hf hK
                          have e126 : a.tmps.getD 126 undef = .slice (some ⟨b, off, none⟩) len cap := hd ⟨9, .data⟩ (by simp) rfl
                          clear hd hf hD
                          go_simp
                          exact hK _ _ (Below.refl _ _) hS rfl (fun h => absurd h (by decide))
                        · refine .inl ⟨met_none rfl, ?_⟩
                          intro a W K hS hd hD hf hK
                          have e127 : a.tmps.getD 127 undef = .pointer (some ⟨b, off + 10, none⟩) := hd ⟨10, .data⟩ (by simp) rfl
                          have k0 := cell_kept hS c0
                          clear hd hf hD
                          go_simp
                          exact hK _ _ (Below.refl _ _) hS rfl (fun h => absurd h (by decide))
                        · refine .inl ⟨met_none rfl, ?_⟩
                          intro a W K hS hd hD hf hK
                          have e5 : a.tmps.getD 5 undef = .slice (some ⟨G, 0, none⟩) 12 12 := hf 5 (by kernel_rfl)
                          clear hd hf hD
                          go_simp
                          exact hK _ _ (Below.refl _ _) hS rfl (fun h => absurd h (by decide))
                        · refine .inl ⟨met_none rfl, ?_⟩
                          intro a W K hS hd hD hf hK
                          have e129 : a.tmps.getD 129 undef = .slice (some ⟨G, 0, none⟩) 12 12 := hd ⟨12, .data⟩ (by simp) rfl
                          clear hd hf hD
                          go_simp
                          exact hK _ _ (Below.refl _ _) hS rfl (fun h => absurd h (by decide))
                        · refine .inl ⟨met_none rfl, ?_⟩
                          intro a W K hS hd hD hf hK
                          have e130 : a.tmps.getD 130 undef = .pointer (some ⟨G, 11, none⟩) := hd ⟨13, .data⟩ (by simp) rfl
                          have k0 := (qK.kept hS qK.size).cell_some 11 _ rfl
                          clear hd hf hD
                          go_simp
                          exact hK _ _ (Below.refl _ _) hS rfl (fun h => absurd h (by decide))
                        · refine .inl ⟨met_none rfl, ?_⟩
                          intro a W K hS hd hD hf hK
                          have e131 : a.tmps.getD 131 undef = .int .i64 x11 := hd ⟨14, .data⟩ (by simp) rfl
                          clear hd hf hD
                          go_simp
                          exact hK _ _ (Below.refl _ _) hS rfl (fun h => absurd h (by decide))
                        · refine .inl ⟨met_none rfl, ?_⟩
                          intro a W K hS hd hD hf hK
                          have e120 : a.tmps.getD 120 undef = .int .u64 (X8 : Int) := hd ⟨3, .data⟩ (by simp) rfl
                          have e125 : a.tmps.getD 125 undef = .int .u64 (P9 : Int) := hd ⟨8, .data⟩ (by simp) rfl
                          have e128 : a.tmps.getD 128 undef = .int .u8 (X10 : Int) := hd ⟨11, .data⟩ (by simp) rfl
                          have e132 : a.tmps.getD 132 undef = .int .u32 (X11 : Int) := hd ⟨15, .data⟩ (by simp) rfl
                          have hsq := hS.size
                          clear hd hf hD
                          go_simp
                          go_at_call 36
                          refine (HM2.out _).mono ?_
                          rintro e w3 ⟨rfl, hb⟩
                          exact hK _ _ hb (gr_call hS hb) rfl (fun h => absurd h (by decide))
                        · refine .inl ⟨met_none rfl, ?_⟩
                          intro a W K hS hd hD hf hK
                          have e7 : a.tmps.getD 7 undef = .pointer (some ⟨g, 0, none⟩) := hf 7 (by kernel_rfl)
                          clear hd hf hD
                          go_simp
                          exact hK _ _ (Below.refl _ _) hS rfl (fun h => absurd h (by decide))
                      case he =>
                        intro vals3 w14 K hS14 hV hK
                        have e16' := hV 16 (by omega)
                        have e17' := hV 17 (by omega)
                        clear hV
                        simp only [List.getD_cons_succ, List.getD_cons_zero] at e16' e17'
                        refine Later.mk ?_
                        simp only [List.append_eq, List.cons_append, List.nil_append, setN, Nat.reduceAdd, List.setIfInBounds_toArray, List.set_cons_succ, List.set_cons_zero]
                        rw [show vals3 16 = _ from e16', show vals3 17 = _ from e17']
                        replace hbl := gr_call hbl hS14
                        replace qM := qM.kept hS14 qM.size
                        replace qR := qR.kept hS14 qR.size
                        replace hX := hX.call hS14
                        replace hA := hA.call hS14
                        replace hD := hD.call hS14
                        have hblk := qM
                        have k0 := hblk.cell_some 0 _ rfl; have k1 := hblk.cell_some 1 _ rfl; have k2 := hblk.cell_some 2 _ rfl; have k3 := hblk.cell_some 3 _ rfl; have k4 := hblk.cell_some 4 _ rfl; have k5 := hblk.cell_some 5 _ rfl; have k6 := hblk.cell_some 6 _ rfl; have k7 := hblk.cell_some 7 _ rfl; have k8 := hblk.cell_some 8 _ rfl; have k9 := hblk.cell_some 9 _ rfl; have k10 := hblk.cell_some 10 _ rfl; have k11 := hblk.cell_some 11 _ rfl; have k12 := hblk.cell_some 12 _ rfl; have k13 := hblk.cell_some 13 _ rfl
                        have f0 := hblk.free 0; have f1 := hblk.free 1; have f2 := hblk.free 2; have f3 := hblk.free 3; have f4 := hblk.free 4; have f5 := hblk.free 5; have f6 := hblk.free 6; have f7 := hblk.free 7; have f8 := hblk.free 8; have f9 := hblk.free 9; have f10 := hblk.free 10; have f11 := hblk.free 11; have f12 := hblk.free 12; have f13 := hblk.free 13
                        clear hblk hS14
                        go_simp
                        refine hK _ _ ?_
                        first | go_meet | (go_wp2_with fail; go_meet)
                        exact ⟨(BlkIs.put (BlkIs.put (BlkIs.put (BlkIs.put (BlkIs.put qM 8 (.int .i64 cv)) 9 (.int .u64 (cp : Int))) 10 (.int .u64 (ci : Int))) 11 (.bool ce)) 12 (.int .i64 cr)), (Row.other (Row.other (Row.other (Row.other (Row.other hD (a := ⟨g, 8, none⟩) hfd (.int .i64 cv)) (a := ⟨g, 9, none⟩) hfd (.int .u64 (cp : Int))) (a := ⟨g, 10, none⟩) hfd (.int .u64 (ci : Int))) (a := ⟨g, 11, none⟩) hfd (.bool ce)) (a := ⟨g, 12, none⟩) hfd (.int .i64 cr)), (Row.other (Row.other (Row.other (Row.other (Row.other hA (a := ⟨g, 8, none⟩) hfa (.int .i64 cv)) (a := ⟨g, 9, none⟩) hfa (.int .u64 (cp : Int))) (a := ⟨g, 10, none⟩) hfa (.int .u64 (ci : Int))) (a := ⟨g, 11, none⟩) hfa (.bool ce)) (a := ⟨g, 12, none⟩) hfa (.int .i64 cr)), (Row.other (Row.other (Row.other (Row.other (Row.other hX (a := ⟨g, 8, none⟩) hfx (.int .i64 cv)) (a := ⟨g, 9, none⟩) hfx (.int .u64 (cp : Int))) (a := ⟨g, 10, none⟩) hfx (.int .u64 (ci : Int))) (a := ⟨g, 11, none⟩) hfx (.bool ce)) (a := ⟨g, 12, none⟩) hfx (.int .i64 cr)), (BlkIs.other (BlkIs.other (BlkIs.other (BlkIs.other (BlkIs.other qR (p := ⟨g, 8, none⟩) nRg (.int .i64 cv)) (p := ⟨g, 9, none⟩) nRg (.int .u64 (cp : Int))) (p := ⟨g, 10, none⟩) nRg (.int .u64 (ci : Int))) (p := ⟨g, 11, none⟩) nRg (.bool ce)) (p := ⟨g, 12, none⟩) nRg (.int .i64 cr)), (gr_set (gr_set (gr_set (gr_set (gr_set hbl (p := ⟨g, 8, none⟩) hgw (.int .i64 cv)) (p := ⟨g, 9, none⟩) hgw (.int .u64 (cp : Int))) (p := ⟨g, 10, none⟩) hgw (.int .u64 (ci : Int))) (p := ⟨g, 11, none⟩) hgw (.bool ce)) (p := ⟨g, 12, none⟩) hgw (.int .i64 cr))⟩
                  case rest =>
                    clear qM qK qR hA hX hD hbl
                    obtain ⟨hblm, hD, hA, hX, hblj, hbl⟩ := hcut
                    rename World => W15
                    clear w8 w9 w9s w11 HMK HCY HCN HZ10 HB10
                    have hblk := hblj
                    have f0 := hblk.free 0; have f1 := hblk.free 1; have f2 := hblk.free 2; have f3 := hblk.free 3; have f4 := hblk.free 4; have f5 := hblk.free 5; have f6 := hblk.free 6; have f7 := hblk.free 7; have f8 := hblk.free 8; have f9 := hblk.free 9; have f10 := hblk.free 10; have f11 := hblk.free 11; have f12 := hblk.free 12; have f13 := hblk.free 13
                    have j0 := hblj.cell_some 0 _ rfl; have j1 := hblj.cell_some 1 _ rfl; have j2 := hblj.cell_some 2 _ rfl; have j3 := hblj.cell_some 3 _ rfl; have j4 := hblj.cell_some 4 _ rfl; have j5 := hblj.cell_some 5 _ rfl; have j6 := hblj.cell_some 6 _ rfl; have j7 := hblj.cell_some 7 _ rfl; have j8 := hblj.cell_some 8 _ rfl; have j9 := hblj.cell_some 9 _ rfl; have j10 := hblj.cell_some 10 _ rfl; have j11 := hblj.cell_some 11 _ rfl; have j12 := hblj.cell_some 12 _ rfl; have j13 := hblj.cell_some 13 _ rfl
                    clear hblk
                    have hblk := hblm
                    have k0 := hblk.cell_some 0 _ rfl; have k1 := hblk.cell_some 1 _ rfl; have k2 := hblk.cell_some 2 _ rfl; have k3 := hblk.cell_some 3 _ rfl; have k4 := hblk.cell_some 4 _ rfl; have k5 := hblk.cell_some 5 _ rfl; have k6 := hblk.cell_some 6 _ rfl; have k7 := hblk.cell_some 7 _ rfl; have k8 := hblk.cell_some 8 _ rfl; have k9 := hblk.cell_some 9 _ rfl; have k10 := hblk.cell_some 10 _ rfl; have k11 := hblk.cell_some 11 _ rfl; have k12 := hblk.cell_some 12 _ rfl; have k13 := hblk.cell_some 13 _ rfl
                    clear hblk
                    go_wp2_with fail
                    clear k0 k1 k2 k3 k4 k5 k6 k7 k8 k9 k10 k11 k12 k13 j0 j1 j2 j3 j4 j5 j6 j7 j8 j9 j10 j11 j12 j13 f0 f1 f2 f3 f4 f5 f6 f7 f8 f9 f10 f11 f12 f13
                    obtain ⟨W16, hW16⟩ : ∃ W, put14 W15 w.heap.size (.int .i64 (x0 * 16 + x1 % 16)) (.int .i64 (x2 % 6)) (.int .i64 (x3 % 6)) (.int .i64 (x4 * 1000 - 50000)) (.int .i64 (x5 % 2 * 500000000)) (.slice pa na ca) (.slice pd nd cd) (.slice px nx cx) (.int .i64 cv) (.int .u64 (cp : Int)) (.int .u64 (ci : Int)) (.bool ce) (.int .i64 cr) (.int .i64 (x6 % 16)) = W := ⟨_, rfl⟩
                    have hblk : BlkIs W16 w.heap.size 30 #[.int .i64 (x0 * 16 + x1 % 16), .int .i64 (x2 % 6), .int .i64 (x3 % 6), .int .i64 (x4 * 1000 - 50000), .int .i64 (x5 % 2 * 500000000), .slice pa na ca, .slice pd nd cd, .slice px nx cx, .int .i64 cv, .int .u64 (cp : Int), .int .u64 (ci : Int), .bool ce, .int .i64 cr, .int .i64 (x6 % 16)] := by rw [← hW16]; exact put14_is hblj rfl _ _ _ _ _ _ _ _ _ _ _ _ _ _
                    have hD16 : Row AclW.aceE W11.heap.size (.slice pd nd cd) (dflK zs len k) W16 := by rw [← hW16]; exact put14_row hD hfrd _ _ _ _ _ _ _ _ _ _ _ _ _ _
                    have hA16 : Row AclW.aceE W9.heap.size (.slice pa na ca) (aclK zs len (x0 * 16 + x1 % 16)) W16 := by rw [← hW16]; exact put14_row hA hfra _ _ _ _ _ _ _ _ _ _ _ _ _ _
                    have hX16 : Row XatW.xatE W7.heap.size (.slice px nx cx) (xatK zs len) W16 := by rw [← hW16]; exact put14_row hX hfr _ _ _ _ _ _ _ _ _ _ _ _ _ _
                    have hbl16 : Below w.heap.size w W16 := by rw [← hW16]; exact put14_below hbl (Nat.le_refl _) _ _ _ _ _ _ _ _ _ _ _ _ _ _
                    unfold put14 at hW16
                    rw [hW16]
                    clear hW16 hblj hblm hD hA hX hbl
                    have k0 := hblk.cell_some 0 _ rfl; have k1 := hblk.cell_some 1 _ rfl; have k2 := hblk.cell_some 2 _ rfl; have k3 := hblk.cell_some 3 _ rfl; have k4 := hblk.cell_some 4 _ rfl; have k5 := hblk.cell_some 5 _ rfl; have k6 := hblk.cell_some 6 _ rfl; have k7 := hblk.cell_some 7 _ rfl; have k8 := hblk.cell_some 8 _ rfl; have k9 := hblk.cell_some 9 _ rfl; have k10 := hblk.cell_some 10 _ rfl; have k11 := hblk.cell_some 11 _ rfl; have k12 := hblk.cell_some 12 _ rfl; have k13 := hblk.cell_some 13 _ rfl
                    obtain ⟨hx0, hx1, hx2, hx3, hx4, hx5⟩ := HX.out
                    have hM : madeM zs len k = ⟨x0 * 16 + x1 % 16, x2 % 6, x3 % 6, x4 * 1000 - 50000, x5 % 2 * 500000000, aclK zs len (x0 * 16 + x1 % 16), dflK zs len k, xatK zs len, ⟨cv, cp, ci, ce, cr⟩, x6 % 16⟩ := by unfold madeM modeK; rw [if_neg hk3, hx0, hx1, hx2, hx3, hx4, hx5, HC.out, HX6.out.1]
                    rw [hM]
                    refine bodyPost_ret (v := .agg #[.int .i64 (x0 * 16 + x1 % 16), .int .i64 (x2 % 6), .int .i64 (x3 % 6), .int .i64 (x4 * 1000 - 50000), .int .i64 (x5 % 2 * 500000000), .slice pa na ca, .slice pd nd cd, .slice px nx cx, .int .i64 cv, .int .u64 (cp : Int), .int .u64 (ci : Int), .bool ce, .int .i64 cr, .int .i64 (x6 % 16)]) (by simp [results, Try.results20, go_sem, *]) rfl ?_
                    have hco : capOk ⟨cv, cp, ci, ce, cr⟩ k = true := by rw [← HC.out]; exact cap_ok zs len k (HK.out 11).2
                    exact ⟨⟨⟨.slice pa na ca, .slice pd nd cd, .slice px nx cx, rfl, ⟨hA16.at, hD16.at, hX16.at, by simp only; omega, by simp only; omega, by simp only; omega⟩, ⟨fun q e => Nat.le_trans HZ9.out (hA16.lt q e).1, fun q e => Nat.le_trans HZ11.out (hD16.lt q e).1, fun q e => Nat.le_trans HZ7.out (hX16.lt q e).1⟩⟩, ⟨made_any HKA.out hk3 ⟨by omega, by omega⟩ ⟨by omega, by omega⟩ ⟨by omega, by omega⟩ (stamp_ok ⟨by omega, by omega⟩ ⟨by omega, by omega⟩) HAO.out.2 HDO.out.2 HXO.out.2.1 hco ⟨by omega, by omega⟩, HXO.out⟩⟩, hbl16⟩
theorem metaMake_any (a : Option Addr) (len cap : Nat) (zs : List Int) (k : Int) (w : World) (hr : IsRow .u8 w a len cap zs) (hlen : len ≤ 9223372036854775807) (hka : kAny k) :
    Calls Try.prog 20 #[.slice a len cap, .int .i64 k] w fun e w' => ((∃ va vd vx, e = .returned (.agg (metaC (madeM zs len k) va vd vx)) ∧ MetaAt (madeM zs len k) va vd vx w') ∧ (mayM (madeM zs len k) k = true ∧ XOk (madeM zs len k).xat)) ∧ Below w.heap.size w w' :=
  (metaMake_own a len cap zs k w hr hlen hka).mono fun _ _ ⟨⟨⟨va, vd, vx, h1, h2, _⟩, h3⟩, h4⟩ => ⟨⟨⟨va, vd, vx, h1, h2⟩, h3⟩, h4⟩
end Go.Proofs.Ytpfidbcnefnhcaa
