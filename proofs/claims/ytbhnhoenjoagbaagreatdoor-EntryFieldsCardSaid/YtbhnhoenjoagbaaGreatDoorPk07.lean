/- Bundle of 2 texts. -/
import Derived.Test.YtbhnhoenjoagbaaGreatDoorPk06
import Derived.Test.YtbhnhoenjoagbaaGreatDoorPk04
/- strings.Builder: what a written byte leaves as it was. -/
namespace Go.Proofs.YtbhnhoenjoagbaaGreatDoor
open Go.RowKit
set_option linter.unusedVariables false

theorem check_far (k B b : Nat) (bs : List Value) (w : World) (h : Lib.IsBuilder 142 5 B b bs w) (hkb : k ≠ b) :
    Calls Tryz.prog 195 #[.pointer (some ⟨b, 0, none⟩)] w fun e w' => e = .returned (.tuple #[]) ∧ (Lib.BuilderAt 142 5 B b (.pointer (some ⟨b, 0, none⟩)) bs w' ∧ Below B w w' ∧ w'.heap[k]? = w.heap[k]? ∧ w'.cell? ⟨b, 1, none⟩ = w.cell? ⟨b, 1, none⟩) := by
  rcases h with h | h
  · refine (check_fresh b w h.cell0 h.shape h.frozen0).mono ?_
    rintro e w' ⟨rfl, rfl⟩
    refine ⟨rfl, h.used _, (Below.refl B w).setCell (p := ⟨b, 0, none⟩) h.1 _, Below.heap_setCell _ _ _ k (by simpa using hkb), ?_⟩
    simp [go_sem]
  · refine (check_used b w h.cell0).mono ?_
    rintro e w' ⟨rfl, rfl⟩
    exact ⟨rfl, h, Below.refl B _, rfl, rfl⟩

set_option maxHeartbeats 2000000 in
set_option maxRecDepth 100000 in
theorem writeByte_far (k B b : Nat) (bs : List Value) (c : Int) (w : World) (h : Lib.IsBuilder 142 5 B b bs w) (hlen : bs.length + 1 ≤ 140737488355328) (hBw : B ≤ w.heap.size) (hk : k < w.heap.size) (hkb : k ≠ b) (hkv : ∀ v, w.cell? ⟨b, 1, none⟩ = some v → v.ownBlock ≠ some k) :
    Calls Tryz.prog 134 #[.pointer (some ⟨b, 0, none⟩), .int .u8 c] w fun e w' => e = .returned .nilIface ∧ (Lib.IsBuilder 142 5 B b (bs ++ [.int .u8 c]) w' ∧ Below B w w' ∧ w'.heap[k]? = w.heap[k]?) := by
  obtain ⟨i0, hi, hz0, hz1, hz2⟩ := info_parts (show (Tryz.prog.info? 5).map (fun i => (i.zero, i.size, i.bytes)) = some (some (.int .u8 0), 1, 1) by kernel_rfl)
  go_enter Tryz.func134, Tryz.ntmps134
  go_wp2_with (go_at_call 195; refine (check_far k B b bs _ h hkb).mono ?_)
  rintro e w1 ⟨rfl, h1, hb1, hk1, hc1⟩
  obtain ⟨hB, v, hbk, hown, hne⟩ := h1
  have hBw1 := hb1.size
  have c0 : w1.cell? ⟨b, 0, none⟩ = some (.pointer (some ⟨b, 0, none⟩)) := by rw [Lib.cell_of_heap hbk]; rfl
  have c1 : w1.cell? ⟨b, 1, none⟩ = some v := by rw [Lib.cell_of_heap hbk]; rfl
  have hlt : b < w1.heap.size := (Array.getElem?_eq_some_iff.1 hbk).1
  have hvk : v.ownBlock ≠ some k := hkv v (by rw [← hc1]; exact c1)
  clear hc1 hkv
  go_wp2_with (at_builtin; refine wpList_append_own _ rfl _ _ 49 rfl B 5 i0 (.int .u8 0) 1 1 Tryz.underlying49 hi hz0 hz1 hz2 rfl (by decide) _ _ _ rfl (hown.alloc _) ⟨w1.heap.size, 0, none⟩ 1 1 [.int .u8 c] rfl rfl ?c1 ?c2 ?c3 ?c4 ?c5 ?_)
  case c1 =>
    intro j u hj
    match j, hj with
    | 0, hj => simp at hj; subst hj; simp [Addr.add]
  case c2 => intro u hu; simp at hu; subst hu; rfl
  case c3 => unfold maxLen; omega
  case c4 => omega
  case c5 => simp; omega
  intro v' w2 hown' hgrow _
  have hb2 : w2.heap[b]? = some (.cells #[.pointer (some ⟨b, 0, none⟩), v] 142 (0, 0)) := by
    rw [hgrow.block b (by simp; omega) (fun e => hne e.symm), Lib.alloc_old w1 _ b hlt]
    exact hbk
  have hk2 : w2.heap[k]? = w.heap[k]? := by
    rw [hgrow.block k (by simp; omega) (fun e => hvk e.symm), Lib.alloc_old w1 _ k (by omega)]
    exact hk1
  have d1 : w2.cell? ⟨b, 1, none⟩ = some v := by rw [Lib.cell_of_heap hb2]; rfl
  have f1 : w2.frozen? ⟨b, 1, none⟩ = false := Lib.frozen_of_heap hb2 1
  obtain ⟨g, cap, rfl⟩ : ∃ g cap, v' = .slice (some ⟨g, 0, none⟩) (bs.length + 1) cap := by
    rcases hown'.2 with ⟨_, h0⟩ | ⟨g, cap, cur, hv, _⟩
    · omega
    · exact ⟨g, cap, hv⟩
  go_wp2
  go_ret
  refine ⟨rfl, .inr ?_, ?_, ?_⟩
  · exact Lib.BuilderAt.put (T := 142) (e := 5) hB hb2 (bs' := bs ++ [.int .u8 c]) (by simpa using hown') (by decide)
  · exact ((hb1.alloc (by omega) _).grown hgrow (by simp; omega) (fun k hk => (hown.lt k hk).1)).setCell (p := ⟨b, 1, none⟩) hB _
  · rw [Below.heap_setCell _ _ _ k (by simpa using hkb)]; exact hk2

theorem Bld.keep {b : Nat} {l : List UInt8} {w w1 : World} (h : Bld b l w) (hb : Below w.heap.size w w1) : Bld b l w1 := by
  have key : ∀ p, Lib.BuilderAt 142 5 b b p (Lib.byteCells l) w → Lib.BuilderAt 142 5 b b p (Lib.byteCells l) w1 := by
    rintro p ⟨hB, v, hbk, hown, hne⟩
    refine ⟨hB, v, (hb.block b (Array.getElem?_eq_some_iff.1 hbk).1).trans hbk, ?_, hne⟩
    refine World.ownsRow.kept hown (row := none) ⟨hb.os, hb.tape, hb.output, hb.size, fun k hk _ => hb.block k hk⟩ ?_
    cases hv : v.ownBlock with
    | none => exact Or.inl rfl
    | some k => exact Or.inr (by simp)
  exact h.elim (fun h => .inl (key _ h)) (fun h => .inr (key _ h))
theorem Bld.buf {b : Nat} {l : List UInt8} {w : World} (h : Bld b l w) : ∀ v, w.cell? ⟨b, 1, none⟩ = some v → ∀ k, v.ownBlock = some k → k < w.heap.size := by
  have key : ∀ p, Lib.BuilderAt 142 5 b b p (Lib.byteCells l) w → ∀ v, w.cell? ⟨b, 1, none⟩ = some v → ∀ k, v.ownBlock = some k → k < w.heap.size := by
    rintro p ⟨hB, v, hbk, hown, hne⟩ v' hv' k hk
    have c1 : w.cell? ⟨b, 1, none⟩ = some v := by rw [Lib.cell_of_heap hbk]; rfl
    rw [c1] at hv'
    cases hv'
    exact (World.ownsRow.lt hown k hk).2
  exact h.elim (key _) (key _)
theorem writeByte_k (k b : Nat) (l : List UInt8) (c : UInt8) (x : Int) (hx : x = (c.toNat : Int)) (w : World) (h : Bld b l w) (hlen : l.length + 1 ≤ 100000) (hb : b < w.heap.size) (hk : k < w.heap.size) (hkb : k ≠ b) (hkv : ∀ v, w.cell? ⟨b, 1, none⟩ = some v → v.ownBlock ≠ some k) :
    Calls Tryz.prog 134 #[.pointer (some ⟨b, 0, none⟩), .int .u8 x] w fun e w' => e = .returned .nilIface ∧ Bld b (l ++ [c]) w' ∧ Below b w w' ∧ w'.heap[k]? = w.heap[k]? := by
  subst hx
  refine (writeByte_far k b b _ (c.toNat : Int) w h (by rw [Lib.byteCells_length]; omega) (Nat.le_of_lt hb) hk hkb hkv).mono ?_
  rintro e w' ⟨h1, h2, h3, h4⟩
  refine ⟨h1, ?_, h3, h4⟩
  unfold Bld
  rw [Lib.byteCells_append]
  exact h2
end Go.Proofs.YtbhnhoenjoagbaaGreatDoor

/- Walks: pad.Put, and the document's. -/
namespace Go.Proofs.YtbhnhoenjoagbaaGreatDoor.PadW
open Go.RowKit
open PadM
set_option linter.unusedVariables false

theorem put_any (s : ByteArray) (hs : s.size ≤ 100000) (w : World) :
    Calls Tryz.prog 88 #[.string s] w fun e w' => e = .returned (.string (strOf (padL (L s)))) ∧ Below w.heap.size w w' := by
  have hm := more_in (n := s.size) (by omega)
  have hsize := fun w => size_any (s.size : Int) w
  rw [hm.2.2.2] at hsize
  obtain ⟨m, hmm⟩ : ∃ m, more s.size = m := ⟨_, rfl⟩
  have hpad : padL (L s) = [] ++ L s ++ L (strOf (List.replicate m 0)) := by unfold padL; rw [size_L, hmm, L_strOf]; rfl
  rw [hmm] at hsize hm
  have hm1 := hm.2.1
  have hsub : ((s.size : Int) + (m : Int)) - (s.size : Int) = (m : Int) := by omega
  have hsz : (strOf (List.replicate m 0)).size = m := by rw [strOf_sz, List.length_replicate]
  obtain ⟨Z, hZ⟩ : ∃ Z : ByteArray, (⟨#[0]⟩ : ByteArray) = Z := ⟨_, rfl⟩
  have hrep := fun w => rep_any m (m : Int) rfl (by omega) w
  obtain ⟨M, hM⟩ : ∃ M : ByteArray, strOf (List.replicate m 0) = M := ⟨_, rfl⟩
  rw [hM] at hsz hpad hrep
  rw [hZ] at hrep
  have hgrow := fun w => grow_b (s.size + m) ((s.size : Int) + (m : Int)) (by omega) w (by omega)
  rw [hpad]
  have hlen : s.data.toList.length = s.size := size_L s
  replace hrep := Lib.hid hrep
  replace hsize := Lib.hid hsize
  replace hgrow := Lib.hid hgrow
  clear hpad hm hmm hM
  go_enter Tryz.func88, Tryz.ntmps88
  rw [hZ]
  clear hZ
  go_wp2_with fail
  refine (hsize.out _).mono ?_
  rintro e w1 ⟨rfl, rfl⟩
  go_wp2_with fail
  refine (hgrow.out _).mono ?_
  rintro e w1 ⟨rfl, h1, hb1⟩
  go_wp2_with fail
  refine (writeStr_b w.heap.size [] s w1 h1 (by simp; omega) (bld_lt h1)).mono ?_
  rintro e w2 ⟨rfl, h2, hb2⟩
  have hB2 : Below w.heap.size w w2 := hb1.trans hb2
  clear h1 hb1 hb2
  go_wp2_with fail
  refine (hrep.out _).mono ?_
  rintro e w3 ⟨rfl, hb3⟩
  have h3 := h2.keep hb3
  have hB3 := gr_call hB2 hb3
  clear h2 hB2 hb3
  go_wp2_with fail
  refine (writeStr_b w.heap.size _ M w3 h3 (by rw [List.nil_append, hlen]; omega) (bld_lt h3)).mono ?_
  rintro e w4 ⟨rfl, h4, hb4⟩
  have hB4 : Below w.heap.size w w4 := hB3.trans hb4
  clear h3 hB3 hb4
  go_wp2_with fail
  refine (string_b w.heap.size _ w4 h4).mono ?_
  rintro e w5 ⟨rfl, hb5⟩
  have hB5 : Below w.heap.size w w5 := hB4.trans hb5
  go_wp2_with fail
  go_ret
  exact ⟨rfl, hB5⟩

end Go.Proofs.YtbhnhoenjoagbaaGreatDoor.PadW
