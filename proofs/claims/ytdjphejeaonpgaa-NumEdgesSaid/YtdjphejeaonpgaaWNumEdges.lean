/- The walk of the law NumEdges. -/
import Derived.Test.YtdjphejeaonpgaaNumAwake
import Derived.Test.YtdjphejeaonpgaaCopy
namespace Go.Proofs.Ytdjphejeaonpgaa
open Go.RowKit
open NumM
set_option linter.unusedVariables false

/-- How a field begins. -/
theorem rdFld_head {v : Int} {c : UInt8} {r : List UInt8} (h : rdFld (c :: r) = some v) : c.toNat = 128 ∨ c.toNat = 255 ∨ (48 ≤ c.toNat ∧ c.toNat ≤ 55) := by
  have hf := rdFld_form h
  rcases fieldO_cases hf with h | ⟨_, h⟩
  · obtain ⟨c', r', hl, h1, h2⟩ := octO_head h
    injection hl with h3 _
    subst h3
    exact .inr (.inr ⟨h1, h2⟩)
  · obtain ⟨c', r', hl, h1⟩ := basO_head h
    injection hl with h3 _
    subst h3
    rcases h1 with ⟨_, rfl⟩ | ⟨_, rfl⟩
    · right; left; rfl
    · left; rfl

theorem bstr_head (c : UInt8) (r : List UInt8) : ∀ w, (Instr.index 9 (.string ⟨(c :: r).toArray⟩) (.int .i64 0)).run Try.prog w = .ok (.int .u8 (c.toNat : Int)) w := idx_head c r

set_option maxHeartbeats 400000 in
theorem numEdges_walk (a0 : Int) (a1 : ByteArray) (w : World) (w0 : (Lit.int .u8 a0).wf = true) (w1 : a1.size ≤ maxLen) :
    Calls Try.prog 7 #[.int .u8 a0, .string a1] w fun e w' => e = .returned (.bool true) ∧ Below w.heap.size w w' := by
  have hc := boundsU8 w0
  obtain ⟨c, hcc⟩ : ∃ c : UInt8, (c.toNat : Int) = a0 := ⟨UInt8.ofNat a0.toNat, by simp; omega⟩
  have H1 := Lib.hid (fun W => Octal_yes 2097151 8 [55, 55, 55, 55, 55, 55, 55, 0] (by decide) W)
  have H2 := Lib.hid (fun W => Octal_no 2097152 8 (by decide) W)
  have H3 := Lib.hid (fun W => Field_yes 2097152 8 [128, 0, 0, 0, 0, 32, 0, 0] (by decide) W)
  have H4 := Lib.hid (fun W => Field_yes 8589934591 12 [55, 55, 55, 55, 55, 55, 55, 55, 55, 55, 55, 0] (by decide) W)
  have H5 := Lib.hid (fun W => Field_yes 8589934592 12 [128, 0, 0, 0, 0, 0, 0, 2, 0, 0, 0, 0] (by decide) W)
  have H6 := Lib.hid (fun W => Field_no 72057594037927936 8 (by decide) W)
  have H7 := Lib.hid (fun W => Field_yes 72057594037927935 8 [128, 255, 255, 255, 255, 255, 255, 255] (by decide) W)
  have H8 := Lib.hid (fun W => Field_no (-72057594037927937) 8 (by decide) W)
  have hmk : ∀ w, (Instr.makeSlice 34 (.int .i64 8) (.int .i64 8)).run Try.prog w = .ok (.slice (some ⟨w.heap.size, 0, none⟩) 8 8) (w.alloc (.cells (cellsOf [0, 0, 0, 0, 0, 0, 0, 0]) 5)) := fun _ => by kernel_rfl
  go_enter Try.func7, Try.ntmps7
  go_wp2_with fail
  refine (H1.out _).mono ?_
  rintro e w1 ⟨rfl, hb1⟩
  go_wp2_with fail
  refine (H2.out _).mono ?_
  rintro e w2 ⟨rfl, hb2⟩
  go_wp2_with fail
  refine (H3.out _).mono ?_
  rintro e w3 ⟨rfl, hb3⟩
  go_wp2_with fail
  refine (H4.out _).mono ?_
  rintro e w4 ⟨rfl, hb4⟩
  go_wp2_with fail
  refine (H5.out _).mono ?_
  rintro e w5 ⟨rfl, hb5⟩
  go_wp2_with fail
  refine (H6.out _).mono ?_
  rintro e w6 ⟨rfl, hb6⟩
  go_wp2_with fail
  refine (H7.out _).mono ?_
  rintro e w7 ⟨rfl, hb7⟩
  go_wp2_with fail
  refine (H8.out _).mono ?_
  rintro e w8 ⟨rfl, hb8⟩
  have hb := bthen (bthen (bthen (bthen (bthen (bthen (bthen hb1 hb2) hb3) hb4) hb5) hb6) hb7) hb8
  clear hb1 hb2 hb3 hb4 hb5 hb6 hb7 hb8 H1 H2 H3 H4 H5 H6 H7 H8
  have hcp := run_copy_str (P := Try.prog) (dT := 34) (sT := 9) (ty := 3) (dCap := 8) a1 [0, 0, 0, 0, 0, 0, 0, 0] Try.underlying34 (by kernel_rfl) (BlkIs.made w8 5 (cellsOf [0, 0, 0, 0, 0, 0, 0, 0])) (Nat.le_refl 8)
  obtain ⟨c0, r, hL, hr⟩ : ∃ c0 r, a1.data.toList.take (Nat.min a1.size 8) ++ List.drop (Nat.min a1.size 8) [0, 0, 0, 0, 0, 0, 0, 0] = (c0 : UInt8) :: r ∧ r.length = 7 := by
    have hlen : (a1.data.toList.take (Nat.min a1.size 8) ++ List.drop (Nat.min a1.size 8) [0, 0, 0, 0, 0, 0, 0, 0]).length = 8 := by
      have h1 : Nat.min a1.size 8 ≤ a1.size := Nat.min_le_left _ _
      have h2 : Nat.min a1.size 8 ≤ 8 := Nat.min_le_right _ _
      rw [List.length_append, List.length_take, List.length_drop]
      simp only [List.length_cons, List.length_nil, Array.length_toList, ByteArray.size_data]
      omega
    generalize a1.data.toList.take (Nat.min a1.size 8) ++ List.drop (Nat.min a1.size 8) [0, 0, 0, 0, 0, 0, 0, 0] = L at *
    rcases L with _ | ⟨c0, r⟩
    · cases hlen
    · exact ⟨c0, r, rfl, by simpa using hlen⟩
  rw [hL] at hcp
  obtain ⟨w9, hw9⟩ : ∃ w9, (w8.alloc (.cells (cellsOf [0, 0, 0, 0, 0, 0, 0, 0]) 5)).setRow w8.heap.size (cellsOf (c0 :: r)) = w9 := ⟨_, rfl⟩
  have hB9 : BlkIs w9 w8.heap.size 5 (cellsOf (c0 :: r)) := by rw [← hw9]; exact setRow_heap _ _ _ _ _ _ (BlkIs.made w8 5 _)
  have hb9 : Below w.heap.size w w9 := by rw [← hw9]; exact below_setRow (hb.alloc hb.size _) hb.size _
  rw [hw9] at hcp
  clear hw9 hL hmk
  have hmk : ∀ w, (Instr.makeSlice 34 (.int .i64 8) (.int .i64 8)).run Try.prog w = .ok (.slice (some ⟨w.heap.size, 0, none⟩) 8 8) (w.alloc (.cells (cellsOf [0, 0, 0, 0, 0, 0, 0, 0]) 5)) := fun _ => by kernel_rfl
  have hc0 := hB9.cell_some 0 (.int .u8 (c0.toNat : Int)) rfl
  have hf0 := hB9.free 0
  have hB10 := hB9.put 0 (.int .u8 (c.toNat : Int))
  rw [cellsOf_set, hcc] at hB10
  have hcv := conv_back (P := Try.prog) (src := 34) (dst := 9) (c :: r) 8 hB10 Try.underlying34 Try.underlying5 Try.underlying9
  rw [show (c :: r).length = 8 by simp [hr]] at hcv
  have hb10 : Below w.heap.size w (w9.setCell ⟨w8.heap.size, 0, none⟩ (.int .u8 a0)) := hb9.setCell hb.size _
  have i1 := idx_head 128 [0, 0, 0, 0, 32, 0, 0]
  have i2 := idx_head 128 [0, 0, 0, 0, 0, 0, 2, 0, 0, 0, 0]
  simp only [show ((128 : UInt8).toNat : Int) = 128 from rfl] at i1 i2
  have Hcc := Lib.hid hcc
  clear hB9 hB10 hr hcc w0 hb hb9
  go_wp2_with fail
  rcases hrd : rdFld (c :: r) with _ | v
  · refine (ReadField_no ⟨(c :: r).toArray⟩ hrd _).mono ?_
    rintro e w11 ⟨rfl, hb11⟩
    clear hrd
    go_wp2_with fail
    refine (awake_true _).mono ?_
    rintro e w12 ⟨rfl, hb12⟩
    go_wp2_with fail
    go_ret
    exact ⟨rfl, bthen (bthen hb10 hb11) hb12⟩
  · have hh := rdFld_head hrd
    have hcases : a0 = 128 ∨ a0 = 255 ∨ ((a0 == 128) = false ∧ (a0 == 255) = false ∧ decide (48 ≤ a0) = true ∧ decide (a0 ≤ 55) = true) := by
      have := Hcc.out
      rcases hh with h | h | h
      · left; omega
      · right; left; omega
      · right; right
        refine ⟨?_, ?_, ?_, ?_⟩ <;> simp <;> omega
    refine (ReadField_yes ⟨(c :: r).toArray⟩ v hrd _).mono ?_
    rintro e w11 ⟨rfl, hb11⟩
    clear hrd hh
    rcases hcases with rfl | rfl | ⟨h1, h2, h3, h4⟩
    all_goals
      go_wp2_with fail
      refine (awake_true _).mono ?_
      rintro e w12 ⟨rfl, hb12⟩
      go_wp2_with fail
      go_ret
      exact ⟨rfl, bthen (bthen hb10 hb11) hb12⟩
end Go.Proofs.Ytdjphejeaonpgaa
