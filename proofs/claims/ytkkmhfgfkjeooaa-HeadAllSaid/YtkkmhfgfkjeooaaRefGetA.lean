/- Walks over the document's answer for package head: text, GetHead. -/
import Derived.Test.YtkkmhfgfkjeooaaRefHeadPut
import Derived.Test.YtkkmhfgfkjeooaaHeadGet
import Derived.Laws.Tables
namespace Go.Proofs.Ytkkmhfgfkjeooaa
open Go.RowKit
open HeadM NumM
set_option linter.unusedVariables false

theorem fldn (x : Int) (b : Bool) (w : World) : (Instr.field 55 (.agg #[.int .i64 x, .bool b]) 0).run Try.prog w = .ok (.int .i64 x) w := by kernel_rfl

theorem buildH (n : ByteArray) (a b c d e t : Int) (l u g : ByteArray) (x y : Int) (p : ByteArray) (w : World) :
    (Instr.build 23 #[(0, .string n), (1, .int .i64 a), (2, .int .i64 b), (3, .int .i64 c), (4, .int .i64 d), (5, .int .i64 e), (6, .int .u8 t), (7, .string l), (8, .string u), (9, .string g), (10, .int .i64 x), (11, .int .i64 y), (12, .string p)]).run Try.prog w =
      .ok (.agg #[.string n, .int .i64 a, .int .i64 b, .int .i64 c, .int .i64 d, .int .i64 e, .int .u8 t, .string l, .string u, .string g, .int .i64 x, .int .i64 y, .string p]) w := run_build w _ _ _ (by kernel_rfl)
theorem buildGot (n : ByteArray) (a b c d e t : Int) (l u g : ByteArray) (x y : Int) (p : ByteArray) (w : World) :
    (Instr.build 29 #[(0, .agg #[.string n, .int .i64 a, .int .i64 b, .int .i64 c, .int .i64 d, .int .i64 e, .int .u8 t, .string l, .string u, .string g, .int .i64 x, .int .i64 y, .string p])]).run Try.prog w =
      .ok (.agg #[.string n, .int .i64 a, .int .i64 b, .int .i64 c, .int .i64 d, .int .i64 e, .int .u8 t, .string l, .string u, .string g, .int .i64 x, .int .i64 y, .string p, .int .i64 0]) w := run_build w _ _ _ (by kernel_rfl)
theorem fact_of {Vs : List (World → Value → Prop)} {vals : Nat → Value} {w : World} {n : Nat} (h : ∀ i, i < n → Vs.getD i (fun _ _ => True) w (vals i)) (i : Nat) (hi : i < n) {p : World → Value → Prop} (hp : Vs[i]? = some p) : p w (vals i) := by
  have h1 := h i hi
  rw [List.getD_eq_getElem?_getD, hp] at h1
  exact h1
theorem rd_range (l : List UInt8) (h : l.length ≤ 12) : -9223372036854775808 ≤ rd l ∧ rd l ≤ 9223372036854775807 := by
  unfold rd rdFld rdO
  by_cases hf : fieldO (fldV l) l.length = some l
  · rw [if_pos hf]
    show -9223372036854775808 ≤ fldV l ∧ fldV l ≤ 9223372036854775807
    unfold fldV
    by_cases hc : (l.head?.getD 0).toNat < 128
    · rw [if_pos hc]
      have := octV_small (l.take (l.length - 1)) (by rw [List.length_take]; omega)
      omega
    · rw [if_neg hc]
      exact basV_range l
  · rw [if_neg hf]
    show -9223372036854775808 ≤ (0 : Int) ∧ (0 : Int) ≤ 9223372036854775807
    omega
theorem cut_le (b : List UInt8) (i j : Nat) : (cut b i j).length ≤ j - i := by simp [cut]; omega
theorem guess_ints {b : List UInt8} {G : Hd} (hG : guess b = G) : Ints G := by
  subst hG
  exact ⟨rd_range _ (Nat.le_trans (cut_le _ _ _) (by decide)), rd_range _ (Nat.le_trans (cut_le _ _ _) (by decide)), rd_range _ (Nat.le_trans (cut_le _ _ _) (by decide)), rd_range _ (Nat.le_trans (cut_le _ _ _) (by decide)), rd_range _ (Nat.le_trans (cut_le _ _ _) (by decide)), rd_range _ (Nat.le_trans (cut_le _ _ _) (by decide)), rd_range _ (Nat.le_trans (cut_le _ _ _) (by decide))⟩
theorem upto_cons (c : UInt8) (l : List UInt8) : upto (c :: l) = if c = 0 then [] else c :: upto l := by
  unfold upto
  by_cases h : c = 0 <;> simp [h]
theorem rtext_any (S : ByteArray) (hS : S.size ≤ 9000000000) (w : World) :
    Calls Try.prog 26 #[.string S] w fun e w' => e = .returned (.string (strOf (upto (L S)))) ∧ w' = w := by
  obtain ⟨n, hn⟩ : ∃ n, S.size = n := ⟨_, rfl⟩
  have HI := Lib.hid (fun i (h : i < n) => idxAt Try.underlying9 S i (by omega))
  obtain ⟨M, hL⟩ : ∃ M, L S = M := ⟨_, rfl⟩
  have hln : M.length = n := by rw [← hL, ← hn, size_L]
  rw [hL] at HI ⊢
  have HE := Lib.hid (fun i (h : i ≤ n) => show S.extract 0 i = strOf (M.take i) from by
    apply str_L
    show (S.extract 0 i).data.toList = _
    rw [Lib.extract_data, ← hL]
    simp [L])
  have HF := Lib.hid (show S = strOf M by rw [← hL, strOf_L])
  replace hln := Lib.hid hln
  have hn := Lib.hid hn
  have hnS : n ≤ 9000000000 := by have := hn.out; omega
  clear hL
  have hz : S.size = n := hn.out
  go_enter Try.func26, Try.ntmps26
  go_wp2_with fail
  go_loopw [3] (fun iv wr => ∃ i : Nat, iv = .int .i64 (i : Int) ∧ i ≤ n ∧ wr = w ∧ Hid (upto M = M.take i ++ upto (M.drop i))) (fun iv _ => n - (intOf iv).toNat)
  case atStart => exact ⟨0, rfl, by omega, rfl, Lib.hid (by simp)⟩
  case round =>
    obtain ⟨i, rfl, hi, rfl, HR⟩ := hrel
    by_cases hlt : i < n
    · have hlt' : (i : Int) < (n : Int) := by omega
      obtain ⟨d, hd, hidx⟩ := HI.out i hlt
      by_cases hdc : d = 0
      · have heq : ((d.toNat : Int) == 0) = true := by rw [hdc]; rfl
        have Hr := Lib.hid (show S.extract 0 i = strOf (upto M) by
          rw [HE.out i hi, HR.out, dropAt hd, upto_cons, if_pos hdc, List.append_nil])
        have hb1 : (0 : Int) ≤ (i : Int) := by omega
        have hb2 : (i : Int) ≤ (n : Int) := by omega
        clear hd hdc HR
        go_wp2
        go_ret
        exact ⟨ret_str Hr.out, rfl⟩
      · have heq : ((d.toNat : Int) == 0) = false := toNat_ne (b := 0) hdc
        have Hr := Lib.hid (show upto M = M.take (i + 1) ++ upto (M.drop (i + 1)) by
          rw [HR.out, dropAt hd, upto_cons, if_neg hdc, List.take_add_one, hd]; simp)
        clear hd hdc HR
        go_wp2
        go_roundw
        case rel => exact ⟨i + 1, by go_num, by omega, by trivial, Hr⟩
        case measure => simp [intOf]; omega
    · have hlt' : ¬ (i : Int) < (n : Int) := by omega
      have Hr := Lib.hid (show S = strOf (upto M) by
        rw [HF.out, HR.out, List.drop_eq_nil_of_le (by rw [hln.out]; omega), List.take_of_length_le (by rw [hln.out]; omega)]
        simp [upto])
      clear HR
      go_wp2
      go_ret
      exact ⟨ret_str Hr.out, rfl⟩

theorem refGet_short (S : ByteArray) (hS : S.size < 512) (w : World) :
    Calls Try.prog 11 #[.string S] w fun e w' => e = .returned (.agg #[.string ⟨#[]⟩, .int .i64 0, .int .i64 0, .int .i64 0, .int .i64 0, .int .i64 0, .int .u8 0, .string ⟨#[]⟩, .string ⟨#[]⟩, .string ⟨#[]⟩, .int .i64 0, .int .i64 0, .string ⟨#[]⟩, .int .i64 5]) ∧ Below w.heap.size w w' := by
  have h1 : (S.size : Int) < 512 := by omega
  go_enter Try.func11, Try.ntmps11
  go_wp2_with fail
  obtain ⟨W, hW⟩ : ∃ W, w.alloc (.cells #[.string ⟨#[]⟩, .int .i64 0, .int .i64 0, .int .i64 0, .int .i64 0, .int .i64 0, .int .u8 0, .string ⟨#[]⟩, .string ⟨#[]⟩, .string ⟨#[]⟩, .int .i64 0, .int .i64 0, .string ⟨#[]⟩, .int .i64 5] 29) = W := ⟨_, rfl⟩
  have hF : BlkIs W w.heap.size 29 #[.string ⟨#[]⟩, .int .i64 0, .int .i64 0, .int .i64 0, .int .i64 0, .int .i64 0, .int .u8 0, .string ⟨#[]⟩, .string ⟨#[]⟩, .string ⟨#[]⟩, .int .i64 0, .int .i64 0, .string ⟨#[]⟩, .int .i64 5] := by rw [← hW]; exact BlkIs.made _ _ _
  have hbW : Below w.heap.size w W := by subst hW; (repeat' (first | exact Below.refl _ _ | assumption | refine gr_drew ?_ | refine gr_drewN ?_ _ | refine gr_alloc ?_ _ | refine gr_set ?_ ?_ _ | refine gr_call ?_ (by assumption)) <;> (try (simp; done)) <;> (try (simp; omega)) <;> (try omega))
  rw [hW]
  clear hW
  have k0 := hF.cell_some 0 _ rfl
  have k1 := hF.cell_some 1 _ rfl
  have k2 := hF.cell_some 2 _ rfl
  have k3 := hF.cell_some 3 _ rfl
  have k4 := hF.cell_some 4 _ rfl
  have k5 := hF.cell_some 5 _ rfl
  have k6 := hF.cell_some 6 _ rfl
  have k7 := hF.cell_some 7 _ rfl
  have k8 := hF.cell_some 8 _ rfl
  have k9 := hF.cell_some 9 _ rfl
  have k10 := hF.cell_some 10 _ rfl
  have k11 := hF.cell_some 11 _ rfl
  have k12 := hF.cell_some 12 _ rfl
  have k13 := hF.cell_some 13 _ rfl
  refine bodyPost_ret (v := .agg #[.string ⟨#[]⟩, .int .i64 0, .int .i64 0, .int .i64 0, .int .i64 0, .int .i64 0, .int .u8 0, .string ⟨#[]⟩, .string ⟨#[]⟩, .string ⟨#[]⟩, .int .i64 0, .int .i64 0, .string ⟨#[]⟩, .int .i64 5]) ?_ rfl ⟨rfl, hbW⟩
  simp [results, Try.results11, go_sem, k0, k1, k2, k3, k4, k5, k6, k7, k8, k9, k10, k11, k12, k13]

theorem put14 {w : World} {g : Nat} {t : TypeId} {c0 c1 c2 c3 c4 c5 c6 c7 c8 c9 c10 c11 c12 c13 : Value} (v0 v1 v2 v3 v4 v5 v6 v7 v8 v9 v10 v11 v12 v13 : Value) (h : BlkIs w g t #[c0, c1, c2, c3, c4, c5, c6, c7, c8, c9, c10, c11, c12, c13]) :
    BlkIs ((((((((((((((w.setCell ⟨g, 0, none⟩ v0).setCell ⟨g, 1, none⟩ v1).setCell ⟨g, 2, none⟩ v2).setCell ⟨g, 3, none⟩ v3).setCell ⟨g, 4, none⟩ v4).setCell ⟨g, 5, none⟩ v5).setCell ⟨g, 6, none⟩ v6).setCell ⟨g, 7, none⟩ v7).setCell ⟨g, 8, none⟩ v8).setCell ⟨g, 9, none⟩ v9).setCell ⟨g, 10, none⟩ v10).setCell ⟨g, 11, none⟩ v11).setCell ⟨g, 12, none⟩ v12).setCell ⟨g, 13, none⟩ v13) g t #[v0, v1, v2, v3, v4, v5, v6, v7, v8, v9, v10, v11, v12, v13] := by
  have k := (((((((((((((h.put 0 v0).put 1 v1).put 2 v2).put 3 v3).put 4 v4).put 5 v5).put 6 v6).put 7 v7).put 8 v8).put 9 v9).put 10 v10).put 11 v11).put 12 v12).put 13 v13
  simp only [List.setIfInBounds_toArray, List.set_cons_zero, List.set_cons_succ] at k
  exact k

end Go.Proofs.Ytkkmhfgfkjeooaa
