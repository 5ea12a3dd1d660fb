/- Walks over the document's answer for package head: Split, Join, GetHead whole. -/
import Derived.Test.YtkkmhfgfkjeooaaRefGetC
import Derived.Test.YtkkmhfgfkjeooaaRefGetB
import Derived.Test.YtkkmhfgfkjeooaaHeadSplit
import Derived.Test.YtkkmhfgfkjeooaaLater
namespace Go.Proofs.Ytkkmhfgfkjeooaa
open Go.RowKit
open HeadM NumM
set_option linter.unusedVariables false

theorem refGet_any (S : ByteArray) (hl : S.size ≤ 8000) (w : World) :
    Calls Try.prog 11 #[.string S] w fun e w' => e = .returned (.agg #[.string (getE (L S)).1.name, .int .i64 (getE (L S)).1.mode, .int .i64 (getE (L S)).1.uid, .int .i64 (getE (L S)).1.gid, .int .i64 (getE (L S)).1.size, .int .i64 (getE (L S)).1.mtime, .int .u8 ((getE (L S)).1.typ.toNat : Int), .string (getE (L S)).1.link, .string (getE (L S)).1.uname, .string (getE (L S)).1.gname, .int .i64 (getE (L S)).1.major, .int .i64 (getE (L S)).1.minor, .string (getE (L S)).1.pre, .int .i64 (getE (L S)).2]) ∧ Below w.heap.size w w' := by
  by_cases h : S.size < 512
  · have e : getE (L S) = (zeroH, 5) := by unfold getE; rw [size_L, if_pos h]
    rw [e]
    exact refGet_short S h w
  by_cases hz : (L S).take 512 = List.replicate 512 0
  · have e : getE (L S) = (zeroH, 2) := by unfold getE; rw [size_L, if_neg (by omega), if_pos hz]
    rw [e]
    exact refGet_zeros S (by omega) hl hz w
  · exact refGet_some S (by omega) hl hz w

def HeadM.splitA (l : List UInt8) : Value := match splitL l with
  | some (p, n) => .agg #[.string (strOf p), .string (strOf n), .bool true]
  | none => .agg #[.string ⟨#[]⟩, .string ⟨#[]⟩, .bool false]
theorem slash_hit {l : List UInt8} {n i : Nat} (hn : l.length = n) (h1 : n - 101 ≤ i) (h2 : l[i]? = some 47) (h3 : ∀ j, j < i → n - 101 ≤ j → l[j]? ≠ some 47) : slashAt l = ((i - (n - 101) : Nat) : Int) := by
  unfold slashAt
  rw [hn]
  have hge := Lib.indexByte_ge (l.drop (n - 101)) 47
  by_cases hm : Lib.indexByte (l.drop (n - 101)) 47 = -1
  · exfalso
    have := Lib.indexByte_none hm (i - (n - 101))
    rw [List.getElem?_drop, show n - 101 + (i - (n - 101)) = i by omega] at this
    exact this h2
  · obtain ⟨o, ho⟩ : ∃ o : Nat, Lib.indexByte (l.drop (n - 101)) 47 = (o : Int) := ⟨(Lib.indexByte (l.drop (n - 101)) 47).toNat, by omega⟩
    obtain ⟨k1, k2⟩ := Lib.indexByte_some ho
    rw [ho]
    rcases Nat.lt_trichotomy o (i - (n - 101)) with h | h | h
    · exfalso
      rw [List.getElem?_drop] at k1
      exact h3 (n - 101 + o) (by omega) (by omega) k1
    · rw [h]
    · exfalso
      have := k2 (i - (n - 101)) h
      rw [List.getElem?_drop, show n - 101 + (i - (n - 101)) = i by omega] at this
      exact this h2
theorem split_hit {l : List UInt8} {n i : Nat} (hn : l.length = n) (h0 : 100 < n) (hi : i + 1 < n) (h1 : n - 101 ≤ i) (h2 : l[i]? = some 47) (h3 : ∀ j, j < i → n - 101 ≤ j → l[j]? ≠ some 47) :
    splitL l = if i = 0 ∨ 155 < i then none else some (l.take i, l.drop (i + 1)) := by
  have hs := slash_hit hn h1 h2 h3
  unfold splitL
  rw [hn, if_neg (by omega), hs, if_neg (by omega)]
  have e : n - 101 + (((i - (n - 101) : Nat) : Int)).toNat = i := by omega
  simp only [e]
  by_cases hc : i = 0 ∨ 155 < i
  · rw [if_pos hc, if_pos (by omega)]
  · rw [if_neg hc, if_neg (by omega)]
theorem split_miss {l : List UInt8} {n : Nat} (hn : l.length = n) (h0 : 100 < n) (h3 : ∀ j, j + 1 < n → n - 101 ≤ j → l[j]? ≠ some 47) : splitL l = none := by
  unfold splitL
  rw [hn, if_neg (by omega)]
  have hge := Lib.indexByte_ge (l.drop (n - 101)) 47
  by_cases hm : slashAt l < 0
  · rw [if_pos hm]
  · rw [if_neg hm]
    obtain ⟨o, ho⟩ : ∃ o : Nat, slashAt l = (o : Int) := ⟨(slashAt l).toNat, by omega⟩
    have ho' : Lib.indexByte (l.drop (n - 101)) 47 = (o : Int) := by have := ho; unfold slashAt at this; rw [hn] at this; exact this
    obtain ⟨k1, _⟩ := Lib.indexByte_some ho'
    rw [List.getElem?_drop] at k1
    have hlt := (List.getElem?_eq_some_iff.1 k1).1
    have hc : ¬ (n - 101 + o + 1 < n) := fun h => h3 (n - 101 + o) h (by omega) k1
    rw [ho]
    have e : n - 101 + ((o : Int)).toNat = n - 101 + o := by omega
    simp only [e]
    rw [if_pos (by omega)]

theorem buildP0 (a : ByteArray) (w : World) : (Instr.build 34 #[(1, .string a), (2, .bool true)]).run Try.prog w = .ok (.agg #[.string ⟨#[]⟩, .string a, .bool true]) w := run_build w _ _ _ (by kernel_rfl)
theorem buildP1 (w : World) : (Instr.build 34 #[]).run Try.prog w = .ok (.agg #[.string ⟨#[]⟩, .string ⟨#[]⟩, .bool false]) w := run_build w _ _ _ (by kernel_rfl)
theorem buildP2 (a b : ByteArray) (w : World) : (Instr.build 34 #[(0, .string a), (1, .string b), (2, .bool true)]).run Try.prog w = .ok (.agg #[.string a, .string b, .bool true]) w := run_build w _ _ _ (by kernel_rfl)

theorem refSplit_short (S : ByteArray) (h : S.size ≤ 100) (w : World) :
    Calls Try.prog 13 #[.string S] w fun e w' => e = .returned (.agg #[.string ⟨#[]⟩, .string S, .bool true]) ∧ Below w.heap.size w w' := by
  have h1 : (S.size : Int) ≤ 100 := by omega
  have hb := buildP0
  go_enter Try.func13, Try.ntmps13
  go_wp2_with fail
  exact bodyPost_ret (v := .agg #[.string ⟨#[]⟩, .string S, .bool true]) (by simp [results, Try.results13, go_sem, *]) rfl ⟨rfl, by (repeat' (first | exact Below.refl _ _ | assumption | refine gr_drew ?_ | refine gr_drewN ?_ _ | refine gr_alloc ?_ _ | refine gr_set ?_ ?_ _ | refine gr_call ?_ (by assumption)) <;> (try (simp; done)) <;> (try (simp; omega)) <;> (try omega))⟩

set_option maxHeartbeats 2000000 in
theorem refSplit_long (S : ByteArray) (h : 100 < S.size) (hl : S.size ≤ 8000) (w : World) :
    Calls Try.prog 13 #[.string S] w fun e w' => e = .returned (splitA (L S)) ∧ Below w.heap.size w w' := by
  obtain ⟨n, hn⟩ : ∃ n, S.size = n := ⟨_, rfl⟩
  have hLn : (L S).length = n := by rw [size_L, hn]
  have HI := Lib.hid (fun i (h : i < n) => idxAt Try.underlying9 S i (by omega))
  have HH := Lib.hid (fun (i : Nat) => split_hit (l := L S) (n := n) (i := i) hLn (by omega))
  have HM := Lib.hid (split_miss (l := L S) (n := n) hLn (by omega))
  have HX := Lib.hid (fun (i : Nat) (hi : i < n) => And.intro (show S.extract 0 i = strOf ((L S).take i) from by
      apply str_L
      show (S.extract 0 i).data.toList = _
      rw [Lib.extract_data]
      simp [L]) (show S.extract (i + 1) n = strOf ((L S).drop (i + 1)) from by
      apply str_L
      show (S.extract (i + 1) n).data.toList = _
      rw [Lib.extract_data]
      have : S.data.toList = L S := rfl
      rw [this, List.take_of_length_le (by rw [List.length_drop, size_L]; omega)]))
  have h1 : ¬ (n : Int) ≤ 100 := by omega
  have hn8 : n ≤ 8000 := by omega
  obtain ⟨V, hV⟩ : ∃ V, splitA (L S) = V := ⟨_, rfl⟩
  rw [hV]
  have HV := Lib.hid hV
  have hb1 := buildP1
  have hb2 := buildP2
  have hT : BlkIs (w.alloc (.cells #[.string ⟨#[]⟩, .string ⟨#[]⟩, .bool false] 34)) w.heap.size 34 #[.string ⟨#[]⟩, .string ⟨#[]⟩, .bool false] := BlkIs.made _ _ _
  have hB : Below w.heap.size w (w.alloc (.cells #[.string ⟨#[]⟩, .string ⟨#[]⟩, .bool false] 34)) := gr_alloc (Below.refl _ _) _
  clear hLn hV h hl
  have hz : S.size = n := hn
  go_enter Try.func13, Try.ntmps13
  go_wp2_with fail
  obtain ⟨W, hW⟩ : ∃ W, w.alloc (.cells #[.string ⟨#[]⟩, .string ⟨#[]⟩, .bool false] 34) = W := ⟨_, rfl⟩
  rw [hW] at hT hB ⊢
  clear hW
  have k0 := hT.cell_some 0 _ rfl
  have k1 := hT.cell_some 1 _ rfl
  have k2 := hT.cell_some 2 _ rfl
  have f0 := hT.free 0
  have f1 := hT.free 1
  have f2 := hT.free 2
  have hend := Lib.hid (fun (a b c : Value) => show BlkIs (((W.setCell ⟨w.heap.size, 0, none⟩ a).setCell ⟨w.heap.size, 1, none⟩ b).setCell ⟨w.heap.size, 2, none⟩ c) w.heap.size 34 #[a, b, c] ∧ Below w.heap.size w (((W.setCell ⟨w.heap.size, 0, none⟩ a).setCell ⟨w.heap.size, 1, none⟩ b).setCell ⟨w.heap.size, 2, none⟩ c) from by
    refine ⟨?_, gr_set (gr_set (gr_set hB (p := ⟨w.heap.size, 0, none⟩) (Nat.le_refl _) _) (p := ⟨w.heap.size, 1, none⟩) (Nat.le_refl _) _) (p := ⟨w.heap.size, 2, none⟩) (Nat.le_refl _) _⟩
    have k := ((hT.put 0 a).put 1 b).put 2 c
    simp only [List.setIfInBounds_toArray, List.set_cons_zero, List.set_cons_succ] at k
    exact k)
  go_loopw [3] (fun iv wr => ∃ i : Nat, iv = .int .i64 (i : Int) ∧ i + 1 ≤ n ∧ wr = W ∧ Hid (∀ j, j < i → n - 101 ≤ j → (L S)[j]? ≠ some 47)) (fun iv _ => n - (intOf iv).toNat)
  case atStart => exact ⟨0, rfl, by omega, rfl, Lib.hid (fun j hj => by omega)⟩
  case round =>
    obtain ⟨i, rfl, hi, rfl, HR⟩ := hrel
    by_cases hlt : i + 1 < n
    · have hlt' : (i : Int) + 1 < (n : Int) := by omega
      obtain ⟨d, hd, hidx⟩ := HI.out i (by omega)
      obtain ⟨a, ha⟩ : ∃ a : Nat, (n : Int) - (i : Int) = (a : Int) := ⟨n - i, by omega⟩
      obtain ⟨b, hb⟩ : ∃ b : Nat, (a : Int) - 1 = (b : Int) := ⟨a - 1, by omega⟩
      have ha9 : a ≤ 8000 := by omega
      have hb9 : b ≤ 8000 := by omega
      by_cases h47 : d = 47
      · have heq : ((d.toNat : Int) == 47) = true := by rw [h47]; rfl
        by_cases hb100 : b ≤ 100
        · have hq : (b : Int) ≤ 100 := by omega
          have hA := Lib.hid (HH.out i hlt (by omega) (by rw [hd, h47]) HR.out)
          by_cases c1 : i = 0
          · subst c1
            have HN := Lib.hid (show V = .agg #[.string ⟨#[]⟩, .string ⟨#[]⟩, .bool false] from by
              rw [← HV.out]; unfold splitA; rw [hA.out, if_pos (Or.inl rfl)])
            have hidx0 : ∀ w, (Instr.index 9 (.string S) (.int .i64 0)).run Try.prog w = .ok (.int .u8 (d.toNat : Int)) w := hidx
            have ha0 : (n : Int) - 0 = (a : Int) := ha
            have hl0 : (0 : Int) + 1 < (n : Int) := hlt'
            clear hidx hd h47 HR hA HH HM HX HI HV ha hlt hlt' hi
            go_wp2_with fail
            obtain ⟨j1, j2⟩ := hend.out (.string ⟨#[]⟩) (.string ⟨#[]⟩) (.bool false)
            obtain ⟨W9, hW9⟩ : ∃ W9, ((wr.setCell ⟨w.heap.size, 0, none⟩ (.string ⟨#[]⟩)).setCell ⟨w.heap.size, 1, none⟩ (.string ⟨#[]⟩)).setCell ⟨w.heap.size, 2, none⟩ (.bool false) = W9 := ⟨_, rfl⟩
            rw [hW9] at j1 j2 ⊢
            clear hW9 k0 k1 k2 f0 f1 f2 hend
            have k0 := j1.cell_some 0 _ rfl
            have k1 := j1.cell_some 1 _ rfl
            have k2 := j1.cell_some 2 _ rfl
            refine bodyPost_ret (v := .agg #[.string ⟨#[]⟩, .string ⟨#[]⟩, .bool false]) ?_ rfl ⟨by rw [HN.out], j2⟩
            simp [results, Try.results13, go_sem, k0, k1, k2]
          have c1' : ((i : Int) == 0) = false := by rw [beq_eq_false_iff_ne]; omega
          by_cases c2 : 155 < i
          · have c2' : (155 : Int) < (i : Int) := by omega
            have HN := Lib.hid (show V = .agg #[.string ⟨#[]⟩, .string ⟨#[]⟩, .bool false] from by
              rw [← HV.out]; unfold splitA; rw [hA.out, if_pos (Or.inr c2)])
            clear hd h47 HR hA HH HM HX HI HV c1
            go_wp2_with fail
            obtain ⟨j1, j2⟩ := hend.out (.string ⟨#[]⟩) (.string ⟨#[]⟩) (.bool false)
            obtain ⟨W9, hW9⟩ : ∃ W9, ((wr.setCell ⟨w.heap.size, 0, none⟩ (.string ⟨#[]⟩)).setCell ⟨w.heap.size, 1, none⟩ (.string ⟨#[]⟩)).setCell ⟨w.heap.size, 2, none⟩ (.bool false) = W9 := ⟨_, rfl⟩
            rw [hW9] at j1 j2 ⊢
            clear hW9 k0 k1 k2 f0 f1 f2 hend
            have k0 := j1.cell_some 0 _ rfl
            have k1 := j1.cell_some 1 _ rfl
            have k2 := j1.cell_some 2 _ rfl
            refine bodyPost_ret (v := .agg #[.string ⟨#[]⟩, .string ⟨#[]⟩, .bool false]) ?_ rfl ⟨by rw [HN.out], j2⟩
            simp [results, Try.results13, go_sem, k0, k1, k2]
          have c2' : ¬ (155 : Int) < (i : Int) := by omega
          obtain ⟨m, hm⟩ : ∃ m : Nat, i + 1 = m := ⟨_, rfl⟩
          have HN := Lib.hid (show V = .agg #[.string (S.extract 0 i), .string (S.extract m n), .bool true] from by
            rw [← HV.out]; unfold splitA; rw [hA.out, if_neg (by omega), (HX.out i (by omega)).1, ← hm, (HX.out i (by omega)).2])
          have hi0 : (0 : Int) ≤ (i : Int) := by omega
          have hi1 : (i : Int) ≤ (n : Int) := by omega
          have hsum : (i : Int) + 1 = (m : Int) := by omega
          have hwrap : IntKind.i64.wrap (m : Int) = (m : Int) := by simp [IntKind.wrap, IntKind.signed, IntKind.bits]; omega
          have hm0 : (0 : Int) ≤ (m : Int) := by omega
          have hm1 : (m : Int) ≤ (n : Int) := by omega
          have hA1 := Lib.hid hsum
          have hA2 := Lib.hid hwrap
          clear hd h47 HR hA HH HM HX HI HV c1 hm hsum hwrap
          go_wp2_with fail
          replace hsum := hA1.out
          replace hwrap := hA2.out
          refine region_lastqL (S := fun W2 => Below w.heap.size w W2 ∧ BlkIs W2 w.heap.size 34 #[.string ⟨#[]⟩, .string ⟨#[]⟩, .bool false]) 8
            [(fun W2 v => v = .string S), (fun W2 v => v = .int .i64 (i : Int)), (fun W2 v => v = .string (S.extract 0 i)), (fun W2 v => v = .string S), (fun W2 v => v = .int .i64 (i : Int)), (fun W2 v => v = .int .i64 (m : Int)), (fun W2 v => v = .string (S.extract m n)), (fun W2 v => v = .agg #[.string (S.extract 0 i), .string (S.extract m n), .bool true])] (by rfl) (by kernel_rfl) (by kernel_rfl) (by kernel_rfl) (by kernel_rfl) (by rfl) (by kernel_rfl) ?hS ?hp ?hs ?he
          case hS => exact ⟨gr_drew hB, hT⟩
          case hp => repeat' (first | exact trivial | refine ⟨fun _ _ _ _ h => h, ?_⟩)
          case hs =>
            simp only [List.take_succ_cons, List.take_zero]
            clear hA1 hA2 hend k0 k1 k2 f0 f1 f2
            refine ⟨?_, ?_, ?_, ?_, ?_, ?_, ?_, ?_, trivial⟩
            · intro a W2 K hS hd hf hK
              have e0 : a.tmps.getD 0 undef = .string S := hf 0 (by kernel_rfl)
              clear hd hf
              go_simp
              exact hK _ _ (Below.refl _ _) hS rfl
            · intro a W2 K hS hd hf hK
              have e3 : a.tmps.getD 3 undef = .int .i64 (i : Int) := hf 3 (by kernel_rfl)
              clear hd hf
              go_simp
              exact hK _ _ (Below.refl _ _) hS rfl
            · intro a W2 K hS hd hf hK
              have e35 : a.tmps.getD 35 undef = .string S := hd ⟨0, .data⟩ (by simp) rfl
              have e36 : a.tmps.getD 36 undef = .int .i64 (i : Int) := hd ⟨1, .data⟩ (by simp) rfl
              have b1 := hi0
              have b2 := hi1
              clear hd hf
              go_simp
              exact hK _ _ (Below.refl _ _) hS rfl
            · intro a W2 K hS hd hf hK
              have e0 : a.tmps.getD 0 undef = .string S := hf 0 (by kernel_rfl)
              clear hd hf
              go_simp
              exact hK _ _ (Below.refl _ _) hS rfl
            · intro a W2 K hS hd hf hK
              have e3 : a.tmps.getD 3 undef = .int .i64 (i : Int) := hf 3 (by kernel_rfl)
              clear hd hf
              go_simp
              exact hK _ _ (Below.refl _ _) hS rfl
            · intro a W2 K hS hd hf hK
              have e39 : a.tmps.getD 39 undef = .int .i64 (i : Int) := hd ⟨4, .data⟩ (by simp) rfl
              have b1 := hsum
              have b2 := hwrap
              clear hd hf
              go_simp
              exact hK _ _ (Below.refl _ _) hS rfl
            · intro a W2 K hS hd hf hK
              have e38 : a.tmps.getD 38 undef = .string S := hd ⟨3, .data⟩ (by simp) rfl
              have e40 : a.tmps.getD 40 undef = .int .i64 (m : Int) := hd ⟨5, .data⟩ (by simp) rfl
              have b1 := hm0
              have b2 := hm1
              clear hd hf
              go_simp
              exact hK _ _ (Below.refl _ _) hS rfl
            · intro a W2 K hS hd hf hK
              have e37 : a.tmps.getD 37 undef = .string (S.extract 0 i) := hd ⟨2, .data⟩ (by simp) rfl
              have e41 : a.tmps.getD 41 undef = .string (S.extract m n) := hd ⟨6, .data⟩ (by simp) rfl
              have hbd := hb2 (S.extract 0 i) (S.extract m n)
              have f37 := e37
              rw [Array.getD_eq_getD_getElem?] at f37
              have f41 := e41
              rw [Array.getD_eq_getD_getElem?] at f41
              clear hd hf
              go_simp
              exact hK _ _ (Below.refl _ _) hS rfl
          case he =>
            intro vals W2 K hS2 hV hK
            have e7 := hV 7 (by omega)
            clear hV
            simp only [List.getD_cons_succ, List.getD_cons_zero] at e7
            obtain ⟨hB2, hT2⟩ := hS2
            clear hsum hwrap hA1 hA2 hend k0 k1 k2 f0 f1 f2
            have k0 := hT2.cell_some 0 _ rfl
            have k1 := hT2.cell_some 1 _ rfl
            have k2 := hT2.cell_some 2 _ rfl
            have f0 := hT2.free 0
            have f1 := hT2.free 1
            have f2 := hT2.free 2
            refine Later.mk ?_
            simp only [setN, Nat.reduceAdd, List.setIfInBounds_toArray, List.set_cons_succ, List.set_cons_zero]
            rw [e7]
            go_simp
            have j1 : BlkIs (((W2.setCell ⟨w.heap.size, 0, none⟩ (.string (S.extract 0 i))).setCell ⟨w.heap.size, 1, none⟩ (.string (S.extract m n))).setCell ⟨w.heap.size, 2, none⟩ (.bool true)) w.heap.size 34 #[.string (S.extract 0 i), .string (S.extract m n), .bool true] := by
              have k := ((hT2.put 0 (.string (S.extract 0 i))).put 1 (.string (S.extract m n))).put 2 (.bool true)
              simp only [List.setIfInBounds_toArray, List.set_cons_zero, List.set_cons_succ] at k
              exact k
            have j2 : Below w.heap.size w (((W2.setCell ⟨w.heap.size, 0, none⟩ (.string (S.extract 0 i))).setCell ⟨w.heap.size, 1, none⟩ (.string (S.extract m n))).setCell ⟨w.heap.size, 2, none⟩ (.bool true)) :=
              gr_set (gr_set (gr_set hB2 (p := ⟨w.heap.size, 0, none⟩) (Nat.le_refl _) _) (p := ⟨w.heap.size, 1, none⟩) (Nat.le_refl _) _) (p := ⟨w.heap.size, 2, none⟩) (Nat.le_refl _) _
            obtain ⟨W9, hW9⟩ : ∃ W9, (((W2.setCell ⟨w.heap.size, 0, none⟩ (.string (S.extract 0 i))).setCell ⟨w.heap.size, 1, none⟩ (.string (S.extract m n))).setCell ⟨w.heap.size, 2, none⟩ (.bool true)) = W9 := ⟨_, rfl⟩
            rw [hW9] at j1 j2 ⊢
            clear hW9 k0 k1 k2 f0 f1 f2 hT2 hB2
            refine hK _ _ ?_
            clear hK
            have k0 := j1.cell_some 0 _ rfl
            have k1 := j1.cell_some 1 _ rfl
            have k2 := j1.cell_some 2 _ rfl
            go_wp2_with fail
            refine bodyPost_ret (v := .agg #[.string (S.extract 0 i), .string (S.extract m n), .bool true]) ?_ rfl ⟨by rw [HN.out], j2⟩
            simp [results, Try.results13, go_sem, k0, k1, k2]
        · have hq : ¬ (b : Int) ≤ 100 := by omega
          have HR2 := Lib.hid (show ∀ j, j < i + 1 → n - 101 ≤ j → (L S)[j]? ≠ some 47 from fun j h1 h2 => by
            by_cases hj : j < i
            · exact HR.out j hj h2
            · omega)
          clear hd h47 HR
          go_wp2
          go_roundw
          case rel => exact ⟨i + 1, by go_num, by omega, by trivial, HR2⟩
          case measure => simp [intOf]; omega
      · have heq : ((d.toNat : Int) == 47) = false := toNat_ne (b := 47) h47
        have HR2 := Lib.hid (show ∀ j, j < i + 1 → n - 101 ≤ j → (L S)[j]? ≠ some 47 from fun j h1 h2 => by
          by_cases hj : j < i
          · exact HR.out j hj h2
          · obtain rfl : j = i := by omega
            rw [hd]
            intro e
            exact h47 (Option.some.inj e))
        clear hd h47 HR
        go_wp2
        go_roundw
        case rel => exact ⟨i + 1, by go_num, by omega, by trivial, HR2⟩
        case measure => simp [intOf]; omega
    · have hlt' : ¬ (i : Int) + 1 < (n : Int) := by omega
      have HN := Lib.hid (show V = .agg #[.string ⟨#[]⟩, .string ⟨#[]⟩, .bool false] from by
        rw [← HV.out]; unfold splitA; rw [HM.out (fun j h1 h2 => HR.out j (by omega) h2)])
      clear HR HH HM HX HI HV
      go_wp2_with fail
      obtain ⟨j1, j2⟩ := hend.out (.string ⟨#[]⟩) (.string ⟨#[]⟩) (.bool false)
      obtain ⟨W9, hW9⟩ : ∃ W9, ((wr.setCell ⟨w.heap.size, 0, none⟩ (.string ⟨#[]⟩)).setCell ⟨w.heap.size, 1, none⟩ (.string ⟨#[]⟩)).setCell ⟨w.heap.size, 2, none⟩ (.bool false) = W9 := ⟨_, rfl⟩
      rw [hW9] at j1 j2 ⊢
      clear hW9 k0 k1 k2 f0 f1 f2 hend
      have k0 := j1.cell_some 0 _ rfl
      have k1 := j1.cell_some 1 _ rfl
      have k2 := j1.cell_some 2 _ rfl
      refine bodyPost_ret (v := .agg #[.string ⟨#[]⟩, .string ⟨#[]⟩, .bool false]) ?_ rfl ⟨by rw [HN.out], j2⟩
      simp [results, Try.results13, go_sem, k0, k1, k2]
theorem refSplit_any (S : ByteArray) (hl : S.size ≤ 8000) (w : World) :
    Calls Try.prog 13 #[.string S] w fun e w' => e = .returned (splitA (L S)) ∧ Below w.heap.size w w' := by
  by_cases h : S.size ≤ 100
  · have hv : splitA (L S) = .agg #[.string ⟨#[]⟩, .string S, .bool true] := by
      unfold splitA splitL
      rw [size_L, if_pos h]
      show Value.agg #[.string (strOf []), .string (strOf (L S)), .bool true] = _
      rw [strOf_L]
      rfl
    rw [hv]
    exact refSplit_short S h w
  · exact refSplit_long S (by omega) hl w
end Go.Proofs.Ytkkmhfgfkjeooaa
