/- The law's text: at most so many bytes, none of them 0. -/
import Derived.Test.YtkkmhfgfkjeooaaHeadAwake
import Derived.Test.YtkkmhfgfkjeooaaByteRow
namespace Go.Proofs.Ytkkmhfgfkjeooaa
open Go.RowKit
open HeadM NumM
set_option linter.unusedVariables false

def HeadM.no0 (c : UInt8) : UInt8 := if c = 0 then 48 else c
def HeadM.mkT (l : List UInt8) (n : Nat) : List UInt8 := (l.take n).map no0
theorem no0_ne (c : UInt8) : no0 c ≠ 0 := by
  unfold no0
  by_cases h : c = 0
  · rw [if_pos h]; decide
  · rw [if_neg h]; exact h
theorem mkT_may (l : List UInt8) (n : Nat) : mayT (mkT l n) n = true := by
  rw [mayT_iff]
  constructor
  · simp [mkT]; omega
  · intro h
    obtain ⟨c, _, hc⟩ := List.mem_map.1 h
    exact no0_ne c hc

def HeadM.curL (l : List UInt8) (k : Nat) : List UInt8 := (l.take k).map no0 ++ l.drop k
theorem curL_length (l : List UInt8) (k : Nat) : (curL l k).length = l.length := by simp [curL]; omega
theorem curL_at {l : List UInt8} {k : Nat} {c : UInt8} (h : l[k]? = some c) : (curL l k)[k]? = some c := by
  have hk := (List.getElem?_eq_some_iff.1 h).1
  unfold curL
  rw [List.getElem?_append_right (by simp; omega)]
  simp [Nat.min_eq_left (Nat.le_of_lt hk), h]
theorem curL_set {l : List UInt8} {k : Nat} {c : UInt8} (h : l[k]? = some c) : (curL l k).set k (no0 c) = curL l (k + 1) := by
  have hk := (List.getElem?_eq_some_iff.1 h).1
  unfold curL
  rw [List.set_append_right _ _ (by simp; omega), List.length_map, List.length_take, Nat.min_eq_left (Nat.le_of_lt hk), Nat.sub_self]
  have hd : l.drop k = c :: l.drop (k + 1) := by
    obtain ⟨hk', rfl⟩ := List.getElem?_eq_some_iff.1 h
    exact List.drop_eq_getElem_cons hk'
  rw [hd, List.set_cons_zero, List.take_add_one, h]
  simp
theorem curL_same {l : List UInt8} {k : Nat} {c : UInt8} (h : l[k]? = some c) (hc : c ≠ 0) : curL l k = curL l (k + 1) := by
  rw [← curL_set h]
  have hn : no0 c = c := if_neg hc
  rw [hn]
  have := curL_at h
  obtain ⟨hk, he⟩ := List.getElem?_eq_some_iff.1 this
  exact (List.set_getElem_self hk |> fun e => by rw [he] at e; exact e.symm)
theorem curL_zero (l : List UInt8) : curL l 0 = l := by simp [curL]
theorem curL_end (l : List UInt8) : curL l l.length = l.map no0 := by simp [curL]
theorem ltext_any (S : ByteArray) (n : Nat) (x : Int) (hx : x = (n : Int)) (hn : n ≤ 200) (hS : S.size ≤ 100000) (w : World) :
    Calls Try.prog 37 #[.string S, .int .i64 x] w fun e w' => e = .returned (.string (strOf (mkT (L S) n))) ∧ Below w.heap.size w w' := by
  subst hx
  obtain ⟨m, hm⟩ : ∃ m, min S.size n = m := ⟨_, rfl⟩
  have hT : L (S.extract 0 m) = (L S).take n := by
    show (S.extract 0 m).data.toList = _
    rw [Lib.extract_data]
    have : S.data.toList = L S := rfl
    rw [this, List.drop_zero, Nat.sub_zero]
    rcases Nat.le_total n S.size with h | h
    · rw [show m = n by omega]
    · rw [List.take_of_length_le (by rw [size_L]; omega), List.take_of_length_le (by rw [size_L]; omega)]
  obtain ⟨T, hTe⟩ : ∃ T : ByteArray, S.extract 0 m = T := ⟨_, rfl⟩
  rw [hTe] at hT
  have hTz : T.size = m := by
    rw [← size_L, hT, List.length_take, size_L, Nat.min_comm]; exact hm
  have hcv : ∀ W, (convert 9 43 (.string T)).run Try.prog W = .ok (.slice (some ⟨W.heap.size, 0, none⟩) m (grownCap W T.size 0 5)) (Lib.bytesWorld W 5 T) := fun W => by
    have := Lib.run_convert_string_bytes (P := Try.prog) W 9 43 5 T Try.underlying9 Try.underlying43 Try.underlying5
    rw [hTz] at this ⊢
    exact this
  have hmin : ∀ (ts : Array TypeId) (t : TypeId) (W : World), (Builtin.min_ ts t #[.int .i64 (S.size : Int), .int .i64 (n : Int)]).run Try.prog W = .ok (.int .i64 (m : Int)) W := fun ts t W => by
    simp [Builtin.min_, Builtin.min2]
    omega
  have hm0 : 0 ≤ (m : Int) := by omega
  have hm1 : (m : Int) ≤ (S.size : Int) := by omega
  have hm2 : m ≤ S.size := by omega
  have hmk : mkT (L S) n = (L T).map no0 := by unfold mkT; rw [hT]
  rw [hmk]
  rw [← hTe] at hcv
  have hcvE := Lib.hid hTe
  have hTl : (L T).length = m := by rw [size_L]; exact hTz
  have hm9 : m ≤ 200 := by omega
  obtain ⟨z, hz⟩ : ∃ z, S.size = z := ⟨_, rfl⟩
  rw [hz] at hmin hm1 hm2
  clear hmk hT hm hTe hS
  go_enter Try.func37, Try.ntmps37
  go_wp2_with fail
  have hR := RowIs.of w 5 (S.extract 0 m)
  have hB := below_bytesWorld (Below.refl w.heap.size w) (Nat.le_refl _) 5 (S.extract 0 m)
  rw [hcvE.out] at hR hB ⊢
  clear hcv hcvE hmin
  generalize Lib.bytesWorld w 5 T = w0 at *
  obtain ⟨l, hl⟩ : ∃ l, L T = l := ⟨_, rfl⟩
  rw [show T.data.toList = l from hl] at hR
  rw [hl] at hTl
  have HL := Lib.hid hl
  go_loopw [6] (fun iv wr => ∃ k : Nat, iv = .int .i64 (k : Int) ∧ k ≤ m ∧ RowIs wr w.heap.size 5 (curL l k) ∧ Below w.heap.size w wr) (fun iv _ => m - (intOf iv).toNat)
  case atStart => exact ⟨0, rfl, by omega, by rw [curL_zero]; exact hR, hB⟩
  case round =>
    obtain ⟨k, rfl, hk, hRk, hBk⟩ := hrel
    by_cases hlt : k < m
    · have hlt' : (k : Int) < (m : Int) := by omega
      obtain ⟨c, hc⟩ : ∃ c, l[k]? = some c := ⟨l[k]'(by omega), by simp [show k < l.length by omega]⟩
      have hat := curL_at hc
      obtain ⟨hkl, hke⟩ := List.getElem?_eq_some_iff.1 hat
      have hcell := hRk.cell k hkl
      rw [hke] at hcell
      have hfree := hRk.free k hkl
      by_cases hc0 : c = 0
      · have heq : ((c.toNat : Int) == 0) = true := by rw [hc0]; rfl
        have hR2 := hRk.put k (48 : UInt8)
        have hset := curL_set hc
        rw [show no0 c = 48 from if_pos hc0] at hset
        rw [hset] at hR2
        have hR3 : RowIs (wr.setCell ⟨w.heap.size, k, none⟩ (.int .u8 48)) w.heap.size 5 (curL l (k + 1)) := hR2
        clear hset hR2 hc hat hke hRk
        go_wp2
        go_roundw
        case rel => exact ⟨k + 1, by go_num, by omega, hR3, by (repeat' (first | exact Below.refl _ _ | assumption | refine gr_drew ?_ | refine gr_drewN ?_ _ | refine gr_alloc ?_ _ | refine gr_set ?_ ?_ _ | refine gr_call ?_ (by assumption)) <;> (try (simp; done)) <;> (try (simp; omega)) <;> (try omega))⟩
        case measure => simp [intOf]; omega
      · have heq : ((c.toNat : Int) == 0) = false := by
          rw [beq_eq_false_iff_ne]
          intro e
          exact hc0 (UInt8.toNat_inj.1 (by have : (0 : UInt8).toNat = 0 := rfl; omega))
        have hsame := curL_same hc hc0
        rw [hsame] at hRk
        clear hsame hc hat hke
        go_wp2
        go_roundw
        case rel => exact ⟨k + 1, by go_num, by omega, hRk, hBk⟩
        case measure => simp [intOf]; omega
    · obtain rfl : k = m := by omega
      have hlt' : ¬ (k : Int) < (k : Int) := by omega
      have hend : curL l k = l.map no0 := by rw [← hTl]; exact curL_end l
      rw [hend] at hRk
      have hback := fun cap => RowIs.back (P := Try.prog) (src := 43) (dst := 9) cap hRk Try.underlying43 Try.underlying5 Try.underlying9
      simp only [List.length_map, hTl] at hback
      obtain ⟨Y, hY⟩ : ∃ Y : ByteArray, (⟨(l.map no0).toArray⟩ : ByteArray) = Y := ⟨_, rfl⟩
      simp only [hY] at hback
      have HY := Lib.hid hY
      clear hY
      clear hRk hend hTl hlt hlt' hk hm0 hm1 hm2 hm9 hTz hz hR hB
      go_wp2
      go_ret
      exact ⟨by rw [HL.out]; exact ret_str HY.out.symm, hBk⟩
end Go.Proofs.Ytkkmhfgfkjeooaa
