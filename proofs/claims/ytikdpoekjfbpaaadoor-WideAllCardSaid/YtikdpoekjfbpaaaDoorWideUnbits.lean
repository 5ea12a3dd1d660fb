/- The document's answer: the bits that letters say. -/
import Derived.Test.YtikdpoekjfbpaaaDoorWideCut
import Derived.Test.YtikdpoekjfbpaaaDoorWideRefM
import Derived.Test.YtikdpoekjfbpaaaDoorWidePiece
import Derived.Deep.QuietTactic
namespace Go.Proofs.YtikdpoekjfbpaaaDoor
open Go.RowKit
open WideM
set_option linter.unusedVariables false
attribute [local irreducible] Row At

theorem inn_step {ls : List UInt8} {k n : Nat} {c d : UInt8} (h : ls[k]? = some d) : inn (ls.drop k) c k n = inn (ls.drop (k + 1)) c (k + 1) (if c = d then n ||| 2 ^ k else n) := by rw [dropAt h]; rfl
theorem unb_step {ls s : List UInt8} {i n : Nat} {c : UInt8} (h : s[i]? = some c) : unbL ls (s.drop i) n = unbL ls (s.drop (i + 1)) (inn ls c 0 n) := by rw [dropAt h]; rfl

set_option maxHeartbeats 3200000 in
set_option maxRecDepth 100000 in
theorem unbits_any (S M : ByteArray) (hS : S.size ≤ 1000000) (hM : M.size ≤ 14) (w : World) :
    Calls Tryd.prog 20 #[.string S, .string M] w fun e w' => e = .returned (.int .i64 (unbL M.data.toList S.data.toList 0 : Nat)) ∧ Below w.heap.size w w' := by
  obtain ⟨z, hz⟩ : ∃ z, S.size = z := ⟨_, rfl⟩
  obtain ⟨y, hy⟩ : ∃ y, M.size = y := ⟨_, rfl⟩
  have Hlen := Lib.hid (show S.data.toList.length = z by rw [len_list, hz])
  have Hlen2 := Lib.hid (show M.data.toList.length = y by rw [len_list, hy])
  rw [hz] at hS
  rw [hy] at hM
  have Hidx := Lib.hid (fun i h => idxAt (P := Tryd.prog) Tryd.underlying9 S i (by rw [hz]; exact h))
  have Hidx2 := Lib.hid (fun i h => idxAt (P := Tryd.prog) Tryd.underlying9 M i (by rw [hy]; exact h))
  go_enter Tryd.func20, Tryd.ntmps20
  go_wp2_with fail
  go_loopw [5, 6] (fun nv iv wr => ∃ (i n : Nat), iv = .int .i64 (i : Int) ∧ i ≤ z ∧ nv = .int .i64 (n : Int) ∧ n < 16384 ∧ Below w.heap.size w wr ∧ Hid (unbL M.data.toList S.data.toList 0 = unbL M.data.toList (S.data.toList.drop i) n)) (fun _ iv _ => z - (intOf iv).toNat)
  case atStart => exact ⟨0, 0, rfl, by omega, rfl, by omega, Below.refl _ _, Lib.hid (by simp)⟩
  case round =>
    obtain ⟨i, n, rfl, hi, rfl, hn, hbl, HR⟩ := hrel
    rename World => w1
    by_cases hlt : i < z
    · have hlt' : decide ((i : Int) < (z : Int)) = true := decide_eq_true (by omega)
      have hlt2 : decide (i < z) = true := decide_eq_true hlt
      obtain ⟨c, hc, hidx⟩ := Hidx.out i hlt
      have HS := Lib.hid (unb_step (ls := M.data.toList) (n := n) hc)
      clear hc
      go_wp2_with fail
      go_loopw [5, 7] (fun nv kv wr => ∃ (k m : Nat), kv = .int .i64 (k : Int) ∧ k ≤ y ∧ nv = .int .i64 (m : Int) ∧ m < 16384 ∧ Below w.heap.size w wr ∧ Hid (inn M.data.toList c 0 n = inn (M.data.toList.drop k) c k m)) (fun _ kv _ => y - (intOf kv).toNat)
      case atStart => exact ⟨0, n, rfl, by omega, rfl, hn, hbl, Lib.hid (by simp)⟩
      case round =>
        clear hbl hn
        obtain ⟨k, m, rfl, hk, rfl, hm, hbl, HK⟩ := hrel
        rename_i wr
        by_cases hkt : k < y
        · have hkt' : decide ((k : Int) < (y : Int)) = true := decide_eq_true (by omega)
          have hkt2 : decide (k < y) = true := decide_eq_true hkt
          obtain ⟨d, hd, hidx2⟩ := Hidx2.out k hkt
          have HI := Lib.hid (inn_step (n := m) (c := c) hd)
          have hm2 : m ||| 2 ^ k < 16384 := Nat.or_lt_two_pow (n := 14) hm (Nat.pow_lt_pow_right (by decide) (by omega))
          have Hor := Lib.hid (or_shift m k (by omega) (by omega))
          clear hd
          by_cases hcd : c = d
          · subst hcd
            have hs : ((c.toNat : Int) == (c.toNat : Int)) = true := beq_self_eq_true _
            have HE := Lib.hid (show inn M.data.toList c 0 n = inn (M.data.toList.drop (k + 1)) c (k + 1) (m ||| 2 ^ k) by rw [HK.out, HI.out, if_pos rfl])
            clear HK HI
            go_wp2_with fail
            go_quiet (fail)
            go_wp2_with fail
            go_roundw
            case rel => exact ⟨k + 1, m ||| 2 ^ k, rfl, by omega, by rw [Hor.out], hm2, by (repeat' (first | exact Below.refl _ _ | assumption | refine gr_drew ?_ | refine gr_drewN ?_ _ | refine gr_alloc ?_ _ | refine gr_set ?_ ?_ _ | refine gr_call ?_ (by assumption)) <;> (try (simp; done)) <;> (try (simp; omega)) <;> (try omega)), HE⟩
            case measure => simp only [intOf]; omega
          · have hs : ((c.toNat : Int) == (d.toNat : Int)) = false := toNat_ne hcd
            have HE := Lib.hid (show inn M.data.toList c 0 n = inn (M.data.toList.drop (k + 1)) c (k + 1) m by rw [HK.out, HI.out, if_neg hcd])
            clear HK HI hcd
            go_wp2_with fail
            go_quiet (fail)
            go_wp2_with fail
            go_roundw
            case rel => exact ⟨k + 1, m, rfl, by omega, rfl, hm, by (repeat' (first | exact Below.refl _ _ | assumption | refine gr_drew ?_ | refine gr_drewN ?_ _ | refine gr_alloc ?_ _ | refine gr_set ?_ ?_ _ | refine gr_call ?_ (by assumption)) <;> (try (simp; done)) <;> (try (simp; omega)) <;> (try omega)), HE⟩
            case measure => simp only [intOf]; omega
        · have hkt' : decide ((k : Int) < (y : Int)) = false := decide_eq_false (by omega)
          have hkt2 : decide (k < y) = false := decide_eq_false hkt
          have HE := Lib.hid (show unbL M.data.toList S.data.toList 0 = unbL M.data.toList (S.data.toList.drop (i + 1)) m by
            rw [HR.out, HS.out, HK.out, show M.data.toList.drop k = [] from List.drop_eq_nil_of_le (by rw [Hlen2.out]; omega)]; rfl)
          clear HR HS HK
          go_wp2_with fail
          go_roundw
          case rel => exact ⟨i + 1, m, rfl, by omega, rfl, hm, by (repeat' (first | exact Below.refl _ _ | assumption | refine gr_drew ?_ | refine gr_drewN ?_ _ | refine gr_alloc ?_ _ | refine gr_set ?_ ?_ _ | refine gr_call ?_ (by assumption)) <;> (try (simp; done)) <;> (try (simp; omega)) <;> (try omega)), HE⟩
          case measure => simp only [intOf]; omega
    · have hlt' : decide ((i : Int) < (z : Int)) = false := decide_eq_false (by omega)
      have hlt2 : decide (i < z) = false := decide_eq_false hlt
      have HE := Lib.hid (show unbL M.data.toList S.data.toList 0 = n by rw [HR.out, List.drop_eq_nil_of_le (by rw [Hlen.out]; omega)]; rfl)
      clear HR
      go_wp2_with fail
      go_ret
      exact ⟨by rw [HE.out]; rfl, by (repeat' (first | exact Below.refl _ _ | assumption | refine gr_drew ?_ | refine gr_drewN ?_ _ | refine gr_alloc ?_ _ | refine gr_set ?_ ?_ _ | refine gr_call ?_ (by assumption)) <;> (try (simp; done)) <;> (try (simp; omega)) <;> (try omega))⟩
end Go.Proofs.YtikdpoekjfbpaaaDoor
