/- The document's answer: has a text any of some signs? -/
import Derived.Test.YtajjhndpdjfcpaaMathPack
import Derived.Test.YtajjhndpdjfcpaaChecked
import Derived.Deep.QuietTactic
import Derived.BigQuiet
import Derived.Outline
namespace Go.Proofs.Ytajjhndpdjfcpaa.XatW
open Go.RowKit
open XatM
set_option linter.unusedVariables false

theorem any_step {l m : List UInt8} {i : Nat} {c : UInt8} (h : l[i]? = some c) : anyOf (l.drop i) m = (m.contains c || anyOf (l.drop (i + 1)) m) := by rw [dropAt h]; rfl
theorem con_step {m : List UInt8} {k : Nat} {c d : UInt8} (h : m[k]? = some d) (hne : ¬ c = d) : (m.drop k).contains c = (m.drop (k + 1)).contains c := by
  rw [dropAt h, List.contains_cons, beq_eq_false_iff_ne.2 hne, Bool.false_or]
set_option maxHeartbeats 3200000 in
set_option maxRecDepth 100000 in
theorem refHasAny_any (S M : ByteArray) (hS : S.size ≤ 1000000) (hM : M.size ≤ 1000000) (w : World) :
    Calls Try.prog 44 #[.string S, .string M] w fun e w' => e = .returned (.bool (anyOf S.data.toList M.data.toList)) ∧ Below w.heap.size w w' := by
  obtain ⟨z, hz⟩ : ∃ z, S.size = z := ⟨_, rfl⟩
  obtain ⟨y, hy⟩ : ∃ y, M.size = y := ⟨_, rfl⟩
  have Hlen := Lib.hid (show S.data.toList.length = z by rw [len_list, hz])
  have Hlen2 := Lib.hid (show M.data.toList.length = y by rw [len_list, hy])
  rw [hz] at hS
  rw [hy] at hM
  have Hidx := Lib.hid (fun i h => idxAt (P := Try.prog) Try.underlying9 S i (by rw [hz]; exact h))
  have Hidx2 := Lib.hid (fun i h => idxAt (P := Try.prog) Try.underlying9 M i (by rw [hy]; exact h))
  go_enter Try.func44, Try.ntmps44
  go_wp2_with fail
  go_loopw [5] (fun iv wr => ∃ (i : Nat), iv = .int .i64 (i : Int) ∧ i ≤ z ∧ Below w.heap.size w wr ∧ Hid (anyOf S.data.toList M.data.toList = anyOf (S.data.toList.drop i) M.data.toList)) (fun iv _ => z - (intOf iv).toNat)
  case atStart => exact ⟨0, rfl, by omega, Below.refl _ _, Lib.hid (by simp)⟩
  case round =>
    obtain ⟨i, rfl, hi, hbl, HR⟩ := hrel
    rename World => w1
    by_cases hlt : i < z
    · have hlt' : decide ((i : Int) < (z : Int)) = true := decide_eq_true (by omega)
      have hlt2 : decide (i < z) = true := decide_eq_true hlt
      obtain ⟨c, hc, hidx⟩ := Hidx.out i hlt
      have HS := Lib.hid (any_step (m := M.data.toList) hc)
      clear hc
      go_wp2_with fail
      go_loopw [6] (fun kv wr => ∃ (k : Nat), kv = .int .i64 (k : Int) ∧ k ≤ y ∧ Below w.heap.size w wr ∧ Hid (M.data.toList.contains c = (M.data.toList.drop k).contains c)) (fun kv _ => y - (intOf kv).toNat)
      case atStart => exact ⟨0, rfl, by omega, hbl, Lib.hid (by simp)⟩
      case round =>
        clear hbl
        obtain ⟨k, rfl, hk, hbl, HK⟩ := hrel
        rename_i wr
        by_cases hkt : k < y
        · have hkt' : decide ((k : Int) < (y : Int)) = true := decide_eq_true (by omega)
          have hkt2 : decide (k < y) = true := decide_eq_true hkt
          obtain ⟨d, hd, hidx2⟩ := Hidx2.out k hkt
          by_cases hcd : c = d
          · subst hcd
            have hs : ((c.toNat : Int) == (c.toNat : Int)) = true := beq_self_eq_true _
            have HE := Lib.hid (show anyOf S.data.toList M.data.toList = true by rw [HR.out, HS.out, HK.out, dropAt hd]; simp)
            clear HR HS HK hd
            go_wp2_with fail
            go_quiet (fail)
            go_wp2_with fail
            go_ret
            exact ⟨by rw [HE.out]; rfl, by (repeat' (first | exact Below.refl _ _ | assumption | refine gr_drew ?_ | refine gr_drewN ?_ _ | refine gr_alloc ?_ _ | refine gr_set ?_ ?_ _ | refine gr_call ?_ (by assumption)) <;> (try (simp; done)) <;> (try (simp; omega)) <;> (try omega))⟩
          · have hs : ((c.toNat : Int) == (d.toNat : Int)) = false := toNat_ne hcd
            have HE := Lib.hid (show M.data.toList.contains c = (M.data.toList.drop (k + 1)).contains c by rw [HK.out, con_step hd hcd])
            clear HK hd hcd
            go_wp2_with fail
            go_quiet (fail)
            go_wp2_with fail
            go_roundw
            case rel => exact ⟨k + 1, rfl, by omega, by (repeat' (first | exact Below.refl _ _ | assumption | refine gr_drew ?_ | refine gr_drewN ?_ _ | refine gr_alloc ?_ _ | refine gr_set ?_ ?_ _ | refine gr_call ?_ (by assumption)) <;> (try (simp; done)) <;> (try (simp; omega)) <;> (try omega)), HE⟩
            case measure => simp only [intOf]; omega
        · have hkt' : decide ((k : Int) < (y : Int)) = false := decide_eq_false (by omega)
          have hkt2 : decide (k < y) = false := decide_eq_false hkt
          have HE := Lib.hid (show anyOf S.data.toList M.data.toList = anyOf (S.data.toList.drop (i + 1)) M.data.toList by
            rw [HR.out, HS.out, HK.out, List.drop_eq_nil_of_le (by rw [Hlen2.out]; omega)]; simp)
          clear HR HS HK
          go_wp2_with fail
          go_roundw
          case rel => exact ⟨i + 1, rfl, by omega, by (repeat' (first | exact Below.refl _ _ | assumption | refine gr_drew ?_ | refine gr_drewN ?_ _ | refine gr_alloc ?_ _ | refine gr_set ?_ ?_ _ | refine gr_call ?_ (by assumption)) <;> (try (simp; done)) <;> (try (simp; omega)) <;> (try omega)), HE⟩
          case measure => simp only [intOf]; omega
    · have hlt' : decide ((i : Int) < (z : Int)) = false := decide_eq_false (by omega)
      have hlt2 : decide (i < z) = false := decide_eq_false hlt
      have HE := Lib.hid (show anyOf S.data.toList M.data.toList = false by rw [HR.out, List.drop_eq_nil_of_le (by rw [Hlen.out]; omega)]; rfl)
      clear HR
      go_wp2_with fail
      go_ret
      exact ⟨by rw [HE.out]; rfl, by (repeat' (first | exact Below.refl _ _ | assumption | refine gr_drew ?_ | refine gr_drewN ?_ _ | refine gr_alloc ?_ _ | refine gr_set ?_ ?_ _ | refine gr_call ?_ (by assumption)) <;> (try (simp; done)) <;> (try (simp; omega)) <;> (try omega))⟩
theorem any_one (s : List UInt8) (c : UInt8) : anyOf s [c] = s.contains c := by
  induction s with
  | nil => rfl
  | cons x s ih =>
    show ([c].contains x || anyOf s [c]) = _
    rw [ih, List.contains_cons]
    congr 1
    rw [show ([] : List UInt8).contains x = false from rfl, Bool.or_false, Bool.eq_iff_iff, beq_iff_eq, beq_iff_eq]
    exact eq_comm
end Go.Proofs.Ytajjhndpdjfcpaa.XatW
