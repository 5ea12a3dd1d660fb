/- Walks over Join of package head and of the document, of texts that memory holds. -/
import Derived.Test.YtkkmhfgfkjeooaaHeadSplit
namespace Go.Proofs.Ytkkmhfgfkjeooaa
open Go.RowKit
open HeadM NumM
set_option linter.unusedVariables false

def HeadM.joinS (h : Hd) : ByteArray := strOf (if L h.pre = [] then L h.name else L h.pre ++ (47 :: L h.name))
theorem join_big (h : Hd) (h1 : h.name.size ≤ 140737488351232) (h2 : h.pre.size ≤ 140737488351232) (w : World) :
    Calls Try.prog 19 #[.agg #[.string h.name, .int .i64 h.mode, .int .i64 h.uid, .int .i64 h.gid, .int .i64 h.size, .int .i64 h.mtime, .int .u8 (h.typ.toNat : Int), .string h.link, .string h.uname, .string h.gname, .int .i64 h.major, .int .i64 h.minor, .string h.pre]] w fun e w' => e = .returned (.string (joinS h)) ∧ Below w.heap.size w w' := by
  unfold joinS
  have hp : h.pre.toList.isEmpty = decide (L h.pre = []) := empty_L _
  have hz : (⟨#[47]⟩ : ByteArray).size = 1 := rfl
  by_cases hc : L h.pre = []
  · rw [decide_eq_true hc] at hp
    rw [if_pos hc, strOf_L]
    clear hc
    go_enter Try.func19, Try.ntmps19
    go_wp2_with fail
    go_ret
    exact ⟨rfl, by (repeat' (first | exact Below.refl _ _ | assumption | refine gr_drew ?_ | refine gr_drewN ?_ _ | refine gr_alloc ?_ _ | refine gr_set ?_ ?_ _ | refine gr_call ?_ (by assumption)) <;> (try (simp; done)) <;> (try (simp; omega)) <;> (try omega))⟩
  · rw [decide_eq_false hc] at hp
    rw [if_neg hc]
    have HE := Lib.hid (show h.pre ++ ⟨#[47]⟩ ++ h.name = strOf (L h.pre ++ (47 :: L h.name)) from by
      apply str_L
      rw [L_app, L_app]
      have : L (ByteArray.mk #[47]) = [47] := rfl
      rw [this]
      simp)
    have q1 : ¬ 9223372036854775807 < h.pre.size + 1 := by omega
    have q2 : ¬ 9223372036854775807 < h.pre.size + 1 + h.name.size := by omega
    clear hc
    go_enter Try.func19, Try.ntmps19
    go_wp2_with fail
    go_ret
    exact ⟨ret_str HE.out, by (repeat' (first | exact Below.refl _ _ | assumption | refine gr_drew ?_ | refine gr_drewN ?_ _ | refine gr_alloc ?_ _ | refine gr_set ?_ ?_ _ | refine gr_call ?_ (by assumption)) <;> (try (simp; done)) <;> (try (simp; omega)) <;> (try omega))⟩
theorem refJoin_big (h : Hd) (h1 : h.name.size ≤ 140737488351232) (h2 : h.pre.size ≤ 140737488351232) (w : World) :
    Calls Try.prog 20 #[.agg #[.string h.name, .int .i64 h.mode, .int .i64 h.uid, .int .i64 h.gid, .int .i64 h.size, .int .i64 h.mtime, .int .u8 (h.typ.toNat : Int), .string h.link, .string h.uname, .string h.gname, .int .i64 h.major, .int .i64 h.minor, .string h.pre]] w fun e w' => e = .returned (.string (joinS h)) ∧ Below w.heap.size w w' := by
  unfold joinS
  have hp : h.pre.toList.isEmpty = decide (L h.pre = []) := empty_L _
  have hz : (⟨#[47]⟩ : ByteArray).size = 1 := rfl
  by_cases hc : L h.pre = []
  · rw [decide_eq_true hc] at hp
    rw [if_pos hc, strOf_L]
    clear hc
    go_enter Try.func20, Try.ntmps20
    go_wp2_with fail
    go_ret
    exact ⟨rfl, by (repeat' (first | exact Below.refl _ _ | assumption | refine gr_drew ?_ | refine gr_drewN ?_ _ | refine gr_alloc ?_ _ | refine gr_set ?_ ?_ _ | refine gr_call ?_ (by assumption)) <;> (try (simp; done)) <;> (try (simp; omega)) <;> (try omega))⟩
  · rw [decide_eq_false hc] at hp
    rw [if_neg hc]
    have HE := Lib.hid (show h.pre ++ ⟨#[47]⟩ ++ h.name = strOf (L h.pre ++ (47 :: L h.name)) from by
      apply str_L
      rw [L_app, L_app]
      have : L (ByteArray.mk #[47]) = [47] := rfl
      rw [this]
      simp)
    have q1 : ¬ 9223372036854775807 < h.pre.size + 1 := by omega
    have q2 : ¬ 9223372036854775807 < h.pre.size + 1 + h.name.size := by omega
    clear hc
    go_enter Try.func20, Try.ntmps20
    go_wp2_with fail
    go_ret
    exact ⟨ret_str HE.out, by (repeat' (first | exact Below.refl _ _ | assumption | refine gr_drew ?_ | refine gr_drewN ?_ _ | refine gr_alloc ?_ _ | refine gr_set ?_ ?_ _ | refine gr_call ?_ (by assumption)) <;> (try (simp; done)) <;> (try (simp; omega)) <;> (try omega))⟩
end Go.Proofs.Ytkkmhfgfkjeooaa
