/- The laws of stage 14: what is gone through, the document's example. -/
import Derived.Test.YtajjhndpdjfcpaaMetaGo
import Derived.Test.YtajjhndpdjfcpaaXwIsX
namespace Go.Proofs.Ytajjhndpdjfcpaa
open Go.RowKit
open MetaM
set_option linter.unusedVariables false

/-- Metadata that can be read. -/
structure MetaRd (m : Mt) (va vd vx : Value) (w : World) : Prop where
  acl : At AclW.aceE va m.acl w
  dfl : At AclW.aceE vd m.dfl w
  xat : At XatW.xatE vx m.xat w
theorem MetaRd.call {m : Mt} {va vd vx : Value} {w w1 : World} (h : MetaRd m va vd vx w) (hb : Below w.heap.size w w1) : MetaRd m va vd vx w1 := ⟨h.acl.call hb, h.dfl.call hb, h.xat.call hb⟩
def MetaM.heavy (m : Mt) : Bool := decide (60 < m.acl.length) || decide (60 < m.dfl.length) || !XatW.few m.xat
theorem MetaRd.at {m : Mt} {va vd vx : Value} {w : World} (h : MetaRd m va vd vx w) (hh : heavy m = false) : MetaAt m va vd vx w := by
  unfold heavy at hh
  simp only [Bool.or_eq_false_iff, decide_eq_false_iff_not, Bool.not_eq_false'] at hh
  exact ⟨h.acl, h.dfl, h.xat, by omega, by omega, by have := (XatW.few_parts hh.2).1; omega⟩
theorem plain_at (a b c : Int) (w : World) : MetaAt (plainM a b c) nilV nilV nilV w := ⟨At.nil _, At.nil _, At.nil _, by simp [plainM], by simp [plainM], by simp [plainM]⟩
attribute [local irreducible] Row At

set_option maxHeartbeats 1600000 in
theorem heavy_any (m : Mt) (va vd vx : Value) (w : World) (hm : MetaRd m va vd vx w) :
    Calls Try.prog 7 #[.agg (metaC m va vd vx)] w fun e w' => e = .returned (.bool (heavy m)) ∧ Below w.heap.size w w' := by
  have H1 := Lib.hid (fun W (hb : Below w.heap.size w W) => XatW.few_any vx m.xat W (hm.xat.call hb))
  obtain ⟨pa, ca, rfl, hca⟩ := hm.acl.shape
  obtain ⟨pd, cd, rfl, hcd⟩ := hm.dfl.shape
  unfold metaC
  obtain ⟨mode, uid, gid, sec, nano, acl, dfl, xat, ⟨cv, cp, ci, ce, cr⟩, flags⟩ := m
  simp only at H1 hca hcd ⊢
  have HR := Lib.hid (show heavy ⟨mode, uid, gid, sec, nano, acl, dfl, xat, ⟨cv, cp, ci, ce, cr⟩, flags⟩ = (decide (60 < acl.length) || decide (60 < dfl.length) || !XatW.few xat) from rfl)
  generalize heavy ⟨mode, uid, gid, sec, nano, acl, dfl, xat, ⟨cv, cp, ci, ce, cr⟩, flags⟩ = r at *
  generalize acl.length = na at *
  generalize dfl.length = nd at *
  generalize XatW.few xat = b at *
  clear hm
  have hbl : Below w.heap.size w (w.alloc (.cells #[.int .i64 mode, .int .i64 uid, .int .i64 gid, .int .i64 sec, .int .i64 nano, .slice pa na ca, .slice pd nd cd, vx, .int .i64 cv, .int .u64 (cp : Int), .int .u64 (ci : Int), .bool ce, .int .i64 cr, .int .i64 flags] 30)) := gr_alloc (Below.refl _ _) _
  go_enter Try.func7, Try.ntmps7
  go_wp2_with (go_at_call 17; refine (H1.out _ hbl).mono ?_; rintro e w2 ⟨rfl, rfl⟩)
  all_goals (go_ret; refine ⟨ret_bool ?_, hbl⟩; rw [HR.out])
  all_goals clear hbl H1 HR
  all_goals first
    | (rw [decide_eq_true (show 60 < na by omega)]; rfl)
    | (rw [decide_eq_false (show ¬ 60 < na by omega), decide_eq_true (show 60 < nd by omega)]; rfl)
    | (rw [decide_eq_false (show ¬ 60 < na by omega), decide_eq_false (show ¬ 60 < nd by omega), decide_eq_false (show ¬ (60 : Int) < (na : Int) by omega), decide_eq_false (show ¬ (60 : Int) < (nd : Int) by omega)])
    | (rw [decide_eq_false (show ¬ 60 < na by omega), decide_eq_false (show ¬ 60 < nd by omega)]; rfl)
theorem awake_any (w : World) : Calls Try.prog 8 #[] w fun e w' => e = .returned (.bool true) ∧ Below w.heap.size w w' := by
  have H1 := Lib.hid (PlainM_any 420 0 0)
  have H2 := Lib.hid (fun W => MayM_any (plainM 420 0 0) nilV nilV nilV 1 W (plain_at _ _ _ _))
  have H3 := Lib.hid (fun W => MayM_any (plainM 0 0 0) nilV nilV nilV 2 W (plain_at _ _ _ _))
  rw [show mayM (plainM 420 0 0) 1 = true by rfl] at H2
  rw [show mayM (plainM 0 0 0) 2 = false by rfl] at H3
  unfold metaC nilV plainM at H1 H2 H3
  simp only at H1 H2 H3
  have hz : ∀ w, (Instr.build 30 #[]).run Try.prog w = .ok (.agg #[.int .i64 0, .int .i64 0, .int .i64 0, .int .i64 0, .int .i64 0, .slice none 0 0, .slice none 0 0, .slice none 0 0, .int .i64 0, .int .u64 0, .int .u64 0, .bool false, .int .i64 0, .int .i64 0]) w := fun w => run_build w _ _ _ (by kernel_rfl)
  go_enter Try.func8, Try.ntmps8
  go_wp2_with fail
  refine (H1.out _).mono ?_
  rintro e w1 ⟨rfl, hb1⟩
  go_wp2_with fail
  refine (H2.out _).mono ?_
  rintro e w2 ⟨rfl, hb2⟩
  go_wp2_with fail
  refine (H3.out _).mono ?_
  rintro e w3 ⟨rfl, hb3⟩
  go_wp2_with fail
  go_ret
  exact ⟨rfl, gr_call (gr_call hb1 hb2) hb3⟩
end Go.Proofs.Ytajjhndpdjfcpaa
