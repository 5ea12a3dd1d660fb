/- Metadata by numbers, of which who may what can be asked. -/
import Derived.Test.YtpfidbcnefnhcaaPk12
import Derived.Test.YtpfidbcnefnhcaaMetaNums
namespace Go.Proofs.Ytpfidbcnefnhcaa
open Go.RowKit
open MetaM RightM AclM
set_option linter.unusedVariables false
theorem made_right {m : Mt} {k : Int} (h : mayM m k = true) : okL m ∧ InRange m.mode := by
  unfold mayM at h
  simp only [Bool.and_eq_true] at h
  obtain ⟨⟨⟨⟨⟨⟨⟨⟨⟨⟨_, h2⟩, _⟩, _⟩, _⟩, _⟩, _⟩, h8⟩, _⟩, _⟩, _⟩ := h
  unfold modeOk at h2
  unfold aclOk at h8
  simp only [Bool.and_eq_true, Bool.or_eq_true, decide_eq_true_eq] at h2 h8
  refine ⟨?_, by unfold InRange; omega⟩
  rcases h8 with h8 | h8
  · exact .inl (List.eq_nil_of_length_eq_zero h8)
  · exact .inr h8.1
theorem RightAt.made {m : Mt} {va vd vx : Value} {k : Int} {w : World} (h : MetaAt m va vd vx w) (hm : mayM m k = true) : RightAt m va vd vx w := ⟨h.acl, h.la, (made_right hm).1, (made_right hm).2⟩
attribute [local irreducible] Row At
structure PartSt (w : World) (bm bc bd : Nat) (m : Mt) (va vd vx : Value) (c : Cr) (gv : Value) (p : Int) (W : World) : Prop where
  st : LawSt w bm bc m va vd vx c gv W
  db : BlkIs W bd 33 #[.int .i64 c.uid, .int .i64 c.gid, gv, .int .i64 p]
theorem PartSt.call {w : World} {bm bc bd : Nat} {m : Mt} {va vd vx : Value} {c : Cr} {gv : Value} {p : Int} {W W' : World} (h : PartSt w bm bc bd m va vd vx c gv p W) (hb : Below W.heap.size W W') : PartSt w bm bc bd m va vd vx c gv p W' :=
  ⟨h.st.call hb, h.db.kept hb h.db.size⟩
theorem PartSt.can {w : World} {bm bc bd : Nat} {m : Mt} {va vd vx : Value} {c : Cr} {gv : Value} {p : Int} {W : World} (h : PartSt w bm bc bd m va vd vx c gv p W) (q x : Int) :
    Calls Try.prog 14 #[.agg #[.int .i64 m.mode, .int .i64 m.uid, .int .i64 m.gid, .int .i64 m.sec, .int .i64 m.nano, va, vd, vx, .int .i64 m.cap.v, .int .u64 (m.cap.p : Int), .int .u64 (m.cap.i : Int), .bool m.cap.e, .int .i64 m.cap.r, .int .i64 m.flags], .agg #[.int .i64 c.uid, .int .i64 c.gid, gv, .int .i64 q], .int .i64 x] W fun e w' => e = .returned (.bool (canM m ⟨c.uid, c.gid, c.groups, q⟩ x)) ∧ Below W.heap.size W w' :=
  can_any m va vd vx ⟨c.uid, c.gid, c.groups, q⟩ gv x W h.st.ra ⟨h.st.ca.groups, h.st.ca.len⟩
end Go.Proofs.Ytpfidbcnefnhcaa
