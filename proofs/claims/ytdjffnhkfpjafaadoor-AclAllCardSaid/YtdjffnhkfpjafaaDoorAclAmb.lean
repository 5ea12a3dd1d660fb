/- What the walks over access lists lean on in memory: four of the library's variables; they stay as they are whatever a call makes. -/
import Derived.Test.YtdjffnhkfpjafaaDoorAclRow
import Derived.Test.YtdjffnhkfpjafaaDoorShelf
import Derived.Lib.LaidTab
import Derived.Lib.AppendIntMem
import Derived.Lib.ItoaMem
import Derived.Lib.SplitLaws
namespace Go.Proofs.YtdjffnhkfpjafaaDoor
open Go.RowKit
open AclM
set_option linter.unusedVariables false

/-- The table of tens reads as the library lays it; MaxLen holds some integer; ErrSyntax and ErrRange hold nil or a value. -/
structure Amb (w : World) : Prop where
  tab : Lib.TabIs Tryd.prog w "internal/strconv.uint64pow10" .u64 Lib.pow10Tab
  len : ∃ m, w.cell? ⟨0, 0, none⟩ = some (.int .i64 m)
  err : ∃ ev, w.cell? ⟨4, 0, none⟩ = some ev ∧ (ev = .nilIface ∨ ∃ te pe, ev = .iface te pe)
  rng : ∃ ev, w.cell? ⟨5, 0, none⟩ = some ev ∧ (ev = .nilIface ∨ ∃ te pe, ev = .iface te pe)
theorem Amb.on {w w' : World} (h : Amb w) (hb : Below w.heap.size w w') : Amb w' := by
  obtain ⟨m, hm⟩ := h.len
  obtain ⟨ev, hv, hev⟩ := h.err
  obtain ⟨rv, hr, hrv⟩ := h.rng
  exact ⟨Lib.tabBelow_of_tabIs h.tab w' hb, ⟨m, cell_kept hb hm⟩, ⟨ev, cell_kept hb hv, hev⟩, ⟨rv, cell_kept hb hr, hrv⟩⟩

theorem below_drewN {B : Nat} {a w : World} (h : Below B a w) (n : Nat) : Below B a (w.drewN n) := ⟨h.os, h.tape, h.output, h.size, h.block⟩
theorem below_grown {B : Nat} {a w : World} (h : Below B a w) (hB : B ≤ w.heap.size) (k : Nat) (os : Array Obj) : Below B a (Go.Sort.grow (w.drewN k) os) := h.trans (Lib.below_grow B w hB k os)
/-- The library's calls, up to what they make. -/
theorem itoa_any (n : Int) (w : World) (hA : Amb w) (h0 : -9223372036854775808 ≤ n) (h1 : n ≤ 9223372036854775807) :
    Calls Tryd.prog 46 #[.int .i64 n] w fun e w' => e = .returned (.string (strOf (Lib.itoa n))) ∧ Below w.heap.size w w' :=
  (Tryd.strconv_Itoa n h0 h1 w hA.tab).mono fun _ _ ⟨he, k, os, hw⟩ => ⟨by rw [he]; rfl, by rw [hw]; exact below_grown (Below.refl _ _) (Nat.le_refl _) k os⟩
theorem cut_any (s : ByteArray) (w : World) (hA : Amb w) (hs : s.size < 4294967281) :
    Calls Tryd.prog 49 #[.string s, .string ⟨#[58]⟩] w fun e w' => (∃ b, e = .returned (.tuple #[.string (strOf (cutA 58 s.data.toList).1), .string (strOf (cutA 58 s.data.toList).2), .bool b])) ∧ Below w.heap.size w w' := by
  obtain ⟨m, hm⟩ := hA.len
  exact (Tryd.strings_Cut s ⟨#[58]⟩ m w hs hm).mono fun _ _ ⟨he, n, hw⟩ => ⟨⟨_, he⟩, by rw [hw]; exact below_drewN (Below.refl _ _) n⟩
theorem below_bytesWorld0 (w : World) (t : TypeId) (s : ByteArray) : Below w.heap.size w (Lib.bytesWorld w t s) :=
  ⟨rfl, rfl, rfl, by rw [Lib.bytesWorld_size]; omega, fun k hk => Lib.bytesWorld_at_old w t s k (by omega)⟩
/-- How Atoi ends. -/
def atoiEnd (l : List UInt8) (e : Ending) : Prop := match Lib.atoiAll l with
  | .ok n => e = .returned (.tuple #[.int .i64 n, .nilIface])
  | _ => ∃ m N, e = .returned (.tuple #[.int .i64 m, .iface 94 (.pointer (some ⟨N, 0, none⟩))])
theorem atoi_any (s : ByteArray) (hl : s.size ≤ 281474976710656) (w : World) (hA : Amb w) :
    Calls Tryd.prog 61 #[.string s] w fun e w' => atoiEnd s.data.toList e ∧ Below w.heap.size w w' := by
  unfold atoiEnd
  rcases h : Lib.atoiAll s.data.toList with n | _ | _
  · refine (Tryd.strconv_Atoi_ok s (by omega) n h w).mono fun _ _ ⟨he, hw⟩ => ⟨he, ?_⟩
    rcases hw with rfl | ⟨t, rfl⟩
    · exact Below.refl _ _
    · exact below_bytesWorld0 _ _ _
  · obtain ⟨ev, hv, hev⟩ := hA.err
    exact (Tryd.strconv_Atoi_syntax s hl h ev w hv hev).mono fun _ _ ⟨N, he, _, _, hb⟩ => ⟨⟨_, N, he⟩, hb⟩
  · obtain ⟨ev, hv, hev⟩ := hA.rng
    exact (Tryd.strconv_Atoi_range s hl h ev w hv hev).mono fun _ _ ⟨N, he, _, _, hb⟩ => ⟨⟨_, N, he⟩, hb⟩
theorem split_any (s : ByteArray) (w : World) (hA : Amb w) (hs : s.size < 4294967281) :
    Calls Tryd.prog 41 #[.string s, .string ⟨#[44]⟩] w fun e w' => (∃ v, e = .returned v ∧ At strE v (cutAt 44 s.data.toList) w') ∧ Below w.heap.size w w' := by
  obtain ⟨m, hm⟩ := hA.len
  refine (Tryd.strings_Split s ⟨#[44]⟩ m w hs hm (by decide)).mono fun _ _ ⟨he, hw⟩ => ?_
  have hd := Lib.splitB_data ⟨#[44]⟩ 0 (Lib.countB s ⟨#[44]⟩) s
  have hc : Lib.countB s ⟨#[44]⟩ = Lib.count s.data.toList [44] := rfl
  have hsp := lib_split 44 _ s.data.toList (Nat.le_refl _)
  rw [hc] at hd
  have hd2 : (Lib.splitB ⟨#[44]⟩ 0 (Lib.countB s ⟨#[44]⟩) s).map (·.data.toList) = cutAt 44 s.data.toList := by rw [hc, hd]; exact hsp
  have hlen := Lib.splitB_all ⟨#[44]⟩ (by decide) 0 _ s rfl
  generalize Lib.splitB ⟨#[44]⟩ 0 (Lib.countB s ⟨#[44]⟩) s = ps at hd2 hw hlen
  rw [← hlen] at he
  subst he hw
  refine ⟨⟨_, rfl, .inr ⟨w.heap.size, 0, ps.length, ?_, ?_, ?_, ?_⟩⟩, gr_alloc (Below.refl _ _) _⟩
  · rw [← hd2, List.length_map]
  · rw [← hd2, List.length_map]; exact Nat.le_refl _
  · simp
  · intro j hj i u hu
    have hi : i < 1 := (List.getElem?_eq_some_iff.1 hu).1
    obtain rfl : i = 0 := by omega
    cases hu
    have hj' : j < ps.length := by rw [← hd2, List.length_map] at hj; exact hj
    rw [show 0 + (j * strE.k + 0) = j by show 0 + (j * 1 + 0) = j; omega, World.cell?_alloc_new]
    have e : (cutAt 44 s.data.toList)[j] = ps[j].data.toList := by
      have := congrArg (fun q : List (List UInt8) => q[j]?) hd2
      simp only [List.getElem?_map, List.getElem?_eq_getElem hj', List.getElem?_eq_getElem hj, Option.map_some, Option.some.injEq] at this
      exact this.symm
    rw [e, strOf_self]
    simp [hj']
end Go.Proofs.YtdjffnhkfpjafaaDoor
