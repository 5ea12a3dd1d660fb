/- What the walks over records lean on in memory: three of the library's variables; they stay as they are whatever a call makes. -/
import Derived.Test.YtbjklpodkopgiaaDoorRecKit
import Derived.Test.YtbjklpodkopgiaaDoorShelf
import Derived.Lib.LaidTab
import Derived.Lib.AppendIntMem
import Derived.Lib.ItoaMem
namespace Go.Proofs.YtbjklpodkopgiaaDoor
open Go.RowKit
open RecM
set_option linter.unusedVariables false

/-- The table of tens reads as the library lays it; MaxLen holds some integer; ErrSyntax holds nil or a value. -/
structure Amb (w : World) : Prop where
  tab : Lib.TabIs Tryd.prog w "internal/strconv.uint64pow10" .u64 Lib.pow10Tab
  len : ∃ m, w.cell? ⟨0, 0, none⟩ = some (.int .i64 m)
  err : ∃ ev, w.cell? ⟨2, 0, none⟩ = some ev ∧ (ev = .nilIface ∨ ∃ te pe, ev = .iface te pe)
theorem Amb.on {w w' : World} (h : Amb w) (hb : Below w.heap.size w w') : Amb w' := by
  obtain ⟨m, hm⟩ := h.len
  obtain ⟨ev, hv, hev⟩ := h.err
  exact ⟨Lib.tabBelow_of_tabIs h.tab w' hb, ⟨m, cell_kept hb hm⟩, ⟨ev, cell_kept hb hv, hev⟩⟩

theorem below_drewN {B : Nat} {a w : World} (h : Below B a w) (n : Nat) : Below B a (w.drewN n) := ⟨h.os, h.tape, h.output, h.size, h.block⟩
theorem below_grown {B : Nat} {a w : World} (h : Below B a w) (hB : B ≤ w.heap.size) (k : Nat) (os : Array Obj) : Below B a (Go.Sort.grow (w.drewN k) os) := h.trans (Lib.below_grow B w hB k os)
theorem itoa_dec (n : Nat) : Lib.itoa (n : Int) = Lib.decDigits n := by unfold Lib.itoa; rw [if_neg (by omega)]; rfl
/-- The library's calls, up to what they make. -/
theorem itoa_any (n : Nat) (w : World) (hA : Amb w) (h1 : n ≤ 9000000000) :
    Calls Tryd.prog 28 #[.int .i64 (n : Int)] w fun e w' => e = .returned (.string (strOf (Lib.decDigits n))) ∧ Below w.heap.size w w' :=
  (Tryd.strconv_Itoa (n : Int) (by omega) (by omega) w hA.tab).mono fun _ _ ⟨he, k, os, hw⟩ => ⟨by rw [he, itoa_dec]; rfl, by rw [hw]; exact below_grown (Below.refl _ _) (Nat.le_refl _) k os⟩
theorem cut_any (s : ByteArray) (w : World) (hA : Amb w) (hs : s.size < 4294967281) :
    Calls Tryd.prog 33 #[.string s, .string ⟨#[61]⟩] w fun e w' => e = .returned (.tuple #[.string (strOf (Lib.cut s.data.toList [61]).1), .string (strOf (Lib.cut s.data.toList [61]).2.1), .bool (Lib.cut s.data.toList [61]).2.2]) ∧ Below w.heap.size w w' := by
  obtain ⟨m, hm⟩ := hA.len
  exact (Tryd.strings_Cut s ⟨#[61]⟩ m w hs hm).mono fun _ _ ⟨he, n, hw⟩ => ⟨he, by rw [hw]; exact below_drewN (Below.refl _ _) n⟩
theorem trim_any (s : ByteArray) (w : World) (hs : s.size ≤ 9223372036854775807) :
    Calls Tryd.prog 32 #[.string s, .string ⟨#[10]⟩] w fun e w' => e = .returned (.string (strOf (Lib.trimSuffix s.data.toList [10]))) ∧ w = w' :=
  (Tryd.strings_TrimSuffix s ⟨#[10]⟩ w hs).mono fun _ _ ⟨he, hw⟩ => ⟨he, hw.symm⟩
theorem indexByte_any (s : ByteArray) (c : UInt8) (x : Int) (hx : x = (c.toNat : Int)) (w : World) :
    Calls Tryd.prog 35 #[.string s, .int .u8 x] w fun e w' => e = .returned (.int .i64 (Lib.indexByte s.data.toList c)) ∧ w = w' := by
  subst hx
  refine (Tryd.strings_IndexByte s (c.toNat : Int) w).mono ?_
  rintro e w' ⟨rfl, rfl⟩
  refine ⟨?_, rfl⟩
  rw [show ((c.toNat : Int).toNat).toUInt8 = c by simp]
theorem below_bytesWorld0 (w : World) (t : TypeId) (s : ByteArray) : Below w.heap.size w (Lib.bytesWorld w t s) :=
  ⟨rfl, rfl, rfl, by rw [Lib.bytesWorld_size]; omega, fun k hk => Lib.bytesWorld_at_old w t s k (by omega)⟩
theorem atoi_yes (s : ByteArray) (n : Int) (hl : s.size ≤ 18) (h : Lib.atoi s.data.toList = some n) (w : World) :
    Calls Tryd.prog 39 #[.string s] w fun e w' => e = .returned (.tuple #[.int .i64 n, .nilIface]) ∧ Below w.heap.size w w' :=
  (Tryd.strconv_Atoi s n hl h w).mono fun _ _ ⟨he, t, hw⟩ => ⟨he, by rw [hw]; exact below_bytesWorld0 _ _ _⟩
theorem atoi_no (s : ByteArray) (hl : s.size ≤ 18) (h : Lib.atoi s.data.toList = none) (w : World) (hA : Amb w) :
    Calls Tryd.prog 39 #[.string s] w fun e w' => ∃ N, e = .returned (.tuple #[.int .i64 0, .iface 91 (.pointer (some ⟨N, 0, none⟩))]) ∧ Below w.heap.size w w' := by
  obtain ⟨ev, hv, hev⟩ := hA.err
  exact (Tryd.strconv_Atoi_err s hl h ev w hv hev).mono fun _ _ ⟨N, he, _, _, hb⟩ => ⟨N, he, hb⟩
theorem clone_any (s : ByteArray) (w : World) (hs : s.size ≤ 281474976710656) :
    Calls Tryd.prog 34 #[.string s] w fun e w' => e = .returned (.string s) ∧ Below w.heap.size w w' := by
  have h := Tryd.stringslite_Clone s
  go_enter Tryd.func34, Tryd.ntmps34
  go_wp2_with fail
  refine (h _ hs).mono ?_
  rintro e w1 ⟨rfl, hb1⟩
  go_wp2_with fail
  go_ret
  exact ⟨rfl, hb1⟩
theorem digits_any (n : Nat) (w : World) (hA : Amb w) (h1 : n < 1000000) :
    Calls Tryd.prog 36 #[.int .i64 (n : Int)] w fun e w' => e = .returned (.int .i64 (digN n : Int)) ∧ Below w.heap.size w w' := by
  have hc := itoa_any n
  have hs : (strOf (Lib.decDigits n)).size = digN n := by rw [strOf_size, dec_digN n h1]
  have h2 : n ≤ 9000000000 := by omega
  generalize strOf (Lib.decDigits n) = S at *
  go_enter Tryd.func36, Tryd.ntmps36
  go_wp2_with fail
  refine (hc _ hA h2).mono ?_
  rintro e w1 ⟨rfl, hb1⟩
  go_wp2_with fail
  go_ret
  exact ⟨rfl, hb1⟩
end Go.Proofs.YtbjklpodkopgiaaDoor
