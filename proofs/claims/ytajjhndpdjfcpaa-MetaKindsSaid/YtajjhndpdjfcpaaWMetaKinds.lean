/- The law MetaKinds, walked. -/
import Derived.Test.YtajjhndpdjfcpaaMetaPackF
import Derived.Test.YtajjhndpdjfcpaaMetaKindsM
namespace Go.Proofs.Ytajjhndpdjfcpaa
open Go.RowKit
open MetaM
set_option linter.unusedVariables false
attribute [local irreducible] Row At

set_option maxHeartbeats 6400000 in
set_option maxRecDepth 100000 in
theorem metaKinds_walk (kd : Int) (a1 : Option Addr) (len1 cap1 : Nat) (z1 : List Int) (md : Int) (w : World) (w0 : (Lit.int .u8 kd).wf = true) (w1 : IsRow .u8 w a1 len1 cap1 z1) (w2 : (Lit.int .u16 md).wf = true) :
    Calls Try.prog 5 #[.int .u8 kd, .slice a1 len1 cap1, .int .u16 md] w fun e w' => e = .returned (.bool true) ∧ Below w.heap.size w w' := by
  have hk : 0 ≤ kd ∧ kd < 256 := by simp [Lit.wf] at w0; have h1 : IntKind.u8.min = 0 := rfl; have h2 : IntKind.u8.max = 255 := rfl; omega
  have hm : 0 ≤ md ∧ md < 65536 := by simp [Lit.wf] at w2; have h1 : IntKind.u16.min = 0 := rfl; have h2 : IntKind.u16.max = 65535 := rfl; omega
  have hlen : len1 ≤ 9223372036854775807 := isRow_le w1
  clear w0 w2
  obtain ⟨n, hn⟩ : ∃ n, md % 4096 = n := ⟨_, rfl⟩
  have hn0 : 0 ≤ n ∧ n ≤ 4095 := by omega
  have HP := Lib.hid (refPlain_any n 1 2)
  unfold metaC plainM nilV at HP
  simp only at HP
  have HMk := Lib.hid (fun q (h0 : 0 ≤ q) (h1 : q < 512) W (h : Below w.heap.size w W) => AclW.make_any a1 len1 cap1 z1 q W (isRow_call w1 h) h0 h1 hlen)
  clear w1 hlen
  obtain ⟨k, hkk⟩ : ∃ k, k = (if kd % 6 = 0 then (1 : Int) else if kd % 6 = 1 then 3 else if kd % 6 = 2 then 4 else if kd % 6 = 3 then 5 else if kd % 6 = 4 then 6 else 7) := ⟨_, rfl⟩
  have hkin : k = 1 ∨ k = 3 ∨ k = 4 ∨ k = 5 ∨ k = 6 ∨ k = 7 := by
    subst hkk
    repeat' split
    all_goals simp
  obtain ⟨W0, hW0⟩ : ∃ W, w.alloc (.cells #[.int .i64 1, .int .i64 3, .int .i64 4, .int .i64 5, .int .i64 6, .int .i64 7] 3) = W := ⟨_, rfl⟩
  have hbl : Below w.heap.size w W0 := by rw [← hW0]; exact gr_alloc (Below.refl _ _) _
  have hc : W0.cell? ⟨w.heap.size, (kd % 6).toNat, none⟩ = some (.int .i64 k) := by
    rw [← hW0, World.cell?_alloc_at (w := w) _ _ w.heap.size _ rfl, hkk]
    have hk6 : kd % 6 = 0 ∨ kd % 6 = 1 ∨ kd % 6 = 2 ∨ kd % 6 = 3 ∨ kd % 6 = 4 ∨ kd % 6 = 5 := by omega
    rcases hk6 with e | e | e | e | e | e <;> rw [e] <;> rfl
  clear hkk
  go_enter Try.func5, Try.ntmps5
  go_wp2_with fail
  refine (HP.out _).mono ?_
  rintro e w1 ⟨rfl, hb1⟩
  have hbl1 := gr_call hbl hb1
  have hb9 : w.heap.size ≤ w1.heap.size := hbl1.size
  clear hb1 hbl hc HP hW0
  go_wp2_with fail
  obtain ⟨W5, hW5⟩ : ∃ W, w1.alloc (.cells #[.int .i64 n, .int .i64 1, .int .i64 2, .int .i64 0, .int .i64 0, .slice none 0 0, .slice none 0 0, .slice none 0 0, .int .i64 0, .int .u64 0, .int .u64 0, .bool false, .int .i64 0, .int .i64 0] 30) = W := ⟨_, rfl⟩
  have hblk : BlkIs W5 w1.heap.size 30 #[.int .i64 n, .int .i64 1, .int .i64 2, .int .i64 0, .int .i64 0, .slice none 0 0, .slice none 0 0, .slice none 0 0, .int .i64 0, .int .u64 0, .int .u64 0, .bool false, .int .i64 0, .int .i64 0] := by rw [← hW5]; exact BlkIs.made _ _ _
  have hbl5 : Below w.heap.size w W5 := by rw [← hW5]; exact gr_alloc hbl1 _
  rw [hW5]
  clear hW5 hbl1
  generalize w1.heap.size = b9 at *
  have hbk := hblk
  refine region_JL 12 (Four W5 30 #[.int .i64 n, .int .i64 1, .int .i64 2, .int .i64 0, .int .i64 0, .slice none 0 0, .slice none 0 0, .slice none 0 0, .int .i64 0, .int .u64 0, .int .u64 0, .bool false, .int .i64 0, .int .i64 0]) (by rfl) (by kernel_rfl) (by kernel_rfl) (by kernel_rfl) (by kernel_rfl) ?h0 ?hs ?he
  case h0 => exact ⟨rfl, gr_drew (Below.refl _ _), fun j hj h => by simp [Array.getD_eq_getD_getElem?, Array.getElem?_replicate] at h; split at h <;> simp_all, fun j hj h => by simp [Array.getD_eq_getD_getElem?, Array.getElem?_replicate] at h; split at h <;> simp_all, fun j k hj hk hne h => by simp [Array.getD_eq_getD_getElem?, Array.getElem?_replicate] at h; split at h <;> simp_all, fun j hj h => by simp [Array.getD_eq_getD_getElem?, Array.getElem?_replicate] at h; split at h <;> simp_all⟩
  case hs =>
    refine ⟨?_, ?_, ?_, ?_, ?_, ?_, ?_, ?_, ?_, ?_, ?_, ?_, trivial⟩
    · intro vals listed a w6 K hsz hJ hni hdeps hv hd hf hK
      have e9 : a.tmps.getD 9 undef = .pointer (some ⟨b9, 0, none⟩) := hf 9 (by kernel_rfl)
      replace hblk := hblk.kept hJ.below hblk.size
      have k0 := hblk.cell_some 0 _ rfl; have k1 := hblk.cell_some 1 _ rfl; have k2 := hblk.cell_some 2 _ rfl; have k3 := hblk.cell_some 3 _ rfl; have k4 := hblk.cell_some 4 _ rfl; have k5 := hblk.cell_some 5 _ rfl; have k6 := hblk.cell_some 6 _ rfl; have k7 := hblk.cell_some 7 _ rfl; have k8 := hblk.cell_some 8 _ rfl; have k9 := hblk.cell_some 9 _ rfl; have k10 := hblk.cell_some 10 _ rfl; have k11 := hblk.cell_some 11 _ rfl; have k12 := hblk.cell_some 12 _ rfl; have k13 := hblk.cell_some 13 _ rfl
      have hJ2 := Lib.hid (hJ.loaded 0 (by omega))
      clear hsz hJ hni hdeps hv hd hf hblk
      go_simp
      exact hK _ _ hJ2.out
    · intro vals listed a w6 K hsz hJ hni hdeps hv hd hf hK
      have e9 : a.tmps.getD 9 undef = .pointer (some ⟨b9, 0, none⟩) := hf 9 (by kernel_rfl)
      replace hblk := hblk.kept hJ.below hblk.size
      have k0 := hblk.cell_some 0 _ rfl; have k1 := hblk.cell_some 1 _ rfl; have k2 := hblk.cell_some 2 _ rfl; have k3 := hblk.cell_some 3 _ rfl; have k4 := hblk.cell_some 4 _ rfl; have k5 := hblk.cell_some 5 _ rfl; have k6 := hblk.cell_some 6 _ rfl; have k7 := hblk.cell_some 7 _ rfl; have k8 := hblk.cell_some 8 _ rfl; have k9 := hblk.cell_some 9 _ rfl; have k10 := hblk.cell_some 10 _ rfl; have k11 := hblk.cell_some 11 _ rfl; have k12 := hblk.cell_some 12 _ rfl; have k13 := hblk.cell_some 13 _ rfl
      have hJ2 := Lib.hid (hJ.loaded 1 (by omega))
      clear hsz hJ hni hdeps hv hd hf hblk
      go_simp
      exact hK _ _ hJ2.out
    · intro vals listed a w6 K hsz hJ hni hdeps hv hd hf hK
      have e9 : a.tmps.getD 9 undef = .pointer (some ⟨b9, 0, none⟩) := hf 9 (by kernel_rfl)
      replace hblk := hblk.kept hJ.below hblk.size
      have k0 := hblk.cell_some 0 _ rfl; have k1 := hblk.cell_some 1 _ rfl; have k2 := hblk.cell_some 2 _ rfl; have k3 := hblk.cell_some 3 _ rfl; have k4 := hblk.cell_some 4 _ rfl; have k5 := hblk.cell_some 5 _ rfl; have k6 := hblk.cell_some 6 _ rfl; have k7 := hblk.cell_some 7 _ rfl; have k8 := hblk.cell_some 8 _ rfl; have k9 := hblk.cell_some 9 _ rfl; have k10 := hblk.cell_some 10 _ rfl; have k11 := hblk.cell_some 11 _ rfl; have k12 := hblk.cell_some 12 _ rfl; have k13 := hblk.cell_some 13 _ rfl
      have hJ2 := Lib.hid (hJ.loaded 2 (by omega))
      clear hsz hJ hni hdeps hv hd hf hblk
      go_simp
      exact hK _ _ hJ2.out
    · intro vals listed a w6 K hsz hJ hni hdeps hv hd hf hK
      have e9 : a.tmps.getD 9 undef = .pointer (some ⟨b9, 0, none⟩) := hf 9 (by kernel_rfl)
      replace hblk := hblk.kept hJ.below hblk.size
      have k0 := hblk.cell_some 0 _ rfl; have k1 := hblk.cell_some 1 _ rfl; have k2 := hblk.cell_some 2 _ rfl; have k3 := hblk.cell_some 3 _ rfl; have k4 := hblk.cell_some 4 _ rfl; have k5 := hblk.cell_some 5 _ rfl; have k6 := hblk.cell_some 6 _ rfl; have k7 := hblk.cell_some 7 _ rfl; have k8 := hblk.cell_some 8 _ rfl; have k9 := hblk.cell_some 9 _ rfl; have k10 := hblk.cell_some 10 _ rfl; have k11 := hblk.cell_some 11 _ rfl; have k12 := hblk.cell_some 12 _ rfl; have k13 := hblk.cell_some 13 _ rfl
      have hJ2 := Lib.hid (hJ.loaded 3 (by omega))
      clear hsz hJ hni hdeps hv hd hf hblk
      go_simp
      exact hK _ _ hJ2.out
    · intro vals listed a w6 K hsz hJ hni hdeps hv hd hf hK
      have hJ2 := Lib.hid (hJ.alloced (Z := #[.int .i64 0, .int .i64 0, .int .i64 0, .int .i64 0, .int .i64 0, .slice none 0 0, .slice none 0 0, .slice none 0 0, .int .i64 0, .int .u64 0, .int .u64 0, .bool false, .int .i64 0, .int .i64 0]) rfl 0 (by omega) hni)
      clear hsz hJ hni hdeps hv hd hf hblk
      go_simp
      exact hK _ _ hJ2.out
    · intro vals listed a w6 K hsz hJ hni hdeps hv hd hf hK
      have hJ2 := Lib.hid (hJ.alloced (Z := #[.int .i64 0, .int .i64 0, .int .i64 0, .int .i64 0, .int .i64 0, .slice none 0 0, .slice none 0 0, .slice none 0 0, .int .i64 0, .int .u64 0, .int .u64 0, .bool false, .int .i64 0, .int .i64 0]) rfl 1 (by omega) hni)
      clear hsz hJ hni hdeps hv hd hf hblk
      go_simp
      exact hK _ _ hJ2.out
    · intro vals listed a w6 K hsz hJ hni hdeps hv hd hf hK
      have hJ2 := Lib.hid (hJ.alloced (Z := #[.int .i64 0, .int .i64 0, .int .i64 0, .int .i64 0, .int .i64 0, .slice none 0 0, .slice none 0 0, .slice none 0 0, .int .i64 0, .int .u64 0, .int .u64 0, .bool false, .int .i64 0, .int .i64 0]) rfl 2 (by omega) hni)
      clear hsz hJ hni hdeps hv hd hf hblk
      go_simp
      exact hK _ _ hJ2.out
    · intro vals listed a w6 K hsz hJ hni hdeps hv hd hf hK
      have hJ2 := Lib.hid (hJ.alloced (Z := #[.int .i64 0, .int .i64 0, .int .i64 0, .int .i64 0, .int .i64 0, .slice none 0 0, .slice none 0 0, .slice none 0 0, .int .i64 0, .int .u64 0, .int .u64 0, .bool false, .int .i64 0, .int .i64 0]) rfl 3 (by omega) hni)
      clear hsz hJ hni hdeps hv hd hf hblk
      go_simp
      exact hK _ _ hJ2.out
    · intro vals listed a w6 K hsz hJ hni hdeps hv hd hf hK
      have hl4 : listed.getD 4 false = true := hdeps ⟨4, .data⟩ (by simp) rfl
      have hlj : listed.getD 0 false = true := hdeps ⟨0, .data⟩ (by simp) rfl
      have ep := hv 4 11 rfl hl4
      have ev := hv 0 28 rfl hlj
      rw [hJ.load 0 (by omega) hlj] at ev
      obtain ⟨g, cs, e1, e2, e3, e4, _⟩ := hJ.made 0 (by omega) hl4
      have hJ2 := Lib.hid (hJ.stored 0 g (by omega) hl4 e1 undef)
      rw [show vals 4 = .pointer (some ⟨g, 0, none⟩) from e1] at ep
      obtain ⟨d0, d1, d2, d3, d4, d5, d6, d7, d8, d9, d10, d11, d12, d13, rfl⟩ := list14a e4
      have hblk := e3
      have k0 := hblk.cell_some 0 _ rfl; have k1 := hblk.cell_some 1 _ rfl; have k2 := hblk.cell_some 2 _ rfl; have k3 := hblk.cell_some 3 _ rfl; have k4 := hblk.cell_some 4 _ rfl; have k5 := hblk.cell_some 5 _ rfl; have k6 := hblk.cell_some 6 _ rfl; have k7 := hblk.cell_some 7 _ rfl; have k8 := hblk.cell_some 8 _ rfl; have k9 := hblk.cell_some 9 _ rfl; have k10 := hblk.cell_some 10 _ rfl; have k11 := hblk.cell_some 11 _ rfl; have k12 := hblk.cell_some 12 _ rfl; have k13 := hblk.cell_some 13 _ rfl
      have f0 := hblk.free 0; have f1 := hblk.free 1; have f2 := hblk.free 2; have f3 := hblk.free 3; have f4 := hblk.free 4; have f5 := hblk.free 5; have f6 := hblk.free 6; have f7 := hblk.free 7; have f8 := hblk.free 8; have f9 := hblk.free 9; have f10 := hblk.free 10; have f11 := hblk.free 11; have f12 := hblk.free 12; have f13 := hblk.free 13
      unfold put14 at hJ2
      clear hsz hJ hni hdeps hv hd hf hblk e1 e2 e3 e4
      go_simp
      exact hK undef _ hJ2.out
    · intro vals listed a w6 K hsz hJ hni hdeps hv hd hf hK
      have hl4 : listed.getD 5 false = true := hdeps ⟨5, .data⟩ (by simp) rfl
      have hlj : listed.getD 1 false = true := hdeps ⟨1, .data⟩ (by simp) rfl
      have ep := hv 5 12 rfl hl4
      have ev := hv 1 29 rfl hlj
      rw [hJ.load 1 (by omega) hlj] at ev
      obtain ⟨g, cs, e1, e2, e3, e4, _⟩ := hJ.made 1 (by omega) hl4
      have hJ2 := Lib.hid (hJ.stored 1 g (by omega) hl4 e1 undef)
      rw [show vals 5 = .pointer (some ⟨g, 0, none⟩) from e1] at ep
      obtain ⟨d0, d1, d2, d3, d4, d5, d6, d7, d8, d9, d10, d11, d12, d13, rfl⟩ := list14a e4
      have hblk := e3
      have k0 := hblk.cell_some 0 _ rfl; have k1 := hblk.cell_some 1 _ rfl; have k2 := hblk.cell_some 2 _ rfl; have k3 := hblk.cell_some 3 _ rfl; have k4 := hblk.cell_some 4 _ rfl; have k5 := hblk.cell_some 5 _ rfl; have k6 := hblk.cell_some 6 _ rfl; have k7 := hblk.cell_some 7 _ rfl; have k8 := hblk.cell_some 8 _ rfl; have k9 := hblk.cell_some 9 _ rfl; have k10 := hblk.cell_some 10 _ rfl; have k11 := hblk.cell_some 11 _ rfl; have k12 := hblk.cell_some 12 _ rfl; have k13 := hblk.cell_some 13 _ rfl
      have f0 := hblk.free 0; have f1 := hblk.free 1; have f2 := hblk.free 2; have f3 := hblk.free 3; have f4 := hblk.free 4; have f5 := hblk.free 5; have f6 := hblk.free 6; have f7 := hblk.free 7; have f8 := hblk.free 8; have f9 := hblk.free 9; have f10 := hblk.free 10; have f11 := hblk.free 11; have f12 := hblk.free 12; have f13 := hblk.free 13
      unfold put14 at hJ2
      clear hsz hJ hni hdeps hv hd hf hblk e1 e2 e3 e4
      go_simp
      exact hK undef _ hJ2.out
    · intro vals listed a w6 K hsz hJ hni hdeps hv hd hf hK
      have hl4 : listed.getD 6 false = true := hdeps ⟨6, .data⟩ (by simp) rfl
      have hlj : listed.getD 2 false = true := hdeps ⟨2, .data⟩ (by simp) rfl
      have ep := hv 6 13 rfl hl4
      have ev := hv 2 30 rfl hlj
      rw [hJ.load 2 (by omega) hlj] at ev
      obtain ⟨g, cs, e1, e2, e3, e4, _⟩ := hJ.made 2 (by omega) hl4
      have hJ2 := Lib.hid (hJ.stored 2 g (by omega) hl4 e1 undef)
      rw [show vals 6 = .pointer (some ⟨g, 0, none⟩) from e1] at ep
      obtain ⟨d0, d1, d2, d3, d4, d5, d6, d7, d8, d9, d10, d11, d12, d13, rfl⟩ := list14a e4
      have hblk := e3
      have k0 := hblk.cell_some 0 _ rfl; have k1 := hblk.cell_some 1 _ rfl; have k2 := hblk.cell_some 2 _ rfl; have k3 := hblk.cell_some 3 _ rfl; have k4 := hblk.cell_some 4 _ rfl; have k5 := hblk.cell_some 5 _ rfl; have k6 := hblk.cell_some 6 _ rfl; have k7 := hblk.cell_some 7 _ rfl; have k8 := hblk.cell_some 8 _ rfl; have k9 := hblk.cell_some 9 _ rfl; have k10 := hblk.cell_some 10 _ rfl; have k11 := hblk.cell_some 11 _ rfl; have k12 := hblk.cell_some 12 _ rfl; have k13 := hblk.cell_some 13 _ rfl
      have f0 := hblk.free 0; have f1 := hblk.free 1; have f2 := hblk.free 2; have f3 := hblk.free 3; have f4 := hblk.free 4; have f5 := hblk.free 5; have f6 := hblk.free 6; have f7 := hblk.free 7; have f8 := hblk.free 8; have f9 := hblk.free 9; have f10 := hblk.free 10; have f11 := hblk.free 11; have f12 := hblk.free 12; have f13 := hblk.free 13
      unfold put14 at hJ2
      clear hsz hJ hni hdeps hv hd hf hblk e1 e2 e3 e4
      go_simp
      exact hK undef _ hJ2.out
    · intro vals listed a w6 K hsz hJ hni hdeps hv hd hf hK
      have hl4 : listed.getD 7 false = true := hdeps ⟨7, .data⟩ (by simp) rfl
      have hlj : listed.getD 3 false = true := hdeps ⟨3, .data⟩ (by simp) rfl
      have ep := hv 7 14 rfl hl4
      have ev := hv 3 31 rfl hlj
      rw [hJ.load 3 (by omega) hlj] at ev
      obtain ⟨g, cs, e1, e2, e3, e4, _⟩ := hJ.made 3 (by omega) hl4
      have hJ2 := Lib.hid (hJ.stored 3 g (by omega) hl4 e1 undef)
      rw [show vals 7 = .pointer (some ⟨g, 0, none⟩) from e1] at ep
      obtain ⟨d0, d1, d2, d3, d4, d5, d6, d7, d8, d9, d10, d11, d12, d13, rfl⟩ := list14a e4
      have hblk := e3
      have k0 := hblk.cell_some 0 _ rfl; have k1 := hblk.cell_some 1 _ rfl; have k2 := hblk.cell_some 2 _ rfl; have k3 := hblk.cell_some 3 _ rfl; have k4 := hblk.cell_some 4 _ rfl; have k5 := hblk.cell_some 5 _ rfl; have k6 := hblk.cell_some 6 _ rfl; have k7 := hblk.cell_some 7 _ rfl; have k8 := hblk.cell_some 8 _ rfl; have k9 := hblk.cell_some 9 _ rfl; have k10 := hblk.cell_some 10 _ rfl; have k11 := hblk.cell_some 11 _ rfl; have k12 := hblk.cell_some 12 _ rfl; have k13 := hblk.cell_some 13 _ rfl
      have f0 := hblk.free 0; have f1 := hblk.free 1; have f2 := hblk.free 2; have f3 := hblk.free 3; have f4 := hblk.free 4; have f5 := hblk.free 5; have f6 := hblk.free 6; have f7 := hblk.free 7; have f8 := hblk.free 8; have f9 := hblk.free 9; have f10 := hblk.free 10; have f11 := hblk.free 11; have f12 := hblk.free 12; have f13 := hblk.free 13
      unfold put14 at hJ2
      clear hsz hJ hni hdeps hv hd hf hblk e1 e2 e3 e4
      go_simp
      exact hK undef _ hJ2.out
  case he =>
    intro vals listed w6 hsz hall hJ
    obtain ⟨g0, cs0, e0, l0, q0, _, r0⟩ := hJ.made 0 (by omega) (hall 4 (by omega))
    obtain ⟨g1, cs1, e1, l1, q1, _, r1⟩ := hJ.made 1 (by omega) (hall 5 (by omega))
    obtain ⟨g2, cs2, e2, l2, q2, _, r2⟩ := hJ.made 2 (by omega) (hall 6 (by omega))
    obtain ⟨g3, cs3, e3, l3, q3, _, r3⟩ := hJ.made 3 (by omega) (hall 7 (by omega))
    have n01 : g0 ≠ g1 := fun e => hJ.differ 0 1 (by omega) (by omega) (by omega) (hall 4 (by omega)) (hall 5 (by omega)) (by rw [e0, e1, e])
    have n02 : g0 ≠ g2 := fun e => hJ.differ 0 2 (by omega) (by omega) (by omega) (hall 4 (by omega)) (hall 6 (by omega)) (by rw [e0, e2, e])
    have n03 : g0 ≠ g3 := fun e => hJ.differ 0 3 (by omega) (by omega) (by omega) (hall 4 (by omega)) (hall 7 (by omega)) (by rw [e0, e3, e])
    have n12 : g1 ≠ g2 := fun e => hJ.differ 1 2 (by omega) (by omega) (by omega) (hall 5 (by omega)) (hall 6 (by omega)) (by rw [e1, e2, e])
    have n13 : g1 ≠ g3 := fun e => hJ.differ 1 3 (by omega) (by omega) (by omega) (hall 5 (by omega)) (hall 7 (by omega)) (by rw [e1, e3, e])
    have n23 : g2 ≠ g3 := fun e => hJ.differ 2 3 (by omega) (by omega) (by omega) (hall 6 (by omega)) (hall 7 (by omega)) (by rw [e2, e3, e])
    have t0 := r0 (hall 8 (by omega))
    have t1 := r1 (hall 9 (by omega))
    have t2 := r2 (hall 10 (by omega))
    have t3 := r3 (hall 11 (by omega))
    subst t0 t1 t2 t3
    have hb6 := hJ.below
    replace hblk := hblk.kept hb6 hblk.size
    clear hJ hall r0 r1 r2 r3 hsz
    refine Later.mk ?_
    simp only [setN, Nat.reduceAdd, List.setIfInBounds_toArray, List.set_cons_succ, List.set_cons_zero]
    rw [show vals 4 = _ from e0, show vals 5 = _ from e1, show vals 6 = _ from e2, show vals 7 = _ from e3]
    clear e0 e1 e2 e3
    have hbl6 : Below w.heap.size w w6 := gr_call hbl5 hb6
    have hs5 := hbl5.size
    have hg0 : w.heap.size ≤ g0 := Nat.le_trans hs5 l0
    have hg1 : w.heap.size ≤ g1 := Nat.le_trans hs5 l1
    have hg2 : w.heap.size ≤ g2 := Nat.le_trans hs5 l2
    have hg3 : w.heap.size ≤ g3 := Nat.le_trans hs5 l3
    have hb9s := hbk.size
    have nb0 : b9 ≠ g0 := by omega
    have nb1 : b9 ≠ g1 := by omega
    have nb2 : b9 ≠ g2 := by omega
    have nb3 : b9 ≠ g3 := by omega
    clear hbk hb6 hbl5 l0 l1 l2 l3 hb9s hs5
    go_wp2_with fail
    refine (HMk.out 7 (by omega) (by omega) _ hbl6).mono ?_
    rintro e w7 ⟨⟨v1, L1, rfl, hR1, hmay1, hmd1⟩, hb7⟩
    clear hmd1
    have hbl7 := gr_call hbl6 hb7
    have s0 := q0.size
    have s1 := q1.size
    have s2 := q2.size
    have s3 := q3.size
    replace hblk := hblk.kept hb7 hblk.size
    replace q0 := q0.kept hb7 q0.size
    replace q1 := q1.kept hb7 q1.size
    replace q2 := q2.kept hb7 q2.size
    replace q3 := q3.kept hb7 q3.size
    have hfar0 : v1.ownBlock ≠ some g0 := fun e => by have := (hR1.lt _ e).1; omega
    have hfar1 : v1.ownBlock ≠ some g1 := fun e => by have := (hR1.lt _ e).1; omega
    have hfar02 : v1.ownBlock ≠ some g2 := fun e => by have := (hR1.lt _ e).1; omega
    have hfar03 : v1.ownBlock ≠ some g3 := fun e => by have := (hR1.lt _ e).1; omega
    obtain ⟨p1, c1, hsh1, _⟩ := hR1.at.shape
    obtain ⟨n1, hn1⟩ : ∃ q, L1.length = q := ⟨_, rfl⟩
    rw [hn1] at hsh1
    clear hn1 s0 s1 s2 s3 hb7 hbl6
    subst hsh1
    have k6 := q0.cell_some 6 _ rfl
    have f6 := q0.free 6
    have k8 := q1.cell_some 8 _ rfl
    have k9 := q1.cell_some 9 _ rfl
    have k10 := q1.cell_some 10 _ rfl
    have k11 := q1.cell_some 11 _ rfl
    have k12 := q1.cell_some 12 _ rfl
    have f8 := q1.free 8
    have f9 := q1.free 9
    have f10 := q1.free 10
    have f11 := q1.free 11
    have f12 := q1.free 12
    go_wp2_with fail
    clear k6 f6 k8 k9 k10 k11 k12 f8 f9 f10 f11 f12
    obtain ⟨W9, hW9⟩ : ∃ W, ((((((w7.setCell ⟨g0, 6, none⟩ (.slice p1 n1 c1)).setCell ⟨g1, 8, none⟩ (.int .i64 2)).setCell ⟨g1, 9, none⟩ (.int .u64 0)).setCell ⟨g1, 10, none⟩ (.int .u64 0)).setCell ⟨g1, 11, none⟩ (.bool false)).setCell ⟨g1, 12, none⟩ (.int .i64 0)) = W := ⟨_, rfl⟩
    have hbl9 : Below w.heap.size w W9 := by rw [← hW9]; exact gr_set (gr_set (gr_set (gr_set (gr_set (gr_set hbl7 hg0 _) hg1 _) hg1 _) hg1 _) hg1 _) hg1 _
    have qb9 : BlkIs W9 b9 30 #[.int .i64 n, .int .i64 1, .int .i64 2, .int .i64 0, .int .i64 0, .slice none 0 0, .slice none 0 0, .slice none 0 0, .int .i64 0, .int .u64 0, .int .u64 0, .bool false, .int .i64 0, .int .i64 0] := by rw [← hW9]; exact ((((((hblk.other nb0 _).other nb1 _).other nb1 _).other nb1 _).other nb1 _).other nb1 _)
    have q09 : BlkIs W9 g0 30 #[.int .i64 n, .int .i64 1, .int .i64 2, .int .i64 0, .int .i64 0, .slice none 0 0, .slice p1 n1 c1, .slice none 0 0, .int .i64 0, .int .u64 0, .int .u64 0, .bool false, .int .i64 0, .int .i64 0] := by rw [← hW9]; exact ((((((q0.put 6 _).other n01 _).other n01 _).other n01 _).other n01 _).other n01 _)
    have q19 : BlkIs W9 g1 30 #[.int .i64 n, .int .i64 1, .int .i64 2, .int .i64 0, .int .i64 0, .slice none 0 0, .slice none 0 0, .slice none 0 0, .int .i64 2, .int .u64 0, .int .u64 0, .bool false, .int .i64 0, .int .i64 0] := by rw [← hW9]; exact ((((((q1.other (Ne.symm n01) _).put 8 _).put 9 _).put 10 _).put 11 _).put 12 _)
    have q29 : BlkIs W9 g2 30 #[.int .i64 n, .int .i64 1, .int .i64 2, .int .i64 0, .int .i64 0, .slice none 0 0, .slice none 0 0, .slice none 0 0, .int .i64 0, .int .u64 0, .int .u64 0, .bool false, .int .i64 0, .int .i64 0] := by rw [← hW9]; exact ((((((q2.other (Ne.symm n02) _).other (Ne.symm n12) _).other (Ne.symm n12) _).other (Ne.symm n12) _).other (Ne.symm n12) _).other (Ne.symm n12) _)
    have q39 : BlkIs W9 g3 30 #[.int .i64 n, .int .i64 1, .int .i64 2, .int .i64 0, .int .i64 0, .slice none 0 0, .slice none 0 0, .slice none 0 0, .int .i64 0, .int .u64 0, .int .u64 0, .bool false, .int .i64 0, .int .i64 0] := by rw [← hW9]; exact ((((((q3.other (Ne.symm n03) _).other (Ne.symm n13) _).other (Ne.symm n13) _).other (Ne.symm n13) _).other (Ne.symm n13) _).other (Ne.symm n13) _)
    have hr19 : Row AclW.aceE w6.heap.size (.slice p1 n1 c1) L1 W9 := by rw [← hW9]; exact ((((((hR1.other (a := ⟨g0, 6, none⟩) hfar0 _).other (a := ⟨g1, 8, none⟩) hfar1 _).other (a := ⟨g1, 9, none⟩) hfar1 _).other (a := ⟨g1, 10, none⟩) hfar1 _).other (a := ⟨g1, 11, none⟩) hfar1 _).other (a := ⟨g1, 12, none⟩) hfar1 _)
    rw [hW9]
    clear hW9 hR1 hfar0 hfar1 q0 q1 q2 q3 hblk hbl7
    refine (HMk.out (bits .and .i64 n 511) (by rw [and511]; omega) (by rw [and511]; omega) _ hbl9).mono ?_
    rintro e w10 ⟨⟨v2, L2, rfl, hR2, hmay2, hmd2⟩, hb10⟩
    rw [and511] at hmd2
    have hblA := gr_call hbl9 hb10
    have s2 := q29.size
    have s3 := q39.size
    replace qb9 := qb9.kept hb10 qb9.size
    replace q09 := q09.kept hb10 q09.size
    replace q19 := q19.kept hb10 q19.size
    replace q29 := q29.kept hb10 q29.size
    replace q39 := q39.kept hb10 q39.size
    replace hr19 := hr19.call hb10
    have hfar2 : v2.ownBlock ≠ some g2 := fun e => by have := (hR2.lt _ e).1; omega
    have hfar3 : v2.ownBlock ≠ some g3 := fun e => by have := (hR2.lt _ e).1; omega
    obtain ⟨p2, c2, hsh2, _⟩ := hR2.at.shape
    obtain ⟨n2, hn2⟩ : ∃ q, L2.length = q := ⟨_, rfl⟩
    rw [hn2] at hsh2
    clear hn2 s2 s3 hb10 hbl9
    subst hsh2
    have k5 := q29.cell_some 5 _ rfl
    have f5 := q29.free 5
    have k13 := q39.cell_some 13 _ rfl
    have f13 := q39.free 13
    obtain ⟨W12, hW12⟩ : ∃ W, ((w10.setCell ⟨g2, 5, none⟩ (.slice p2 n2 c2)).setCell ⟨g3, 13, none⟩ (.int .i64 1)) = W := ⟨_, rfl⟩
    have hblB : Below w.heap.size w W12 := by rw [← hW12]; exact gr_set (gr_set hblA hg2 _) hg3 _
    have qb : BlkIs W12 b9 30 #[.int .i64 n, .int .i64 1, .int .i64 2, .int .i64 0, .int .i64 0, .slice none 0 0, .slice none 0 0, .slice none 0 0, .int .i64 0, .int .u64 0, .int .u64 0, .bool false, .int .i64 0, .int .i64 0] := by rw [← hW12]; exact ((qb9.other nb2 _).other nb3 _)
    have q0 : BlkIs W12 g0 30 #[.int .i64 n, .int .i64 1, .int .i64 2, .int .i64 0, .int .i64 0, .slice none 0 0, .slice p1 n1 c1, .slice none 0 0, .int .i64 0, .int .u64 0, .int .u64 0, .bool false, .int .i64 0, .int .i64 0] := by rw [← hW12]; exact ((q09.other n02 _).other n03 _)
    have q1 : BlkIs W12 g1 30 #[.int .i64 n, .int .i64 1, .int .i64 2, .int .i64 0, .int .i64 0, .slice none 0 0, .slice none 0 0, .slice none 0 0, .int .i64 2, .int .u64 0, .int .u64 0, .bool false, .int .i64 0, .int .i64 0] := by rw [← hW12]; exact ((q19.other n12 _).other n13 _)
    have q2 : BlkIs W12 g2 30 #[.int .i64 n, .int .i64 1, .int .i64 2, .int .i64 0, .int .i64 0, .slice p2 n2 c2, .slice none 0 0, .slice none 0 0, .int .i64 0, .int .u64 0, .int .u64 0, .bool false, .int .i64 0, .int .i64 0] := by rw [← hW12]; exact ((q29.put 5 _).other n23 _)
    have q3 : BlkIs W12 g3 30 #[.int .i64 n, .int .i64 1, .int .i64 2, .int .i64 0, .int .i64 0, .slice none 0 0, .slice none 0 0, .slice none 0 0, .int .i64 0, .int .u64 0, .int .u64 0, .bool false, .int .i64 0, .int .i64 1] := by rw [← hW12]; exact ((q39.other (Ne.symm n23) _).put 13 _)
    have hat1 : At AclW.aceE (.slice p1 n1 c1) L1 W12 := by rw [← hW12]; exact ((hr19.other (a := ⟨g2, 5, none⟩) hfar02 _).other (a := ⟨g3, 13, none⟩) hfar03 _).at
    have hat2 : At AclW.aceE (.slice p2 n2 c2) L2 W12 := by rw [← hW12]; exact ((hR2.other (a := ⟨g2, 5, none⟩) hfar2 _).other (a := ⟨g3, 13, none⟩) hfar3 _).at
    clear hr19 hR2 hfar02 hfar03 hfar2 hfar3 qb9 q09 q19 q29 q39 hblA HMk
    have hkAny : kAny k := hkin
    have hl1 := AclW.may_len hmay1
    have hl2 := AclW.may_len hmay2
    have hm2 : ∀ W, Below W12.heap.size W12 W → MetaAt (withDfl n L1) nilV (.slice p1 n1 c1) nilV W := fun W h => ⟨At.nil _, hat1.call h, At.nil _, by simp [withDfl], by simp only [withDfl]; omega, by simp [withDfl]⟩
    have hm4 : ∀ W, Below W12.heap.size W12 W → MetaAt (withAcl n L2) (.slice p2 n2 c2) nilV nilV W := fun W h => ⟨hat2.call h, At.nil _, At.nil _, by simp only [withAcl]; omega, by simp [withAcl], by simp [withAcl]⟩
    have G1 := Lib.hid (fun W => MayM_any (plainM n 1 2) nilV nilV nilV k W (plain_at _ _ _ W))
    have G2 := Lib.hid (fun W (h : Below W12.heap.size W12 W) => MayM_any _ _ _ _ k W (hm2 W h))
    have G3 := Lib.hid (fun W => MayM_any (withCap n) nilV nilV nilV k W ⟨At.nil _, At.nil _, At.nil _, by simp [withCap], by simp [withCap], by simp [withCap]⟩)
    have G4 := Lib.hid (fun W (h : Below W12.heap.size W12 W) => MayM_any _ _ _ _ k W (hm4 W h))
    have G5 := Lib.hid (fun W => MayM_any (withFlags n) nilV nilV nilV k W ⟨At.nil _, At.nil _, At.nil _, by simp [withFlags], by simp [withFlags], by simp [withFlags]⟩)
    rw [k_plain hn0.1 hn0.2 hkAny] at G1
    rw [k_dfl hn0.1 hn0.2 hkAny hmay1] at G2
    rw [k_cap hn0.1 hn0.2 hkAny] at G3
    rw [k_acl hn0.1 hn0.2 hkAny hmay2 hmd2] at G4
    rw [k_flags hn0.1 hn0.2 hkAny] at G5
    unfold metaC nilV plainM at G1
    unfold metaC nilV withDfl at G2
    unfold metaC nilV withCap at G3
    unfold metaC nilV withAcl at G4
    unfold metaC nilV withFlags at G5
    simp only at G1 G2 G3 G4 G5
    have hbq := Below.refl W12.heap.size W12
    clear hm2 hm4 hat1 hat2 hkAny hl1 hl2 hmay1 hmay2 hmd2 hkin
    have hself1 : ((n == 511) == (n == 511)) = true := beq_same _
    have hself2 : ((k == 6) == (k == 6)) = true := beq_same _
    have hself3 : ((k == 1) == (k == 1)) = true := beq_same _
    by_cases hk3 : k = 3
    · as_aux_lemma =>
      subst hk3
      rw [show ((3 : Int) == 3) = true from rfl] at G1 G4 G5
      rw [show ((3 : Int) == 6) = false from rfl] at G2
      rw [show ((3 : Int) == 1) = false from rfl] at G3
      simp only [Bool.not_true, Bool.false_or] at G1 G4 G5
      clear hself2 hself3
      have hblk := qb
      have k0 := hblk.cell_some 0 _ rfl; have k1 := hblk.cell_some 1 _ rfl; have k2 := hblk.cell_some 2 _ rfl; have k3 := hblk.cell_some 3 _ rfl; have k4 := hblk.cell_some 4 _ rfl; have k5 := hblk.cell_some 5 _ rfl; have k6 := hblk.cell_some 6 _ rfl; have k7 := hblk.cell_some 7 _ rfl; have k8 := hblk.cell_some 8 _ rfl; have k9 := hblk.cell_some 9 _ rfl; have k10 := hblk.cell_some 10 _ rfl; have k11 := hblk.cell_some 11 _ rfl; have k12 := hblk.cell_some 12 _ rfl; have k13 := hblk.cell_some 13 _ rfl
      clear hblk
      go_wp2_with fail
      refine (G1.out _ ).mono ?_
      rintro e w20 ⟨rfl, hb2⟩
      replace hblB := gr_call hblB hb2
      replace hbq := gr_call hbq hb2
      replace q0 := q0.kept hb2 q0.size
      replace q1 := q1.kept hb2 q1.size
      replace q2 := q2.kept hb2 q2.size
      replace q3 := q3.kept hb2 q3.size
      clear hb2 k0 k1 k2 k3 k4 k5 k6 k7 k8 k9 k10 k11 k12 k13
      have hblk := q0
      have k0 := hblk.cell_some 0 _ rfl; have k1 := hblk.cell_some 1 _ rfl; have k2 := hblk.cell_some 2 _ rfl; have k3 := hblk.cell_some 3 _ rfl; have k4 := hblk.cell_some 4 _ rfl; have k5 := hblk.cell_some 5 _ rfl; have k6 := hblk.cell_some 6 _ rfl; have k7 := hblk.cell_some 7 _ rfl; have k8 := hblk.cell_some 8 _ rfl; have k9 := hblk.cell_some 9 _ rfl; have k10 := hblk.cell_some 10 _ rfl; have k11 := hblk.cell_some 11 _ rfl; have k12 := hblk.cell_some 12 _ rfl; have k13 := hblk.cell_some 13 _ rfl
      clear hblk
      go_wp2_with fail
      refine (G2.out _ hbq).mono ?_
      rintro e w21 ⟨rfl, hb2⟩
      replace hblB := gr_call hblB hb2
      replace hbq := gr_call hbq hb2
      replace q1 := q1.kept hb2 q1.size
      replace q2 := q2.kept hb2 q2.size
      replace q3 := q3.kept hb2 q3.size
      clear hb2 k0 k1 k2 k3 k4 k5 k6 k7 k8 k9 k10 k11 k12 k13
      have hblk := q1
      have k0 := hblk.cell_some 0 _ rfl; have k1 := hblk.cell_some 1 _ rfl; have k2 := hblk.cell_some 2 _ rfl; have k3 := hblk.cell_some 3 _ rfl; have k4 := hblk.cell_some 4 _ rfl; have k5 := hblk.cell_some 5 _ rfl; have k6 := hblk.cell_some 6 _ rfl; have k7 := hblk.cell_some 7 _ rfl; have k8 := hblk.cell_some 8 _ rfl; have k9 := hblk.cell_some 9 _ rfl; have k10 := hblk.cell_some 10 _ rfl; have k11 := hblk.cell_some 11 _ rfl; have k12 := hblk.cell_some 12 _ rfl; have k13 := hblk.cell_some 13 _ rfl
      clear hblk
      go_wp2_with fail
      refine (G3.out _ ).mono ?_
      rintro e w22 ⟨rfl, hb2⟩
      replace hblB := gr_call hblB hb2
      replace hbq := gr_call hbq hb2
      replace q2 := q2.kept hb2 q2.size
      replace q3 := q3.kept hb2 q3.size
      clear hb2 k0 k1 k2 k3 k4 k5 k6 k7 k8 k9 k10 k11 k12 k13
      have hblk := q2
      have k0 := hblk.cell_some 0 _ rfl; have k1 := hblk.cell_some 1 _ rfl; have k2 := hblk.cell_some 2 _ rfl; have k3 := hblk.cell_some 3 _ rfl; have k4 := hblk.cell_some 4 _ rfl; have k5 := hblk.cell_some 5 _ rfl; have k6 := hblk.cell_some 6 _ rfl; have k7 := hblk.cell_some 7 _ rfl; have k8 := hblk.cell_some 8 _ rfl; have k9 := hblk.cell_some 9 _ rfl; have k10 := hblk.cell_some 10 _ rfl; have k11 := hblk.cell_some 11 _ rfl; have k12 := hblk.cell_some 12 _ rfl; have k13 := hblk.cell_some 13 _ rfl
      clear hblk
      go_wp2_with fail
      refine (G4.out _ hbq).mono ?_
      rintro e w23 ⟨rfl, hb2⟩
      replace hblB := gr_call hblB hb2
      replace hbq := gr_call hbq hb2
      replace q3 := q3.kept hb2 q3.size
      clear hb2 k0 k1 k2 k3 k4 k5 k6 k7 k8 k9 k10 k11 k12 k13
      have hblk := q3
      have k0 := hblk.cell_some 0 _ rfl; have k1 := hblk.cell_some 1 _ rfl; have k2 := hblk.cell_some 2 _ rfl; have k3 := hblk.cell_some 3 _ rfl; have k4 := hblk.cell_some 4 _ rfl; have k5 := hblk.cell_some 5 _ rfl; have k6 := hblk.cell_some 6 _ rfl; have k7 := hblk.cell_some 7 _ rfl; have k8 := hblk.cell_some 8 _ rfl; have k9 := hblk.cell_some 9 _ rfl; have k10 := hblk.cell_some 10 _ rfl; have k11 := hblk.cell_some 11 _ rfl; have k12 := hblk.cell_some 12 _ rfl; have k13 := hblk.cell_some 13 _ rfl
      clear hblk
      go_wp2_with fail
      refine (G5.out _ ).mono ?_
      rintro e w24 ⟨rfl, hb2⟩
      replace hblB := gr_call hblB hb2
      replace hbq := gr_call hbq hb2
      clear hb2 k0 k1 k2 k3 k4 k5 k6 k7 k8 k9 k10 k11 k12 k13
      go_wp2_with fail
      refine (awake_any _).mono ?_
      rintro e w30 ⟨rfl, hb2⟩
      replace hblB := gr_call hblB hb2
      clear hb2
      go_wp2_with fail
      go_ret
      exact ⟨rfl, hblB⟩
    · as_aux_lemma =>
      have hs : (k == 3) = false := by simpa using hk3
      rw [hs] at G1 G4 G5
      simp only [Bool.not_false, Bool.true_or] at G1 G4 G5
      have hblk := qb
      have k0 := hblk.cell_some 0 _ rfl; have k1 := hblk.cell_some 1 _ rfl; have k2 := hblk.cell_some 2 _ rfl; have k3 := hblk.cell_some 3 _ rfl; have k4 := hblk.cell_some 4 _ rfl; have k5 := hblk.cell_some 5 _ rfl; have k6 := hblk.cell_some 6 _ rfl; have k7 := hblk.cell_some 7 _ rfl; have k8 := hblk.cell_some 8 _ rfl; have k9 := hblk.cell_some 9 _ rfl; have k10 := hblk.cell_some 10 _ rfl; have k11 := hblk.cell_some 11 _ rfl; have k12 := hblk.cell_some 12 _ rfl; have k13 := hblk.cell_some 13 _ rfl
      clear hblk
      go_wp2_with fail
      refine (G1.out _ ).mono ?_
      rintro e w20 ⟨rfl, hb2⟩
      replace hblB := gr_call hblB hb2
      replace hbq := gr_call hbq hb2
      replace q0 := q0.kept hb2 q0.size
      replace q1 := q1.kept hb2 q1.size
      replace q2 := q2.kept hb2 q2.size
      replace q3 := q3.kept hb2 q3.size
      clear hb2 k0 k1 k2 k3 k4 k5 k6 k7 k8 k9 k10 k11 k12 k13
      have hblk := q0
      have k0 := hblk.cell_some 0 _ rfl; have k1 := hblk.cell_some 1 _ rfl; have k2 := hblk.cell_some 2 _ rfl; have k3 := hblk.cell_some 3 _ rfl; have k4 := hblk.cell_some 4 _ rfl; have k5 := hblk.cell_some 5 _ rfl; have k6 := hblk.cell_some 6 _ rfl; have k7 := hblk.cell_some 7 _ rfl; have k8 := hblk.cell_some 8 _ rfl; have k9 := hblk.cell_some 9 _ rfl; have k10 := hblk.cell_some 10 _ rfl; have k11 := hblk.cell_some 11 _ rfl; have k12 := hblk.cell_some 12 _ rfl; have k13 := hblk.cell_some 13 _ rfl
      clear hblk
      go_wp2_with fail
      refine (G2.out _ hbq).mono ?_
      rintro e w21 ⟨rfl, hb2⟩
      replace hblB := gr_call hblB hb2
      replace hbq := gr_call hbq hb2
      replace q1 := q1.kept hb2 q1.size
      replace q2 := q2.kept hb2 q2.size
      replace q3 := q3.kept hb2 q3.size
      clear hb2 k0 k1 k2 k3 k4 k5 k6 k7 k8 k9 k10 k11 k12 k13
      have hblk := q1
      have k0 := hblk.cell_some 0 _ rfl; have k1 := hblk.cell_some 1 _ rfl; have k2 := hblk.cell_some 2 _ rfl; have k3 := hblk.cell_some 3 _ rfl; have k4 := hblk.cell_some 4 _ rfl; have k5 := hblk.cell_some 5 _ rfl; have k6 := hblk.cell_some 6 _ rfl; have k7 := hblk.cell_some 7 _ rfl; have k8 := hblk.cell_some 8 _ rfl; have k9 := hblk.cell_some 9 _ rfl; have k10 := hblk.cell_some 10 _ rfl; have k11 := hblk.cell_some 11 _ rfl; have k12 := hblk.cell_some 12 _ rfl; have k13 := hblk.cell_some 13 _ rfl
      clear hblk
      go_wp2_with fail
      refine (G3.out _ ).mono ?_
      rintro e w22 ⟨rfl, hb2⟩
      replace hblB := gr_call hblB hb2
      replace hbq := gr_call hbq hb2
      replace q2 := q2.kept hb2 q2.size
      replace q3 := q3.kept hb2 q3.size
      clear hb2 k0 k1 k2 k3 k4 k5 k6 k7 k8 k9 k10 k11 k12 k13
      have hblk := q2
      have k0 := hblk.cell_some 0 _ rfl; have k1 := hblk.cell_some 1 _ rfl; have k2 := hblk.cell_some 2 _ rfl; have k3 := hblk.cell_some 3 _ rfl; have k4 := hblk.cell_some 4 _ rfl; have k5 := hblk.cell_some 5 _ rfl; have k6 := hblk.cell_some 6 _ rfl; have k7 := hblk.cell_some 7 _ rfl; have k8 := hblk.cell_some 8 _ rfl; have k9 := hblk.cell_some 9 _ rfl; have k10 := hblk.cell_some 10 _ rfl; have k11 := hblk.cell_some 11 _ rfl; have k12 := hblk.cell_some 12 _ rfl; have k13 := hblk.cell_some 13 _ rfl
      clear hblk
      go_wp2_with fail
      refine (G4.out _ hbq).mono ?_
      rintro e w23 ⟨rfl, hb2⟩
      replace hblB := gr_call hblB hb2
      replace hbq := gr_call hbq hb2
      replace q3 := q3.kept hb2 q3.size
      clear hb2 k0 k1 k2 k3 k4 k5 k6 k7 k8 k9 k10 k11 k12 k13
      have hblk := q3
      have k0 := hblk.cell_some 0 _ rfl; have k1 := hblk.cell_some 1 _ rfl; have k2 := hblk.cell_some 2 _ rfl; have k3 := hblk.cell_some 3 _ rfl; have k4 := hblk.cell_some 4 _ rfl; have k5 := hblk.cell_some 5 _ rfl; have k6 := hblk.cell_some 6 _ rfl; have k7 := hblk.cell_some 7 _ rfl; have k8 := hblk.cell_some 8 _ rfl; have k9 := hblk.cell_some 9 _ rfl; have k10 := hblk.cell_some 10 _ rfl; have k11 := hblk.cell_some 11 _ rfl; have k12 := hblk.cell_some 12 _ rfl; have k13 := hblk.cell_some 13 _ rfl
      clear hblk
      go_wp2_with fail
      refine (G5.out _ ).mono ?_
      rintro e w24 ⟨rfl, hb2⟩
      replace hblB := gr_call hblB hb2
      replace hbq := gr_call hbq hb2
      clear hb2 k0 k1 k2 k3 k4 k5 k6 k7 k8 k9 k10 k11 k12 k13
      go_wp2_with fail
      refine (awake_any _).mono ?_
      rintro e w30 ⟨rfl, hb2⟩
      replace hblB := gr_call hblB hb2
      clear hb2
      go_wp2_with fail
      go_ret
      exact ⟨rfl, hblB⟩
end Go.Proofs.Ytajjhndpdjfcpaa
