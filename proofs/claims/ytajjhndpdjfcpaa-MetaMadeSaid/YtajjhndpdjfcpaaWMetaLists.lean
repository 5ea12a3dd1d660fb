/- The law MetaLists, walked. -/
import Derived.Test.YtajjhndpdjfcpaaMetaAwake
import Derived.Test.YtajjhndpdjfcpaaAwMake
import Derived.Test.YtajjhndpdjfcpaaAwPackSort
namespace Go.Proofs.Ytajjhndpdjfcpaa
open Go.RowKit
open MetaM
set_option linter.unusedVariables false
/-- Three numbers and a list. -/
def MetaM.listM (a b c : Int) (l : List AclM.Ace) : Mt := ⟨a, b, c, 0, 0, l, [], [], ⟨0, 0, 0, false, 0⟩, 0⟩
theorem beq_same (b : Bool) : (b == b) = true := by cases b <;> rfl
theorem AclW.may_len {l : List AclM.Ace} (h : AclM.may l = true) : l.length ≤ 32 := (may_iff.1 h).1
theorem xat_nil : XatM.mayL [] = true := rfl
theorem cap_zero : CapsM.may ⟨0, 0, 0, false, 0⟩ = true := rfl
theorem list_may {n : Int} {l : List AclM.Ace} (h0 : 0 ≤ n) (h1 : n ≤ 4095) (hl : AclM.may l = true) : mayM (listM n 0 0 l) 1 = decide (AclW.modeL l = n % 512) := by
  have h2 := AclW.may_two hl
  unfold mayM listM
  simp only [xat_nil]
  rw [show kindIn 1 = true by rfl, show modeOk n = true by unfold modeOk; rw [decide_eq_true h0, decide_eq_true h1]; rfl, show idOk 0 = true by rfl, show stampOk 0 0 = true by rfl, show flagsOk 0 = true by rfl,
    show dflOk [] 1 = true by rfl, show capOk ⟨0, 0, 0, false, 0⟩ 1 = true by rfl]
  unfold aclOk symOk
  rw [hl, decide_eq_false (show ¬ l.length = 0 by omega)]
  simp
theorem plain_may {n : Int} (h0 : 0 ≤ n) (h1 : n ≤ 4095) : mayM (plainM n 0 0) 1 = true := by
  unfold mayM plainM
  simp only [xat_nil]
  rw [show kindIn 1 = true by rfl, show modeOk n = true by unfold modeOk; rw [decide_eq_true h0, decide_eq_true h1]; rfl, show idOk 0 = true by rfl, show stampOk 0 0 = true by rfl, show flagsOk 0 = true by rfl,
    show dflOk [] 1 = true by rfl, show capOk ⟨0, 0, 0, false, 0⟩ 1 = true by rfl]
  unfold aclOk symOk
  simp
theorem list_other {n : Int} {l : List AclM.Ace} (hl : AclM.may l = true) : sameM (listM n 0 0 l) (plainM n 0 0) = false := by
  have h2 := AclW.may_two hl
  unfold sameM listM plainM
  simp only
  rw [show AclW.sameL l [] = false from decide_eq_false (fun e => by rw [e] at h2; simp at h2)]
  simp
theorem isRow_le {k : IntKind} {w : World} {a : Option Addr} {len cap : Nat} {zs : List Int} (h : IsRow k w a len cap zs) : len ≤ 9223372036854775807 := by
  rcases h with ⟨_, h, _⟩ | ⟨_, _, h1, h2, _⟩
  · omega
  · unfold maxLen at h2; omega
theorem isRow_call {k : IntKind} {w w1 : World} {a : Option Addr} {len cap : Nat} {zs : List Int} (h : IsRow k w a len cap zs) (hb : Below w.heap.size w w1) : IsRow k w1 a len cap zs := by
  rcases h with h | ⟨x, h0, h1, h2, h3, h4, h5⟩
  · exact .inl h
  · exact .inr ⟨x, h0, h1, h2, h3, fun i hi => cell_kept hb (h4 i hi), h5⟩
attribute [local irreducible] Row At

set_option maxHeartbeats 6400000 in
set_option maxRecDepth 100000 in
theorem metaLists_walk (a0 : Option Addr) (len0 cap0 : Nat) (z0 : List Int) (a b : Int) (w : World) (w0 : IsRow .u8 w a0 len0 cap0 z0) (w1 : (Lit.int .u16 a).wf = true) (w2 : (Lit.int .u16 b).wf = true) :
    Calls Try.prog 6 #[.slice a0 len0 cap0, .int .u16 a, .int .u16 b] w fun e w' => e = .returned (.bool true) ∧ Below w.heap.size w w' := by
  have ha : 0 ≤ a ∧ a < 65536 := by simp [Lit.wf] at w1; have h1 : IntKind.u16.min = 0 := rfl; have h2 : IntKind.u16.max = 65535 := rfl; omega
  have hb : 0 ≤ b ∧ b < 65536 := by simp [Lit.wf] at w2; have h1 : IntKind.u16.min = 0 := rfl; have h2 : IntKind.u16.max = 65535 := rfl; omega
  have hlen : len0 ≤ 9223372036854775807 := isRow_le w0
  clear w1 w2
  have HP := Lib.hid (refPlain_any (a % 4096) 0 0)
  unfold metaC plainM nilV at HP
  simp only at HP
  have HMk := Lib.hid (fun W (h : Below w.heap.size w W) => AclW.make_any a0 len0 cap0 z0 (b % 512) W (isRow_call w0 h) (by omega) (by omega) hlen)
  clear w0 hlen
  go_enter Try.func6, Try.ntmps6
  go_wp2_with fail
  refine (HP.out _).mono ?_
  rintro e w1 ⟨rfl, hb1⟩
  have hbl : Below w.heap.size w (w1.alloc (.cells #[.int .i64 (a % 4096), .int .i64 0, .int .i64 0, .int .i64 0, .int .i64 0, .slice none 0 0, .slice none 0 0, .slice none 0 0, .int .i64 0, .int .u64 0, .int .u64 0, .bool false, .int .i64 0, .int .i64 0] 30)) := gr_alloc hb1 _
  have hblk := BlkIs.made w1 30 #[.int .i64 (a % 4096), .int .i64 0, .int .i64 0, .int .i64 0, .int .i64 0, .slice none 0 0, .slice none 0 0, .slice none 0 0, .int .i64 0, .int .u64 0, .int .u64 0, .bool false, .int .i64 0, .int .i64 0]
  go_wp2_with fail
  have hb1n : w.heap.size ≤ w1.heap.size := hb1.size
  have hN : (w1.alloc (.cells #[.int .i64 (a % 4096), .int .i64 0, .int .i64 0, .int .i64 0, .int .i64 0, .slice none 0 0, .slice none 0 0, .slice none 0 0, .int .i64 0, .int .u64 0, .int .u64 0, .bool false, .int .i64 0, .int .i64 0] 30)).heap.size = w1.heap.size + 1 := by simp
  refine (HMk.out _ hbl).mono ?_
  rintro e w2 ⟨⟨v, l, rfl, hR, hmay, hmd⟩, hb2⟩
  replace hbl := gr_call hbl hb2
  replace hblk := hblk.kept hb2 hblk.size
  rw [hN] at hR
  clear hb2 hb1 hN HP HMk
  generalize w1.heap.size = b1 at *
  have hown : v.ownBlock ≠ some b1 := fun e => by have := (hR.lt _ e).1; omega
  obtain ⟨pv, cv, hsh, _⟩ := hR.at.shape
  have hl2 := AclW.may_two hmay
  obtain ⟨nl, hnl⟩ : ∃ n, l.length = n := ⟨_, rfl⟩
  have HNL := Lib.hid hnl
  rw [hnl] at hsh hl2
  clear hnl
  subst hsh
  have k5 := hblk.cell_some 5 _ rfl
  have f5 := hblk.free 5
  obtain ⟨W3, hW3⟩ : ∃ W3, w2.setCell ⟨b1, 5, none⟩ (.slice pv nl cv) = W3 := ⟨_, rfl⟩
  have hblk3 : BlkIs W3 b1 30 #[.int .i64 (a % 4096), .int .i64 0, .int .i64 0, .int .i64 0, .int .i64 0, .slice pv nl cv, .slice none 0 0, .slice none 0 0, .int .i64 0, .int .u64 0, .int .u64 0, .bool false, .int .i64 0, .int .i64 0] := by rw [← hW3]; exact hblk.put 5 (.slice pv nl cv)
  have hbl3 : Below w.heap.size w W3 := by rw [← hW3]; exact gr_set hbl (p := ⟨b1, 5, none⟩) hb1n (.slice pv nl cv)
  have hat3 : At AclW.aceE (.slice pv nl cv) l W3 := by rw [← hW3]; exact (hR.other (a := ⟨b1, 5, none⟩) hown (.slice pv nl cv)).at
  have hlt3 := hblk3.size
  clear hbl hR
  generalize hblkX : hblk = hblk0
  clear hblkX
  have hblkk := hblk3
  clear hblk
  have hblk := hblkk
  have k0 := hblk.cell_some 0 _ rfl; have k1 := hblk.cell_some 1 _ rfl; have k2 := hblk.cell_some 2 _ rfl; have k3 := hblk.cell_some 3 _ rfl; have k4 := hblk.cell_some 4 _ rfl; have k5 := hblk.cell_some 5 _ rfl; have k6 := hblk.cell_some 6 _ rfl; have k7 := hblk.cell_some 7 _ rfl; have k8 := hblk.cell_some 8 _ rfl; have k9 := hblk.cell_some 9 _ rfl; have k10 := hblk.cell_some 10 _ rfl; have k11 := hblk.cell_some 11 _ rfl; have k12 := hblk.cell_some 12 _ rfl; have k13 := hblk.cell_some 13 _ rfl
  have hbl : Below w.heap.size w (W3.alloc (.cells #[.int .i64 (a % 4096), .int .i64 0, .int .i64 0, .int .i64 0, .int .i64 0, .slice none 0 0, .slice none 0 0, .slice none 0 0, .int .i64 0, .int .u64 0, .int .u64 0, .bool false, .int .i64 0, .int .i64 0] 30)) := gr_alloc hbl3 _
  have hbq : Below W3.heap.size W3 (W3.alloc (.cells #[.int .i64 (a % 4096), .int .i64 0, .int .i64 0, .int .i64 0, .int .i64 0, .slice none 0 0, .slice none 0 0, .slice none 0 0, .int .i64 0, .int .u64 0, .int .u64 0, .bool false, .int .i64 0, .int .i64 0] 30)) := gr_alloc (Below.refl _ _) _
  have hblj : BlkIs (W3.alloc (.cells #[.int .i64 (a % 4096), .int .i64 0, .int .i64 0, .int .i64 0, .int .i64 0, .slice none 0 0, .slice none 0 0, .slice none 0 0, .int .i64 0, .int .u64 0, .int .u64 0, .bool false, .int .i64 0, .int .i64 0] 30)) W3.heap.size 30 #[.int .i64 (a % 4096), .int .i64 0, .int .i64 0, .int .i64 0, .int .i64 0, .slice none 0 0, .slice none 0 0, .slice none 0 0, .int .i64 0, .int .u64 0, .int .u64 0, .bool false, .int .i64 0, .int .i64 0] := BlkIs.made W3 30 #[.int .i64 (a % 4096), .int .i64 0, .int .i64 0, .int .i64 0, .int .i64 0, .slice none 0 0, .slice none 0 0, .slice none 0 0, .int .i64 0, .int .u64 0, .int .u64 0, .bool false, .int .i64 0, .int .i64 0]
  have hmA : ∀ W, Below W3.heap.size W3 W → MetaAt (listM (a % 4096) 0 0 l) (.slice pv nl cv) nilV nilV W := fun W h => ⟨hat3.call h, At.nil _, At.nil _, by have := AclW.may_len hmay; simp [listM]; omega, by simp [listM], by simp [listM]⟩
  have G1 := Lib.hid (fun W (h : Below W3.heap.size W3 W) => MayM_any _ _ _ _ 1 W (hmA W h))
  have G2 := Lib.hid (fun W => MayM_any (plainM (a % 4096) 0 0) nilV nilV nilV 1 W (plain_at _ _ _ W))
  have G3 := Lib.hid (fun W (h : Below W3.heap.size W3 W) => SameM_any _ _ _ _ _ _ _ _ W (hmA W h) (plain_at (a % 4096) 0 0 W))
  rw [show mayM (listM (a % 4096) 0 0 l) 1 = (a % 512 == b % 512) by
    rw [list_may (by omega) (by omega) hmay, hmd, Bool.eq_iff_iff, decide_eq_true_eq, beq_iff_eq]
    omega] at G1
  rw [show mayM (plainM (a % 4096) 0 0) 1 = true from plain_may (by omega) (by omega)] at G2
  rw [show sameM (listM (a % 4096) 0 0 l) (plainM (a % 4096) 0 0) = false from list_other hmay] at G3
  unfold metaC nilV listM at G1
  unfold metaC nilV plainM at G2
  unfold metaC nilV plainM listM at G3
  simp only at G1 G2 G3
  have hself : ((a % 512 == b % 512) == (a % 512 == b % 512)) = true := beq_same _
  clear hat3 hbl3 hmA hmay hmd HNL
  clear hblkk hblk3
  go_wp2_with fail
  refine (G1.out _ hbq).mono ?_
  rintro e w4 ⟨rfl, hb2⟩
  replace hbl := gr_call hbl hb2
  replace hbq := gr_call hbq hb2
  replace hblk := hblk.kept (gr_call (gr_alloc (Below.refl _ _) _) hb2) hblk.size
  replace hblj := hblj.kept hb2 hblj.size
  clear hb2
  clear k0 k1 k2 k3 k4 k5 k6 k7 k8 k9 k10 k11 k12 k13
  have k0 := hblk.cell_some 0 _ rfl; have k1 := hblk.cell_some 1 _ rfl; have k2 := hblk.cell_some 2 _ rfl; have k3 := hblk.cell_some 3 _ rfl; have k4 := hblk.cell_some 4 _ rfl; have k5 := hblk.cell_some 5 _ rfl; have k6 := hblk.cell_some 6 _ rfl; have k7 := hblk.cell_some 7 _ rfl; have k8 := hblk.cell_some 8 _ rfl; have k9 := hblk.cell_some 9 _ rfl; have k10 := hblk.cell_some 10 _ rfl; have k11 := hblk.cell_some 11 _ rfl; have k12 := hblk.cell_some 12 _ rfl; have k13 := hblk.cell_some 13 _ rfl
  have j0 := hblj.cell_some 0 _ rfl; have j1 := hblj.cell_some 1 _ rfl; have j2 := hblj.cell_some 2 _ rfl; have j3 := hblj.cell_some 3 _ rfl; have j4 := hblj.cell_some 4 _ rfl; have j5 := hblj.cell_some 5 _ rfl; have j6 := hblj.cell_some 6 _ rfl; have j7 := hblj.cell_some 7 _ rfl; have j8 := hblj.cell_some 8 _ rfl; have j9 := hblj.cell_some 9 _ rfl; have j10 := hblj.cell_some 10 _ rfl; have j11 := hblj.cell_some 11 _ rfl; have j12 := hblj.cell_some 12 _ rfl; have j13 := hblj.cell_some 13 _ rfl
  go_wp2_with fail
  refine (G2.out _).mono ?_
  rintro e w5 ⟨rfl, hb2⟩
  replace hbq := gr_call hbq hb2
  replace hbl := gr_call hbl hb2; replace hblk := hblk.kept hb2 hblk.size; replace hblj := hblj.kept hb2 hblj.size; clear hb2; clear k0 k1 k2 k3 k4 k5 k6 k7 k8 k9 k10 k11 k12 k13 j0 j1 j2 j3 j4 j5 j6 j7 j8 j9 j10 j11 j12 j13; have k0 := hblk.cell_some 0 _ rfl; have k1 := hblk.cell_some 1 _ rfl; have k2 := hblk.cell_some 2 _ rfl; have k3 := hblk.cell_some 3 _ rfl; have k4 := hblk.cell_some 4 _ rfl; have k5 := hblk.cell_some 5 _ rfl; have k6 := hblk.cell_some 6 _ rfl; have k7 := hblk.cell_some 7 _ rfl; have k8 := hblk.cell_some 8 _ rfl; have k9 := hblk.cell_some 9 _ rfl; have k10 := hblk.cell_some 10 _ rfl; have k11 := hblk.cell_some 11 _ rfl; have k12 := hblk.cell_some 12 _ rfl; have k13 := hblk.cell_some 13 _ rfl; have j0 := hblj.cell_some 0 _ rfl; have j1 := hblj.cell_some 1 _ rfl; have j2 := hblj.cell_some 2 _ rfl; have j3 := hblj.cell_some 3 _ rfl; have j4 := hblj.cell_some 4 _ rfl; have j5 := hblj.cell_some 5 _ rfl; have j6 := hblj.cell_some 6 _ rfl; have j7 := hblj.cell_some 7 _ rfl; have j8 := hblj.cell_some 8 _ rfl; have j9 := hblj.cell_some 9 _ rfl; have j10 := hblj.cell_some 10 _ rfl; have j11 := hblj.cell_some 11 _ rfl; have j12 := hblj.cell_some 12 _ rfl; have j13 := hblj.cell_some 13 _ rfl
  go_wp2_with fail
  refine (G3.out _ hbq).mono ?_
  rintro e w6 ⟨rfl, hb2⟩
  replace hbq := gr_call hbq hb2
  replace hbl := gr_call hbl hb2; replace hblk := hblk.kept hb2 hblk.size; replace hblj := hblj.kept hb2 hblj.size; clear hb2; clear k0 k1 k2 k3 k4 k5 k6 k7 k8 k9 k10 k11 k12 k13 j0 j1 j2 j3 j4 j5 j6 j7 j8 j9 j10 j11 j12 j13; have k0 := hblk.cell_some 0 _ rfl; have k1 := hblk.cell_some 1 _ rfl; have k2 := hblk.cell_some 2 _ rfl; have k3 := hblk.cell_some 3 _ rfl; have k4 := hblk.cell_some 4 _ rfl; have k5 := hblk.cell_some 5 _ rfl; have k6 := hblk.cell_some 6 _ rfl; have k7 := hblk.cell_some 7 _ rfl; have k8 := hblk.cell_some 8 _ rfl; have k9 := hblk.cell_some 9 _ rfl; have k10 := hblk.cell_some 10 _ rfl; have k11 := hblk.cell_some 11 _ rfl; have k12 := hblk.cell_some 12 _ rfl; have k13 := hblk.cell_some 13 _ rfl; have j0 := hblj.cell_some 0 _ rfl; have j1 := hblj.cell_some 1 _ rfl; have j2 := hblj.cell_some 2 _ rfl; have j3 := hblj.cell_some 3 _ rfl; have j4 := hblj.cell_some 4 _ rfl; have j5 := hblj.cell_some 5 _ rfl; have j6 := hblj.cell_some 6 _ rfl; have j7 := hblj.cell_some 7 _ rfl; have j8 := hblj.cell_some 8 _ rfl; have j9 := hblj.cell_some 9 _ rfl; have j10 := hblj.cell_some 10 _ rfl; have j11 := hblj.cell_some 11 _ rfl; have j12 := hblj.cell_some 12 _ rfl; have j13 := hblj.cell_some 13 _ rfl
  go_wp2_with fail
  refine (awake_any _).mono ?_
  rintro e w7 ⟨rfl, hb2⟩
  replace hbl := gr_call hbl hb2; replace hblk := hblk.kept hb2 hblk.size; replace hblj := hblj.kept hb2 hblj.size; clear hb2; clear k0 k1 k2 k3 k4 k5 k6 k7 k8 k9 k10 k11 k12 k13 j0 j1 j2 j3 j4 j5 j6 j7 j8 j9 j10 j11 j12 j13; have k0 := hblk.cell_some 0 _ rfl; have k1 := hblk.cell_some 1 _ rfl; have k2 := hblk.cell_some 2 _ rfl; have k3 := hblk.cell_some 3 _ rfl; have k4 := hblk.cell_some 4 _ rfl; have k5 := hblk.cell_some 5 _ rfl; have k6 := hblk.cell_some 6 _ rfl; have k7 := hblk.cell_some 7 _ rfl; have k8 := hblk.cell_some 8 _ rfl; have k9 := hblk.cell_some 9 _ rfl; have k10 := hblk.cell_some 10 _ rfl; have k11 := hblk.cell_some 11 _ rfl; have k12 := hblk.cell_some 12 _ rfl; have k13 := hblk.cell_some 13 _ rfl; have j0 := hblj.cell_some 0 _ rfl; have j1 := hblj.cell_some 1 _ rfl; have j2 := hblj.cell_some 2 _ rfl; have j3 := hblj.cell_some 3 _ rfl; have j4 := hblj.cell_some 4 _ rfl; have j5 := hblj.cell_some 5 _ rfl; have j6 := hblj.cell_some 6 _ rfl; have j7 := hblj.cell_some 7 _ rfl; have j8 := hblj.cell_some 8 _ rfl; have j9 := hblj.cell_some 9 _ rfl; have j10 := hblj.cell_some 10 _ rfl; have j11 := hblj.cell_some 11 _ rfl; have j12 := hblj.cell_some 12 _ rfl; have j13 := hblj.cell_some 13 _ rfl
  go_wp2_with fail
  go_ret
  exact ⟨rfl, hbl⟩
end Go.Proofs.Ytajjhndpdjfcpaa
