/- Bundle of 2 texts. -/
import Derived.Test.YtpfidbcnefnhcaaPk07
import Derived.Test.YtpfidbcnefnhcaaPk01
/- The document's example of who may what. -/
namespace Go.Proofs.Ytpfidbcnefnhcaa
open Go.RowKit
open MetaM RightM AclM
set_option linter.unusedVariables false
attribute [local irreducible] Row At
theorem plain_call (a b c : Int) (w : World) : Calls Try.prog 22 #[.int .i64 a, .int .i64 b, .int .i64 c] w fun e w' => e = .returned (.agg (metaC (plainM a b c) nilV nilV nilV)) ∧ Below w.heap.size w w' := by
  have hb := plain_build a b c
  go_enter Try.func22, Try.ntmps22
  go_wp2_with fail
  refine bodyPost_ret (v := .agg (metaC (plainM a b c) nilV nilV nilV)) (by simp [results, Try.results22, go_sem, metaC, plainM, nilV]) rfl ⟨rfl, by (repeat' (first | exact Below.refl _ _ | assumption | refine gr_drew ?_ | refine gr_drewN ?_ _ | refine gr_alloc ?_ _ | refine gr_set ?_ ?_ _ | refine gr_call ?_ (by assumption)) <;> (try (simp; done)) <;> (try (simp; omega)) <;> (try omega))⟩
theorem plain_right (a b c : Int) (h : InRange a) (w : World) : RightAt (plainM a b c) nilV nilV nilV w := ⟨At.nil _, by simp [plainM], .inl rfl, h⟩
theorem cred_none (u g p : Int) (w : World) : CredAt ⟨u, g, [], p⟩ nilV w := ⟨At.nil _, by simp⟩
set_option maxHeartbeats 3200000 in
set_option maxRecDepth 100000 in
theorem awake18 (w : World) : Calls Try.prog 11 #[] w fun e w' => e = .returned (.bool true) ∧ Below w.heap.size w w' := by
  have HPl := Lib.hid (fun W => plain_call 256 5 5 W)
  have H1 := Lib.hid (fun W => can_any (plainM 256 5 5) nilV nilV nilV ⟨5, 0, [], 0⟩ nilV 4 W (plain_right 256 5 5 (by unfold InRange; omega) W) (cred_none 5 0 0 W))
  have H2 := Lib.hid (fun W => can_any (plainM 256 5 5) nilV nilV nilV ⟨5, 0, [], 0⟩ nilV 2 W (plain_right 256 5 5 (by unfold InRange; omega) W) (cred_none 5 0 0 W))
  have H3 := Lib.hid (fun W => can_any (plainM 256 5 5) nilV nilV nilV ⟨6, 0, [], 0⟩ nilV 4 W (plain_right 256 5 5 (by unfold InRange; omega) W) (cred_none 6 0 0 W))
  rw [show canM (plainM 256 5 5) ⟨5, 0, [], 0⟩ 4 = true by decide +kernel] at H1
  rw [show canM (plainM 256 5 5) ⟨5, 0, [], 0⟩ 2 = false by decide +kernel] at H2
  rw [show canM (plainM 256 5 5) ⟨6, 0, [], 0⟩ 4 = false by decide +kernel] at H3
  unfold metaC credC plainM nilV at H1 H2 H3
  unfold metaC plainM nilV at HPl
  simp only at HPl H1 H2 H3
  have s0 := True.intro
  go_enter Try.func11, Try.ntmps11
  go_wp2_with (first
    | (go_at_call 22; refine (HPl.out _).mono ?_; rintro e w1 ⟨rfl, hb1⟩)
    | (go_at_call 14; have s9 := s0; clear s9 s0; refine (H1.out _).mono ?_; rintro e w2 ⟨rfl, hb2⟩; have hblk := (BlkIs.made w1 30 #[.int .i64 256, .int .i64 5, .int .i64 5, .int .i64 0, .int .i64 0, .slice none 0 0, .slice none 0 0, .slice none 0 0, .int .i64 0, .int .u64 0, .int .u64 0, .bool false, .int .i64 0, .int .i64 0]).kept hb2 (by simp); have hbl := gr_call (gr_alloc hb1 _) hb2; clear hb1 hb2; have s1 := True.intro; have k0 := hblk.cell_some 0 _ rfl; have k1 := hblk.cell_some 1 _ rfl; have k2 := hblk.cell_some 2 _ rfl; have k3 := hblk.cell_some 3 _ rfl; have k4 := hblk.cell_some 4 _ rfl; have k5 := hblk.cell_some 5 _ rfl; have k6 := hblk.cell_some 6 _ rfl; have k7 := hblk.cell_some 7 _ rfl; have k8 := hblk.cell_some 8 _ rfl; have k9 := hblk.cell_some 9 _ rfl; have k10 := hblk.cell_some 10 _ rfl; have k11 := hblk.cell_some 11 _ rfl; have k12 := hblk.cell_some 12 _ rfl; have k13 := hblk.cell_some 13 _ rfl)
    | (go_at_call 14; have s9 := s1; clear s9 s1; refine (H2.out _).mono ?_; rintro e w3 ⟨rfl, hb2⟩; replace hblk := hblk.kept hb2 hblk.size; replace hbl := gr_call hbl hb2; clear hb2 k0 k1 k2 k3 k4 k5 k6 k7 k8 k9 k10 k11 k12 k13; have k0 := hblk.cell_some 0 _ rfl; have k1 := hblk.cell_some 1 _ rfl; have k2 := hblk.cell_some 2 _ rfl; have k3 := hblk.cell_some 3 _ rfl; have k4 := hblk.cell_some 4 _ rfl; have k5 := hblk.cell_some 5 _ rfl; have k6 := hblk.cell_some 6 _ rfl; have k7 := hblk.cell_some 7 _ rfl; have k8 := hblk.cell_some 8 _ rfl; have k9 := hblk.cell_some 9 _ rfl; have k10 := hblk.cell_some 10 _ rfl; have k11 := hblk.cell_some 11 _ rfl; have k12 := hblk.cell_some 12 _ rfl; have k13 := hblk.cell_some 13 _ rfl)
    | (go_at_call 14; refine (H3.out _).mono ?_; rintro e w4 ⟨rfl, hb2⟩; replace hbl := gr_call hbl hb2; clear hb2))
  go_ret
  exact ⟨by rfl, hbl⟩
end Go.Proofs.Ytpfidbcnefnhcaa

/- Slices of access lists: from a place on, up to a place. -/
namespace Go.Proofs.Ytpfidbcnefnhcaa.AclW
open Go.RowKit
open AclM
set_option linter.unusedVariables false

theorem slice_from {v : Value} {l : List Ace} {w : World} (h : At aceE v l w) {k : Nat} (hk : k ≤ l.length) :
    ∃ v', (∀ W, (Instr.sliceAt 24 v (some (.int .i64 (k : Int))) none none).run Try.prog W = .ok v' W) ∧ (∀ W, At aceE v l W → At aceE v' (l.drop k) W) ∧ v'.ownBlock = v.ownBlock := by
  rcases h with ⟨rfl, rfl | ⟨ad, cap, rfl⟩⟩ | ⟨g, off, cap, rfl, hc, hg, hj⟩
  · simp at hk
    subst hk
    exact ⟨.slice none 0 0, fun W => by simp [go_sem], fun W h => .inl ⟨by simp, .inl rfl⟩, rfl⟩
  · simp at hk
    subst hk
    exact ⟨.slice (some ad) 0 cap, fun W => by simp [go_sem], fun W h => .inl ⟨by simp, .inr ⟨_, _, rfl⟩⟩, rfl⟩
  · refine ⟨.slice (if cap = k then some ⟨g, off, none⟩ else some ⟨g, off + k * 3, none⟩) (l.length - k) (cap - k), fun W => by simp [go_sem, hk], fun W h => ?_, ?_⟩
    · by_cases he : k = l.length
      · refine .inl ⟨by simp [he], .inr ?_⟩
        split
        · exact ⟨_, _, by rw [he, Nat.sub_self]⟩
        · exact ⟨_, _, by rw [he, Nat.sub_self]⟩
      · rw [if_neg (by omega)]
        obtain ⟨g', off', cap', e, _, hg', hj'⟩ := ace_open h (by intro e; rw [e] at hk he; simp at hk he; omega)
        cases e
        refine ace_at (by simp) (by simp; omega) hg' ?_
        intro j hj
        have hj2 : k + j < l.length := by simp at hj; omega
        have := hj' (k + j) hj2
        rw [show off + (k + j) * 3 = off + k * 3 + j * 3 by omega] at this
        rw [List.getElem_drop]
        exact this
    · split <;> rfl
theorem slice_upto {v : Value} {l : List Ace} {w : World} (h : At aceE v l w) {k : Nat} (hk : k ≤ l.length) :
    ∃ v', (∀ W, (Instr.sliceAt 24 v none (some (.int .i64 (k : Int))) none).run Try.prog W = .ok v' W) ∧ (∀ W, At aceE v l W → At aceE v' (l.take k) W) ∧ v'.ownBlock = v.ownBlock := by
  rcases h with ⟨rfl, rfl | ⟨ad, cap, rfl⟩⟩ | ⟨g, off, cap, rfl, hc, hg, hj⟩
  · simp at hk
    subst hk
    exact ⟨.slice none 0 0, fun W => by simp [go_sem], fun W h => .inl ⟨by simp, .inl rfl⟩, rfl⟩
  · simp at hk
    subst hk
    exact ⟨.slice (some ad) 0 cap, fun W => by simp [go_sem], fun W h => .inl ⟨by simp, .inr ⟨_, _, rfl⟩⟩, rfl⟩
  · refine ⟨.slice (some ⟨g, off, none⟩) k cap, fun W => by simp [go_sem, show k ≤ cap by omega], fun W h => ?_, rfl⟩
    by_cases h0 : k = 0
    · exact .inl ⟨by simp [h0], .inr ⟨_, _, by rw [h0]⟩⟩
    · obtain ⟨g', off', cap', e, _, hg', hj'⟩ := ace_open h (by intro e; rw [e] at hk; simp at hk; omega)
      cases e
      refine ace_at (by rw [List.length_take]; omega) (by rw [List.length_take]; omega) hg' ?_
      intro j hj
      rw [List.length_take] at hj
      have := hj' j (by omega)
      rw [List.getElem_take]
      exact this
end Go.Proofs.Ytpfidbcnefnhcaa.AclW
