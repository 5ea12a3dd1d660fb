/- The law AclModes, walked. -/
import Derived.Test.YtdjffnhkfpjafaaDoorAclAwake
namespace Go.Proofs.YtdjffnhkfpjafaaDoor
open Go.RowKit
open AclM DecM
set_option linter.unusedVariables false

theorem from_may (m : Int) : may (fromL m) = true := by
  have key : ∀ a b c : Int, 0 ≤ a → a ≤ 7 → 0 ≤ b → b ≤ 7 → 0 ≤ c → c ≤ 7 → may [(1, 0, a), (3, 0, b), (6, 0, c)] = true := by
    intro a b c h1 h2 h3 h4 h5 h6
    have t : tags [(1, 0, a), (3, 0, b), (6, 0, c)] = true := by simp [tags, has, findN]
    have o : order [(1, 0, a), (3, 0, b), (6, 0, c)] = true := by simp [order, ltA]
    unfold may
    rw [t, o]
    simp [okPart, hasId]
    omega
  exact key _ _ _ (by omega) (by omega) (by omega) (by omega) (by omega) (by omega)
theorem from_mode (m : Int) : modeL (fromL m) = m % 512 := by
  have : modeL (fromL m) = 64 * (m / 64 % 8) + 8 * (m / 8 % 8) + m % 8 := by simp [modeL, fromL, permN, has, findN]
  rw [this]
  omega

set_option maxHeartbeats 1600000 in
theorem aclModes_walk (a0 : Int) (a1 : Int) (w : World) (hA : Amb w) (w0 : (Lit.int .u16 a0).wf = true) (w1 : (Lit.int .u8 a1).wf = true) :
    Calls Tryd.prog 7 #[.int .u16 a0, .int .u8 a1] w fun e w' => e = .returned (.bool true) ∧ Below w.heap.size w w' := by
  have hw0 : 0 ≤ a0 ∧ a0 ≤ 65535 := by simpa [Lit.wf, IntKind.min, IntKind.max, IntKind.signed, IntKind.bits] using w0
  have hw1 : 0 ≤ a1 ∧ a1 ≤ 255 := by simpa [Lit.wf, IntKind.min, IntKind.max, IntKind.signed, IntKind.bits] using w1
  obtain ⟨n, hn⟩ : ∃ n, a0 % 512 = n := ⟨_, rfl⟩
  obtain ⟨m, hm⟩ : ∃ m, n + a1 * 512 = m := ⟨_, rfl⟩
  have hn0 : 0 ≤ n ∧ n < 512 := by omega
  have hfrom := Lib.hid (fun w' => from_any m w' (by omega) (by omega))
  have hmay := Lib.hid (fun v w' (hat : At aceE v (fromL m) w') => may_any v (fromL m) w' hat (by simp [fromL]))
  have hmode := Lib.hid (fun v w' (hat : At aceE v (fromL m) w') => mode_any v (fromL m) w' hat (by simp [fromL]) (may_parts (from_may m)).1)
  rw [from_may] at hmay
  rw [from_mode, show m % 512 = n by omega] at hmode
  have haw := Lib.hid awake_true
  have e1 : m / 64 % 8 = n / 64 := by omega
  have e2 : m / 8 % 8 = bits .and .i64 (n / 8) 7 := by rw [and7]; omega
  have e3 : m % 8 = bits .and .i64 n 7 := by rw [and7]; omega
  have hself : (n == n) = true := beq_self_eq_true n
  have hlen : (fromL m).length = 3 := rfl
  have hl0 : (fromL m)[0]? = some (1, 0, n / 64) := by rw [← e1]; rfl
  have hl1 : (fromL m)[1]? = some (3, 0, bits .and .i64 (n / 8) 7) := by rw [← e2]; rfl
  have hl2 : (fromL m)[2]? = some (6, 0, bits .and .i64 n 7) := by rw [← e3]; rfl
  generalize fromL m = l at *
  clear w0 w1 e1 e2 e3
  subst hn
  go_enter Tryd.func7, Tryd.ntmps7
  go_wp2_with fail
  refine (hfrom.out _).mono ?_
  rintro e w1 ⟨⟨v, rfl, hR⟩, hb1⟩
  have hat := hR.at
  obtain ⟨g, off, cap, rfl, hcap, hg, hcell⟩ := ace_open hat (by intro e; rw [e] at hlen; simp at hlen)
  have key : ∀ (j : Nat) (x : Ace), l[j]? = some x → w1.cell? ⟨g, off + j * 3, none⟩ = some (.int .i64 x.1) ∧ w1.cell? ⟨g, off + j * 3 + 1, none⟩ = some (.int .i64 x.2.1) ∧ w1.cell? ⟨g, off + j * 3 + 2, none⟩ = some (.int .i64 x.2.2) := by
    intro j x hx
    obtain ⟨hj, rfl⟩ := List.getElem?_eq_some_iff.1 hx
    exact hcell j hj
  obtain ⟨c0, c1, c2⟩ := key 0 _ hl0
  obtain ⟨d0, d1, d2⟩ := key 1 _ hl1
  obtain ⟨f0, f1, f2⟩ := key 2 _ hl2
  simp only [Nat.zero_mul, Nat.one_mul, Nat.add_zero, show 2 * 3 = 6 from rfl, Nat.add_assoc, show 3 + 1 = 4 from rfl, show 3 + 2 = 5 from rfl, show 6 + 1 = 7 from rfl, show 6 + 2 = 8 from rfl] at c0 c1 c2 d0 d1 d2 f0 f1 f2
  rw [hlen] at hat hcap
  clear key hcell hl0 hl1 hl2 hR hfrom
  rw [hlen]
  go_wp2_with fail
  refine (hmode.out _ _ hat).mono ?_
  rintro e w2 ⟨rfl, hb2⟩
  have hat2 := hat.call hb2
  replace hb2 := gr_call hb1 hb2
  go_wp2_with fail
  refine (hmay.out _ _ hat2).mono ?_
  rintro e w3 ⟨rfl, hb3⟩
  replace hb3 := gr_call hb2 hb3
  go_wp2_with fail
  refine (haw.out _ (hA.on hb3)).mono ?_
  rintro e w4 ⟨rfl, hb4⟩
  replace hb4 := gr_call hb3 hb4
  go_wp2_with fail
  go_ret
  exact ⟨rfl, hb4⟩
end Go.Proofs.YtdjffnhkfpjafaaDoor
