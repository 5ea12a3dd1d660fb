/- Package meta: its small functions, and those of stamp, flags, caps that it asks. -/
import Derived.Test.YtajjhndpdjfcpaaMetaSmall
import Derived.Test.YtajjhndpdjfcpaaAwSame
import Derived.Recover
namespace Go.Proofs.Ytajjhndpdjfcpaa
open Go.RowKit
open MetaM
set_option linter.unusedVariables false

/-- What the check ends with where it meets what may not be. -/
def noMeta : List PanicEntry := [{ v := .iface 73 (.agg #[]), recovered := false }]
theorem must_yes (w : World) : Calls Try.prog 34 #[.bool true] w fun e w' => e = .returned (.tuple #[]) ∧ w' = w := by
  go_enter Try.func34, Try.ntmps34
  go_wp2_with fail
  exact ⟨rfl, .tuple #[], by first | rfl | simp [results, Try.results34, go_sem], rfl, rfl⟩
theorem must_no (w : World) : Calls Try.prog 34 #[.bool false] w fun e w' => e = .panicked noMeta ∧ w' = w := by
  go_enter Try.func34, Try.ntmps34
  go_wp2_with fail
  exact ⟨rfl, rfl, rfl⟩
theorem mayKind_any (k : Int) (w : World) : Calls Try.prog 35 #[.int .i64 k] w fun e w' => e = .returned (.bool (kindIn k)) ∧ w' = w := by
  go_enter Try.func35, Try.ntmps35
  go_wp2_with fail
  all_goals go_ret
  all_goals refine ⟨?_, rfl⟩
  all_goals show Ending.returned (.bool _) = _
  all_goals refine congrArg (fun b => Ending.returned (.bool b)) ?_
  all_goals unfold kindIn
  all_goals rw [Bool.eq_iff_iff]
  all_goals (simp <;> omega)
theorem mayId_any (n : Int) (w : World) : Calls Try.prog 36 #[.int .i64 n] w fun e w' => e = .returned (.bool (idOk n)) ∧ w' = w := by
  go_enter Try.func36, Try.ntmps36
  go_wp2_with fail
  all_goals go_ret
  all_goals refine ⟨?_, rfl⟩
  all_goals show Ending.returned (.bool _) = _
  all_goals (simp [idOk, *] <;> omega)
theorem goStamp_any (s n : Int) (w : World) : Calls Try.prog 37 #[.agg #[.int .i64 s, .int .i64 n]] w fun e w' => e = .returned (.bool (stampOk s n)) ∧ Below w.heap.size w w' := by
  go_enter Try.func37, Try.ntmps37
  go_wp2_with fail
  all_goals go_ret
  all_goals refine ⟨?_, by (repeat' (first | exact Below.refl _ _ | assumption | refine gr_drew ?_ | refine gr_drewN ?_ _ | refine gr_alloc ?_ _ | refine gr_set ?_ ?_ _ | refine gr_call ?_ (by assumption)) <;> (try (simp; done)) <;> (try (simp; omega)) <;> (try omega))⟩
  all_goals show Ending.returned (.bool _) = _
  all_goals (simp [stampOk, *] <;> omega)
theorem goFlags_any (n : Int) (w : World) : Calls Try.prog 38 #[.int .i64 n] w fun e w' => e = .returned (.bool (flagsOk n)) ∧ w' = w := by
  go_enter Try.func38, Try.ntmps38
  go_wp2_with fail
  all_goals go_ret
  all_goals refine ⟨?_, rfl⟩
  all_goals show Ending.returned (.bool _) = _
  all_goals (simp [flagsOk, *] <;> omega)
open CapsM in
set_option maxHeartbeats 800000 in
theorem goCaps_any (c : Cap) (w : World) :
    Calls Try.prog 54 #[capV c] w fun e w' => e = .returned (.bool (may c)) ∧ Below w.heap.size w w' := by
  obtain ⟨v, p, i, e, r⟩ := c
  unfold capV
  simp only
  by_cases h0 : v = 0
  · subst h0
    have HE := Lib.hid (show may ⟨0, p, i, e, r⟩ = decide (p = 0 ∧ i = 0 ∧ e = false ∧ r = 0) from rfl)
    go_enter Try.func54, Try.ntmps54
    go_wp2_with fail
    all_goals go_ret
    all_goals refine ⟨?_, by (repeat' (first | exact Below.refl _ _ | assumption | refine gr_drew ?_ | refine gr_drewN ?_ _ | refine gr_alloc ?_ _ | refine gr_set ?_ ?_ _ | refine gr_call ?_ (by assumption)) <;> (try (simp; done)) <;> (try (simp; omega)) <;> (try omega))⟩
    all_goals rw [HE.out]
    all_goals show Ending.returned (.bool _) = _
    all_goals simp [*]
  have t0 : (v == 0) = false := by simpa using h0
  by_cases h2 : v = 2
  · subst h2
    have HE := Lib.hid (show may ⟨2, p, i, e, r⟩ = decide (r = 0) from rfl)
    clear t0 h0
    by_cases hr : r = 0
    · have t1 : (r == 0) = true := by simpa using hr
      have HF := Lib.hid (HE.out.trans (decide_eq_true hr))
      clear HE hr
      go_enter Try.func54, Try.ntmps54
      go_wp2_with fail
      go_ret
      exact ⟨by rw [HF.out]; rfl, by (repeat' (first | exact Below.refl _ _ | assumption | refine gr_drew ?_ | refine gr_drewN ?_ _ | refine gr_alloc ?_ _ | refine gr_set ?_ ?_ _ | refine gr_call ?_ (by assumption)) <;> (try (simp; done)) <;> (try (simp; omega)) <;> (try omega))⟩
    · have t1 : (r == 0) = false := by simpa using hr
      have HF := Lib.hid (HE.out.trans (decide_eq_false hr))
      clear HE hr
      go_enter Try.func54, Try.ntmps54
      go_wp2_with fail
      go_ret
      exact ⟨by rw [HF.out]; rfl, by (repeat' (first | exact Below.refl _ _ | assumption | refine gr_drew ?_ | refine gr_drewN ?_ _ | refine gr_alloc ?_ _ | refine gr_set ?_ ?_ _ | refine gr_call ?_ (by assumption)) <;> (try (simp; done)) <;> (try (simp; omega)) <;> (try omega))⟩
  have t2 : (v == 2) = false := by simpa using h2
  by_cases h3 : v = 3
  · subst h3
    have HE := Lib.hid (show may ⟨3, p, i, e, r⟩ = decide (0 ≤ r ∧ r ≤ 2147483647) from rfl)
    clear t0 t2 h0 h2
    by_cases hr : 0 ≤ r
    · by_cases hs : r ≤ 2147483647
      · have t1 : decide (0 ≤ r) = true := decide_eq_true hr
        have t3 : decide (r ≤ 2147483647) = true := decide_eq_true hs
        have HF := Lib.hid (HE.out.trans (decide_eq_true ⟨hr, hs⟩))
        clear HE
        go_enter Try.func54, Try.ntmps54
        go_wp2_with fail
        go_ret
        exact ⟨by rw [HF.out]; rfl, by (repeat' (first | exact Below.refl _ _ | assumption | refine gr_drew ?_ | refine gr_drewN ?_ _ | refine gr_alloc ?_ _ | refine gr_set ?_ ?_ _ | refine gr_call ?_ (by assumption)) <;> (try (simp; done)) <;> (try (simp; omega)) <;> (try omega))⟩
      · have t1 : decide (0 ≤ r) = true := decide_eq_true hr
        have t3 : decide (r ≤ 2147483647) = false := decide_eq_false hs
        have HF := Lib.hid (HE.out.trans (decide_eq_false (fun h => hs h.2)))
        clear HE
        go_enter Try.func54, Try.ntmps54
        go_wp2_with fail
        go_ret
        exact ⟨by rw [HF.out]; rfl, by (repeat' (first | exact Below.refl _ _ | assumption | refine gr_drew ?_ | refine gr_drewN ?_ _ | refine gr_alloc ?_ _ | refine gr_set ?_ ?_ _ | refine gr_call ?_ (by assumption)) <;> (try (simp; done)) <;> (try (simp; omega)) <;> (try omega))⟩
    · have t1 : decide (0 ≤ r) = false := decide_eq_false hr
      have HF := Lib.hid (HE.out.trans (decide_eq_false (fun h => hr h.1)))
      clear HE
      go_enter Try.func54, Try.ntmps54
      go_wp2_with fail
      go_ret
      exact ⟨by rw [HF.out]; rfl, by (repeat' (first | exact Below.refl _ _ | assumption | refine gr_drew ?_ | refine gr_drewN ?_ _ | refine gr_alloc ?_ _ | refine gr_set ?_ ?_ _ | refine gr_call ?_ (by assumption)) <;> (try (simp; done)) <;> (try (simp; omega)) <;> (try omega))⟩
  have t3 : (v == 3) = false := by simpa using h3
  have HF := Lib.hid (show may ⟨v, p, i, e, r⟩ = false by unfold may; simp only; rw [if_neg h0, if_neg h2, if_neg h3])
  clear h0 h2 h3
  go_enter Try.func54, Try.ntmps54
  go_wp2_with fail
  go_ret
  exact ⟨by rw [HF.out]; rfl, by (repeat' (first | exact Below.refl _ _ | assumption | refine gr_drew ?_ | refine gr_drewN ?_ _ | refine gr_alloc ?_ _ | refine gr_set ?_ ?_ _ | refine gr_call ?_ (by assumption)) <;> (try (simp; done)) <;> (try (simp; omega)) <;> (try omega))⟩

theorem AclW.may_ok {l : List AclM.Ace} (h : AclM.may l = true) : ∀ a ∈ l, AclM.okPart a = true := by
  have h1 : (l.all AclM.okPart) = true := by
    unfold AclM.may at h
    simp only [Bool.and_eq_true] at h
    first | exact h.1.1.2 | exact h.1.2.1 | exact h.2.1.1 | exact h.2.1
  exact fun a ha => List.all_eq_true.1 h1 a ha
theorem and_511 (n : Int) : bits .and .i64 n 511 = n % 512 := by
  have key : (BitVec.ofInt 64 n &&& BitVec.ofInt 64 511).toNat = (n % ((2 ^ 64 : Nat) : Int)).toNat % 2 ^ 9 := by
    rw [BitVec.toNat_and, BitVec.toNat_ofInt, show (BitVec.ofInt 64 511).toNat = 2 ^ 9 - 1 by decide, Nat.and_two_pow_sub_one_eq_mod]
  show IntKind.i64.wrap ((BitVec.ofInt 64 n &&& BitVec.ofInt 64 511).toNat : Int) = _
  rw [key, IntKind.wrap_i64]
  omega
attribute [local irreducible] Row At

set_option maxHeartbeats 1600000 in
theorem mayAcl_any (v : Value) (l : List AclM.Ace) (mode : Int) (w : World) (hat : At AclW.aceE v l w) (hl : l.length ≤ 1000000) :
    Calls Try.prog 40 #[v, .int .i64 mode] w fun e w' => e = .returned (.bool (aclOk l mode)) ∧ Below w.heap.size w w' := by
  have H1 := Lib.hid (AclW.may_any v l w hat hl)
  have H2 := Lib.hid (fun W (hb : Below w.heap.size w W) (h : AclM.may l = true) => AclW.mode_any v l W (hat.call hb) hl (AclW.may_ok h))
  have H5 := and_511 mode
  have HE := Lib.hid (show aclOk l mode = (decide (l.length = 0) || (AclM.may l && decide (AclW.modeL l = mode % 512))) from rfl)
  obtain ⟨r, hr⟩ : ∃ r, aclOk l mode = r := ⟨_, rfl⟩
  rw [hr] at HE ⊢
  obtain ⟨p, c, rfl, hc⟩ := hat.shape
  obtain ⟨n, hn⟩ : ∃ n, l.length = n := ⟨_, rfl⟩
  rw [hn] at H1 H2 HE hc ⊢
  obtain ⟨M, hM⟩ : ∃ M, AclW.modeL l = M := ⟨_, rfl⟩
  rw [hM] at H2 HE
  obtain ⟨N, hN⟩ : ∃ N, mode % 512 = N := ⟨_, rfl⟩
  rw [hN] at H5 HE
  clear hat hn hr hM hN hl
  by_cases h0 : n = 0
  · have e1 : ((n : Int) == 0) = true := by rw [h0]; rfl
    have HF := Lib.hid (show r = true by rw [HE.out, decide_eq_true h0]; rfl)
    clear HE H1 H2 h0
    go_enter Try.func40, Try.ntmps40
    go_wp2_with fail
    go_ret
    exact ⟨ret_bool HF.out.symm, Below.refl _ _⟩
  have e1 : ((n : Int) == 0) = false := by rw [beq_eq_false_iff_ne]; omega
  rcases hb : AclM.may l with _ | _
  · have HF := Lib.hid (show r = false by rw [HE.out, decide_eq_false h0, hb]; rfl)
    rw [hb] at H1
    clear HE H2 h0 hb
    go_enter Try.func40, Try.ntmps40
    go_wp2_with fail
    refine (H1.out).mono ?_
    rintro e w1 ⟨rfl, hb1⟩
    go_wp2_with fail
    go_ret
    exact ⟨ret_bool HF.out.symm, hb1⟩
  · have HF := Lib.hid (show r = decide (M = N) by rw [HE.out, decide_eq_false h0, hb]; rfl)
    rw [hb] at H1
    have H3 := Lib.hid (fun W h => H2.out W h hb)
    clear HE H2 h0 hb
    go_enter Try.func40, Try.ntmps40
    go_wp2_with fail
    refine (H1.out).mono ?_
    rintro e w1 ⟨rfl, hb1⟩
    go_wp2_with fail
    refine (H3.out _ hb1).mono ?_
    rintro e w2 ⟨rfl, hb2⟩
    have hb3 := gr_call hb1 hb2
    go_wp2_with fail
    go_ret
    refine ⟨ret_bool ?_, hb3⟩
    rw [HF.out]
    rfl
set_option maxHeartbeats 1600000 in
theorem mayDefault_any (v : Value) (l : List AclM.Ace) (k : Int) (w : World) (hat : At AclW.aceE v l w) (hl : l.length ≤ 1000000) :
    Calls Try.prog 41 #[v, .int .i64 k] w fun e w' => e = .returned (.bool (dflOk l k)) ∧ Below w.heap.size w w' := by
  have H1 := Lib.hid (AclW.may_any v l w hat hl)
  have HE := Lib.hid (show dflOk l k = (decide (l.length = 0) || (decide (k = 6) && AclM.may l)) from rfl)
  obtain ⟨r, hr⟩ : ∃ r, dflOk l k = r := ⟨_, rfl⟩
  rw [hr] at HE ⊢
  obtain ⟨p, c, rfl, hc⟩ := hat.shape
  obtain ⟨n, hn⟩ : ∃ n, l.length = n := ⟨_, rfl⟩
  rw [hn] at H1 HE hc ⊢
  generalize AclM.may l = b at *
  clear hat hn hr hl
  by_cases h0 : n = 0
  · have e1 : ((n : Int) == 0) = true := by rw [h0]; rfl
    have HF := Lib.hid (show r = true by rw [HE.out, decide_eq_true h0]; rfl)
    clear HE H1 h0
    go_enter Try.func41, Try.ntmps41
    go_wp2_with fail
    go_ret
    exact ⟨ret_bool HF.out.symm, Below.refl _ _⟩
  have e1 : ((n : Int) == 0) = false := by rw [beq_eq_false_iff_ne]; omega
  by_cases h6 : k = 6
  · have e2 : (k == 6) = true := by rw [h6]; rfl
    have HF := Lib.hid (show r = b by rw [HE.out, decide_eq_false h0, decide_eq_true h6]; cases b <;> rfl)
    clear HE h0 h6
    go_enter Try.func41, Try.ntmps41
    go_wp2_with fail
    refine (H1.out).mono ?_
    rintro e w1 ⟨rfl, hb1⟩
    go_wp2_with fail
    go_ret
    exact ⟨ret_bool HF.out.symm, hb1⟩
  · have e2 : (k == 6) = false := by rw [beq_eq_false_iff_ne]; exact h6
    have HF := Lib.hid (show r = false by rw [HE.out, decide_eq_false h0, decide_eq_false h6]; cases b <;> rfl)
    clear HE H1 h0 h6
    go_enter Try.func41, Try.ntmps41
    go_wp2_with fail
    go_ret
    exact ⟨ret_bool HF.out.symm, Below.refl _ _⟩
end Go.Proofs.Ytajjhndpdjfcpaa
