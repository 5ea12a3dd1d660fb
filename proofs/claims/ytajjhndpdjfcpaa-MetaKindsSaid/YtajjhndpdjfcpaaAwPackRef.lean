/- Bundle of 2 texts. -/
import Derived.Test.YtajjhndpdjfcpaaAwPackSort
import Derived.Test.YtajjhndpdjfcpaaAwPackSort
import Derived.Deep.QuietTactic
/- The document's answer: whether a list may be, by counts of tags. -/
namespace Go.Proofs.Ytajjhndpdjfcpaa.AclW
open Go.RowKit
open AclM
set_option linter.unusedVariables false

def cntT (l : List Ace) (k : Nat) : Nat := (l.filter fun a => decide (a.1 = (k : Int))).length
theorem cnt_snoc (l : List Ace) (a : Ace) (k : Nat) : cntT (l ++ [a]) k = cntT l k + if a.1 = (k : Int) then 1 else 0 := by
  unfold cntT
  rw [List.filter_append, List.length_append]
  by_cases h : a.1 = (k : Int) <;> simp [h]
theorem cnt_le (l : List Ace) (k : Nat) : cntT l k ≤ l.length := List.length_filter_le _ _
theorem cnt_has (l : List Ace) (k : Nat) : has l (k : Int) = decide (0 < cntT l k) := by
  by_cases h : has l (k : Int) = true
  · obtain ⟨a, ha, h2⟩ := has_iff.1 h
    rw [h, decide_eq_true]
    exact List.length_pos_iff.2 (List.ne_nil_of_mem (List.mem_filter.2 ⟨ha, decide_eq_true h2⟩))
  · have h' := h
    rw [Bool.not_eq_true] at h
    rw [h, decide_eq_false]
    intro hp
    obtain ⟨a, ha⟩ := List.exists_mem_of_length_pos hp
    obtain ⟨h3, h4⟩ := List.mem_filter.1 ha
    exact h' (has_iff.2 ⟨a, h3, of_decide_eq_true h4⟩)
theorem cnt_one {l : List Ace} (h1 : ∀ a ∈ l, okPart a = true) (h2 : PW l) (k : Nat) (hk : hasId (k : Int) = false) : cntT l k ≤ 1 := by
  unfold cntT
  have hp : PW (l.filter fun a => decide (a.1 = (k : Int))) := List.Pairwise.sublist List.filter_sublist h2
  rcases hf : l.filter (fun a => decide (a.1 = (k : Int))) with _ | ⟨x, _ | ⟨y, r⟩⟩
  · rw [hf]; simp
  · rw [hf]; simp
  · rw [hf] at hp
    have hx : x ∈ l.filter fun a => decide (a.1 = (k : Int)) := by rw [hf]; simp
    have hy : y ∈ l.filter fun a => decide (a.1 = (k : Int)) := by rw [hf]; simp
    obtain ⟨x1, x2⟩ := List.mem_filter.1 hx
    obtain ⟨y1, y2⟩ := List.mem_filter.1 hy
    replace x2 : x.1 = (k : Int) := of_decide_eq_true x2
    replace y2 : y.1 = (k : Int) := of_decide_eq_true y2
    have ix := (okPart_iff (h1 x x1)).2.2.2.2.2.2 (by rw [x2]; exact hk)
    have iy := (okPart_iff (h1 y y1)).2.2.2.2.2.2 (by rw [y2]; exact hk)
    have := (lt_iff _ _).1 ((List.pairwise_cons.1 hp).1 y (by simp))
    omega
theorem may_three {l : List Ace} (h : may l = true) : 3 ≤ l.length := by
  have h2 := may_two h
  rcases l with _ | ⟨x, _ | ⟨y, _ | ⟨z, r⟩⟩⟩
  · simp at h2
  · simp at h2
  · have a1 := may_first h (by simp)
    have a2 := may_last h (by simp)
    obtain ⟨a, ha, h3⟩ := has_iff.1 (may_iff.1 h).2.2.2.2.1
    simp at a1 a2 ha
    rcases ha with rfl | rfl <;> omega
  · simp
/-- What the counts say at the end. -/
theorem cnt_may {l : List Ace} (h32 : l.length ≤ 32) (h1 : ∀ a ∈ l, okPart a = true) (h2 : order l = true) :
    may l = (decide (cntT l 1 = 1) && decide (cntT l 3 = 1) && decide (cntT l 6 = 1) && (decide (cntT l 5 = 1) == decide (0 < cntT l 2 + cntT l 4))) := by
  have hp := order_pw.1 h2
  have e : ∀ k : Nat, hasId (k : Int) = false → has l (k : Int) = decide (cntT l k = 1) := by
    intro k hk
    rw [cnt_has]
    have := cnt_one h1 hp k hk
    by_cases h : cntT l k = 1
    · rw [h]; rfl
    · rw [decide_eq_false h, decide_eq_false]; omega
  have e1 : has l 1 = decide (cntT l 1 = 1) := e 1 (by decide)
  have e3 : has l 3 = decide (cntT l 3 = 1) := e 3 (by decide)
  have e5 : has l 5 = decide (cntT l 5 = 1) := e 5 (by decide)
  have e6 : has l 6 = decide (cntT l 6 = 1) := e 6 (by decide)
  have e2 : has l 2 = decide (0 < cntT l 2) := cnt_has l 2
  have e4 : has l 4 = decide (0 < cntT l 4) := cnt_has l 4
  unfold may tags
  rw [decide_eq_true h32, List.all_eq_true.2 h1, h2, e1, e3, e5, e6, e2, e4]
  have : (decide (0 < cntT l 2) || decide (0 < cntT l 4)) = decide (0 < cntT l 2 + cntT l 4) := by
    by_cases a : 0 < cntT l 2 <;> by_cases b : 0 < cntT l 4 <;> simp [a, b] <;> omega
  rw [this]
  simp
theorem order_snoc {l : List Ace} {i : Nat} (hi : i < l.length) (h : order (l.take i) = true) (hl : ∀ h0 : 0 < i, ltA (l[i - 1]'(by omega)) l[i] = true) : order (l.take (i + 1)) = true := by
  rw [order_pw] at h ⊢
  rw [List.take_succ_eq_append_getElem hi, pw_append]
  refine ⟨h, pw_one _, ?_⟩
  intro x hx y hy
  simp at hy
  subst hy
  obtain ⟨j, hj, rfl⟩ := List.getElem_of_mem hx
  have hj' := hj
  rw [List.length_take] at hj'
  have h3 := hl (by omega)
  by_cases hji : j = i - 1
  · subst hji
    rw [List.getElem_take]
    exact h3
  · have h4 := List.pairwise_iff_getElem.1 h j (i - 1) hj (by rw [List.length_take]; omega) (by omega)
    have e : (l.take i)[i - 1]'(by rw [List.length_take]; omega) = l[i - 1]'(by omega) := List.getElem_take
    rw [e] at h4
    exact lt_trans' h4 h3
theorem bad_order {l : List Ace} {i : Nat} (h0 : 0 < i) (hi : i < l.length) (h : ltA (l[i - 1]'(by omega)) l[i] = false) : may l = false := by
  rw [← Bool.not_eq_true]
  intro hm
  have := List.pairwise_iff_getElem.1 (may_iff.1 hm).2.2.1 (i - 1) i (by omega) hi (by omega)
  rw [h] at this
  cases this
theorem bad_part' {l : List Ace} {i : Nat} (hi : i < l.length) (h : okPart l[i] = false) : may l = false := by
  rw [← Bool.not_eq_true]
  intro hm
  rw [(may_iff.1 hm).2.1 _ (List.getElem_mem hi)] at h
  cases h
theorem bad_few {l : List Ace} (h : l.length < 3) : may l = false := by
  rw [← Bool.not_eq_true]
  intro hm
  have := may_three hm
  omega
theorem bad_many {l : List Ace} (h : 32 < l.length) : may l = false := by
  rw [← Bool.not_eq_true]
  intro hm
  have := (may_iff.1 hm).1
  omega

/-- Seven counts as cells. -/
def onceC (f : Nat → Nat) : Array Value := #[.int .i64 (f 0 : Int), .int .i64 (f 1 : Int), .int .i64 (f 2 : Int), .int .i64 (f 3 : Int), .int .i64 (f 4 : Int), .int .i64 (f 5 : Int), .int .i64 (f 6 : Int)]
theorem once_at (f : Nat → Nat) (k : Nat) (h : k < 7) : (onceC f)[k]? = some (.int .i64 (f k : Int)) := by
  have : k = 0 ∨ k = 1 ∨ k = 2 ∨ k = 3 ∨ k = 4 ∨ k = 5 ∨ k = 6 := by omega
  rcases this with rfl | rfl | rfl | rfl | rfl | rfl | rfl <;> rfl
theorem once_put (f g : Nat → Nat) (k : Nat) (h : k < 7) (hg : ∀ j, g j = f j + if j = k then 1 else 0) : (onceC f).setIfInBounds k (.int .i64 ((f k : Int) + 1)) = onceC g := by
  have : k = 0 ∨ k = 1 ∨ k = 2 ∨ k = 3 ∨ k = 4 ∨ k = 5 ∨ k = 6 := by omega
  rcases this with rfl | rfl | rfl | rfl | rfl | rfl | rfl <;> simp [onceC, hg]
end Go.Proofs.Ytajjhndpdjfcpaa.AclW

/- The document's answer: an Id or none, letters, digits, perms, the mode. -/
namespace Go.Proofs.Ytajjhndpdjfcpaa.AclW
open Go.RowKit
open AclM DecM
open Go.Lib (decDigits itoa)
set_option linter.unusedVariables false

theorem named_any (a : Ace) (w : World) : Calls Try.prog 46 #[aceV a] w fun e w' => e = .returned (.bool (hasId a.1)) ∧ Below w.heap.size w w' := by
  obtain ⟨t, d, p⟩ := a
  unfold hasId aceV
  simp only
  by_cases h2 : t = 2
  · subst h2
    go_enter Try.func46, Try.ntmps46
    go_wp2_with fail
    go_ret
    exact ⟨rfl, by (repeat' (first | exact Below.refl _ _ | assumption | refine gr_drew ?_ | refine gr_drewN ?_ _ | refine gr_alloc ?_ _ | refine gr_set ?_ ?_ _ | refine gr_call ?_ (by assumption)) <;> (try (simp; done)) <;> (try (simp; omega)) <;> (try omega))⟩
  · have e2 : (t == 2) = false := beq_eq_false_iff_ne.2 h2
    have e2' : decide (t = 2) = false := decide_eq_false h2
    have e4 : (t == 4) = decide (t = 4) := by by_cases h : t = 4 <;> simp [h]
    generalize hd : decide (t = 4) = x at e4 ⊢
    clear hd h2
    go_enter Try.func46, Try.ntmps46
    go_wp2_with fail
    go_ret
    exact ⟨by simp [e2'], by (repeat' (first | exact Below.refl _ _ | assumption | refine gr_drew ?_ | refine gr_drewN ?_ _ | refine gr_alloc ?_ _ | refine gr_set ?_ ?_ _ | refine gr_call ?_ (by assumption)) <;> (try (simp; done)) <;> (try (simp; omega)) <;> (try omega))⟩

def permR (l : List Ace) (t : Int) : Int := if has l t = true then permN l t else -1
theorem permR_neg {l : List Ace} (h : ∀ a ∈ l, okPart a = true) (t : Int) : decide (permR l t < 0) = !has l t := by
  unfold permR
  have := permN_in h t
  cases has l t
  · rfl
  · simp; omega
theorem permN_drop {t : Int} {l : List Ace} {i : Nat} (hi : i < l.length) (hno : findN t l 0 = findN t (l.drop i) i) (ht : l[i].1 = t) : has l t = true ∧ permN l t = l[i].2.2 := by
  have h := find_drop (t := t) hi
  rw [if_pos ht] at h
  rw [h] at hno
  unfold has permN
  rw [hno]
  refine ⟨decide_eq_true (by omega), ?_⟩
  rw [if_neg (by omega), Int.toNat_natCast]
  simp [List.getD, hi]
set_option maxHeartbeats 1600000 in
theorem refPerm_any (v : Value) (l : List Ace) (t : Int) (w : World) (hat : At aceE v l w) (hl : l.length ≤ 1000000) :
    Calls Try.prog 47 #[v, .int .i64 t] w fun e w' => e = .returned (.int .i64 (permR l t)) ∧ Below w.heap.size w w' := by
  obtain ⟨z, hz⟩ : ∃ z, l.length = z := ⟨_, rfl⟩
  obtain ⟨p, cap, rfl, hcap, hcell⟩ := ace_look hat
  rw [hz] at hl hcap ⊢
  have Hcell := Lib.hid hcell
  have Hz := Lib.hid hz
  clear hcell hat hz
  go_enter Try.func47, Try.ntmps47
  go_wp2_with fail
  go_loopw [5] (fun iv wr => ∃ i : Nat, iv = .int .i64 (i : Int) ∧ i ≤ z ∧ Below w.heap.size w wr ∧ Hid (findN t l 0 = findN t (l.drop i) i)) (fun iv _ => z - (intOf iv).toNat)
  case atStart => exact ⟨0, rfl, by omega, Below.refl _ _, Lib.hid (by simp)⟩
  case round =>
    obtain ⟨i, rfl, hi, hbl, HR⟩ := hrel
    rename_i wr
    by_cases hlt : i < z
    · have hlt' : decide ((i : Int) < (z : Int)) = true := decide_eq_true (by omega)
      have hlt2 : decide (i < z) = true := decide_eq_true hlt
      have hi' : i < l.length := by rw [Hz.out]; exact hlt
      obtain ⟨g, off, rfl, hg, c0, c1, c2⟩ := Hcell.out i hi'
      replace c0 := cell_kept hbl c0
      replace c2 := cell_kept hbl c2
      have HP := Lib.hid (permN_drop hi' HR.out)
      have HS := Lib.hid (find_drop (t := t) hi')
      clear c1
      generalize l[i] = a at *
      obtain ⟨u, d, q⟩ := a
      simp only at c0 c2
      by_cases hu : u = t
      · have HE := Lib.hid (show permR l t = q by unfold permR; rw [(HP.out hu).1, if_pos rfl, (HP.out hu).2])
        subst hu
        have hs : (u == u) = true := beq_self_eq_true u
        clear HP HR HS
        go_wp2_with fail
        go_ret
        exact ⟨by rw [HE.out]; rfl, by (repeat' (first | exact Below.refl _ _ | assumption | refine gr_drew ?_ | refine gr_drewN ?_ _ | refine gr_alloc ?_ _ | refine gr_set ?_ ?_ _ | refine gr_call ?_ (by assumption)) <;> (try (simp; done)) <;> (try (simp; omega)) <;> (try omega))⟩
      · have HE := Lib.hid (show findN t l 0 = findN t (l.drop (i + 1)) (i + 1) by rw [HR.out, HS.out, if_neg hu])
        have hs : (u == t) = false := beq_eq_false_iff_ne.2 hu
        clear HP HR HS hu
        go_wp2_with fail
        go_roundw
        case rel => exact ⟨i + 1, rfl, by omega, by (repeat' (first | exact Below.refl _ _ | assumption | refine gr_drew ?_ | refine gr_drewN ?_ _ | refine gr_alloc ?_ _ | refine gr_set ?_ ?_ _ | refine gr_call ?_ (by assumption)) <;> (try (simp; done)) <;> (try (simp; omega)) <;> (try omega)), HE⟩
        case measure => simp only [intOf]; omega
    · have hlt' : decide ((i : Int) < (z : Int)) = false := decide_eq_false (by omega)
      have hlt2 : decide (i < z) = false := decide_eq_false hlt
      have HE := Lib.hid (show permR l t = -1 by
        have h : findN t l 0 = -1 := by rw [HR.out, find_end (by rw [Hz.out]; omega)]
        unfold permR has
        rw [h]
        rfl)
      clear HR
      go_wp2_with fail
      go_ret
      exact ⟨by rw [HE.out]; rfl, by (repeat' (first | exact Below.refl _ _ | assumption | refine gr_drew ?_ | refine gr_drewN ?_ _ | refine gr_alloc ?_ _ | refine gr_set ?_ ?_ _ | refine gr_call ?_ (by assumption)) <;> (try (simp; done)) <;> (try (simp; omega)) <;> (try omega))⟩
theorem refMode_any (v : Value) (l : List Ace) (w : World) (hat : At aceE v l w) (hmay : may l = true) :
    Calls Try.prog 25 #[v] w fun e w' => e = .returned (.int .i64 (modeL l)) ∧ Below w.heap.size w w' := by
  obtain ⟨hl, hok, _, h1, h3, h6, _⟩ := may_iff.1 hmay
  have q := Lib.hid (fun t w' (hb : Below w.heap.size w w') => refPerm_any v l t w' (hat.call hb) (by omega))
  have q5 := Lib.hid (q.out 5)
  have q3 := Lib.hid (q.out 3)
  have q1 := Lib.hid (q.out 1)
  have q6 := Lib.hid (q.out 6)
  have n5 := permR_neg hok 5
  have r1 := permN_in hok 1
  have r3 := permN_in hok 3
  have r5 := permN_in hok 5
  have r6 := permN_in hok 6
  rw [show permR l 3 = permN l 3 from if_pos h3] at q3
  rw [show permR l 1 = permN l 1 from if_pos h1] at q1
  rw [show permR l 6 = permN l 6 from if_pos h6] at q6
  unfold modeL
  have h5v : has l 5 = true → permR l 5 = permN l 5 := fun h => if_pos h
  generalize has l 5 = b5 at *
  generalize permN l 1 = p1 at *
  generalize permN l 6 = p6 at *
  generalize hp3 : permN l 3 = p3 at *
  generalize hp5 : permN l 5 = p5 at *
  generalize permR l 5 = pr at *
  have hbl := Below.refl w.heap.size w
  clear q hok hmay hat
  rcases b5 with _ | _
  · rw [if_neg (by decide), hp3]
    have hn : decide (pr < 0) = true := n5
    clear n5 h5v
    go_enter Try.func25, Try.ntmps25
    go_wp2_with fail
    refine (q5.out _ hbl).mono ?_
    rintro e w1 ⟨rfl, hb1⟩
    replace hbl := gr_call hbl hb1
    clear hb1
    go_wp2_with fail
    refine (q3.out _ hbl).mono ?_
    rintro e w2 ⟨rfl, hb1⟩
    replace hbl := gr_call hbl hb1
    clear hb1
    go_wp2_with fail
    refine (q1.out _ hbl).mono ?_
    rintro e w3 ⟨rfl, hb1⟩
    replace hbl := gr_call hbl hb1
    clear hb1
    go_wp2_with fail
    refine (q6.out _ hbl).mono ?_
    rintro e w4 ⟨rfl, hb1⟩
    replace hbl := gr_call hbl hb1
    clear hb1
    go_wp2_with fail
    go_ret
    exact ⟨by show Ending.returned (Value.int .i64 (p1 * 64 + p3 * 8 + p6)) = _; congr 2; omega, hbl⟩
  · rw [if_pos rfl, hp5]
    have hpr := h5v rfl
    subst hpr
    have hn : decide (pr < 0) = false := n5
    clear n5 h5v
    go_enter Try.func25, Try.ntmps25
    go_wp2_with fail
    refine (q5.out _ hbl).mono ?_
    rintro e w1 ⟨rfl, hb1⟩
    replace hbl := gr_call hbl hb1
    clear hb1
    go_wp2_with fail
    refine (q1.out _ hbl).mono ?_
    rintro e w3 ⟨rfl, hb1⟩
    replace hbl := gr_call hbl hb1
    clear hb1
    go_wp2_with fail
    refine (q6.out _ hbl).mono ?_
    rintro e w4 ⟨rfl, hb1⟩
    replace hbl := gr_call hbl hb1
    clear hb1
    go_wp2_with fail
    go_ret
    exact ⟨by show Ending.returned (Value.int .i64 (p1 * 64 + pr * 8 + p6)) = _; congr 2; omega, hbl⟩
end Go.Proofs.Ytajjhndpdjfcpaa.AclW
