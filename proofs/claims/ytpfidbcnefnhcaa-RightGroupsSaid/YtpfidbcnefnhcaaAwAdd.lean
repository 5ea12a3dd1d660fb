/- Lists by numbers: add, walked. -/
import Derived.Test.YtpfidbcnefnhcaaPk03
import Derived.Test.YtpfidbcnefnhcaaPk08
import Derived.Deep.RegionHeld3
namespace Go.Proofs.Ytpfidbcnefnhcaa.AclW
open Go.RowKit
open AclM
set_option linter.unusedVariables false

theorem cell_below {B : Nat} {w w' : World} (hb : Below B w w') {a : Addr} {v : Value} (ha : a.block < B) (hc : w.cell? a = some v) : w'.cell? a = some v := by
  rw [World.cell?_of_block (hb.block a.block ha)]; exact hc
theorem row_new (B g : Nat) (X : World) (hg : X.heap.size = g) (hB : B ≤ X.heap.size) : Row aceE B (.slice (some ⟨g, 0, none⟩) 0 0) [] (X.alloc (.cells #[] 51)) := by
  subst hg
  exact lit_row (E := aceE) X [] #[] B 0 rfl hB (by simp) rfl
theorem at_one (t d q : Int) (g : Nat) (X : World) (hg : X.heap.size = g) : At aceE (.slice (some ⟨g, 0, none⟩) 1 1) [(t, d, q)] (X.alloc (.cells #[.int .i64 t, .int .i64 d, .int .i64 q] 51)) := by
  subst hg
  exact (one_ace X (t, d, q) 0 (Nat.zero_le _)).at

attribute [local irreducible] Row At

set_option maxHeartbeats 3200000 in
set_option maxRecDepth 100000 in
theorem add_any (v : Value) (l : List Ace) (a : Ace) (w : World) (hat : At aceE v l w) (hl : l.length ≤ 1000) :
    Calls Try.prog 47 #[v, aceV a] w fun e w' => (∃ v', e = .returned v' ∧ Row aceE w.heap.size v' (addL l a) w') ∧ Below w.heap.size w w' := by
  have Hstep := Lib.hid (fun k hk h hlt => add_step (l := l) (a := a) (k := k) hk h hlt)
  have Hend := Lib.hid (fun k hk h => add_end (l := l) (a := a) (k := k) hk h)
  have Hsame := Lib.hid (fun k hk h he => add_same (l := l) (a := a) (k := k) hk h he)
  have Hmore := Lib.hid (fun k hk h h1 h2 => add_more (l := l) (a := a) (k := k) hk h h1 h2)
  have H0 : Hid (addL l a = l.take 0 ++ addL (l.drop 0) a) := Lib.hid (by simp)
  obtain ⟨L, hL⟩ : ∃ L, addL l a = L := ⟨_, rfl⟩
  rw [hL] at Hstep Hend Hsame Hmore H0 ⊢
  clear hL
  obtain ⟨t, d, q⟩ := a
  obtain ⟨z, hz⟩ : ∃ z, l.length = z := ⟨_, rfl⟩
  obtain ⟨p, cap, rfl, hcap, hcell⟩ := ace_look hat
  rw [hz] at hl hcap hat ⊢
  have Hcell := Lib.hid hcell
  have Hz := Lib.hid hz
  have hx0 : Below w.heap.size w (w.alloc (.cells #[.int .i64 t, .int .i64 d, .int .i64 q] 51)) := by (repeat' (first | exact Below.refl _ _ | assumption | refine gr_drew ?_ | refine gr_drewN ?_ _ | refine gr_alloc ?_ _ | refine gr_set ?_ ?_ _ | refine gr_call ?_ (by assumption)) <;> (try (simp; done)) <;> (try (simp; omega)) <;> (try omega))
  have b0 : (w.alloc (.cells #[.int .i64 t, .int .i64 d, .int .i64 q] 51)).cell? ⟨w.heap.size, 0, none⟩ = some (.int .i64 t) := by simp [go_sem]
  have b1 : (w.alloc (.cells #[.int .i64 t, .int .i64 d, .int .i64 q] 51)).cell? ⟨w.heap.size, 1, none⟩ = some (.int .i64 d) := by simp [go_sem]
  have b2 : (w.alloc (.cells #[.int .i64 t, .int .i64 d, .int .i64 q] 51)).cell? ⟨w.heap.size, 2, none⟩ = some (.int .i64 q) := by simp [go_sem]
  clear hcell hz
  unfold aceV
  go_enter Try.func47, Try.ntmps47
  go_wp2_with fail
  go_loopw [5] (fun iv wr => ∃ k : Nat, iv = .int .i64 (k : Int) ∧ k ≤ z ∧ Below w.heap.size w wr ∧ wr.cell? ⟨w.heap.size, 0, none⟩ = some (.int .i64 t) ∧ wr.cell? ⟨w.heap.size, 1, none⟩ = some (.int .i64 d) ∧ wr.cell? ⟨w.heap.size, 2, none⟩ = some (.int .i64 q) ∧ Hid (L = l.take k ++ addL (l.drop k) (t, d, q))) (fun iv _ => z - (intOf iv).toNat)
  case atStart => exact ⟨0, rfl, by omega, hx0, b0, b1, b2, H0⟩
  case round =>
    clear hx0 b0 b1 b2 H0
    obtain ⟨k, rfl, hk, hbl, b0, b1, b2, HR⟩ := hrel
    rename_i wr
    have hlw := hat.call hbl
    by_cases hlt : k < z
    · have hlt' : decide ((k : Int) < (z : Int)) = true := decide_eq_true (by omega)
      have hlt2 : decide (k < z) = true := decide_eq_true hlt
      have hk' : k < l.length := by rw [Hz.out]; exact hlt
      obtain ⟨g, off, rfl, hg, c0, c1, c2⟩ := Hcell.out k hk'
      replace c1 := cell_kept hbl c1
      clear c0 c2
      by_cases hid : l[k].2.1 < d
      · have HN := Lib.hid (Hstep.out k hk' HR.out hid)
        have f1 : decide (l[k].2.1 < d) = true := decide_eq_true hid
        generalize l[k].2.1 = x at *
        clear HR
        go_wp2_with fail
        go_quiet (fail)
        go_wp2_with fail
        go_roundw
        case rel => exact ⟨k + 1, rfl, by omega, by (repeat' (first | exact Below.refl _ _ | assumption | refine gr_drew ?_ | refine gr_drewN ?_ _ | refine gr_alloc ?_ _ | refine gr_set ?_ ?_ _ | refine gr_call ?_ (by assumption)) <;> (try (simp; done)) <;> (try (simp; omega)) <;> (try omega)), by simp [go_sem, *], by simp [go_sem, *], by simp [go_sem, *], HN⟩
        case measure => simp only [intOf]; omega
      · have f1 : decide (l[k].2.1 < d) = false := decide_eq_false hid
        obtain ⟨sv, hsv, hsat, _⟩ := slice_from hlw (k := k) (by omega)
        obtain ⟨tv, htv, htat, _⟩ := slice_upto hlw (k := k) (by omega)
        have HSm := Lib.hid (fun e => Hsame.out k hk' HR.out e)
        have HMo := Lib.hid (fun e => Hmore.out k hk' HR.out (by omega) e)
        have hl0 : l.drop k ≠ [] := by
          intro e
          have := congrArg List.length e
          rw [List.length_drop, List.length_nil] at this
          omega
        clear HR Hcell
        go_wp2_with fail
        go_quiet (fail)
        rename_i nq
        have hqb : Below wr.heap.size wr (wr.drewN nq) := gr_drewN (Below.refl _ _) nq
        generalize wr.drewN nq = wq at *
        replace hlw := hlw.call hqb
        replace b0 := cell_kept hqb b0
        replace b1 := cell_kept hqb b1
        replace b2 := cell_kept hqb b2
        have hbq := gr_call hbl hqb
        have hsz : w.heap.size + 1 ≤ wq.heap.size := block_lt b0
        have hrow0 := row_new (w.heap.size + 1) wq.heap.size wq rfl hsz
        have hat0 := hsat _ (hlw.alloc (.cells #[] 51))
        have hl1 : ([] : List Ace).length + (l.drop k).length ≤ 1000000 := by simp; have := Hz.out; omega
        have hsz2 : w.heap.size + 1 ≤ (wq.alloc (.cells #[] 51)).heap.size := by simp; omega
        clear hbl hqb
        go_wp2_with (at_builtin; refine wp_append_at aceE rfl _ _ rfl (w.heap.size + 1) _ sv [] (l.drop k) (wq.alloc (.cells #[] 51)) rfl (by exact hrow0) (by rfl) (by exact hat0) hl1 hsz2 ?_)
        intro v6 w6 hR6 hb6 _ _
        have hb6' : Below (w.heap.size + 1) wq w6 := ((Below.refl _ _).alloc (B := w.heap.size + 1) hsz _).trans hb6
        replace b0 := cell_below hb6' (Nat.lt_succ_self _) b0
        replace b1 := cell_below hb6' (Nat.lt_succ_self _) b1
        replace b2 := cell_below hb6' (Nat.lt_succ_self _) b2
        have hbl6 : Below w.heap.size w w6 := hbq.trans (hb6'.mono (Nat.le_succ _))
        have hl6 := hat.call hbl6
        clear hb6 hb6' hrow0 hat0 hl1 hsz2 hsz hlw hbq
        have hat6 := hR6.at
        clear hR6
        obtain ⟨g6, off6, cap6, rfl, hcap6, hg6, hcell6⟩ := ace_open hat6 hl0
        obtain ⟨y, hy⟩ : ∃ y, (l.drop k).length = y := ⟨_, rfl⟩
        have hy0 : 0 < y := by rw [← hy]; exact List.length_pos_iff.2 hl0
        have hc6 : w6.cell? ⟨g6, off6 + 1, none⟩ = some (.int .i64 l[k].2.1) := by
          have h := (hcell6 0 (by rw [hy]; exact hy0)).2.1
          rw [List.getElem_drop] at h
          simpa using h
        rw [hy] at hat6 hcap6 ⊢
        have hy1 : decide ((0 : Int) < (y : Int)) = true := decide_eq_true (by omega)
        have hy2 : decide (0 < y) = true := decide_eq_true hy0
        clear hcell6
        by_cases he : l[k].2.1 = d
        · have HE := Lib.hid (HSm.out he)
          rw [he] at hc6
          have hself : (d == d) = true := beq_self_eq_true d
          obtain ⟨rv, hrv, hrvat, _⟩ := slice_from (k := 1) (by rw [← hy] at hat6; exact hat6) (by rw [hy]; exact hy0)
          rw [hy] at hrv hrvat
          have hrv1 : ∀ W, (Instr.sliceAt 24 (.slice (some ⟨g6, off6, none⟩) y cap6) (some (.int .i64 1)) none none).run Try.prog W = .ok rv W := hrv
          clear HSm HMo hrv he f1 hid hlt
          go_wp2_with fail
          go_quiet (fail)
          rename_i nq
          have hqb : Below w6.heap.size w6 (w6.drewN nq) := gr_drewN (Below.refl _ _) nq
          go_wp2_with fail
          generalize w6.drewN nq = W at *
          replace b0 := cell_kept hqb b0
          replace b1 := cell_kept hqb b1
          replace b2 := cell_kept hqb b2
          replace hl6 := hl6.call hqb
          replace hat6 := hat6.call hqb
          replace hbl6 := gr_call hbl6 hqb
          replace hat6 := hrvat _ hat6
          clear hqb hc6 hrvat
          have hzz := Hz.out
          have hlA : ([] : List Ace).length + (l.take k).length ≤ 1000000 := by simp; omega
          have hlB : (l.take k).length + [((t, d, q) : Ace)].length ≤ 1000000 := by simp; omega
          have hlC : (l.take k ++ [((t, d, q) : Ace)]).length + ((l.drop k).drop 1).length ≤ 1000000 := by simp; omega
          have hWW : w.heap.size ≤ W.heap.size := hbl6.size
          have hbW : Below W.heap.size W W.drew := gr_drew (Below.refl _ _)
          clear hsv hsat hat
          go_region_held3 (fun w' => Below W.heap.size W w' ∧ w'.cell? ⟨w.heap.size, 0, none⟩ = some (.int .i64 t) ∧ w'.cell? ⟨w.heap.size, 1, none⟩ = some (.int .i64 d) ∧ w'.cell? ⟨w.heap.size, 2, none⟩ = some (.int .i64 q))
            (first | (go_keep; done) | (go_split_ands; (repeat' apply And.intro) <;> (first | assumption | exact Amb.on (by assumption) hb1 | exact AmbB.on (by assumption) hb1 | exact gr_call (by assumption) hb1 | exact cell_kept hb1 (by assumption) | exact free_kept hb1 (by assumption) (by assumption) | (show Below _ _ _; (repeat' (first | exact Below.refl _ _ | assumption | refine gr_drew ?_ | refine gr_drewN ?_ _ | refine gr_alloc ?_ _ | refine gr_set ?_ ?_ _ | refine gr_call ?_ (by assumption)) <;> (try (simp; done)) <;> (try (simp; omega)) <;> (try omega)); done) | (go_keep; done) | (simp [go_sem, *]; done))))
            (first
              | (refine step_append_at aceE rfl _ _ rfl W.heap.size v9 rv (l.take k ++ [(t, d, q)]) ((l.drop k).drop 1) ?_ ?_ ?_ ?_ hlC ?_ ?_
                 · rfl
                 · repeat' (first | exact hR9 | refine Row.drew ?_ | refine Row.alloc ?_ _)
                 · rfl
                 · exact hat6.call (by (repeat' (first | exact Below.refl _ _ | assumption | refine gr_drew ?_ | refine gr_drewN ?_ _ | refine gr_alloc ?_ _ | refine gr_set ?_ ?_ _ | refine gr_call ?_ (by assumption)) <;> (try (simp; done)) <;> (try (simp; omega)) <;> (try omega)))
                 · (try simp) <;> (try omega)
                 intro v10 w10 hR10 hb10 hg10 ho10
                 have hbW10 : Below W.heap.size W w10 := Below.trans (by (repeat' (first | exact Below.refl _ _ | assumption | refine gr_drew ?_ | refine gr_drewN ?_ _ | refine gr_alloc ?_ _ | refine gr_set ?_ ?_ _ | refine gr_call ?_ (by assumption)) <;> (try (simp; done)) <;> (try (simp; omega)) <;> (try omega))) hb10
                 have c0 := cell_kept hbW10 b0
                 have c1 := cell_kept hbW10 b1
                 have c2 := cell_kept hbW10 b2)
              | (refine step_append_at aceE rfl _ _ rfl W.heap.size v8 (.slice (some ⟨w8.heap.size, 0, none⟩) 1 1) (l.take k) [(t, d, q)] ?_ ?_ ?_ ?_ hlB ?_ ?_
                 · rfl
                 · repeat' (first | exact hR8 | refine Row.drew ?_ | refine Row.alloc ?_ _)
                 · rfl
                 · repeat' (first | (refine at_one _ _ _ _ _ ?_; simp; done) | refine At.drew ?_ | refine At.alloc ?_ _)
                 · (try simp) <;> (try omega)
                 intro v9 w9 hR9 hb9 hg9 ho9
                 have hbW9 : Below W.heap.size W w9 := Below.trans (by (repeat' (first | exact Below.refl _ _ | assumption | refine gr_drew ?_ | refine gr_drewN ?_ _ | refine gr_alloc ?_ _ | refine gr_set ?_ ?_ _ | refine gr_call ?_ (by assumption)) <;> (try (simp; done)) <;> (try (simp; omega)) <;> (try omega))) hb9
                 have hs9 := hbW9.size
                 have c0 := cell_kept hbW9 b0
                 have c1 := cell_kept hbW9 b1
                 have c2 := cell_kept hbW9 b2)
              | (refine step_append_at aceE rfl _ _ rfl W.heap.size v8 (.slice (some ⟨W.heap.size, 0, none⟩) 1 1) (l.take k) [(t, d, q)] ?_ ?_ ?_ ?_ hlB ?_ ?_
                 · rfl
                 · repeat' (first | exact hR8 | refine Row.drew ?_ | refine Row.alloc ?_ _)
                 · rfl
                 · repeat' (first | exact ho | refine At.drew ?_ | refine At.alloc ?_ _)
                 · (try simp) <;> (try omega)
                 intro v9 w9 hR9 hb9 hg9 ho9
                 have hbW9 : Below W.heap.size W w9 := Below.trans (by (repeat' (first | exact Below.refl _ _ | assumption | refine gr_drew ?_ | refine gr_drewN ?_ _ | refine gr_alloc ?_ _ | refine gr_set ?_ ?_ _ | refine gr_call ?_ (by assumption)) <;> (try (simp; done)) <;> (try (simp; omega)) <;> (try omega))) hb9
                 have hs9 := hbW9.size
                 have c0 := cell_kept hbW9 b0
                 have c1 := cell_kept hbW9 b1
                 have c2 := cell_kept hbW9 b2)
              | (refine step_append_at aceE rfl _ _ rfl W.heap.size v8 (.slice (some ⟨W.heap.size + 1, 0, none⟩) 1 1) (l.take k) [(t, d, q)] ?_ ?_ ?_ ?_ hlB ?_ ?_
                 · rfl
                 · repeat' (first | exact hR8 | refine Row.drew ?_ | refine Row.alloc ?_ _)
                 · rfl
                 · repeat' (first | exact ho | refine At.drew ?_ | refine At.alloc ?_ _)
                 · (try simp) <;> (try omega)
                 intro v9 w9 hR9 hb9 hg9 ho9
                 have hbW9 : Below W.heap.size W w9 := Below.trans (by (repeat' (first | exact Below.refl _ _ | assumption | refine gr_drew ?_ | refine gr_drewN ?_ _ | refine gr_alloc ?_ _ | refine gr_set ?_ ?_ _ | refine gr_call ?_ (by assumption)) <;> (try (simp; done)) <;> (try (simp; omega)) <;> (try omega))) hb9
                 have hs9 := hbW9.size
                 have c0 := cell_kept hbW9 b0
                 have c1 := cell_kept hbW9 b1
                 have c2 := cell_kept hbW9 b2)
              | (refine step_append_at aceE rfl _ _ rfl W.heap.size (.slice (some ⟨W.heap.size, 0, none⟩) 0 0) tv [] (l.take k) ?_ ?_ ?_ (htat _ ?_) hlA ?_ ?_
                 · rfl
                 · repeat' (first | (refine row_new _ _ _ ?_ ?_ <;> (try simp) <;> (try omega); done) | refine Row.drew ?_ | refine Row.alloc ?_ _)
                 · rfl
                 · exact hl6.call (by (repeat' (first | exact Below.refl _ _ | assumption | refine gr_drew ?_ | refine gr_drewN ?_ _ | refine gr_alloc ?_ _ | refine gr_set ?_ ?_ _ | refine gr_call ?_ (by assumption)) <;> (try (simp; done)) <;> (try (simp; omega)) <;> (try omega)))
                 · (try simp) <;> (try omega)
                 intro v8 w8 hR8 hb8 hg8 ho8
                 rw [List.nil_append] at hR8
                 have hbW8 : Below W.heap.size W w8 := Below.trans (by (repeat' (first | exact Below.refl _ _ | assumption | refine gr_drew ?_ | refine gr_drewN ?_ _ | refine gr_alloc ?_ _ | refine gr_set ?_ ?_ _ | refine gr_call ?_ (by assumption)) <;> (try (simp; done)) <;> (try (simp; omega)) <;> (try omega))) hb8
                 have hs8 := hbW8.size
                 have c0 := cell_kept hbW8 b0
                 have c1 := cell_kept hbW8 b1
                 have c2 := cell_kept hbW8 b2
                 first
                   | (have ho : At aceE (.slice (some ⟨W.heap.size, 0, none⟩) 1 1) [(t, d, q)] w8 := by
                        refine At.grown ?_ hg8 (by intro j hj; simp [Value.ownBlock] at hj ⊢; omega)
                        repeat' (first | (refine at_one _ _ _ _ _ ?_; simp; done) | refine At.drew ?_ | refine At.alloc ?_ _))
                   | (have ho : At aceE (.slice (some ⟨W.heap.size + 1, 0, none⟩) 1 1) [(t, d, q)] w8 := by
                        refine At.grown ?_ hg8 (by intro j hj; simp [Value.ownBlock] at hj ⊢; omega)
                        repeat' (first | (refine at_one _ _ _ _ _ ?_; simp; done) | refine At.drew ?_ | refine At.alloc ?_ _))
                   | skip)
              | (refine step_append_at aceE rfl _ _ rfl W.heap.size (.slice (some ⟨W.heap.size + 1, 0, none⟩) 0 0) tv [] (l.take k) ?_ ?_ ?_ (htat _ ?_) hlA ?_ ?_
                 · rfl
                 · repeat' (first | (refine row_new _ _ _ ?_ ?_ <;> (try simp) <;> (try omega); done) | refine Row.drew ?_ | refine Row.alloc ?_ _)
                 · rfl
                 · exact hl6.call (by (repeat' (first | exact Below.refl _ _ | assumption | refine gr_drew ?_ | refine gr_drewN ?_ _ | refine gr_alloc ?_ _ | refine gr_set ?_ ?_ _ | refine gr_call ?_ (by assumption)) <;> (try (simp; done)) <;> (try (simp; omega)) <;> (try omega)))
                 · (try simp) <;> (try omega)
                 intro v8 w8 hR8 hb8 hg8 ho8
                 rw [List.nil_append] at hR8
                 have hbW8 : Below W.heap.size W w8 := Below.trans (by (repeat' (first | exact Below.refl _ _ | assumption | refine gr_drew ?_ | refine gr_drewN ?_ _ | refine gr_alloc ?_ _ | refine gr_set ?_ ?_ _ | refine gr_call ?_ (by assumption)) <;> (try (simp; done)) <;> (try (simp; omega)) <;> (try omega))) hb8
                 have hs8 := hbW8.size
                 have c0 := cell_kept hbW8 b0
                 have c1 := cell_kept hbW8 b1
                 have c2 := cell_kept hbW8 b2
                 first
                   | (have ho : At aceE (.slice (some ⟨W.heap.size, 0, none⟩) 1 1) [(t, d, q)] w8 := by
                        refine At.grown ?_ hg8 (by intro j hj; simp [Value.ownBlock] at hj ⊢; omega)
                        repeat' (first | (refine at_one _ _ _ _ _ ?_; simp; done) | refine At.drew ?_ | refine At.alloc ?_ _))
                   | (have ho : At aceE (.slice (some ⟨W.heap.size + 1, 0, none⟩) 1 1) [(t, d, q)] w8 := by
                        refine At.grown ?_ hg8 (by intro j hj; simp [Value.ownBlock] at hj ⊢; omega)
                        repeat' (first | (refine at_one _ _ _ _ _ ?_; simp; done) | refine At.drew ?_ | refine At.alloc ?_ _))
                   | skip))
          all_goals
            go_wp2_with fail
            go_ret
            exact ⟨⟨_, rfl, by rw [HE.out]; exact hR10.mono hWW⟩, hbl6.trans (hbW10.mono hWW)⟩
        · have HE := Lib.hid (HMo.out he)
          have hne : (l[k].2.1 == d) = false := beq_eq_false_iff_ne.2 he
          generalize l[k].2.1 = x at *
          clear HSm HMo he f1 hid hlt
          go_wp2_with fail
          go_quiet (fail)
          rename_i nq
          have hqb : Below w6.heap.size w6 (w6.drewN nq) := gr_drewN (Below.refl _ _) nq
          go_wp2_with fail
          generalize w6.drewN nq = W at *
          replace b0 := cell_kept hqb b0
          replace b1 := cell_kept hqb b1
          replace b2 := cell_kept hqb b2
          replace hl6 := hl6.call hqb
          replace hat6 := hat6.call hqb
          replace hbl6 := gr_call hbl6 hqb
          clear hqb hc6
          generalize (Value.slice (some ⟨g6, off6, none⟩) y cap6) = rv at *
          have hzz := Hz.out
          have hlA : ([] : List Ace).length + (l.take k).length ≤ 1000000 := by simp; omega
          have hlB : (l.take k).length + [((t, d, q) : Ace)].length ≤ 1000000 := by simp; omega
          have hlC : (l.take k ++ [((t, d, q) : Ace)]).length + (l.drop k).length ≤ 1000000 := by simp; omega
          have hWW : w.heap.size ≤ W.heap.size := hbl6.size
          have hbW : Below W.heap.size W W.drew := gr_drew (Below.refl _ _)
          clear hsv hsat hat
          go_region_held3 (fun w' => Below W.heap.size W w' ∧ w'.cell? ⟨w.heap.size, 0, none⟩ = some (.int .i64 t) ∧ w'.cell? ⟨w.heap.size, 1, none⟩ = some (.int .i64 d) ∧ w'.cell? ⟨w.heap.size, 2, none⟩ = some (.int .i64 q))
            (first | (go_keep; done) | (go_split_ands; (repeat' apply And.intro) <;> (first | assumption | exact Amb.on (by assumption) hb1 | exact AmbB.on (by assumption) hb1 | exact gr_call (by assumption) hb1 | exact cell_kept hb1 (by assumption) | exact free_kept hb1 (by assumption) (by assumption) | (show Below _ _ _; (repeat' (first | exact Below.refl _ _ | assumption | refine gr_drew ?_ | refine gr_drewN ?_ _ | refine gr_alloc ?_ _ | refine gr_set ?_ ?_ _ | refine gr_call ?_ (by assumption)) <;> (try (simp; done)) <;> (try (simp; omega)) <;> (try omega)); done) | (go_keep; done) | (simp [go_sem, *]; done))))
            (first
              | (refine step_append_at aceE rfl _ _ rfl W.heap.size v9 rv (l.take k ++ [(t, d, q)]) (l.drop k) ?_ ?_ ?_ ?_ hlC ?_ ?_
                 · rfl
                 · repeat' (first | exact hR9 | refine Row.drew ?_ | refine Row.alloc ?_ _)
                 · rfl
                 · exact hat6.call (by (repeat' (first | exact Below.refl _ _ | assumption | refine gr_drew ?_ | refine gr_drewN ?_ _ | refine gr_alloc ?_ _ | refine gr_set ?_ ?_ _ | refine gr_call ?_ (by assumption)) <;> (try (simp; done)) <;> (try (simp; omega)) <;> (try omega)))
                 · (try simp) <;> (try omega)
                 intro v10 w10 hR10 hb10 hg10 ho10
                 have hbW10 : Below W.heap.size W w10 := Below.trans (by (repeat' (first | exact Below.refl _ _ | assumption | refine gr_drew ?_ | refine gr_drewN ?_ _ | refine gr_alloc ?_ _ | refine gr_set ?_ ?_ _ | refine gr_call ?_ (by assumption)) <;> (try (simp; done)) <;> (try (simp; omega)) <;> (try omega))) hb10
                 have c0 := cell_kept hbW10 b0
                 have c1 := cell_kept hbW10 b1
                 have c2 := cell_kept hbW10 b2)
              | (refine step_append_at aceE rfl _ _ rfl W.heap.size v8 (.slice (some ⟨w8.heap.size, 0, none⟩) 1 1) (l.take k) [(t, d, q)] ?_ ?_ ?_ ?_ hlB ?_ ?_
                 · rfl
                 · repeat' (first | exact hR8 | refine Row.drew ?_ | refine Row.alloc ?_ _)
                 · rfl
                 · repeat' (first | (refine at_one _ _ _ _ _ ?_; simp; done) | refine At.drew ?_ | refine At.alloc ?_ _)
                 · (try simp) <;> (try omega)
                 intro v9 w9 hR9 hb9 hg9 ho9
                 have hbW9 : Below W.heap.size W w9 := Below.trans (by (repeat' (first | exact Below.refl _ _ | assumption | refine gr_drew ?_ | refine gr_drewN ?_ _ | refine gr_alloc ?_ _ | refine gr_set ?_ ?_ _ | refine gr_call ?_ (by assumption)) <;> (try (simp; done)) <;> (try (simp; omega)) <;> (try omega))) hb9
                 have hs9 := hbW9.size
                 have c0 := cell_kept hbW9 b0
                 have c1 := cell_kept hbW9 b1
                 have c2 := cell_kept hbW9 b2)
              | (refine step_append_at aceE rfl _ _ rfl W.heap.size v8 (.slice (some ⟨W.heap.size, 0, none⟩) 1 1) (l.take k) [(t, d, q)] ?_ ?_ ?_ ?_ hlB ?_ ?_
                 · rfl
                 · repeat' (first | exact hR8 | refine Row.drew ?_ | refine Row.alloc ?_ _)
                 · rfl
                 · repeat' (first | exact ho | refine At.drew ?_ | refine At.alloc ?_ _)
                 · (try simp) <;> (try omega)
                 intro v9 w9 hR9 hb9 hg9 ho9
                 have hbW9 : Below W.heap.size W w9 := Below.trans (by (repeat' (first | exact Below.refl _ _ | assumption | refine gr_drew ?_ | refine gr_drewN ?_ _ | refine gr_alloc ?_ _ | refine gr_set ?_ ?_ _ | refine gr_call ?_ (by assumption)) <;> (try (simp; done)) <;> (try (simp; omega)) <;> (try omega))) hb9
                 have hs9 := hbW9.size
                 have c0 := cell_kept hbW9 b0
                 have c1 := cell_kept hbW9 b1
                 have c2 := cell_kept hbW9 b2)
              | (refine step_append_at aceE rfl _ _ rfl W.heap.size v8 (.slice (some ⟨W.heap.size + 1, 0, none⟩) 1 1) (l.take k) [(t, d, q)] ?_ ?_ ?_ ?_ hlB ?_ ?_
                 · rfl
                 · repeat' (first | exact hR8 | refine Row.drew ?_ | refine Row.alloc ?_ _)
                 · rfl
                 · repeat' (first | exact ho | refine At.drew ?_ | refine At.alloc ?_ _)
                 · (try simp) <;> (try omega)
                 intro v9 w9 hR9 hb9 hg9 ho9
                 have hbW9 : Below W.heap.size W w9 := Below.trans (by (repeat' (first | exact Below.refl _ _ | assumption | refine gr_drew ?_ | refine gr_drewN ?_ _ | refine gr_alloc ?_ _ | refine gr_set ?_ ?_ _ | refine gr_call ?_ (by assumption)) <;> (try (simp; done)) <;> (try (simp; omega)) <;> (try omega))) hb9
                 have hs9 := hbW9.size
                 have c0 := cell_kept hbW9 b0
                 have c1 := cell_kept hbW9 b1
                 have c2 := cell_kept hbW9 b2)
              | (refine step_append_at aceE rfl _ _ rfl W.heap.size (.slice (some ⟨W.heap.size, 0, none⟩) 0 0) tv [] (l.take k) ?_ ?_ ?_ (htat _ ?_) hlA ?_ ?_
                 · rfl
                 · repeat' (first | (refine row_new _ _ _ ?_ ?_ <;> (try simp) <;> (try omega); done) | refine Row.drew ?_ | refine Row.alloc ?_ _)
                 · rfl
                 · exact hl6.call (by (repeat' (first | exact Below.refl _ _ | assumption | refine gr_drew ?_ | refine gr_drewN ?_ _ | refine gr_alloc ?_ _ | refine gr_set ?_ ?_ _ | refine gr_call ?_ (by assumption)) <;> (try (simp; done)) <;> (try (simp; omega)) <;> (try omega)))
                 · (try simp) <;> (try omega)
                 intro v8 w8 hR8 hb8 hg8 ho8
                 rw [List.nil_append] at hR8
                 have hbW8 : Below W.heap.size W w8 := Below.trans (by (repeat' (first | exact Below.refl _ _ | assumption | refine gr_drew ?_ | refine gr_drewN ?_ _ | refine gr_alloc ?_ _ | refine gr_set ?_ ?_ _ | refine gr_call ?_ (by assumption)) <;> (try (simp; done)) <;> (try (simp; omega)) <;> (try omega))) hb8
                 have hs8 := hbW8.size
                 have c0 := cell_kept hbW8 b0
                 have c1 := cell_kept hbW8 b1
                 have c2 := cell_kept hbW8 b2
                 first
                   | (have ho : At aceE (.slice (some ⟨W.heap.size, 0, none⟩) 1 1) [(t, d, q)] w8 := by
                        refine At.grown ?_ hg8 (by intro j hj; simp [Value.ownBlock] at hj ⊢; omega)
                        repeat' (first | (refine at_one _ _ _ _ _ ?_; simp; done) | refine At.drew ?_ | refine At.alloc ?_ _))
                   | (have ho : At aceE (.slice (some ⟨W.heap.size + 1, 0, none⟩) 1 1) [(t, d, q)] w8 := by
                        refine At.grown ?_ hg8 (by intro j hj; simp [Value.ownBlock] at hj ⊢; omega)
                        repeat' (first | (refine at_one _ _ _ _ _ ?_; simp; done) | refine At.drew ?_ | refine At.alloc ?_ _))
                   | skip)
              | (refine step_append_at aceE rfl _ _ rfl W.heap.size (.slice (some ⟨W.heap.size + 1, 0, none⟩) 0 0) tv [] (l.take k) ?_ ?_ ?_ (htat _ ?_) hlA ?_ ?_
                 · rfl
                 · repeat' (first | (refine row_new _ _ _ ?_ ?_ <;> (try simp) <;> (try omega); done) | refine Row.drew ?_ | refine Row.alloc ?_ _)
                 · rfl
                 · exact hl6.call (by (repeat' (first | exact Below.refl _ _ | assumption | refine gr_drew ?_ | refine gr_drewN ?_ _ | refine gr_alloc ?_ _ | refine gr_set ?_ ?_ _ | refine gr_call ?_ (by assumption)) <;> (try (simp; done)) <;> (try (simp; omega)) <;> (try omega)))
                 · (try simp) <;> (try omega)
                 intro v8 w8 hR8 hb8 hg8 ho8
                 rw [List.nil_append] at hR8
                 have hbW8 : Below W.heap.size W w8 := Below.trans (by (repeat' (first | exact Below.refl _ _ | assumption | refine gr_drew ?_ | refine gr_drewN ?_ _ | refine gr_alloc ?_ _ | refine gr_set ?_ ?_ _ | refine gr_call ?_ (by assumption)) <;> (try (simp; done)) <;> (try (simp; omega)) <;> (try omega))) hb8
                 have hs8 := hbW8.size
                 have c0 := cell_kept hbW8 b0
                 have c1 := cell_kept hbW8 b1
                 have c2 := cell_kept hbW8 b2
                 first
                   | (have ho : At aceE (.slice (some ⟨W.heap.size, 0, none⟩) 1 1) [(t, d, q)] w8 := by
                        refine At.grown ?_ hg8 (by intro j hj; simp [Value.ownBlock] at hj ⊢; omega)
                        repeat' (first | (refine at_one _ _ _ _ _ ?_; simp; done) | refine At.drew ?_ | refine At.alloc ?_ _))
                   | (have ho : At aceE (.slice (some ⟨W.heap.size + 1, 0, none⟩) 1 1) [(t, d, q)] w8 := by
                        refine At.grown ?_ hg8 (by intro j hj; simp [Value.ownBlock] at hj ⊢; omega)
                        repeat' (first | (refine at_one _ _ _ _ _ ?_; simp; done) | refine At.drew ?_ | refine At.alloc ?_ _))
                   | skip))
          all_goals
            go_wp2_with fail
            go_ret
            exact ⟨⟨_, rfl, by rw [HE.out]; exact hR10.mono hWW⟩, hbl6.trans (hbW10.mono hWW)⟩
    · have hlt' : decide ((k : Int) < (z : Int)) = false := decide_eq_false (by omega)
      have hlt2 : decide (k < z) = false := decide_eq_false hlt
      have HE := Lib.hid (Hend.out k (by rw [Hz.out]; omega) HR.out)
      have hkz : k = z := by omega
      subst hkz
      obtain ⟨sv, hsv, hsat, _⟩ := slice_from hlw (k := k) (by rw [Hz.out]; omega)
      obtain ⟨tv, htv, htat, _⟩ := slice_upto hlw (k := k) (by rw [Hz.out]; omega)
      clear HR hlt Hcell
      go_wp2_with fail
      go_quiet (fail)
      rename_i nq
      have hqb : Below wr.heap.size wr (wr.drewN nq) := gr_drewN (Below.refl _ _) nq
      generalize wr.drewN nq = wq at *
      replace hlw := hlw.call hqb
      replace b0 := cell_kept hqb b0
      replace b1 := cell_kept hqb b1
      replace b2 := cell_kept hqb b2
      have hbq := gr_call hbl hqb
      have hsz : w.heap.size + 1 ≤ wq.heap.size := block_lt b0
      have hrow0 := row_new (w.heap.size + 1) wq.heap.size wq rfl hsz
      have hat0 := hsat _ (hlw.alloc (.cells #[] 51))
      have hl1 : ([] : List Ace).length + (l.drop k).length ≤ 1000000 := by simp; have := Hz.out; omega
      have hsz2 : w.heap.size + 1 ≤ (wq.alloc (.cells #[] 51)).heap.size := by simp; omega
      clear hbl hqb
      go_wp2_with (at_builtin; refine wp_append_at aceE rfl _ _ rfl (w.heap.size + 1) _ sv [] (l.drop k) (wq.alloc (.cells #[] 51)) rfl (by exact hrow0) (by rfl) (by exact hat0) hl1 hsz2 ?_)
      intro v6 w6 hR6 hb6 _ _
      have hb6' : Below (w.heap.size + 1) wq w6 := ((Below.refl _ _).alloc (B := w.heap.size + 1) hsz _).trans hb6
      replace b0 := cell_below hb6' (Nat.lt_succ_self _) b0
      replace b1 := cell_below hb6' (Nat.lt_succ_self _) b1
      replace b2 := cell_below hb6' (Nat.lt_succ_self _) b2
      have hbl6 : Below w.heap.size w w6 := hbq.trans (hb6'.mono (Nat.le_succ _))
      have hl6 := hat.call hbl6
      clear hb6 hb6' hrow0 hat0 hl1 hsz2 hsz hlw hbq
      clear hlt'
      rw [List.drop_eq_nil_of_le (by rw [Hz.out]; exact Nat.le_refl _)] at hR6
      rw [List.drop_eq_nil_of_le (by rw [Hz.out]; exact Nat.le_refl _)] at HE
      obtain ⟨p6, cap6, rfl, _⟩ := hR6.at.shape
      have hat6 := hR6.at
      simp only [List.length_nil] at hat6 ⊢
      clear hR6
      go_wp2_with fail
      go_quiet (fail)
      rename_i nq
      have hqb : Below w6.heap.size w6 (w6.drewN nq) := gr_drewN (Below.refl _ _) nq
      go_wp2_with fail
      generalize w6.drewN nq = W at *
      replace b0 := cell_kept hqb b0
      replace b1 := cell_kept hqb b1
      replace b2 := cell_kept hqb b2
      replace hl6 := hl6.call hqb
      replace hat6 := hat6.call hqb
      replace hbl6 := gr_call hbl6 hqb
      generalize (Value.slice p6 0 cap6) = rv at *
      clear hqb
      have hlA : ([] : List Ace).length + (l.take k).length ≤ 1000000 := by simp; omega
      have hlB : (l.take k).length + [((t, d, q) : Ace)].length ≤ 1000000 := by simp; omega
      have hlC : (l.take k ++ [((t, d, q) : Ace)]).length + ([] : List Ace).length ≤ 1000000 := by simp; omega
      have hWW : w.heap.size ≤ W.heap.size := hbl6.size
      have hbW : Below W.heap.size W W.drew := gr_drew (Below.refl _ _)
      clear hsv hsat hat
      go_region_held3 (fun w' => Below W.heap.size W w' ∧ w'.cell? ⟨w.heap.size, 0, none⟩ = some (.int .i64 t) ∧ w'.cell? ⟨w.heap.size, 1, none⟩ = some (.int .i64 d) ∧ w'.cell? ⟨w.heap.size, 2, none⟩ = some (.int .i64 q))
        (first | (go_keep; done) | (go_split_ands; (repeat' apply And.intro) <;> (first | assumption | exact Amb.on (by assumption) hb1 | exact AmbB.on (by assumption) hb1 | exact gr_call (by assumption) hb1 | exact cell_kept hb1 (by assumption) | exact free_kept hb1 (by assumption) (by assumption) | (show Below _ _ _; (repeat' (first | exact Below.refl _ _ | assumption | refine gr_drew ?_ | refine gr_drewN ?_ _ | refine gr_alloc ?_ _ | refine gr_set ?_ ?_ _ | refine gr_call ?_ (by assumption)) <;> (try (simp; done)) <;> (try (simp; omega)) <;> (try omega)); done) | (go_keep; done) | (simp [go_sem, *]; done))))
        (first
          | (refine step_append_at aceE rfl _ _ rfl W.heap.size v9 rv (l.take k ++ [(t, d, q)]) ([] : List Ace) ?_ ?_ ?_ ?_ hlC ?_ ?_
             · rfl
             · repeat' (first | exact hR9 | refine Row.drew ?_ | refine Row.alloc ?_ _)
             · rfl
             · exact hat6.call (by (repeat' (first | exact Below.refl _ _ | assumption | refine gr_drew ?_ | refine gr_drewN ?_ _ | refine gr_alloc ?_ _ | refine gr_set ?_ ?_ _ | refine gr_call ?_ (by assumption)) <;> (try (simp; done)) <;> (try (simp; omega)) <;> (try omega)))
             · (try simp) <;> (try omega)
             intro v10 w10 hR10 hb10 hg10 ho10
             have hbW10 : Below W.heap.size W w10 := Below.trans (by (repeat' (first | exact Below.refl _ _ | assumption | refine gr_drew ?_ | refine gr_drewN ?_ _ | refine gr_alloc ?_ _ | refine gr_set ?_ ?_ _ | refine gr_call ?_ (by assumption)) <;> (try (simp; done)) <;> (try (simp; omega)) <;> (try omega))) hb10
             have c0 := cell_kept hbW10 b0
             have c1 := cell_kept hbW10 b1
             have c2 := cell_kept hbW10 b2)
          | (refine step_append_at aceE rfl _ _ rfl W.heap.size v8 (.slice (some ⟨w8.heap.size, 0, none⟩) 1 1) (l.take k) [(t, d, q)] ?_ ?_ ?_ ?_ hlB ?_ ?_
             · rfl
             · repeat' (first | exact hR8 | refine Row.drew ?_ | refine Row.alloc ?_ _)
             · rfl
             · repeat' (first | (refine at_one _ _ _ _ _ ?_; simp; done) | refine At.drew ?_ | refine At.alloc ?_ _)
             · (try simp) <;> (try omega)
             intro v9 w9 hR9 hb9 hg9 ho9
             have hbW9 : Below W.heap.size W w9 := Below.trans (by (repeat' (first | exact Below.refl _ _ | assumption | refine gr_drew ?_ | refine gr_drewN ?_ _ | refine gr_alloc ?_ _ | refine gr_set ?_ ?_ _ | refine gr_call ?_ (by assumption)) <;> (try (simp; done)) <;> (try (simp; omega)) <;> (try omega))) hb9
             have hs9 := hbW9.size
             have c0 := cell_kept hbW9 b0
             have c1 := cell_kept hbW9 b1
             have c2 := cell_kept hbW9 b2)
          | (refine step_append_at aceE rfl _ _ rfl W.heap.size v8 (.slice (some ⟨W.heap.size, 0, none⟩) 1 1) (l.take k) [(t, d, q)] ?_ ?_ ?_ ?_ hlB ?_ ?_
             · rfl
             · repeat' (first | exact hR8 | refine Row.drew ?_ | refine Row.alloc ?_ _)
             · rfl
             · repeat' (first | exact ho | refine At.drew ?_ | refine At.alloc ?_ _)
             · (try simp) <;> (try omega)
             intro v9 w9 hR9 hb9 hg9 ho9
             have hbW9 : Below W.heap.size W w9 := Below.trans (by (repeat' (first | exact Below.refl _ _ | assumption | refine gr_drew ?_ | refine gr_drewN ?_ _ | refine gr_alloc ?_ _ | refine gr_set ?_ ?_ _ | refine gr_call ?_ (by assumption)) <;> (try (simp; done)) <;> (try (simp; omega)) <;> (try omega))) hb9
             have hs9 := hbW9.size
             have c0 := cell_kept hbW9 b0
             have c1 := cell_kept hbW9 b1
             have c2 := cell_kept hbW9 b2)
          | (refine step_append_at aceE rfl _ _ rfl W.heap.size v8 (.slice (some ⟨W.heap.size + 1, 0, none⟩) 1 1) (l.take k) [(t, d, q)] ?_ ?_ ?_ ?_ hlB ?_ ?_
             · rfl
             · repeat' (first | exact hR8 | refine Row.drew ?_ | refine Row.alloc ?_ _)
             · rfl
             · repeat' (first | exact ho | refine At.drew ?_ | refine At.alloc ?_ _)
             · (try simp) <;> (try omega)
             intro v9 w9 hR9 hb9 hg9 ho9
             have hbW9 : Below W.heap.size W w9 := Below.trans (by (repeat' (first | exact Below.refl _ _ | assumption | refine gr_drew ?_ | refine gr_drewN ?_ _ | refine gr_alloc ?_ _ | refine gr_set ?_ ?_ _ | refine gr_call ?_ (by assumption)) <;> (try (simp; done)) <;> (try (simp; omega)) <;> (try omega))) hb9
             have hs9 := hbW9.size
             have c0 := cell_kept hbW9 b0
             have c1 := cell_kept hbW9 b1
             have c2 := cell_kept hbW9 b2)
          | (refine step_append_at aceE rfl _ _ rfl W.heap.size (.slice (some ⟨W.heap.size, 0, none⟩) 0 0) tv [] (l.take k) ?_ ?_ ?_ (htat _ ?_) hlA ?_ ?_
             · rfl
             · repeat' (first | (refine row_new _ _ _ ?_ ?_ <;> (try simp) <;> (try omega); done) | refine Row.drew ?_ | refine Row.alloc ?_ _)
             · rfl
             · exact hl6.call (by (repeat' (first | exact Below.refl _ _ | assumption | refine gr_drew ?_ | refine gr_drewN ?_ _ | refine gr_alloc ?_ _ | refine gr_set ?_ ?_ _ | refine gr_call ?_ (by assumption)) <;> (try (simp; done)) <;> (try (simp; omega)) <;> (try omega)))
             · (try simp) <;> (try omega)
             intro v8 w8 hR8 hb8 hg8 ho8
             rw [List.nil_append] at hR8
             have hbW8 : Below W.heap.size W w8 := Below.trans (by (repeat' (first | exact Below.refl _ _ | assumption | refine gr_drew ?_ | refine gr_drewN ?_ _ | refine gr_alloc ?_ _ | refine gr_set ?_ ?_ _ | refine gr_call ?_ (by assumption)) <;> (try (simp; done)) <;> (try (simp; omega)) <;> (try omega))) hb8
             have hs8 := hbW8.size
             have c0 := cell_kept hbW8 b0
             have c1 := cell_kept hbW8 b1
             have c2 := cell_kept hbW8 b2
             first
               | (have ho : At aceE (.slice (some ⟨W.heap.size, 0, none⟩) 1 1) [(t, d, q)] w8 := by
                    refine At.grown ?_ hg8 (by intro j hj; simp [Value.ownBlock] at hj ⊢; omega)
                    repeat' (first | (refine at_one _ _ _ _ _ ?_; simp; done) | refine At.drew ?_ | refine At.alloc ?_ _))
               | (have ho : At aceE (.slice (some ⟨W.heap.size + 1, 0, none⟩) 1 1) [(t, d, q)] w8 := by
                    refine At.grown ?_ hg8 (by intro j hj; simp [Value.ownBlock] at hj ⊢; omega)
                    repeat' (first | (refine at_one _ _ _ _ _ ?_; simp; done) | refine At.drew ?_ | refine At.alloc ?_ _))
               | skip)
          | (refine step_append_at aceE rfl _ _ rfl W.heap.size (.slice (some ⟨W.heap.size + 1, 0, none⟩) 0 0) tv [] (l.take k) ?_ ?_ ?_ (htat _ ?_) hlA ?_ ?_
             · rfl
             · repeat' (first | (refine row_new _ _ _ ?_ ?_ <;> (try simp) <;> (try omega); done) | refine Row.drew ?_ | refine Row.alloc ?_ _)
             · rfl
             · exact hl6.call (by (repeat' (first | exact Below.refl _ _ | assumption | refine gr_drew ?_ | refine gr_drewN ?_ _ | refine gr_alloc ?_ _ | refine gr_set ?_ ?_ _ | refine gr_call ?_ (by assumption)) <;> (try (simp; done)) <;> (try (simp; omega)) <;> (try omega)))
             · (try simp) <;> (try omega)
             intro v8 w8 hR8 hb8 hg8 ho8
             rw [List.nil_append] at hR8
             have hbW8 : Below W.heap.size W w8 := Below.trans (by (repeat' (first | exact Below.refl _ _ | assumption | refine gr_drew ?_ | refine gr_drewN ?_ _ | refine gr_alloc ?_ _ | refine gr_set ?_ ?_ _ | refine gr_call ?_ (by assumption)) <;> (try (simp; done)) <;> (try (simp; omega)) <;> (try omega))) hb8
             have hs8 := hbW8.size
             have c0 := cell_kept hbW8 b0
             have c1 := cell_kept hbW8 b1
             have c2 := cell_kept hbW8 b2
             first
               | (have ho : At aceE (.slice (some ⟨W.heap.size, 0, none⟩) 1 1) [(t, d, q)] w8 := by
                    refine At.grown ?_ hg8 (by intro j hj; simp [Value.ownBlock] at hj ⊢; omega)
                    repeat' (first | (refine at_one _ _ _ _ _ ?_; simp; done) | refine At.drew ?_ | refine At.alloc ?_ _))
               | (have ho : At aceE (.slice (some ⟨W.heap.size + 1, 0, none⟩) 1 1) [(t, d, q)] w8 := by
                    refine At.grown ?_ hg8 (by intro j hj; simp [Value.ownBlock] at hj ⊢; omega)
                    repeat' (first | (refine at_one _ _ _ _ _ ?_; simp; done) | refine At.drew ?_ | refine At.alloc ?_ _))
               | skip))
      all_goals
        go_wp2_with fail
        go_ret
        exact ⟨⟨_, rfl, by rw [HE.out]; exact hR10.mono hWW⟩, hbl6.trans (hbW10.mono hWW)⟩
end Go.Proofs.Ytpfidbcnefnhcaa.AclW
