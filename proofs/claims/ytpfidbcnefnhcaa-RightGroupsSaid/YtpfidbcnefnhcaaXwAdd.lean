/- Lists by numbers: add, walked. -/
import Derived.Test.YtpfidbcnefnhcaaPk09
import Derived.Deep.RegionHeld3
namespace Go.Proofs.Ytpfidbcnefnhcaa.XatW
open Go.RowKit
open XatM
set_option linter.unusedVariables false

theorem row_new (B g : Nat) (X : World) (hg : X.heap.size = g) (hB : B ≤ X.heap.size) : Row xatE B (.slice (some ⟨g, 0, none⟩) 0 0) [] (X.alloc (.cells #[] 71)) := by
  subst hg
  exact lit_row (E := xatE) X [] #[] B 0 rfl hB (by simp) rfl
theorem at_one (N V : ByteArray) (g : Nat) (X : World) (hg : X.heap.size = g) : At xatE (.slice (some ⟨g, 0, none⟩) 1 1) [(N.data.toList, V.data.toList)] (X.alloc (.cells #[.string N, .string V] 71)) := by
  subst hg
  have h := (one_xat X (N.data.toList, V.data.toList) 0 (Nat.zero_le _)).at
  simp only [strOf_self] at h
  exact h
attribute [local irreducible] Row At

set_option maxHeartbeats 3200000 in
set_option maxRecDepth 100000 in
theorem add_any (v : Value) (l : List Xa) (N V : ByteArray) (w : World) (hat : At xatE v l w) (hl : l.length ≤ 1000) :
    Calls Try.prog 46 #[v, .agg #[.string N, .string V]] w fun e w' => (∃ v', e = .returned v' ∧ Row xatE w.heap.size v' (putX l (N.data.toList, V.data.toList)) w') ∧ Below w.heap.size w w' := by
  obtain ⟨a, ha⟩ : ∃ a : Xa, (N.data.toList, V.data.toList) = a := ⟨_, rfl⟩
  have ha1 : a.1 = N.data.toList := by rw [← ha]
  rw [ha]
  have Hstep := Lib.hid (fun k hk h hlt => put_step (l := l) (a := a) (k := k) hk h hlt)
  have Hend := Lib.hid (fun k hk h => put_end (l := l) (a := a) (k := k) hk h)
  have Hsame := Lib.hid (fun k hk h he => put_same (l := l) (a := a) (k := k) hk h he)
  have Hmore := Lib.hid (fun k hk h h1 h2 => put_more (l := l) (a := a) (k := k) hk h h1 h2)
  have H0 : Hid (putX l a = l.take 0 ++ putX (l.drop 0) a) := Lib.hid (by simp)
  obtain ⟨L, hL⟩ : ∃ L, putX l a = L := ⟨_, rfl⟩
  rw [hL] at Hstep Hend Hsame Hmore H0 ⊢
  rw [ha1] at Hstep Hsame Hmore
  rw [← ha] at Hstep Hend Hsame Hmore H0
  clear hL ha1 ha
  obtain ⟨z, hz⟩ : ∃ z, l.length = z := ⟨_, rfl⟩
  obtain ⟨p, cap, rfl, hcap, hcell⟩ := two_look xat_two hat
  rw [hz] at hl hcap hat ⊢
  have Hcell := Lib.hid hcell
  have Hz := Lib.hid hz
  have hx0 : Below w.heap.size w (w.alloc (.cells #[.string N, .string V] 71)) := by (repeat' (first | exact Below.refl _ _ | assumption | refine gr_drew ?_ | refine gr_drewN ?_ _ | refine gr_alloc ?_ _ | refine gr_set ?_ ?_ _ | refine gr_call ?_ (by assumption)) <;> (try (simp; done)) <;> (try (simp; omega)) <;> (try omega))
  obtain ⟨bx, hbx⟩ : ∃ b, w.heap.size = b := ⟨_, rfl⟩
  have b0 : (w.alloc (.cells #[.string N, .string V] 71)).cell? ⟨bx, 0, none⟩ = some (.string N) := by simp [go_sem, ← hbx]
  have b1 : (w.alloc (.cells #[.string N, .string V] 71)).cell? ⟨bx, 1, none⟩ = some (.string V) := by simp [go_sem, ← hbx]
  clear hcell hz
  go_enter Try.func46, Try.ntmps46
  go_wp2_with fail
  try simp only [hbx]
  go_loopw [5] (fun iv wr => ∃ k : Nat, iv = .int .i64 (k : Int) ∧ k ≤ z ∧ Below w.heap.size w wr ∧ wr.cell? ⟨bx, 0, none⟩ = some (.string N) ∧ wr.cell? ⟨bx, 1, none⟩ = some (.string V) ∧ Hid (L = l.take k ++ putX (l.drop k) (N.data.toList, V.data.toList))) (fun iv _ => z - (intOf iv).toNat)
  case atStart => exact ⟨0, rfl, by omega, hx0, b0, b1, H0⟩
  case round =>
    clear hx0 b0 b1 H0 hbx
    obtain ⟨k, rfl, hk, hbl, b0, b1, HR⟩ := hrel
    rename_i wr
    have hlw := hat.call hbl
    by_cases hlt : k < z
    · have hlt' : decide ((k : Int) < (z : Int)) = true := decide_eq_true (by omega)
      have hlt2 : decide (k < z) = true := decide_eq_true hlt
      have hk' : k < l.length := by rw [Hz.out]; exact hlt
      obtain ⟨g, off, rfl, hg, c0, c1⟩ := Hcell.out k hk'
      replace c0 := cell_kept hbl c0
      clear c1
      obtain ⟨Y, hY⟩ : ∃ Y, strOf l[k].1 = Y := ⟨_, rfl⟩
      have hYl : Y.data.toList = l[k].1 := by rw [← hY, strOf_list]
      have hcm := less_str Y N
      rw [hYl] at hcm
      rw [hY] at c0
      by_cases hid : l[k].1 < N.data.toList
      · have HN := Lib.hid (Hstep.out k hk' HR.out hid)
        rw [decide_eq_true hid] at hcm
        clear HR hY hYl hid
        go_wp2_with fail
        go_quiet (fail)
        go_wp2_with fail
        go_roundw
        case rel => exact ⟨k + 1, rfl, by omega, by (repeat' (first | exact Below.refl _ _ | assumption | refine gr_drew ?_ | refine gr_drewN ?_ _ | refine gr_alloc ?_ _ | refine gr_set ?_ ?_ _ | refine gr_call ?_ (by assumption)) <;> (try (simp; done)) <;> (try (simp; omega)) <;> (try omega)), by simp [go_sem, *], by simp [go_sem, *], HN⟩
        case measure => simp only [intOf]; omega
      · rw [decide_eq_false hid] at hcm
        obtain ⟨sv, hsv, hsat, _⟩ := slice_from hlw (k := k) (by omega)
        obtain ⟨tv, htv, htat, _⟩ := slice_upto hlw (k := k) (by omega)
        have HSm := Lib.hid (fun e => Hsame.out k hk' HR.out e)
        have HMo := Lib.hid (fun e => Hmore.out k hk' HR.out hid e)
        have hl0 : l.drop k ≠ [] := by
          intro e
          have := congrArg List.length e
          rw [List.length_drop, List.length_nil] at this
          omega
        have heq : (Y.toList == N.toList) = decide (l[k].1 = N.data.toList) := by rw [str_beq, hYl]
        clear HR Hcell hYl hid
        go_wp2_with fail
        go_quiet (fail)
        rename_i nq
        have hqb : Below wr.heap.size wr (wr.drewN nq) := gr_drewN (Below.refl _ _) nq
        generalize wr.drewN nq = wq at *
        replace hlw := hlw.call hqb
        replace b0 := cell_kept hqb b0
        replace b1 := cell_kept hqb b1
        try replace hres := hres.kept hqb hres.size
        have hbq := gr_call hbl hqb
        have hrow0 := row_new wq.heap.size wq.heap.size wq rfl (Nat.le_refl _)
        have hat0 := hsat _ (hlw.alloc (.cells #[] 71))
        have hl1 : ([] : List Xa).length + (l.drop k).length ≤ 1000000 := by simp; have := Hz.out; omega
        have hsz2 : wq.heap.size ≤ (wq.alloc (.cells #[] 71)).heap.size := by simp
        clear hbl hqb
        go_wp2_with (at_builtin; refine wp_append_at xatE rfl _ _ rfl wq.heap.size _ sv [] (l.drop k) (wq.alloc (.cells #[] 71)) rfl (by exact hrow0) (by rfl) (by exact hat0) hl1 hsz2 ?_)
        intro v6 w6 hR6 hb6 _ _
        have hb6' : Below wq.heap.size wq w6 := (gr_alloc (Below.refl _ _) _).trans hb6
        replace b0 := cell_kept hb6' b0
        replace b1 := cell_kept hb6' b1
        have hbl6 : Below w.heap.size w w6 := gr_call hbq hb6'
        have hl6 := hlw.call hb6'
        try have hres6 := hres.kept hb6' hres.size
        clear hb6 hb6' hrow0 hat0 hl1 hsz2 hlw hbq
        have hat6 := hR6.at
        clear hR6
        obtain ⟨g6, off6, cap6, rfl, hcap6, hg6, hcell6⟩ := two_open xat_two hat6 hl0
        obtain ⟨y, hy⟩ : ∃ y, (l.drop k).length = y := ⟨_, rfl⟩
        have hy0 : 0 < y := by rw [← hy]; exact List.length_pos_iff.2 hl0
        have hc6 : w6.cell? ⟨g6, off6, none⟩ = some (.string Y) := by
          have h := (hcell6 0 (by rw [hy]; exact hy0)).1
          rw [List.getElem_drop] at h
          rw [← hY]
          simpa using h
        rw [hy] at hat6 hcap6 ⊢
        have hy1 : decide ((0 : Int) < (y : Int)) = true := decide_eq_true (by omega)
        have hy2 : decide (0 < y) = true := decide_eq_true hy0
        clear hcell6 hY
        by_cases he : l[k].1 = N.data.toList
        · have HE := Lib.hid (HSm.out he)
          rw [decide_eq_true he] at heq
          obtain ⟨rv, hrv, hrvat, _⟩ := slice_from (k := 1) (by rw [← hy] at hat6; exact hat6) (by rw [hy]; exact hy0)
          rw [hy] at hrv hrvat
          have hrv1 : ∀ W, (Instr.sliceAt 25 (.slice (some ⟨g6, off6, none⟩) y cap6) (some (.int .i64 1)) none none).run Try.prog W = .ok rv W := hrv
          clear HSm HMo hrv he hlt hcm
          go_wp2_with fail
          go_quiet (fail)
          rename_i nq
          have hqb : Below w6.heap.size w6 (w6.drewN nq) := gr_drewN (Below.refl _ _) nq
          go_wp2_with fail
          generalize w6.drewN nq = W at *
          replace b0 := cell_kept hqb b0
          replace b1 := cell_kept hqb b1
          replace hl6 := hl6.call hqb
          replace hat6 := hat6.call hqb
          replace hbl6 := gr_call hbl6 hqb
          replace hat6 := hrvat _ hat6
          clear hqb hc6 hrvat heq
          have hzz := Hz.out
          clear hsv hsat hat
          have hlA : ([] : List Xa).length + (l.take k).length ≤ 1000000 := by simp; omega
          have hlB : (l.take k).length + [((N.data.toList, V.data.toList) : Xa)].length ≤ 1000000 := by simp; omega
          have hlC : (l.take k ++ [((N.data.toList, V.data.toList) : Xa)]).length + ((l.drop k).drop 1).length ≤ 1000000 := by simp; omega
          have hbW : Below W.heap.size W W.drew := gr_drew (Below.refl _ _)
          go_region_held3 (fun w' => Below W.heap.size W w' ∧ w'.cell? ⟨bx, 0, none⟩ = some (.string N) ∧ w'.cell? ⟨bx, 1, none⟩ = some (.string V))
            (first | (go_keep; done) | (go_split_ands; (repeat' apply And.intro) <;> (first | assumption | exact Amb.on (by assumption) hb1 | exact AmbB.on (by assumption) hb1 | exact gr_call (by assumption) hb1 | exact cell_kept hb1 (by assumption) | exact free_kept hb1 (by assumption) (by assumption) | (show Below _ _ _; (repeat' (first | exact Below.refl _ _ | assumption | refine gr_drew ?_ | refine gr_drewN ?_ _ | refine gr_alloc ?_ _ | refine gr_set ?_ ?_ _ | refine gr_call ?_ (by assumption)) <;> (try (simp; done)) <;> (try (simp; omega)) <;> (try omega)); done) | (go_keep; done) | (simp [go_sem, *]; done))))
            (first
              | (refine step_append_at xatE rfl _ _ rfl W.heap.size v9 rv (l.take k ++ [(N.data.toList, V.data.toList)]) ((l.drop k).drop 1) ?_ ?_ ?_ ?_ hlC ?_ ?_
                 · rfl
                 · repeat' (first | exact hR9 | refine Row.drew ?_ | refine Row.alloc ?_ _)
                 · rfl
                 · exact hat6.call (by (repeat' (first | exact Below.refl _ _ | assumption | refine gr_drew ?_ | refine gr_drewN ?_ _ | refine gr_alloc ?_ _ | refine gr_set ?_ ?_ _ | refine gr_call ?_ (by assumption)) <;> (try (simp; done)) <;> (try (simp; omega)) <;> (try omega)))
                 · (try simp) <;> (try omega)
                 intro v10 w10 hR10 hb10 hg10 ho10
                 have hbW10 : Below W.heap.size W w10 := Below.trans (by (repeat' (first | exact Below.refl _ _ | assumption | refine gr_drew ?_ | refine gr_drewN ?_ _ | refine gr_alloc ?_ _ | refine gr_set ?_ ?_ _ | refine gr_call ?_ (by assumption)) <;> (try (simp; done)) <;> (try (simp; omega)) <;> (try omega))) hb10
                 have c0 := cell_kept hbW10 b0
                 have c1 := cell_kept hbW10 b1)
              | (refine step_append_at xatE rfl _ _ rfl W.heap.size v8 (.slice (some ⟨w8.heap.size, 0, none⟩) 1 1) (l.take k) [(N.data.toList, V.data.toList)] ?_ ?_ ?_ ?_ hlB ?_ ?_
                 · rfl
                 · repeat' (first | exact hR8 | refine Row.drew ?_ | refine Row.alloc ?_ _)
                 · rfl
                 · repeat' (first | (refine at_one _ _ _ _ ?_; simp; done) | refine At.drew ?_ | refine At.alloc ?_ _)
                 · (try simp) <;> (try omega)
                 intro v9 w9 hR9 hb9 hg9 ho9
                 have hbW9 : Below W.heap.size W w9 := Below.trans (by (repeat' (first | exact Below.refl _ _ | assumption | refine gr_drew ?_ | refine gr_drewN ?_ _ | refine gr_alloc ?_ _ | refine gr_set ?_ ?_ _ | refine gr_call ?_ (by assumption)) <;> (try (simp; done)) <;> (try (simp; omega)) <;> (try omega))) hb9
                 have hs9 := hbW9.size
                 have c0 := cell_kept hbW9 b0
                 have c1 := cell_kept hbW9 b1)
              | (refine step_append_at xatE rfl _ _ rfl W.heap.size v8 (.slice (some ⟨W.heap.size, 0, none⟩) 1 1) (l.take k) [(N.data.toList, V.data.toList)] ?_ ?_ ?_ ?_ hlB ?_ ?_
                 · rfl
                 · repeat' (first | exact hR8 | refine Row.drew ?_ | refine Row.alloc ?_ _)
                 · rfl
                 · repeat' (first | exact ho | refine At.drew ?_ | refine At.alloc ?_ _)
                 · (try simp) <;> (try omega)
                 intro v9 w9 hR9 hb9 hg9 ho9
                 have hbW9 : Below W.heap.size W w9 := Below.trans (by (repeat' (first | exact Below.refl _ _ | assumption | refine gr_drew ?_ | refine gr_drewN ?_ _ | refine gr_alloc ?_ _ | refine gr_set ?_ ?_ _ | refine gr_call ?_ (by assumption)) <;> (try (simp; done)) <;> (try (simp; omega)) <;> (try omega))) hb9
                 have hs9 := hbW9.size
                 have c0 := cell_kept hbW9 b0
                 have c1 := cell_kept hbW9 b1)
              | (refine step_append_at xatE rfl _ _ rfl W.heap.size v8 (.slice (some ⟨W.heap.size + 1, 0, none⟩) 1 1) (l.take k) [(N.data.toList, V.data.toList)] ?_ ?_ ?_ ?_ hlB ?_ ?_
                 · rfl
                 · repeat' (first | exact hR8 | refine Row.drew ?_ | refine Row.alloc ?_ _)
                 · rfl
                 · repeat' (first | exact ho | refine At.drew ?_ | refine At.alloc ?_ _)
                 · (try simp) <;> (try omega)
                 intro v9 w9 hR9 hb9 hg9 ho9
                 have hbW9 : Below W.heap.size W w9 := Below.trans (by (repeat' (first | exact Below.refl _ _ | assumption | refine gr_drew ?_ | refine gr_drewN ?_ _ | refine gr_alloc ?_ _ | refine gr_set ?_ ?_ _ | refine gr_call ?_ (by assumption)) <;> (try (simp; done)) <;> (try (simp; omega)) <;> (try omega))) hb9
                 have hs9 := hbW9.size
                 have c0 := cell_kept hbW9 b0
                 have c1 := cell_kept hbW9 b1)
              | (refine step_append_at xatE rfl _ _ rfl W.heap.size (.slice (some ⟨W.heap.size, 0, none⟩) 0 0) tv [] (l.take k) ?_ ?_ ?_ (htat _ ?_) hlA ?_ ?_
                 · rfl
                 · repeat' (first | (refine row_new _ _ _ ?_ ?_ <;> (try simp) <;> (try omega); done) | refine Row.drew ?_ | refine Row.alloc ?_ _)
                 · rfl
                 · exact hl6.call (by (repeat' (first | exact Below.refl _ _ | assumption | refine gr_drew ?_ | refine gr_drewN ?_ _ | refine gr_alloc ?_ _ | refine gr_set ?_ ?_ _ | refine gr_call ?_ (by assumption)) <;> (try (simp; done)) <;> (try (simp; omega)) <;> (try omega)))
                 · (try simp) <;> (try omega)
                 intro v8 w8 hR8 hb8 hg8 ho8
                 rw [List.nil_append] at hR8
                 have hbW8 : Below W.heap.size W w8 := Below.trans (by (repeat' (first | exact Below.refl _ _ | assumption | refine gr_drew ?_ | refine gr_drewN ?_ _ | refine gr_alloc ?_ _ | refine gr_set ?_ ?_ _ | refine gr_call ?_ (by assumption)) <;> (try (simp; done)) <;> (try (simp; omega)) <;> (try omega))) hb8
                 have hs8 := hbW8.size
                 have c0 := cell_kept hbW8 b0
                 have c1 := cell_kept hbW8 b1
                 first
                   | (have ho : At xatE (.slice (some ⟨W.heap.size, 0, none⟩) 1 1) [(N.data.toList, V.data.toList)] w8 := by
                        refine At.grown ?_ hg8 (by intro j hj; simp [Value.ownBlock] at hj ⊢; omega)
                        repeat' (first | (refine at_one _ _ _ _ ?_; simp; done) | refine At.drew ?_ | refine At.alloc ?_ _))
                   | (have ho : At xatE (.slice (some ⟨W.heap.size + 1, 0, none⟩) 1 1) [(N.data.toList, V.data.toList)] w8 := by
                        refine At.grown ?_ hg8 (by intro j hj; simp [Value.ownBlock] at hj ⊢; omega)
                        repeat' (first | (refine at_one _ _ _ _ ?_; simp; done) | refine At.drew ?_ | refine At.alloc ?_ _))
                   | skip)
              | (refine step_append_at xatE rfl _ _ rfl W.heap.size (.slice (some ⟨W.heap.size + 1, 0, none⟩) 0 0) tv [] (l.take k) ?_ ?_ ?_ (htat _ ?_) hlA ?_ ?_
                 · rfl
                 · repeat' (first | (refine row_new _ _ _ ?_ ?_ <;> (try simp) <;> (try omega); done) | refine Row.drew ?_ | refine Row.alloc ?_ _)
                 · rfl
                 · exact hl6.call (by (repeat' (first | exact Below.refl _ _ | assumption | refine gr_drew ?_ | refine gr_drewN ?_ _ | refine gr_alloc ?_ _ | refine gr_set ?_ ?_ _ | refine gr_call ?_ (by assumption)) <;> (try (simp; done)) <;> (try (simp; omega)) <;> (try omega)))
                 · (try simp) <;> (try omega)
                 intro v8 w8 hR8 hb8 hg8 ho8
                 rw [List.nil_append] at hR8
                 have hbW8 : Below W.heap.size W w8 := Below.trans (by (repeat' (first | exact Below.refl _ _ | assumption | refine gr_drew ?_ | refine gr_drewN ?_ _ | refine gr_alloc ?_ _ | refine gr_set ?_ ?_ _ | refine gr_call ?_ (by assumption)) <;> (try (simp; done)) <;> (try (simp; omega)) <;> (try omega))) hb8
                 have hs8 := hbW8.size
                 have c0 := cell_kept hbW8 b0
                 have c1 := cell_kept hbW8 b1
                 first
                   | (have ho : At xatE (.slice (some ⟨W.heap.size, 0, none⟩) 1 1) [(N.data.toList, V.data.toList)] w8 := by
                        refine At.grown ?_ hg8 (by intro j hj; simp [Value.ownBlock] at hj ⊢; omega)
                        repeat' (first | (refine at_one _ _ _ _ ?_; simp; done) | refine At.drew ?_ | refine At.alloc ?_ _))
                   | (have ho : At xatE (.slice (some ⟨W.heap.size + 1, 0, none⟩) 1 1) [(N.data.toList, V.data.toList)] w8 := by
                        refine At.grown ?_ hg8 (by intro j hj; simp [Value.ownBlock] at hj ⊢; omega)
                        repeat' (first | (refine at_one _ _ _ _ ?_; simp; done) | refine At.drew ?_ | refine At.alloc ?_ _))
                   | skip))
          all_goals
            go_wp2_with fail
            go_ret
            exact ⟨⟨_, rfl, by rw [HE.out]; exact hR10.mono hbl6.size⟩, hbl6.trans (hbW10.mono hbl6.size)⟩
        · have HE := Lib.hid (HMo.out he)
          rw [decide_eq_false he] at heq
          clear HSm HMo he hlt hcm
          go_wp2_with fail
          go_quiet (fail)
          rename_i nq
          have hqb : Below w6.heap.size w6 (w6.drewN nq) := gr_drewN (Below.refl _ _) nq
          go_wp2_with fail
          generalize w6.drewN nq = W at *
          replace b0 := cell_kept hqb b0
          replace b1 := cell_kept hqb b1
          replace hl6 := hl6.call hqb
          replace hat6 := hat6.call hqb
          replace hbl6 := gr_call hbl6 hqb
          clear hqb hc6 heq
          generalize (Value.slice (some ⟨g6, off6, none⟩) y cap6) = rv at *
          have hzz := Hz.out
          clear hsv hsat hat
          have hlA : ([] : List Xa).length + (l.take k).length ≤ 1000000 := by simp; omega
          have hlB : (l.take k).length + [((N.data.toList, V.data.toList) : Xa)].length ≤ 1000000 := by simp; omega
          have hlC : (l.take k ++ [((N.data.toList, V.data.toList) : Xa)]).length + (l.drop k).length ≤ 1000000 := by simp; omega
          have hbW : Below W.heap.size W W.drew := gr_drew (Below.refl _ _)
          go_region_held3 (fun w' => Below W.heap.size W w' ∧ w'.cell? ⟨bx, 0, none⟩ = some (.string N) ∧ w'.cell? ⟨bx, 1, none⟩ = some (.string V))
            (first | (go_keep; done) | (go_split_ands; (repeat' apply And.intro) <;> (first | assumption | exact Amb.on (by assumption) hb1 | exact AmbB.on (by assumption) hb1 | exact gr_call (by assumption) hb1 | exact cell_kept hb1 (by assumption) | exact free_kept hb1 (by assumption) (by assumption) | (show Below _ _ _; (repeat' (first | exact Below.refl _ _ | assumption | refine gr_drew ?_ | refine gr_drewN ?_ _ | refine gr_alloc ?_ _ | refine gr_set ?_ ?_ _ | refine gr_call ?_ (by assumption)) <;> (try (simp; done)) <;> (try (simp; omega)) <;> (try omega)); done) | (go_keep; done) | (simp [go_sem, *]; done))))
            (first
              | (refine step_append_at xatE rfl _ _ rfl W.heap.size v9 rv (l.take k ++ [(N.data.toList, V.data.toList)]) (l.drop k) ?_ ?_ ?_ ?_ hlC ?_ ?_
                 · rfl
                 · repeat' (first | exact hR9 | refine Row.drew ?_ | refine Row.alloc ?_ _)
                 · rfl
                 · exact hat6.call (by (repeat' (first | exact Below.refl _ _ | assumption | refine gr_drew ?_ | refine gr_drewN ?_ _ | refine gr_alloc ?_ _ | refine gr_set ?_ ?_ _ | refine gr_call ?_ (by assumption)) <;> (try (simp; done)) <;> (try (simp; omega)) <;> (try omega)))
                 · (try simp) <;> (try omega)
                 intro v10 w10 hR10 hb10 hg10 ho10
                 have hbW10 : Below W.heap.size W w10 := Below.trans (by (repeat' (first | exact Below.refl _ _ | assumption | refine gr_drew ?_ | refine gr_drewN ?_ _ | refine gr_alloc ?_ _ | refine gr_set ?_ ?_ _ | refine gr_call ?_ (by assumption)) <;> (try (simp; done)) <;> (try (simp; omega)) <;> (try omega))) hb10
                 have c0 := cell_kept hbW10 b0
                 have c1 := cell_kept hbW10 b1)
              | (refine step_append_at xatE rfl _ _ rfl W.heap.size v8 (.slice (some ⟨w8.heap.size, 0, none⟩) 1 1) (l.take k) [(N.data.toList, V.data.toList)] ?_ ?_ ?_ ?_ hlB ?_ ?_
                 · rfl
                 · repeat' (first | exact hR8 | refine Row.drew ?_ | refine Row.alloc ?_ _)
                 · rfl
                 · repeat' (first | (refine at_one _ _ _ _ ?_; simp; done) | refine At.drew ?_ | refine At.alloc ?_ _)
                 · (try simp) <;> (try omega)
                 intro v9 w9 hR9 hb9 hg9 ho9
                 have hbW9 : Below W.heap.size W w9 := Below.trans (by (repeat' (first | exact Below.refl _ _ | assumption | refine gr_drew ?_ | refine gr_drewN ?_ _ | refine gr_alloc ?_ _ | refine gr_set ?_ ?_ _ | refine gr_call ?_ (by assumption)) <;> (try (simp; done)) <;> (try (simp; omega)) <;> (try omega))) hb9
                 have hs9 := hbW9.size
                 have c0 := cell_kept hbW9 b0
                 have c1 := cell_kept hbW9 b1)
              | (refine step_append_at xatE rfl _ _ rfl W.heap.size v8 (.slice (some ⟨W.heap.size, 0, none⟩) 1 1) (l.take k) [(N.data.toList, V.data.toList)] ?_ ?_ ?_ ?_ hlB ?_ ?_
                 · rfl
                 · repeat' (first | exact hR8 | refine Row.drew ?_ | refine Row.alloc ?_ _)
                 · rfl
                 · repeat' (first | exact ho | refine At.drew ?_ | refine At.alloc ?_ _)
                 · (try simp) <;> (try omega)
                 intro v9 w9 hR9 hb9 hg9 ho9
                 have hbW9 : Below W.heap.size W w9 := Below.trans (by (repeat' (first | exact Below.refl _ _ | assumption | refine gr_drew ?_ | refine gr_drewN ?_ _ | refine gr_alloc ?_ _ | refine gr_set ?_ ?_ _ | refine gr_call ?_ (by assumption)) <;> (try (simp; done)) <;> (try (simp; omega)) <;> (try omega))) hb9
                 have hs9 := hbW9.size
                 have c0 := cell_kept hbW9 b0
                 have c1 := cell_kept hbW9 b1)
              | (refine step_append_at xatE rfl _ _ rfl W.heap.size v8 (.slice (some ⟨W.heap.size + 1, 0, none⟩) 1 1) (l.take k) [(N.data.toList, V.data.toList)] ?_ ?_ ?_ ?_ hlB ?_ ?_
                 · rfl
                 · repeat' (first | exact hR8 | refine Row.drew ?_ | refine Row.alloc ?_ _)
                 · rfl
                 · repeat' (first | exact ho | refine At.drew ?_ | refine At.alloc ?_ _)
                 · (try simp) <;> (try omega)
                 intro v9 w9 hR9 hb9 hg9 ho9
                 have hbW9 : Below W.heap.size W w9 := Below.trans (by (repeat' (first | exact Below.refl _ _ | assumption | refine gr_drew ?_ | refine gr_drewN ?_ _ | refine gr_alloc ?_ _ | refine gr_set ?_ ?_ _ | refine gr_call ?_ (by assumption)) <;> (try (simp; done)) <;> (try (simp; omega)) <;> (try omega))) hb9
                 have hs9 := hbW9.size
                 have c0 := cell_kept hbW9 b0
                 have c1 := cell_kept hbW9 b1)
              | (refine step_append_at xatE rfl _ _ rfl W.heap.size (.slice (some ⟨W.heap.size, 0, none⟩) 0 0) tv [] (l.take k) ?_ ?_ ?_ (htat _ ?_) hlA ?_ ?_
                 · rfl
                 · repeat' (first | (refine row_new _ _ _ ?_ ?_ <;> (try simp) <;> (try omega); done) | refine Row.drew ?_ | refine Row.alloc ?_ _)
                 · rfl
                 · exact hl6.call (by (repeat' (first | exact Below.refl _ _ | assumption | refine gr_drew ?_ | refine gr_drewN ?_ _ | refine gr_alloc ?_ _ | refine gr_set ?_ ?_ _ | refine gr_call ?_ (by assumption)) <;> (try (simp; done)) <;> (try (simp; omega)) <;> (try omega)))
                 · (try simp) <;> (try omega)
                 intro v8 w8 hR8 hb8 hg8 ho8
                 rw [List.nil_append] at hR8
                 have hbW8 : Below W.heap.size W w8 := Below.trans (by (repeat' (first | exact Below.refl _ _ | assumption | refine gr_drew ?_ | refine gr_drewN ?_ _ | refine gr_alloc ?_ _ | refine gr_set ?_ ?_ _ | refine gr_call ?_ (by assumption)) <;> (try (simp; done)) <;> (try (simp; omega)) <;> (try omega))) hb8
                 have hs8 := hbW8.size
                 have c0 := cell_kept hbW8 b0
                 have c1 := cell_kept hbW8 b1
                 first
                   | (have ho : At xatE (.slice (some ⟨W.heap.size, 0, none⟩) 1 1) [(N.data.toList, V.data.toList)] w8 := by
                        refine At.grown ?_ hg8 (by intro j hj; simp [Value.ownBlock] at hj ⊢; omega)
                        repeat' (first | (refine at_one _ _ _ _ ?_; simp; done) | refine At.drew ?_ | refine At.alloc ?_ _))
                   | (have ho : At xatE (.slice (some ⟨W.heap.size + 1, 0, none⟩) 1 1) [(N.data.toList, V.data.toList)] w8 := by
                        refine At.grown ?_ hg8 (by intro j hj; simp [Value.ownBlock] at hj ⊢; omega)
                        repeat' (first | (refine at_one _ _ _ _ ?_; simp; done) | refine At.drew ?_ | refine At.alloc ?_ _))
                   | skip)
              | (refine step_append_at xatE rfl _ _ rfl W.heap.size (.slice (some ⟨W.heap.size + 1, 0, none⟩) 0 0) tv [] (l.take k) ?_ ?_ ?_ (htat _ ?_) hlA ?_ ?_
                 · rfl
                 · repeat' (first | (refine row_new _ _ _ ?_ ?_ <;> (try simp) <;> (try omega); done) | refine Row.drew ?_ | refine Row.alloc ?_ _)
                 · rfl
                 · exact hl6.call (by (repeat' (first | exact Below.refl _ _ | assumption | refine gr_drew ?_ | refine gr_drewN ?_ _ | refine gr_alloc ?_ _ | refine gr_set ?_ ?_ _ | refine gr_call ?_ (by assumption)) <;> (try (simp; done)) <;> (try (simp; omega)) <;> (try omega)))
                 · (try simp) <;> (try omega)
                 intro v8 w8 hR8 hb8 hg8 ho8
                 rw [List.nil_append] at hR8
                 have hbW8 : Below W.heap.size W w8 := Below.trans (by (repeat' (first | exact Below.refl _ _ | assumption | refine gr_drew ?_ | refine gr_drewN ?_ _ | refine gr_alloc ?_ _ | refine gr_set ?_ ?_ _ | refine gr_call ?_ (by assumption)) <;> (try (simp; done)) <;> (try (simp; omega)) <;> (try omega))) hb8
                 have hs8 := hbW8.size
                 have c0 := cell_kept hbW8 b0
                 have c1 := cell_kept hbW8 b1
                 first
                   | (have ho : At xatE (.slice (some ⟨W.heap.size, 0, none⟩) 1 1) [(N.data.toList, V.data.toList)] w8 := by
                        refine At.grown ?_ hg8 (by intro j hj; simp [Value.ownBlock] at hj ⊢; omega)
                        repeat' (first | (refine at_one _ _ _ _ ?_; simp; done) | refine At.drew ?_ | refine At.alloc ?_ _))
                   | (have ho : At xatE (.slice (some ⟨W.heap.size + 1, 0, none⟩) 1 1) [(N.data.toList, V.data.toList)] w8 := by
                        refine At.grown ?_ hg8 (by intro j hj; simp [Value.ownBlock] at hj ⊢; omega)
                        repeat' (first | (refine at_one _ _ _ _ ?_; simp; done) | refine At.drew ?_ | refine At.alloc ?_ _))
                   | skip))
          all_goals
            go_wp2_with fail
            go_ret
            exact ⟨⟨_, rfl, by rw [HE.out]; exact hR10.mono hbl6.size⟩, hbl6.trans (hbW10.mono hbl6.size)⟩
    · have hlt' : decide ((k : Int) < (z : Int)) = false := decide_eq_false (by omega)
      have hlt2 : decide (k < z) = false := decide_eq_false hlt
      have HE := Lib.hid (Hend.out k (by rw [Hz.out]; omega) HR.out)
      have hkz : k = z := by omega
      subst hkz
      obtain ⟨sv, hsv, hsat, _⟩ := slice_from hlw (k := k) (by rw [Hz.out]; omega)
      obtain ⟨tv, htv, htat, _⟩ := slice_upto hlw (k := k) (by rw [Hz.out]; omega)
      clear HR hlt Hcell
      go_wp2_with fail
      go_quiet (fail)
      rename_i nq
      have hqb : Below wr.heap.size wr (wr.drewN nq) := gr_drewN (Below.refl _ _) nq
      generalize wr.drewN nq = wq at *
      replace hlw := hlw.call hqb
      replace b0 := cell_kept hqb b0
      replace b1 := cell_kept hqb b1
      try replace hres := hres.kept hqb hres.size
      have hbq := gr_call hbl hqb
      have hrow0 := row_new wq.heap.size wq.heap.size wq rfl (Nat.le_refl _)
      have hat0 := hsat _ (hlw.alloc (.cells #[] 71))
      have hl1 : ([] : List Xa).length + (l.drop k).length ≤ 1000000 := by simp; have := Hz.out; omega
      have hsz2 : wq.heap.size ≤ (wq.alloc (.cells #[] 71)).heap.size := by simp
      clear hbl hqb
      go_wp2_with (at_builtin; refine wp_append_at xatE rfl _ _ rfl wq.heap.size _ sv [] (l.drop k) (wq.alloc (.cells #[] 71)) rfl (by exact hrow0) (by rfl) (by exact hat0) hl1 hsz2 ?_)
      intro v6 w6 hR6 hb6 _ _
      have hb6' : Below wq.heap.size wq w6 := (gr_alloc (Below.refl _ _) _).trans hb6
      replace b0 := cell_kept hb6' b0
      replace b1 := cell_kept hb6' b1
      have hbl6 : Below w.heap.size w w6 := gr_call hbq hb6'
      have hl6 := hlw.call hb6'
      try have hres6 := hres.kept hb6' hres.size
      clear hb6 hb6' hrow0 hat0 hl1 hsz2 hlw hbq
      clear hlt'
      rw [List.drop_eq_nil_of_le (by rw [Hz.out]; exact Nat.le_refl _)] at hR6
      obtain ⟨p6, cap6, rfl, _⟩ := hR6.at.shape
      have hat6 := hR6.at
      simp only [List.length_nil] at hat6 ⊢
      clear hR6
      go_wp2_with fail
      go_quiet (fail)
      rename_i nq
      have hqb : Below w6.heap.size w6 (w6.drewN nq) := gr_drewN (Below.refl _ _) nq
      go_wp2_with fail
      generalize w6.drewN nq = W at *
      replace b0 := cell_kept hqb b0
      replace b1 := cell_kept hqb b1
      replace hl6 := hl6.call hqb
      replace hat6 := hat6.call hqb
      replace hbl6 := gr_call hbl6 hqb
      generalize (Value.slice p6 0 cap6) = rv at *
      clear hqb hsv hsat hat
      have hlA : ([] : List Xa).length + (l.take k).length ≤ 1000000 := by simp; omega
      have hlB : (l.take k).length + [((N.data.toList, V.data.toList) : Xa)].length ≤ 1000000 := by simp; omega
      have hlC : (l.take k ++ [((N.data.toList, V.data.toList) : Xa)]).length + ([] : List Xa).length ≤ 1000000 := by simp; omega
      have hbW : Below W.heap.size W W.drew := gr_drew (Below.refl _ _)
      go_region_held3 (fun w' => Below W.heap.size W w' ∧ w'.cell? ⟨bx, 0, none⟩ = some (.string N) ∧ w'.cell? ⟨bx, 1, none⟩ = some (.string V))
        (first | (go_keep; done) | (go_split_ands; (repeat' apply And.intro) <;> (first | assumption | exact Amb.on (by assumption) hb1 | exact AmbB.on (by assumption) hb1 | exact gr_call (by assumption) hb1 | exact cell_kept hb1 (by assumption) | exact free_kept hb1 (by assumption) (by assumption) | (show Below _ _ _; (repeat' (first | exact Below.refl _ _ | assumption | refine gr_drew ?_ | refine gr_drewN ?_ _ | refine gr_alloc ?_ _ | refine gr_set ?_ ?_ _ | refine gr_call ?_ (by assumption)) <;> (try (simp; done)) <;> (try (simp; omega)) <;> (try omega)); done) | (go_keep; done) | (simp [go_sem, *]; done))))
        (first
          | (refine step_append_at xatE rfl _ _ rfl W.heap.size v9 rv (l.take k ++ [(N.data.toList, V.data.toList)]) ([] : List Xa) ?_ ?_ ?_ ?_ hlC ?_ ?_
             · rfl
             · repeat' (first | exact hR9 | refine Row.drew ?_ | refine Row.alloc ?_ _)
             · rfl
             · exact hat6.call (by (repeat' (first | exact Below.refl _ _ | assumption | refine gr_drew ?_ | refine gr_drewN ?_ _ | refine gr_alloc ?_ _ | refine gr_set ?_ ?_ _ | refine gr_call ?_ (by assumption)) <;> (try (simp; done)) <;> (try (simp; omega)) <;> (try omega)))
             · (try simp) <;> (try omega)
             intro v10 w10 hR10 hb10 hg10 ho10
             have hbW10 : Below W.heap.size W w10 := Below.trans (by (repeat' (first | exact Below.refl _ _ | assumption | refine gr_drew ?_ | refine gr_drewN ?_ _ | refine gr_alloc ?_ _ | refine gr_set ?_ ?_ _ | refine gr_call ?_ (by assumption)) <;> (try (simp; done)) <;> (try (simp; omega)) <;> (try omega))) hb10
             have c0 := cell_kept hbW10 b0
             have c1 := cell_kept hbW10 b1)
          | (refine step_append_at xatE rfl _ _ rfl W.heap.size v8 (.slice (some ⟨w8.heap.size, 0, none⟩) 1 1) (l.take k) [(N.data.toList, V.data.toList)] ?_ ?_ ?_ ?_ hlB ?_ ?_
             · rfl
             · repeat' (first | exact hR8 | refine Row.drew ?_ | refine Row.alloc ?_ _)
             · rfl
             · repeat' (first | (refine at_one _ _ _ _ ?_; simp; done) | refine At.drew ?_ | refine At.alloc ?_ _)
             · (try simp) <;> (try omega)
             intro v9 w9 hR9 hb9 hg9 ho9
             have hbW9 : Below W.heap.size W w9 := Below.trans (by (repeat' (first | exact Below.refl _ _ | assumption | refine gr_drew ?_ | refine gr_drewN ?_ _ | refine gr_alloc ?_ _ | refine gr_set ?_ ?_ _ | refine gr_call ?_ (by assumption)) <;> (try (simp; done)) <;> (try (simp; omega)) <;> (try omega))) hb9
             have hs9 := hbW9.size
             have c0 := cell_kept hbW9 b0
             have c1 := cell_kept hbW9 b1)
          | (refine step_append_at xatE rfl _ _ rfl W.heap.size v8 (.slice (some ⟨W.heap.size, 0, none⟩) 1 1) (l.take k) [(N.data.toList, V.data.toList)] ?_ ?_ ?_ ?_ hlB ?_ ?_
             · rfl
             · repeat' (first | exact hR8 | refine Row.drew ?_ | refine Row.alloc ?_ _)
             · rfl
             · repeat' (first | exact ho | refine At.drew ?_ | refine At.alloc ?_ _)
             · (try simp) <;> (try omega)
             intro v9 w9 hR9 hb9 hg9 ho9
             have hbW9 : Below W.heap.size W w9 := Below.trans (by (repeat' (first | exact Below.refl _ _ | assumption | refine gr_drew ?_ | refine gr_drewN ?_ _ | refine gr_alloc ?_ _ | refine gr_set ?_ ?_ _ | refine gr_call ?_ (by assumption)) <;> (try (simp; done)) <;> (try (simp; omega)) <;> (try omega))) hb9
             have hs9 := hbW9.size
             have c0 := cell_kept hbW9 b0
             have c1 := cell_kept hbW9 b1)
          | (refine step_append_at xatE rfl _ _ rfl W.heap.size v8 (.slice (some ⟨W.heap.size + 1, 0, none⟩) 1 1) (l.take k) [(N.data.toList, V.data.toList)] ?_ ?_ ?_ ?_ hlB ?_ ?_
             · rfl
             · repeat' (first | exact hR8 | refine Row.drew ?_ | refine Row.alloc ?_ _)
             · rfl
             · repeat' (first | exact ho | refine At.drew ?_ | refine At.alloc ?_ _)
             · (try simp) <;> (try omega)
             intro v9 w9 hR9 hb9 hg9 ho9
             have hbW9 : Below W.heap.size W w9 := Below.trans (by (repeat' (first | exact Below.refl _ _ | assumption | refine gr_drew ?_ | refine gr_drewN ?_ _ | refine gr_alloc ?_ _ | refine gr_set ?_ ?_ _ | refine gr_call ?_ (by assumption)) <;> (try (simp; done)) <;> (try (simp; omega)) <;> (try omega))) hb9
             have hs9 := hbW9.size
             have c0 := cell_kept hbW9 b0
             have c1 := cell_kept hbW9 b1)
          | (refine step_append_at xatE rfl _ _ rfl W.heap.size (.slice (some ⟨W.heap.size, 0, none⟩) 0 0) tv [] (l.take k) ?_ ?_ ?_ (htat _ ?_) hlA ?_ ?_
             · rfl
             · repeat' (first | (refine row_new _ _ _ ?_ ?_ <;> (try simp) <;> (try omega); done) | refine Row.drew ?_ | refine Row.alloc ?_ _)
             · rfl
             · exact hl6.call (by (repeat' (first | exact Below.refl _ _ | assumption | refine gr_drew ?_ | refine gr_drewN ?_ _ | refine gr_alloc ?_ _ | refine gr_set ?_ ?_ _ | refine gr_call ?_ (by assumption)) <;> (try (simp; done)) <;> (try (simp; omega)) <;> (try omega)))
             · (try simp) <;> (try omega)
             intro v8 w8 hR8 hb8 hg8 ho8
             rw [List.nil_append] at hR8
             have hbW8 : Below W.heap.size W w8 := Below.trans (by (repeat' (first | exact Below.refl _ _ | assumption | refine gr_drew ?_ | refine gr_drewN ?_ _ | refine gr_alloc ?_ _ | refine gr_set ?_ ?_ _ | refine gr_call ?_ (by assumption)) <;> (try (simp; done)) <;> (try (simp; omega)) <;> (try omega))) hb8
             have hs8 := hbW8.size
             have c0 := cell_kept hbW8 b0
             have c1 := cell_kept hbW8 b1
             first
               | (have ho : At xatE (.slice (some ⟨W.heap.size, 0, none⟩) 1 1) [(N.data.toList, V.data.toList)] w8 := by
                    refine At.grown ?_ hg8 (by intro j hj; simp [Value.ownBlock] at hj ⊢; omega)
                    repeat' (first | (refine at_one _ _ _ _ ?_; simp; done) | refine At.drew ?_ | refine At.alloc ?_ _))
               | (have ho : At xatE (.slice (some ⟨W.heap.size + 1, 0, none⟩) 1 1) [(N.data.toList, V.data.toList)] w8 := by
                    refine At.grown ?_ hg8 (by intro j hj; simp [Value.ownBlock] at hj ⊢; omega)
                    repeat' (first | (refine at_one _ _ _ _ ?_; simp; done) | refine At.drew ?_ | refine At.alloc ?_ _))
               | skip)
          | (refine step_append_at xatE rfl _ _ rfl W.heap.size (.slice (some ⟨W.heap.size + 1, 0, none⟩) 0 0) tv [] (l.take k) ?_ ?_ ?_ (htat _ ?_) hlA ?_ ?_
             · rfl
             · repeat' (first | (refine row_new _ _ _ ?_ ?_ <;> (try simp) <;> (try omega); done) | refine Row.drew ?_ | refine Row.alloc ?_ _)
             · rfl
             · exact hl6.call (by (repeat' (first | exact Below.refl _ _ | assumption | refine gr_drew ?_ | refine gr_drewN ?_ _ | refine gr_alloc ?_ _ | refine gr_set ?_ ?_ _ | refine gr_call ?_ (by assumption)) <;> (try (simp; done)) <;> (try (simp; omega)) <;> (try omega)))
             · (try simp) <;> (try omega)
             intro v8 w8 hR8 hb8 hg8 ho8
             rw [List.nil_append] at hR8
             have hbW8 : Below W.heap.size W w8 := Below.trans (by (repeat' (first | exact Below.refl _ _ | assumption | refine gr_drew ?_ | refine gr_drewN ?_ _ | refine gr_alloc ?_ _ | refine gr_set ?_ ?_ _ | refine gr_call ?_ (by assumption)) <;> (try (simp; done)) <;> (try (simp; omega)) <;> (try omega))) hb8
             have hs8 := hbW8.size
             have c0 := cell_kept hbW8 b0
             have c1 := cell_kept hbW8 b1
             first
               | (have ho : At xatE (.slice (some ⟨W.heap.size, 0, none⟩) 1 1) [(N.data.toList, V.data.toList)] w8 := by
                    refine At.grown ?_ hg8 (by intro j hj; simp [Value.ownBlock] at hj ⊢; omega)
                    repeat' (first | (refine at_one _ _ _ _ ?_; simp; done) | refine At.drew ?_ | refine At.alloc ?_ _))
               | (have ho : At xatE (.slice (some ⟨W.heap.size + 1, 0, none⟩) 1 1) [(N.data.toList, V.data.toList)] w8 := by
                    refine At.grown ?_ hg8 (by intro j hj; simp [Value.ownBlock] at hj ⊢; omega)
                    repeat' (first | (refine at_one _ _ _ _ ?_; simp; done) | refine At.drew ?_ | refine At.alloc ?_ _))
               | skip))
      all_goals
        go_wp2_with fail
        go_ret
        exact ⟨⟨_, rfl, by rw [HE.out]; exact hR10.mono hbl6.size⟩, hbl6.trans (hbW10.mono hbl6.size)⟩
end Go.Proofs.Ytpfidbcnefnhcaa.XatW
