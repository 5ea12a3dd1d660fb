/- The document's answer: whether a list may be. -/
import Derived.Test.YtpfidbcnefnhcaaPk02
import Derived.Deep.RegionHeld3
import Derived.Laws.MakeOwn
namespace Go.Proofs.Ytpfidbcnefnhcaa.AclW
open Go.RowKit
open AclM
set_option linter.unusedVariables false
attribute [local irreducible] Row At

theorem wp_make7 {ops : Array Oper} {rest : List Oper} {o : Oper} {a : Act} {Q : Exit → Act → World → Prop} (hg : o.guard = none) (l c : Operand) (hop : o.op = Op.makeSlice 31 l c)
    (w : World) (hl : a.eval l = .int .i64 7) (hc : a.eval c = .int .i64 7)
    (h : ∀ w', BlkIs w' w.heap.size 3 #[.int .i64 0, .int .i64 0, .int .i64 0, .int .i64 0, .int .i64 0, .int .i64 0, .int .i64 0] → Below w.heap.size w w' → wpList Try.prog ops Q rest (a.put o.dst (.slice (some ⟨w.heap.size, 0, none⟩) 7 7)) w') :
    wpList Try.prog ops Q (o :: rest) a w := by
  obtain ⟨i0, hi, hz0, hz1, hz2⟩ := info_parts (show (Try.prog.info? 3).map (fun i => (i.zero, i.size, i.bytes)) = some (some (.int .i64 0), 1, 8) by kernel_rfl)
  refine wpList_make_full w hg l c 31 hop w.heap.size 3 i0 (.int .i64 0) 1 Try.underlying31 hi hz0 hz1 .i64 .i64 7 7 7 hl hc rfl rfl (by rw [hz2]; omega) (by unfold maxLen; omega) (Nat.le_refl _) ?_
  intro w' h1 h2
  refine h w' ?_ ((Below.refl _ w).grown h2 (Nat.le_refl _) (fun k hk => by simp at hk))
  rcases h1.2 with ⟨hv, _⟩ | ⟨g, cap, cur, hv, _, hh, _, _, hsz, ht⟩
  · cases hv
  · cases hv
    unfold BlkIs
    rw [hh]
    have e : cur.toList = (madeCells (Value.int .i64 0).cells (7 * 1)).toList := by
      rw [← ht, List.take_of_length_le]
      simp [hsz]
    have e2 : cur = madeCells (Value.int .i64 0).cells (7 * 1) := Array.toList_inj.1 e
    rw [e2]
    have e3 : madeCells (Value.int .i64 0).cells (7 * 1) = #[.int .i64 0, .int .i64 0, .int .i64 0, .int .i64 0, .int .i64 0, .int .i64 0, .int .i64 0] := by
      apply Array.ext_getElem?
      intro i
      by_cases hi : i < 7
      · have : i = 0 ∨ i = 1 ∨ i = 2 ∨ i = 3 ∨ i = 4 ∨ i = 5 ∨ i = 6 := by omega
        rcases this with rfl | rfl | rfl | rfl | rfl | rfl | rfl <;> simp [madeCells, Value.cells]
      · simp [madeCells, hi]
    rw [e3]
set_option maxHeartbeats 6400000 in
set_option maxRecDepth 100000 in
theorem refMay_any (v : Value) (l : List Ace) (w : World) (hat : At aceE v l w) (hl : l.length ≤ 1000000) :
    Calls Try.prog 23 #[v] w fun e w' => e = .returned (.bool (may l)) ∧ Below w.heap.size w w' := by
  have Hfew := Lib.hid (@bad_few l)
  have Hmany := Lib.hid (@bad_many l)
  have Hpart := Lib.hid (fun i hi h => @bad_part' l i hi h)
  have Hord := Lib.hid (fun i h0 hi h => @bad_order l i h0 hi h)
  have Hsn := Lib.hid (fun i hi h h2 => @order_snoc l i hi h h2)
  have Hend := Lib.hid (@cnt_may l)
  have Hcs := Lib.hid (fun (i : Nat) (hi : i < l.length) k => show cntT (l.take (i + 1)) k = _ from (congrArg (fun x => cntT x k) (List.take_succ_eq_append_getElem hi)).trans (cnt_snoc (l.take i) l[i] k))
  have Hcl := Lib.hid (fun (i : Nat) k => Nat.le_trans (cnt_le (l.take i) k) (by rw [List.length_take]; exact Nat.min_le_left i l.length) : ∀ (i k : Nat), cntT (l.take i) k ≤ i)
  obtain ⟨r, hr⟩ : ∃ r, may l = r := ⟨_, rfl⟩
  have Hr := Lib.hid hr
  rw [hr]
  obtain ⟨z, hz⟩ : ∃ z, l.length = z := ⟨_, rfl⟩
  obtain ⟨p, cap, rfl, hcap, hcell⟩ := ace_look hat
  rw [hz] at hl hcap ⊢
  have Hcell := Lib.hid hcell
  have Hz := Lib.hid hz
  have Hnm := Lib.hid named_any
  clear hcell hat hz hr
  by_cases hz3 : z < 3
  · have e1 : decide ((z : Int) < 3) = true := decide_eq_true (by omega)
    have HE := Lib.hid (show r = false by rw [← Hr.out]; exact Hfew.out (by rw [Hz.out]; exact hz3))
    go_enter Try.func23, Try.ntmps23
    go_wp2_with fail
    go_ret
    exact ⟨by rw [HE.out]; rfl, Below.refl _ _⟩
  have e1 : decide ((z : Int) < 3) = false := decide_eq_false (by omega)
  by_cases hz32 : 32 < z
  · have e2 : decide ((32 : Int) < (z : Int)) = true := decide_eq_true (by omega)
    have HE := Lib.hid (show r = false by rw [← Hr.out]; exact Hmany.out (by rw [Hz.out]; exact hz32))
    go_enter Try.func23, Try.ntmps23
    go_wp2_with fail
    go_ret
    exact ⟨by rw [HE.out]; rfl, Below.refl _ _⟩
  have e2 : decide ((32 : Int) < (z : Int)) = false := decide_eq_false (by omega)
  go_enter Try.func23, Try.ntmps23
  go_wp2_with (at_make; refine wp_make7 rfl _ _ rfl w rfl rfl ?_)
  intro w1 hG hb1
  rw [show (#[.int .i64 0, .int .i64 0, .int .i64 0, .int .i64 0, .int .i64 0, .int .i64 0, .int .i64 0] : Array Value) = onceC (cntT (l.take 0)) by simp [onceC, cntT]] at hG
  go_wp2_with fail
  go_loopw [4] (fun iv wr => ∃ i : Nat, iv = .int .i64 (i : Int) ∧ i ≤ z ∧ Below w.heap.size w wr ∧ BlkIs wr w.heap.size 3 (onceC (cntT (l.take i))) ∧ Hid ((∀ a ∈ l.take i, okPart a = true) ∧ order (l.take i) = true)) (fun iv _ => z - (intOf iv).toNat)
  case atStart => exact ⟨0, rfl, by omega, hb1, hG, Lib.hid ⟨by simp, rfl⟩⟩
  case round =>
    clear hG hb1
    obtain ⟨i, rfl, hi, hbl, hG, HR⟩ := hrel
    rename World => wr
    have hgw := hG.size
    by_cases hlt : i < z
    · have hlt' : decide ((i : Int) < (z : Int)) = true := decide_eq_true (by omega)
      have hlt2 : decide (i < z) = true := decide_eq_true hlt
      have hi' : i < l.length := by rw [Hz.out]; exact hlt
      obtain ⟨g, off, rfl, hg, c0, c1, c2⟩ := Hcell.out i hi'
      replace c0 := cell_kept hbl c0
      replace c1 := cell_kept hbl c1
      replace c2 := cell_kept hbl c2
      have hnm := Lib.hid (Hnm.out l[i])
      have Hbad : Hid (okPart l[i] = false → r = false) := Lib.hid (fun h => by rw [← Hr.out]; exact Hpart.out i hi' h)
      have HS : Hid (okPart l[i] = true → (∀ h0 : 0 < i, ltA (l[i - 1]'(by omega)) l[i] = true) → (∀ a ∈ l.take (i + 1), okPart a = true) ∧ order (l.take (i + 1)) = true) := Lib.hid (fun h1 h2 => ⟨fun a ha => by
        rw [List.take_succ_eq_append_getElem hi'] at ha
        rcases List.mem_append.1 ha with ha | ha
        · exact HR.out.1 a ha
        · simp at ha; subst ha; exact h1, Hsn.out i hi' HR.out.2 h2⟩)
      have HO : Hid (∀ h0 : 0 < i, ltA (l[i - 1]'(by omega)) l[i] = false → r = false) := Lib.hid (fun h0 h => by rw [← Hr.out]; exact Hord.out i h0 hi' h)
      have HC := Lib.hid (Hcs.out i hi')
      have hprev : ∀ h0 : 0 < i, wr.cell? ⟨g, off + (i - 1) * 3, none⟩ = some (.int .i64 (l[i - 1]'(by omega)).1) ∧ wr.cell? ⟨g, off + (i - 1) * 3 + 1, none⟩ = some (.int .i64 (l[i - 1]'(by omega)).2.1) ∧ 0 ≤ (l[i - 1]'(by omega)).2.1 := fun h0 => by
        obtain ⟨g', off', he, _, d0, d1, _⟩ := Hcell.out (i - 1) (by omega)
        cases he
        refine ⟨cell_kept hbl d0, cell_kept hbl d1, (okPart_iff (HR.out.1 _ ?_)).2.2.2.2.1⟩
        have : l[i - 1]'(by omega) = (l.take i)[i - 1]'(by rw [List.length_take]; omega) := List.getElem_take.symm
        rw [this]
        exact List.getElem_mem _
      have Hprev := Lib.hid hprev
      generalize l[i] = a at *
      obtain ⟨t, d, q⟩ := a
      simp only at c0 c1 c2
      have hgs := hbl.size
      clear hprev HR
      by_cases x0 : t < 1
      · have y0 : decide (t < 1) = true := decide_eq_true x0
        have HE := Lib.hid (Hbad.out (by
          rw [← Bool.not_eq_true]
          intro h
          have := okPart_iff h
          simp only at this
          omega))
        clear Hbad HS HO HC Hprev hnm
        go_wp2_with fail
        go_ret
        exact ⟨by rw [HE.out]; rfl, by (repeat' (first | exact Below.refl _ _ | assumption | refine gr_drew ?_ | refine gr_drewN ?_ _ | refine gr_alloc ?_ _ | refine gr_set ?_ ?_ _ | refine gr_call ?_ (by assumption)) <;> (try (simp; done)) <;> (try (simp; omega)) <;> (try omega))⟩
      have y0 : decide (t < 1) = false := decide_eq_false x0
      by_cases x1 : 6 < t
      · have y1 : decide (6 < t) = true := decide_eq_true x1
        have HE := Lib.hid (Hbad.out (by
          rw [← Bool.not_eq_true]
          intro h
          have := okPart_iff h
          simp only at this
          omega))
        clear Hbad HS HO HC Hprev hnm
        go_wp2_with fail
        go_ret
        exact ⟨by rw [HE.out]; rfl, by (repeat' (first | exact Below.refl _ _ | assumption | refine gr_drew ?_ | refine gr_drewN ?_ _ | refine gr_alloc ?_ _ | refine gr_set ?_ ?_ _ | refine gr_call ?_ (by assumption)) <;> (try (simp; done)) <;> (try (simp; omega)) <;> (try omega))⟩
      have y1 : decide (6 < t) = false := decide_eq_false x1
      by_cases x2 : q < 0
      · have y2 : decide (q < 0) = true := decide_eq_true x2
        have HE := Lib.hid (Hbad.out (by
          rw [← Bool.not_eq_true]
          intro h
          have := okPart_iff h
          simp only at this
          omega))
        clear Hbad HS HO HC Hprev hnm
        go_wp2_with fail
        go_ret
        exact ⟨by rw [HE.out]; rfl, by (repeat' (first | exact Below.refl _ _ | assumption | refine gr_drew ?_ | refine gr_drewN ?_ _ | refine gr_alloc ?_ _ | refine gr_set ?_ ?_ _ | refine gr_call ?_ (by assumption)) <;> (try (simp; done)) <;> (try (simp; omega)) <;> (try omega))⟩
      have y2 : decide (q < 0) = false := decide_eq_false x2
      by_cases x3 : 7 < q
      · have y3 : decide (7 < q) = true := decide_eq_true x3
        have HE := Lib.hid (Hbad.out (by
          rw [← Bool.not_eq_true]
          intro h
          have := okPart_iff h
          simp only at this
          omega))
        clear Hbad HS HO HC Hprev hnm
        go_wp2_with fail
        go_ret
        exact ⟨by rw [HE.out]; rfl, by (repeat' (first | exact Below.refl _ _ | assumption | refine gr_drew ?_ | refine gr_drewN ?_ _ | refine gr_alloc ?_ _ | refine gr_set ?_ ?_ _ | refine gr_call ?_ (by assumption)) <;> (try (simp; done)) <;> (try (simp; omega)) <;> (try omega))⟩
      have y3 : decide (7 < q) = false := decide_eq_false x3
      by_cases x4 : d < 0
      · have y4 : decide (d < 0) = true := decide_eq_true x4
        have HE := Lib.hid (Hbad.out (by
          rw [← Bool.not_eq_true]
          intro h
          have := okPart_iff h
          simp only at this
          omega))
        clear Hbad HS HO HC Hprev hnm
        go_wp2_with fail
        go_ret
        exact ⟨by rw [HE.out]; rfl, by (repeat' (first | exact Below.refl _ _ | assumption | refine gr_drew ?_ | refine gr_drewN ?_ _ | refine gr_alloc ?_ _ | refine gr_set ?_ ?_ _ | refine gr_call ?_ (by assumption)) <;> (try (simp; done)) <;> (try (simp; omega)) <;> (try omega))⟩
      have y4 : decide (d < 0) = false := decide_eq_false x4
      by_cases x5 : 2147483647 < d
      · have y5 : decide (2147483647 < d) = true := decide_eq_true x5
        have HE := Lib.hid (Hbad.out (by
          rw [← Bool.not_eq_true]
          intro h
          have := okPart_iff h
          simp only at this
          omega))
        clear Hbad HS HO HC Hprev hnm
        go_wp2_with fail
        go_ret
        exact ⟨by rw [HE.out]; rfl, by (repeat' (first | exact Below.refl _ _ | assumption | refine gr_drew ?_ | refine gr_drewN ?_ _ | refine gr_alloc ?_ _ | refine gr_set ?_ ?_ _ | refine gr_call ?_ (by assumption)) <;> (try (simp; done)) <;> (try (simp; omega)) <;> (try omega))⟩
      have y5 : decide (2147483647 < d) = false := decide_eq_false x5
      have hgs2 : wr.heap.size < (wr.alloc (.cells #[.int .i64 t, .int .i64 d, .int .i64 q] 51)).heap.size := by simp
      have hG2 : BlkIs (wr.alloc (.cells #[.int .i64 t, .int .i64 d, .int .i64 q] 51)) w.heap.size 3 (onceC (cntT (l.take i))) := hG.alloc _
      have hbl2 : Below w.heap.size w (wr.alloc (.cells #[.int .i64 t, .int .i64 d, .int .i64 q] 51)) := gr_alloc hbl _
      have hid0 : (d == 0) = decide (d = 0) := by by_cases h : d = 0 <;> simp [h]
      obtain ⟨nb, hnb⟩ : ∃ nb, hasId t = nb := ⟨_, rfl⟩
      have hnm2 : Hid (∀ W, Calls Try.prog 37 #[aceV (t, d, q)] W fun e w' => e = .returned (.bool nb) ∧ Below W.heap.size W w') := Lib.hid (fun W => by rw [← hnb]; exact hnm.out W)
      unfold aceV at hnm2
      simp only at hnm2
      by_cases hbad7 : nb = false ∧ d ≠ 0
      · obtain ⟨rfl, hd0⟩ := hbad7
        have HE := Lib.hid (Hbad.out (by
          rw [← Bool.not_eq_true]
          intro h
          exact hd0 ((okPart_iff h).2.2.2.2.2.2 hnb)))
        have hd1 : decide (d = 0) = false := decide_eq_false hd0
        have hd2 : (d == 0) = false := by rw [hid0, hd1]
        clear Hbad HS HO HC Hprev hnm hid0 hd1
        have k1 : ∀ w2, Below (wr.alloc (.cells #[.int .i64 t, .int .i64 d, .int .i64 q] 51)).heap.size (wr.alloc (.cells #[.int .i64 t, .int .i64 d, .int .i64 q] 51)) w2 → w2.cell? ⟨wr.heap.size, 1, none⟩ = some (.int .i64 d) := fun w2 hb2 => cell_kept hb2 (by simp [go_sem])
        go_wp2_with fail
        refine (hnm2.out _).mono ?_
        rintro e w2 ⟨rfl, hb2⟩
        replace k1 := k1 w2 hb2
        go_wp2_with fail
        go_ret
        exact ⟨by rw [HE.out]; rfl, gr_call hbl2 hb2⟩
      have hokp : okPart (t, d, q) = true := by
        unfold okPart
        simp only [Bool.and_eq_true, decide_eq_true_eq]
        refine ⟨⟨⟨⟨by omega, by omega⟩, by omega⟩, by omega⟩, ?_⟩
        rw [hnb]
        cases nb
        · rw [if_neg (by decide), decide_eq_true_eq]
          by_cases h : d = 0
          · exact h
          · exact absurd ⟨rfl, h⟩ hbad7
        · rw [if_pos rfl]
          simp only [Bool.and_eq_true, decide_eq_true_eq]
          omega
      have HS2 := Lib.hid (HS.out hokp)
      clear Hbad HS
      obtain ⟨tn, rfl⟩ : ∃ tn : Nat, t = (tn : Int) := ⟨t.toNat, by omega⟩
      have htn7 : tn < 7 := by omega
      have htn7' : (tn : Int) < 7 := by omega
      have htn7'' : decide (tn < 7) = true := decide_eq_true htn7
      have hcl := Hcl.out i tn
      have hwc : IntKind.i64.wrap ((cntT (l.take i) tn : Int) + 1) = (cntT (l.take i) tn : Int) + 1 := by rw [IntKind.wrap_i64]; omega
      clear x0 x1 x2 x3 x4 x5 hnm
      rcases nb with _ | _
      · have hd0 : d = 0 := by
          by_cases h : d = 0
          · exact h
          · exact absurd ⟨rfl, h⟩ hbad7
        have hd2 : (d == 0) = true := by rw [hd0]; rfl
        have Hd0 := Lib.hid hd0
        clear hid0 hd0 hbad7
        go_wp2_with fail
        refine (hnm2.out _).mono ?_
        rintro e w2 ⟨rfl, hb2⟩
        obtain ⟨K, hK⟩ : ∃ K, wr.heap.size = K := ⟨_, rfl⟩
        have k0 : w2.cell? ⟨K, 0, none⟩ = some (.int .i64 (tn : Int)) := by rw [← hK]; exact cell_kept hb2 (by simp [go_sem])
        have k1 : w2.cell? ⟨K, 1, none⟩ = some (.int .i64 d) := by rw [← hK]; exact cell_kept hb2 (by simp [go_sem])
        have k2 : w2.cell? ⟨K, 2, none⟩ = some (.int .i64 q) := by rw [← hK]; exact cell_kept hb2 (by simp [go_sem])
        have hG3 := hG2.kept hb2 (by rw [hK] at hgw; simp; omega)
        have hP3 : ∀ (o : Nat) (u : Value), wr.cell? ⟨g, o, none⟩ = some u → w2.cell? ⟨g, o, none⟩ = some u := fun o u hu => cell_kept (gr_call (gr_alloc (Below.refl _ _) _) hb2) hu
        have hbl3 : Below w.heap.size w w2 := gr_call hbl2 hb2
        clear hb2 hbl2 hG2 hbl hG c0 c1 c2
        rcases Nat.eq_zero_or_pos i with h0 | h0
        · have hi0 : decide ((0 : Int) < (i : Int)) = false := decide_eq_false (by omega)
          have hi0' : decide (0 < i) = false := decide_eq_false (by omega)
          have HN := Lib.hid (HS2.out (fun h => absurd h (by omega)))
          clear HS2 HO Hprev h0 hP3
          go_wp2_with fail
          go_quiet (fail)
          rename_i nq
          have hqb : Below w2.heap.size w2 (w2.drewN nq) := gr_drewN (Below.refl _ _) nq
          replace k0 := cell_kept hqb k0
          replace k1 := cell_kept hqb k1
          replace k2 := cell_kept hqb k2
          replace hG3 := hG3.kept hqb hG3.size
          replace hbl3 := gr_call hbl3 hqb
          generalize w2.drewN nq = W at *
          have hGz := hG3
          have hBz := hbl3
          have oz := hGz.cell_some tn _ (once_at _ tn htn7)
          have fz := hGz.free tn
          have hz1 := once_put (cntT (l.take i)) (cntT (l.take (i + 1))) tn htn7 (fun k => by
            have h := HC.out k
            rw [h]
            congr 1
            by_cases hk : k = tn
            · subst hk; simp
            · rw [if_neg hk, if_neg (by omega)])
          have hpz := hGz.put tn (.int .i64 ((cntT (l.take i) tn : Int) + 1))
          rw [hz1] at hpz
          have hBp := gr_set hBz (p := ⟨w.heap.size, tn, none⟩) (Nat.le_refl _) (.int .i64 ((cntT (l.take i) tn : Int) + 1))
          clear hz1
          go_wp2_with fail
          go_roundw
          case rel => exact ⟨i + 1, rfl, by omega, hBp, hpz, HN⟩
          case measure => simp only [intOf]; omega
        · have hi0 : decide ((0 : Int) < (i : Int)) = true := decide_eq_true (by omega)
          have hi0' : decide (0 < i) = true := decide_eq_true h0
          have hi1 : (1 : Int) ≤ (i : Int) := by omega
          have hi2 : (i : Int) - 1 < (z : Int) := by omega
          have hwr : IntKind.i64.wrap ((i : Int) - 1) = (i : Int) - 1 := by rw [IntKind.wrap_i64]; omega
          obtain ⟨p0, p1, pn⟩ := Hprev.out h0
          have HO2 := Lib.hid (HO.out h0)
          have HS3 : Hid (ltA (l[i - 1]'(by omega)) (((tn : Nat) : Int), d, q) = true → _) := Lib.hid (fun h => HS2.out (fun _ => h))
          generalize (l[i - 1]'(by omega)) = pa at *
          obtain ⟨t', d', q'⟩ := pa
          simp only at p0 p1 pn
          replace p0 := hP3 _ _ p0
          replace p1 := hP3 _ _ p1
          clear hP3 HO HS2 Hprev
          by_cases hA : (tn : Int) < t'
          · have v1 : decide ((tn : Int) < t') = true := decide_eq_true hA
            have HE := Lib.hid (HO2.out (by rw [← Bool.not_eq_true, lt_iff]; simp only; omega))
            clear HO2 HS3 hA
            go_wp2_with fail
            go_quiet (fail)
            rename_i nq
            have hqb : Below w2.heap.size w2 (w2.drewN nq) := gr_drewN (Below.refl _ _) nq
            replace k0 := cell_kept hqb k0
            replace k1 := cell_kept hqb k1
            replace k2 := cell_kept hqb k2
            replace hG3 := hG3.kept hqb hG3.size
            replace hbl3 := gr_call hbl3 hqb
            generalize w2.drewN nq = W at *
            go_wp2_with fail
            go_ret
            exact ⟨by rw [HE.out]; rfl, hbl3⟩
          have v1 : decide ((tn : Int) < t') = false := decide_eq_false hA
          by_cases hB : (tn : Int) = t'
          · have v2 : ((tn : Int) == t') = true := by rw [hB]; exact beq_self_eq_true _
            have HB2 := Lib.hid hB
            clear hB
            have HE := Lib.hid (HO2.out (by have := Hd0.out; have := HB2.out; rw [← Bool.not_eq_true, lt_iff]; simp only; omega))
            clear HO2 HS3
            go_wp2_with fail
            refine wp_region_held_drew (S := (fun w' => Below w.heap.size w w' ∧ BlkIs w' w.heap.size 3 (onceC (cntT (l.take i))) ∧ w'.cell? ⟨K, 0, none⟩ = some (.int .i64 (tn : Int)) ∧ w'.cell? ⟨K, 1, none⟩ = some (.int .i64 d) ∧ w'.cell? ⟨K, 2, none⟩ = some (.int .i64 q) ∧ w'.cell? ⟨g, off + (i - 1) * 3, none⟩ = some (.int .i64 t') ∧ w'.cell? ⟨g, off + (i - 1) * 3 + 1, none⟩ = some (.int .i64 d'))) (by kernel_rfl) ?_ (fun hHeld => ?_)
            · first | (go_keep; done) | (go_split_ands; (repeat' apply And.intro) <;> (first | assumption | (show Below _ _ _; (repeat' (first | exact Below.refl _ _ | assumption | refine gr_drew ?_ | refine gr_drewN ?_ _ | refine gr_alloc ?_ _ | refine gr_set ?_ ?_ _ | refine gr_call ?_ (by assumption)) <;> (try (simp; done)) <;> (try (simp; omega)) <;> (try omega)); done) | (go_keep; done)))
            refine wpAnyH_take (i := 0) (oi := _) (v := ?_) rfl (by kernel_rfl) (by kernel_rfl) (by kernel_rfl) (fun _ _ _ h => h) (Or.inl ⟨by rfl, ?_⟩) (by assumption) ?_
            rotate_left
            · intro w hSw
              (try dsimp only at hSw)
              go_simp
              all_goals (first | done | with_reducible rfl)
            change wpAnyH _ _ _ _ _ _ _ (Act.put _ (some 63) _) _
            simp only [Act.put, List.setIfInBounds_toArray, List.set_cons_zero, List.set_cons_succ]
            refine wpAnyH_take (i := 1) (oi := _) (v := ?_) rfl (by kernel_rfl) (by kernel_rfl) (by kernel_rfl) (fun _ _ _ h => h) (Or.inl ⟨by rfl, ?_⟩) (by assumption) ?_
            rotate_left
            · intro w hSw
              (try dsimp only at hSw)
              go_simp
              all_goals (first | done | with_reducible rfl)
            change wpAnyH _ _ _ _ _ _ _ (Act.put _ (some 64) _) _
            simp only [Act.put, List.setIfInBounds_toArray, List.set_cons_zero, List.set_cons_succ]
            refine wpAnyH_take (i := 2) (oi := _) (v := ?_) rfl (by kernel_rfl) (by kernel_rfl) (by kernel_rfl) (fun _ _ _ h => h) (Or.inl ⟨by rfl, ?_⟩) (by assumption) ?_
            rotate_left
            · intro w hSw
              (try dsimp only at hSw)
              go_simp
              all_goals (first | done | with_reducible rfl)
            change wpAnyH _ _ _ _ _ _ _ (Act.put _ (some 65) _) _
            simp only [Act.put, List.setIfInBounds_toArray, List.set_cons_zero, List.set_cons_succ]
            refine wpAnyH_take (i := 3) (oi := _) (v := ?_) rfl (by kernel_rfl) (by kernel_rfl) (by kernel_rfl) (fun _ _ _ h => h) (Or.inl ⟨by rfl, ?_⟩) (by assumption) ?_
            rotate_left
            · intro w hSw
              (try dsimp only at hSw)
              go_simp
              all_goals (first | done | with_reducible rfl)
            change wpAnyH _ _ _ _ _ _ _ (Act.put _ (some 66) _) _
            simp only [Act.put, List.setIfInBounds_toArray, List.set_cons_zero, List.set_cons_succ]
            refine wpAnyH_take (i := 4) (oi := _) (v := ?_) rfl (by kernel_rfl) (by kernel_rfl) (by kernel_rfl) (fun _ _ _ h => h) (Or.inl ⟨by rfl, ?_⟩) (by assumption) ?_
            rotate_left
            · intro w hSw
              (try dsimp only at hSw)
              go_simp
              all_goals (first | done | with_reducible rfl)
            change wpAnyH _ _ _ _ _ _ _ (Act.put _ (some 67) _) _
            simp only [Act.put, List.setIfInBounds_toArray, List.set_cons_zero, List.set_cons_succ]
            refine wpAnyH_take (i := 5) (oi := _) (v := ?_) rfl (by kernel_rfl) (by kernel_rfl) (by kernel_rfl) (fun _ _ _ h => h) (Or.inl ⟨by rfl, ?_⟩) (by assumption) ?_
            rotate_left
            · intro w hSw
              (try dsimp only at hSw)
              go_simp
              all_goals (first | done | with_reducible rfl)
            change wpAnyH _ _ _ _ _ _ _ (Act.put _ (some 68) _) _
            simp only [Act.put, List.setIfInBounds_toArray, List.set_cons_zero, List.set_cons_succ]
            refine wpAnyH_take (i := 6) (oi := _) (v := ?_) rfl (by kernel_rfl) (by kernel_rfl) (by kernel_rfl) (fun _ _ _ h => h) (Or.inl ⟨by rfl, ?_⟩) (by assumption) ?_
            rotate_left
            · intro w hSw
              (try dsimp only at hSw)
              go_simp
              all_goals (first | done | with_reducible rfl)
            change wpAnyH _ _ _ _ _ _ _ (Act.put _ (some 69) _) _
            simp only [Act.put, List.setIfInBounds_toArray, List.set_cons_zero, List.set_cons_succ]
            refine wpAnyH_take (i := 7) (oi := _) (v := ?_) rfl (by kernel_rfl) (by kernel_rfl) (by kernel_rfl) (fun _ _ _ h => h) (Or.inl ⟨by rfl, ?_⟩) (by assumption) ?_
            rotate_left
            · intro w hSw
              (try dsimp only at hSw)
              go_simp
              all_goals (first | done | with_reducible rfl)
            change wpAnyH _ _ _ _ _ _ _ (Act.put _ (some 70) _) _
            simp only [Act.put, List.setIfInBounds_toArray, List.set_cons_zero, List.set_cons_succ]
            refine wpAnyH_take (i := 8) (oi := _) (v := ?_) rfl (by kernel_rfl) (by kernel_rfl) (by kernel_rfl) (fun _ _ _ h => h) (Or.inl ⟨by rfl, ?_⟩) (by assumption) ?_
            rotate_left
            · intro w hSw
              (try dsimp only at hSw)
              go_simp
              all_goals (first | done | with_reducible rfl)
            change wpAnyH _ _ _ _ _ _ _ (Act.put _ (some 71) _) _
            simp only [Act.put, List.setIfInBounds_toArray, List.set_cons_zero, List.set_cons_succ]
            refine wpAnyH_take (i := 9) (oi := _) (v := ?_) rfl (by kernel_rfl) (by kernel_rfl) (by kernel_rfl) (fun _ _ _ h => h) (Or.inl ⟨by rfl, ?_⟩) (by assumption) ?_
            rotate_left
            · intro w hSw
              (try dsimp only at hSw)
              go_simp
              all_goals (first | done | with_reducible rfl)
            change wpAnyH _ _ _ _ _ _ _ (Act.put _ (some 72) _) _
            simp only [Act.put, List.setIfInBounds_toArray, List.set_cons_zero, List.set_cons_succ]
            refine wpAnyH_take (i := 10) (oi := _) (v := ?_) rfl (by kernel_rfl) (by kernel_rfl) (by kernel_rfl) (fun _ _ _ h => h) (Or.inl ⟨by rfl, ?_⟩) (by assumption) ?_
            rotate_left
            · intro w hSw
              (try dsimp only at hSw)
              go_simp
              all_goals (first | done | with_reducible rfl)
            change wpAnyH _ _ _ _ _ _ _ (Act.put _ (some 73) _) _
            simp only [Act.put, List.setIfInBounds_toArray, List.set_cons_zero, List.set_cons_succ]
            refine wpAnyH_take (i := 11) (oi := _) (v := ?_) rfl (by kernel_rfl) (by kernel_rfl) (by kernel_rfl) (fun _ _ _ h => h) (Or.inl ⟨by rfl, ?_⟩) (by assumption) ?_
            rotate_left
            · intro w hSw
              (try dsimp only at hSw)
              go_simp
              all_goals (first | done | with_reducible rfl)
            change wpAnyH _ _ _ _ _ _ _ (Act.put _ (some 74) _) _
            simp only [Act.put, List.setIfInBounds_toArray, List.set_cons_zero, List.set_cons_succ]
            refine wpAnyH_take (i := 12) (oi := _) (v := ?_) rfl (by kernel_rfl) (by kernel_rfl) (by kernel_rfl) (fun _ _ _ h => h) (Or.inl ⟨by rfl, ?_⟩) (by assumption) ?_
            rotate_left
            · intro w hSw
              (try dsimp only at hSw)
              go_simp
              all_goals (first | done | with_reducible rfl)
            change wpAnyH _ _ _ _ _ _ _ (Act.put _ (some 75) _) _
            simp only [Act.put, List.setIfInBounds_toArray, List.set_cons_zero, List.set_cons_succ]
            refine wpAnyH_take (i := 13) (oi := _) (v := ?_) rfl (by kernel_rfl) (by kernel_rfl) (by kernel_rfl) (fun _ _ _ h => h) (Or.inl ⟨by rfl, ?_⟩) (by assumption) ?_
            rotate_left
            · intro w hSw
              (try dsimp only at hSw)
              go_simp
              all_goals (first | done | with_reducible rfl)
            change wpAnyH _ _ _ _ _ _ _ (Act.put _ (some 76) _) _
            simp only [Act.put, List.setIfInBounds_toArray, List.set_cons_zero, List.set_cons_succ]
            refine wpAnyH_take (i := 14) (oi := _) (v := ?_) rfl (by kernel_rfl) (by kernel_rfl) (by kernel_rfl) (fun _ _ _ h => h) (Or.inl ⟨by rfl, ?_⟩) (by assumption) ?_
            rotate_left
            · intro w hSw
              (try dsimp only at hSw)
              go_simp
              all_goals (first | done | with_reducible rfl)
            change wpAnyH _ _ _ _ _ _ _ (Act.put _ (some 77) _) _
            simp only [Act.put, List.setIfInBounds_toArray, List.set_cons_zero, List.set_cons_succ]
            refine wpAnyH_take (i := 15) (oi := _) (v := ?_) rfl (by kernel_rfl) (by kernel_rfl) (by kernel_rfl) (fun _ _ _ h => h) (Or.inl ⟨by rfl, ?_⟩) (by assumption) ?_
            rotate_left
            · intro w hSw
              (try dsimp only at hSw)
              go_simp
              all_goals (first | done | with_reducible rfl)
            change wpAnyH _ _ _ _ _ _ _ (Act.put _ (some 78) _) _
            simp only [Act.put, List.setIfInBounds_toArray, List.set_cons_zero, List.set_cons_succ]
            refine wpAnyH_take (i := 16) (oi := _) (v := ?_) rfl (by kernel_rfl) (by kernel_rfl) (by kernel_rfl) (fun _ _ _ h => h) (Or.inl ⟨by rfl, ?_⟩) (by assumption) ?_
            rotate_left
            · intro w hSw
              (try dsimp only at hSw)
              go_simp
              all_goals (first | done | with_reducible rfl)
            change wpAnyH _ _ _ _ _ _ _ (Act.put _ (some 79) _) _
            simp only [Act.put, List.setIfInBounds_toArray, List.set_cons_zero, List.set_cons_succ]
            refine wpAnyH_take (i := 17) (oi := _) (v := ?_) rfl (by kernel_rfl) (by kernel_rfl) (by kernel_rfl) (fun _ _ _ h => h) (Or.inl ⟨by rfl, ?_⟩) (by assumption) ?_
            rotate_left
            · intro w hSw
              (try dsimp only at hSw)
              go_simp
              all_goals (first | done | with_reducible rfl)
            change wpAnyH _ _ _ _ _ _ _ (Act.put _ (some 80) _) _
            simp only [Act.put, List.setIfInBounds_toArray, List.set_cons_zero, List.set_cons_succ]
            refine wpAnyH_take (i := 18) (oi := _) (v := ?_) rfl (by kernel_rfl) (by kernel_rfl) (by kernel_rfl) (fun _ _ _ h => h) (Or.inl ⟨by rfl, ?_⟩) (by assumption) ?_
            rotate_left
            · intro w hSw
              (try dsimp only at hSw)
              go_simp
              all_goals (first | done | with_reducible rfl)
            change wpAnyH _ _ _ _ _ _ _ (Act.put _ (some 81) _) _
            simp only [Act.put, List.setIfInBounds_toArray, List.set_cons_zero, List.set_cons_succ]
            refine wpAnyH_take (i := 19) (oi := _) (v := ?_) rfl (by kernel_rfl) (by kernel_rfl) (by kernel_rfl) (fun _ _ _ h => h) (Or.inl ⟨by rfl, ?_⟩) (by assumption) ?_
            rotate_left
            · intro w hSw
              (try dsimp only at hSw)
              go_simp
              all_goals (first | done | with_reducible rfl)
            change wpAnyH _ _ _ _ _ _ _ (Act.put _ (some 82) _) _
            simp only [Act.put, List.setIfInBounds_toArray, List.set_cons_zero, List.set_cons_succ]
            refine wpAnyH_take (i := 20) (oi := _) (v := ?_) rfl (by kernel_rfl) (by kernel_rfl) (by kernel_rfl) (fun _ _ _ h => h) (Or.inl ⟨by rfl, ?_⟩) (by assumption) ?_
            rotate_left
            · intro w hSw
              (try dsimp only at hSw)
              go_simp
              all_goals (first | done | with_reducible rfl)
            change wpAnyH _ _ _ _ _ _ _ (Act.put _ (some 83) _) _
            simp only [Act.put, List.setIfInBounds_toArray, List.set_cons_zero, List.set_cons_succ]
            refine wpAnyH_take (i := 21) (oi := _) (v := ?_) rfl (by kernel_rfl) (by kernel_rfl) (by kernel_rfl) (fun _ _ _ h => h) (Or.inl ⟨by rfl, ?_⟩) (by assumption) ?_
            rotate_left
            · intro w hSw
              (try dsimp only at hSw)
              go_simp
              all_goals (first | done | with_reducible rfl)
            change wpAnyH _ _ _ _ _ _ _ (Act.put _ (some 84) _) _
            simp only [Act.put, List.setIfInBounds_toArray, List.set_cons_zero, List.set_cons_succ]
            refine wpAnyH_take (i := 22) (oi := _) (v := ?_) rfl (by kernel_rfl) (by kernel_rfl) (by kernel_rfl) (fun _ _ _ h => h) (Or.inl ⟨by rfl, ?_⟩) (by assumption) ?_
            rotate_left
            · intro w hSw
              (try dsimp only at hSw)
              go_simp
              all_goals (first | done | with_reducible rfl)
            change wpAnyH _ _ _ _ _ _ _ (Act.put _ (some 85) _) _
            simp only [Act.put, List.setIfInBounds_toArray, List.set_cons_zero, List.set_cons_succ]
            refine wpAnyH_take (i := 23) (oi := _) (v := ?_) rfl (by kernel_rfl) (by kernel_rfl) (by kernel_rfl) (fun _ _ _ h => h) (Or.inl ⟨by rfl, ?_⟩) (by assumption) ?_
            rotate_left
            · intro w hSw
              (try dsimp only at hSw)
              go_simp
              all_goals (first | done | with_reducible rfl)
            change wpAnyH _ _ _ _ _ _ _ (Act.put _ (some 86) _) _
            simp only [Act.put, List.setIfInBounds_toArray, List.set_cons_zero, List.set_cons_succ]
            refine wpAnyH_ready (rs := [24]) (by kernel_rfl) (by simp) ?_
            refine AllReadyH.cons (o := _) rfl (fun K hK => ?_) AllReadyH.nil
            go_simp
            go_at_call 37
            go_split_ands
            refine (hnm2.out _).mono ?_
            rintro e w9 ⟨rfl, hb9⟩
            refine hK.out _ _ ?_ (fun hHeld => ?_)
            · (go_split_ands; (repeat' apply And.intro) <;> (first | assumption | (show Below _ _ _; (repeat' (first | exact Below.refl _ _ | assumption | refine gr_drew ?_ | refine gr_drewN ?_ _ | refine gr_alloc ?_ _ | refine gr_set ?_ ?_ _ | refine gr_call ?_ (by assumption)) <;> (try (simp; done)) <;> (try (simp; omega)) <;> (try omega)); done) | exact BlkIs.kept (by assumption) hb9 (BlkIs.size (by assumption)) | exact cell_kept hb9 (by assumption) | (go_keep; done)))
            try simp only [Act.put, List.setIfInBounds_toArray, List.set_cons_zero, List.set_cons_succ]
            clear hK
            refine wpAnyH_take (i := 25) (oi := _) (v := ?_) rfl (by kernel_rfl) (by kernel_rfl) (by kernel_rfl) (fun _ _ _ h => h) (Or.inl ⟨by rfl, ?_⟩) (by assumption) ?_
            rotate_left
            · intro w hSw
              (try dsimp only at hSw)
              go_simp
              all_goals (first | done | with_reducible rfl)
            change wpAnyH _ _ _ _ _ _ _ (Act.put _ (some 88) _) _
            simp only [Act.put, List.setIfInBounds_toArray, List.set_cons_zero, List.set_cons_succ]
            refine wpAnyH_take (i := 26) (oi := _) (v := ?_) rfl (by kernel_rfl) (by kernel_rfl) (by kernel_rfl) (fun _ _ _ h => h) (Or.inl ⟨by rfl, ?_⟩) (by assumption) ?_
            rotate_left
            · intro w hSw
              (try dsimp only at hSw)
              go_simp
              all_goals (first | done | with_reducible rfl)
            change wpAnyH _ _ _ _ _ _ _ (Act.put _ (some 89) _) _
            simp only [Act.put, List.setIfInBounds_toArray, List.set_cons_zero, List.set_cons_succ]
            refine wpAnyH_take (i := 27) (oi := _) (v := undef) rfl (by kernel_rfl) (by kernel_rfl) (by kernel_rfl) (fun _ _ _ h => h) (Or.inr ⟨by rfl, rfl⟩) (by assumption) ?_
            change wpAnyH _ _ _ _ _ _ _ (Act.put _ (some 90) _) _
            simp only [Act.put, List.setIfInBounds_toArray, List.set_cons_zero, List.set_cons_succ]
            refine wpAnyH_take (i := 28) (oi := _) (v := undef) rfl (by kernel_rfl) (by kernel_rfl) (by kernel_rfl) (fun _ _ _ h => h) (Or.inr ⟨by rfl, rfl⟩) (by assumption) ?_
            change wpAnyH _ _ _ _ _ _ _ (Act.put _ (some 91) _) _
            simp only [Act.put, List.setIfInBounds_toArray, List.set_cons_zero, List.set_cons_succ]
            refine wpAnyH_take (i := 29) (oi := _) (v := undef) rfl (by kernel_rfl) (by kernel_rfl) (by kernel_rfl) (fun _ _ _ h => h) (Or.inr ⟨by rfl, rfl⟩) (by assumption) ?_
            change wpAnyH _ _ _ _ _ _ _ (Act.put _ (some 92) _) _
            simp only [Act.put, List.setIfInBounds_toArray, List.set_cons_zero, List.set_cons_succ]
            refine wpAnyH_take (i := 30) (oi := _) (v := undef) rfl (by kernel_rfl) (by kernel_rfl) (by kernel_rfl) (fun _ _ _ h => h) (Or.inr ⟨by rfl, rfl⟩) (by assumption) ?_
            change wpAnyH _ _ _ _ _ _ _ (Act.put _ (some 93) _) _
            simp only [Act.put, List.setIfInBounds_toArray, List.set_cons_zero, List.set_cons_succ]
            refine wpAnyH_take (i := 31) (oi := _) (v := undef) rfl (by kernel_rfl) (by kernel_rfl) (by kernel_rfl) (fun _ _ _ h => h) (Or.inr ⟨by rfl, rfl⟩) (by assumption) ?_
            change wpAnyH _ _ _ _ _ _ _ (Act.put _ (some 94) _) _
            simp only [Act.put, List.setIfInBounds_toArray, List.set_cons_zero, List.set_cons_succ]
            refine wpAnyH_take (i := 32) (oi := _) (v := undef) rfl (by kernel_rfl) (by kernel_rfl) (by kernel_rfl) (fun _ _ _ h => h) (Or.inr ⟨by rfl, rfl⟩) (by assumption) ?_
            change wpAnyH _ _ _ _ _ _ _ (Act.put _ (some 95) _) _
            simp only [Act.put, List.setIfInBounds_toArray, List.set_cons_zero, List.set_cons_succ]
            refine wpAnyH_take (i := 33) (oi := _) (v := undef) rfl (by kernel_rfl) (by kernel_rfl) (by kernel_rfl) (fun _ _ _ h => h) (Or.inr ⟨by rfl, rfl⟩) (by assumption) ?_
            change wpAnyH _ _ _ _ _ _ _ (Act.put _ (some 96) _) _
            simp only [Act.put, List.setIfInBounds_toArray, List.set_cons_zero, List.set_cons_succ]
            refine wpAnyH_take (i := 34) (oi := _) (v := undef) rfl (by kernel_rfl) (by kernel_rfl) (by kernel_rfl) (fun _ _ _ h => h) (Or.inr ⟨by rfl, rfl⟩) (by assumption) ?_
            change wpAnyH _ _ _ _ _ _ _ (Act.put _ (some 97) _) _
            simp only [Act.put, List.setIfInBounds_toArray, List.set_cons_zero, List.set_cons_succ]
            refine wpAnyH_take (i := 35) (oi := _) (v := undef) rfl (by kernel_rfl) (by kernel_rfl) (by kernel_rfl) (fun _ _ _ h => h) (Or.inr ⟨by rfl, rfl⟩) (by assumption) ?_
            change wpAnyH _ _ _ _ _ _ _ (Act.put _ (some 98) _) _
            simp only [Act.put, List.setIfInBounds_toArray, List.set_cons_zero, List.set_cons_succ]
            refine wpAnyH_take (i := 36) (oi := _) (v := ?_) rfl (by kernel_rfl) (by kernel_rfl) (by kernel_rfl) (fun _ _ _ h => h) (Or.inl ⟨by rfl, ?_⟩) (by assumption) ?_
            rotate_left
            · intro w hSw
              (try dsimp only at hSw)
              go_simp
              all_goals (first | done | with_reducible rfl)
            change wpAnyH _ _ _ _ _ _ _ (Act.put _ (some 99) _) _
            simp only [Act.put, List.setIfInBounds_toArray, List.set_cons_zero, List.set_cons_succ]
            refine wpAnyH_take (i := 37) (oi := _) (v := ?_) rfl (by kernel_rfl) (by kernel_rfl) (by kernel_rfl) (fun _ _ _ h => h) (Or.inl ⟨by rfl, ?_⟩) (by assumption) ?_
            rotate_left
            · intro w hSw
              (try dsimp only at hSw)
              go_simp
              all_goals (first | done | with_reducible rfl)
            change wpAnyH _ _ _ _ _ _ _ (Act.put _ (some 100) _) _
            simp only [Act.put, List.setIfInBounds_toArray, List.set_cons_zero, List.set_cons_succ]
            refine wpAnyH_take (i := 38) (oi := _) (v := ?_) rfl (by kernel_rfl) (by kernel_rfl) (by kernel_rfl) (fun _ _ _ h => h) (Or.inl ⟨by rfl, ?_⟩) (by assumption) ?_
            rotate_left
            · intro w hSw
              (try dsimp only at hSw)
              go_simp
              all_goals (first | done | with_reducible rfl)
            change wpAnyH _ _ _ _ _ _ _ (Act.put _ (some 101) _) _
            simp only [Act.put, List.setIfInBounds_toArray, List.set_cons_zero, List.set_cons_succ]
            refine wpAnyH_take (i := 39) (oi := _) (v := ?_) rfl (by kernel_rfl) (by kernel_rfl) (by kernel_rfl) (fun _ _ _ h => h) (Or.inl ⟨by rfl, ?_⟩) (by assumption) ?_
            rotate_left
            · intro w hSw
              (try dsimp only at hSw)
              go_simp
              all_goals (first | done | with_reducible rfl)
            change wpAnyH _ _ _ _ _ _ _ (Act.put _ (some 102) _) _
            simp only [Act.put, List.setIfInBounds_toArray, List.set_cons_zero, List.set_cons_succ]
            refine wpAnyH_done (by kernel_rfl) ?_ _
            all_goals
              go_split_ands
              go_wp2_with fail
              go_ret
              exact ⟨by rw [HE.out]; rfl, by assumption⟩
          · have v2 : ((tn : Int) == t') = false := beq_eq_false_iff_ne.2 hB
            have HN := Lib.hid (HS3.out (by rw [lt_iff]; simp only; omega))
            clear HO2 HS3 hA hB
            go_wp2_with fail
            go_quiet (fail)
            rename_i nq
            have hqb : Below w2.heap.size w2 (w2.drewN nq) := gr_drewN (Below.refl _ _) nq
            replace k0 := cell_kept hqb k0
            replace k1 := cell_kept hqb k1
            replace k2 := cell_kept hqb k2
            replace hG3 := hG3.kept hqb hG3.size
            replace hbl3 := gr_call hbl3 hqb
            generalize w2.drewN nq = W at *
            have hGz := hG3
            have hBz := hbl3
            have oz := hGz.cell_some tn _ (once_at _ tn htn7)
            have fz := hGz.free tn
            have hz1 := once_put (cntT (l.take i)) (cntT (l.take (i + 1))) tn htn7 (fun k => by
              have h := HC.out k
              rw [h]
              congr 1
              by_cases hk : k = tn
              · subst hk; simp
              · rw [if_neg hk, if_neg (by omega)])
            have hpz := hGz.put tn (.int .i64 ((cntT (l.take i) tn : Int) + 1))
            rw [hz1] at hpz
            have hBp := gr_set hBz (p := ⟨w.heap.size, tn, none⟩) (Nat.le_refl _) (.int .i64 ((cntT (l.take i) tn : Int) + 1))
            clear hz1
            go_wp2_with fail
            go_roundw
            case rel => exact ⟨i + 1, rfl, by omega, hBp, hpz, HN⟩
            case measure => simp only [intOf]; omega
      · go_wp2_with fail
        refine (hnm2.out _).mono ?_
        rintro e w2 ⟨rfl, hb2⟩
        obtain ⟨K, hK⟩ : ∃ K, wr.heap.size = K := ⟨_, rfl⟩
        have k0 : w2.cell? ⟨K, 0, none⟩ = some (.int .i64 (tn : Int)) := by rw [← hK]; exact cell_kept hb2 (by simp [go_sem])
        have k1 : w2.cell? ⟨K, 1, none⟩ = some (.int .i64 d) := by rw [← hK]; exact cell_kept hb2 (by simp [go_sem])
        have k2 : w2.cell? ⟨K, 2, none⟩ = some (.int .i64 q) := by rw [← hK]; exact cell_kept hb2 (by simp [go_sem])
        have hG3 := hG2.kept hb2 (by rw [hK] at hgw; simp; omega)
        have hP3 : ∀ (o : Nat) (u : Value), wr.cell? ⟨g, o, none⟩ = some u → w2.cell? ⟨g, o, none⟩ = some u := fun o u hu => cell_kept (gr_call (gr_alloc (Below.refl _ _) _) hb2) hu
        have hbl3 : Below w.heap.size w w2 := gr_call hbl2 hb2
        clear hb2 hbl2 hG2 hbl hG c0 c1 c2
        rcases Nat.eq_zero_or_pos i with h0 | h0
        · have hi0 : decide ((0 : Int) < (i : Int)) = false := decide_eq_false (by omega)
          have hi0' : decide (0 < i) = false := decide_eq_false (by omega)
          have HN := Lib.hid (HS2.out (fun h => absurd h (by omega)))
          clear HS2 HO Hprev h0 hP3
          go_wp2_with fail
          go_quiet (fail)
          rename_i nq
          have hqb : Below w2.heap.size w2 (w2.drewN nq) := gr_drewN (Below.refl _ _) nq
          replace k0 := cell_kept hqb k0
          replace k1 := cell_kept hqb k1
          replace k2 := cell_kept hqb k2
          replace hG3 := hG3.kept hqb hG3.size
          replace hbl3 := gr_call hbl3 hqb
          generalize w2.drewN nq = W at *
          have hGz := hG3
          have hBz := hbl3
          have oz := hGz.cell_some tn _ (once_at _ tn htn7)
          have fz := hGz.free tn
          have hz1 := once_put (cntT (l.take i)) (cntT (l.take (i + 1))) tn htn7 (fun k => by
            have h := HC.out k
            rw [h]
            congr 1
            by_cases hk : k = tn
            · subst hk; simp
            · rw [if_neg hk, if_neg (by omega)])
          have hpz := hGz.put tn (.int .i64 ((cntT (l.take i) tn : Int) + 1))
          rw [hz1] at hpz
          have hBp := gr_set hBz (p := ⟨w.heap.size, tn, none⟩) (Nat.le_refl _) (.int .i64 ((cntT (l.take i) tn : Int) + 1))
          clear hz1
          go_wp2_with fail
          go_roundw
          case rel => exact ⟨i + 1, rfl, by omega, hBp, hpz, HN⟩
          case measure => simp only [intOf]; omega
        · have hi0 : decide ((0 : Int) < (i : Int)) = true := decide_eq_true (by omega)
          have hi0' : decide (0 < i) = true := decide_eq_true h0
          have hi1 : (1 : Int) ≤ (i : Int) := by omega
          have hi2 : (i : Int) - 1 < (z : Int) := by omega
          have hwr : IntKind.i64.wrap ((i : Int) - 1) = (i : Int) - 1 := by rw [IntKind.wrap_i64]; omega
          obtain ⟨p0, p1, pn⟩ := Hprev.out h0
          have HO2 := Lib.hid (HO.out h0)
          have HS3 : Hid (ltA (l[i - 1]'(by omega)) (((tn : Nat) : Int), d, q) = true → _) := Lib.hid (fun h => HS2.out (fun _ => h))
          generalize (l[i - 1]'(by omega)) = pa at *
          obtain ⟨t', d', q'⟩ := pa
          simp only at p0 p1 pn
          replace p0 := hP3 _ _ p0
          replace p1 := hP3 _ _ p1
          clear hP3 HO HS2 Hprev
          by_cases hA : (tn : Int) < t'
          · have v1 : decide ((tn : Int) < t') = true := decide_eq_true hA
            have HE := Lib.hid (HO2.out (by rw [← Bool.not_eq_true, lt_iff]; simp only; omega))
            clear HO2 HS3 hA
            go_wp2_with fail
            go_quiet (fail)
            rename_i nq
            have hqb : Below w2.heap.size w2 (w2.drewN nq) := gr_drewN (Below.refl _ _) nq
            replace k0 := cell_kept hqb k0
            replace k1 := cell_kept hqb k1
            replace k2 := cell_kept hqb k2
            replace hG3 := hG3.kept hqb hG3.size
            replace hbl3 := gr_call hbl3 hqb
            generalize w2.drewN nq = W at *
            go_wp2_with fail
            go_ret
            exact ⟨by rw [HE.out]; rfl, hbl3⟩
          have v1 : decide ((tn : Int) < t') = false := decide_eq_false hA
          by_cases hB : (tn : Int) = t'
          · have v2 : ((tn : Int) == t') = true := by rw [hB]; exact beq_self_eq_true _
            have HB2 := Lib.hid hB
            clear hB
            by_cases hD : d ≤ d'
            · have v3 : decide (d ≤ d') = true := decide_eq_true hD
              have HE := Lib.hid (HO2.out (by have := HB2.out; rw [← Bool.not_eq_true, lt_iff]; simp only; omega))
              clear HO2 HS3
              go_wp2_with fail
              first | (go_region_held3 (fun w' => Below w.heap.size w w' ∧ BlkIs w' w.heap.size 3 (onceC (cntT (l.take i))) ∧ w'.cell? ⟨K, 0, none⟩ = some (.int .i64 (tn : Int)) ∧ w'.cell? ⟨K, 1, none⟩ = some (.int .i64 d) ∧ w'.cell? ⟨K, 2, none⟩ = some (.int .i64 q) ∧ w'.cell? ⟨g, off + (i - 1) * 3, none⟩ = some (.int .i64 t') ∧ w'.cell? ⟨g, off + (i - 1) * 3 + 1, none⟩ = some (.int .i64 d'))
                (first | assumption | (go_keep; done) | (go_split_ands; (repeat' apply And.intro) <;> (first | assumption | (show Below _ _ _; (repeat' (first | exact Below.refl _ _ | assumption | refine gr_drew ?_ | refine gr_drewN ?_ _ | refine gr_alloc ?_ _ | refine gr_set ?_ ?_ _ | refine gr_call ?_ (by assumption)) <;> (try (simp; done)) <;> (try (simp; omega)) <;> (try omega)); done) | exact BlkIs.kept (by assumption) hb9 (BlkIs.size (by assumption)) | exact cell_kept hb9 (by assumption) | (go_keep; done))))
                ((go_at_call 37; go_split_ands; refine (hnm2.out _).mono ?_; rintro e w9 ⟨rfl, hb9⟩))) | fail
              all_goals
                go_split_ands
                go_wp2_with fail
                go_ret
                exact ⟨by rw [HE.out]; rfl, by assumption⟩
            · have v3 : decide (d ≤ d') = false := decide_eq_false hD
              have HN := Lib.hid (HS3.out (by have := HB2.out; rw [lt_iff]; simp only; omega))
              clear HO2 HS3
              go_wp2_with fail
              first | (go_region_held3 (fun w' => Below w.heap.size w w' ∧ BlkIs w' w.heap.size 3 (onceC (cntT (l.take i))) ∧ w'.cell? ⟨K, 0, none⟩ = some (.int .i64 (tn : Int)) ∧ w'.cell? ⟨K, 1, none⟩ = some (.int .i64 d) ∧ w'.cell? ⟨K, 2, none⟩ = some (.int .i64 q) ∧ w'.cell? ⟨g, off + (i - 1) * 3, none⟩ = some (.int .i64 t') ∧ w'.cell? ⟨g, off + (i - 1) * 3 + 1, none⟩ = some (.int .i64 d'))
                (first | assumption | (go_keep; done) | (go_split_ands; (repeat' apply And.intro) <;> (first | assumption | (show Below _ _ _; (repeat' (first | exact Below.refl _ _ | assumption | refine gr_drew ?_ | refine gr_drewN ?_ _ | refine gr_alloc ?_ _ | refine gr_set ?_ ?_ _ | refine gr_call ?_ (by assumption)) <;> (try (simp; done)) <;> (try (simp; omega)) <;> (try omega)); done) | exact BlkIs.kept (by assumption) hb9 (BlkIs.size (by assumption)) | exact cell_kept hb9 (by assumption) | (go_keep; done))))
                ((go_at_call 37; go_split_ands; refine (hnm2.out _).mono ?_; rintro e w9 ⟨rfl, hb9⟩))) | fail
              all_goals
                go_split_ands
                rename BlkIs _ _ _ _ => hGz
                rename Below _ _ _ => hBz
                have oz := hGz.cell_some tn _ (once_at _ tn htn7)
                have fz := hGz.free tn
                have hz1 := once_put (cntT (l.take i)) (cntT (l.take (i + 1))) tn htn7 (fun k => by
                  have h := HC.out k
                  rw [h]
                  congr 1
                  by_cases hk : k = tn
                  · subst hk; simp
                  · rw [if_neg hk, if_neg (by omega)])
                have hpz := hGz.put tn (.int .i64 ((cntT (l.take i) tn : Int) + 1))
                rw [hz1] at hpz
                have hBp := gr_set hBz (p := ⟨w.heap.size, tn, none⟩) (Nat.le_refl _) (.int .i64 ((cntT (l.take i) tn : Int) + 1))
                clear hz1
                go_wp2_with fail
                go_roundw
                case rel => exact ⟨i + 1, rfl, by omega, hBp, hpz, HN⟩
                case measure => simp only [intOf]; omega
          · have v2 : ((tn : Int) == t') = false := beq_eq_false_iff_ne.2 hB
            have HN := Lib.hid (HS3.out (by rw [lt_iff]; simp only; omega))
            clear HO2 HS3 hA hB
            go_wp2_with fail
            go_quiet (fail)
            rename_i nq
            have hqb : Below w2.heap.size w2 (w2.drewN nq) := gr_drewN (Below.refl _ _) nq
            replace k0 := cell_kept hqb k0
            replace k1 := cell_kept hqb k1
            replace k2 := cell_kept hqb k2
            replace hG3 := hG3.kept hqb hG3.size
            replace hbl3 := gr_call hbl3 hqb
            generalize w2.drewN nq = W at *
            have hGz := hG3
            have hBz := hbl3
            have oz := hGz.cell_some tn _ (once_at _ tn htn7)
            have fz := hGz.free tn
            have hz1 := once_put (cntT (l.take i)) (cntT (l.take (i + 1))) tn htn7 (fun k => by
              have h := HC.out k
              rw [h]
              congr 1
              by_cases hk : k = tn
              · subst hk; simp
              · rw [if_neg hk, if_neg (by omega)])
            have hpz := hGz.put tn (.int .i64 ((cntT (l.take i) tn : Int) + 1))
            rw [hz1] at hpz
            have hBp := gr_set hBz (p := ⟨w.heap.size, tn, none⟩) (Nat.le_refl _) (.int .i64 ((cntT (l.take i) tn : Int) + 1))
            clear hz1
            go_wp2_with fail
            go_roundw
            case rel => exact ⟨i + 1, rfl, by omega, hBp, hpz, HN⟩
            case measure => simp only [intOf]; omega

    · have hlt' : decide ((i : Int) < (z : Int)) = false := decide_eq_false (by omega)
      have hlt2 : decide (i < z) = false := decide_eq_false hlt
      have HE : Hid (r = (decide (cntT l 1 = 1) && decide (cntT l 3 = 1) && decide (cntT l 6 = 1) && (decide (cntT l 5 = 1) == decide (0 < cntT l 2 + cntT l 4)))) := Lib.hid (by
        rw [← Hr.out]
        have h1 := HR.out
        rw [List.take_of_length_le (by rw [Hz.out]; omega)] at h1
        exact Hend.out (by rw [Hz.out]; omega) h1.1 h1.2)
      rw [List.take_of_length_le (by rw [Hz.out]; omega)] at hG
      have hk2 := Hcl.out z 2
      have hk4 := Hcl.out z 4
      rw [List.take_of_length_le (by rw [Hz.out]; exact Nat.le_refl _)] at hk2 hk4
      have o1 := hG.cell_some 1 _ (once_at _ 1 (by decide))
      have o2 := hG.cell_some 2 _ (once_at _ 2 (by decide))
      have o3 := hG.cell_some 3 _ (once_at _ 3 (by decide))
      have o4 := hG.cell_some 4 _ (once_at _ 4 (by decide))
      have o5 := hG.cell_some 5 _ (once_at _ 5 (by decide))
      have o6 := hG.cell_some 6 _ (once_at _ 6 (by decide))
      generalize cntT l 1 = k1 at *
      generalize cntT l 2 = k2 at *
      generalize cntT l 3 = k3 at *
      generalize cntT l 4 = k4 at *
      generalize cntT l 5 = k5 at *
      generalize cntT l 6 = k6 at *
      have E : ∀ k : Nat, ((k : Int) == 1) = decide (k = 1) := fun k => by
        by_cases h : k = 1
        · subst h; rfl
        · rw [decide_eq_false h]; exact beq_eq_false_iff_ne.2 (by omega)
      have q1 := E k1
      have q3 := E k3
      have q5 := E k5
      have q6 := E k6
      have q24 : decide ((0 : Int) < (k2 : Int) + (k4 : Int)) = decide (0 < k2 + k4) := decide_eq_decide.2 (by omega)
      have hwr : IntKind.i64.wrap ((k2 : Int) + (k4 : Int)) = (k2 : Int) + (k4 : Int) := by rw [IntKind.wrap_i64]; omega
      generalize decide (k1 = 1) = b1 at *
      generalize decide (k3 = 1) = b3 at *
      generalize decide (k5 = 1) = b5 at *
      generalize decide (k6 = 1) = b6 at *
      generalize decide (0 < k2 + k4) = b24 at *
      clear E HR hG
      rcases b1 with _ | _
      · go_wp2_with fail
        go_quiet (fail)
        go_wp2_with fail
        go_ret
        exact ⟨by rw [HE.out]; rfl, by (repeat' (first | exact Below.refl _ _ | assumption | refine gr_drew ?_ | refine gr_drewN ?_ _ | refine gr_alloc ?_ _ | refine gr_set ?_ ?_ _ | refine gr_call ?_ (by assumption)) <;> (try (simp; done)) <;> (try (simp; omega)) <;> (try omega))⟩
      · rcases b3 with _ | _
        · go_wp2_with fail
          go_quiet (fail)
          go_wp2_with fail
          go_ret
          exact ⟨by rw [HE.out]; rfl, by (repeat' (first | exact Below.refl _ _ | assumption | refine gr_drew ?_ | refine gr_drewN ?_ _ | refine gr_alloc ?_ _ | refine gr_set ?_ ?_ _ | refine gr_call ?_ (by assumption)) <;> (try (simp; done)) <;> (try (simp; omega)) <;> (try omega))⟩
        · rcases b6 with _ | _
          · go_wp2_with fail
            go_quiet (fail)
            go_wp2_with fail
            go_ret
            exact ⟨by rw [HE.out]; rfl, by (repeat' (first | exact Below.refl _ _ | assumption | refine gr_drew ?_ | refine gr_drewN ?_ _ | refine gr_alloc ?_ _ | refine gr_set ?_ ?_ _ | refine gr_call ?_ (by assumption)) <;> (try (simp; done)) <;> (try (simp; omega)) <;> (try omega))⟩
          · rcases b5 with _ | _ <;> rcases b24 with _ | _
            all_goals
              go_wp2_with fail
              go_quiet (fail)
              go_wp2_with fail
              go_ret
              exact ⟨by rw [HE.out]; rfl, by (repeat' (first | exact Below.refl _ _ | assumption | refine gr_drew ?_ | refine gr_drewN ?_ _ | refine gr_alloc ?_ _ | refine gr_set ?_ ?_ _ | refine gr_call ?_ (by assumption)) <;> (try (simp; done)) <;> (try (simp; omega)) <;> (try omega))⟩
end Go.Proofs.Ytpfidbcnefnhcaa.AclW
