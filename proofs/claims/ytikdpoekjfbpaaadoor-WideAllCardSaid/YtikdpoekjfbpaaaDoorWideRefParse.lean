/- The document's answer: what a text says. -/
import Derived.Test.YtikdpoekjfbpaaaDoorWideRefText
import Derived.Test.YtikdpoekjfbpaaaDoorWideRefM
import Derived.Test.YtikdpoekjfbpaaaDoorWideCut
namespace Go.Proofs.YtikdpoekjfbpaaaDoor
open Go.RowKit
open WideM
open AclM (cutAt)
set_option linter.unusedVariables false
attribute [local irreducible] Row At

/-- What ParseWide hands back. -/
def refEnd (o : Option (List Wid)) (e : Ending) (w' : World) : Prop := match o with
  | some l => ∃ v, e = .returned (.agg #[v, .bool true]) ∧ At wideE v l w'
  | none => e = .returned (.agg #[.slice none 0 0, .bool false])
theorem buildW2 (f m : Nat) (X : ByteArray) (w : World) : (Instr.build 41 #[(0, .int .i64 1), (1, .int .i64 (f : Nat)), (3, .string X), (2, .int .i64 (m : Nat))]).run Tryd.prog w = .ok (.agg #[.int .i64 1, .int .i64 (f : Nat), .int .i64 (m : Nat), .string X]) w :=
  run_build w _ _ _ (by kernel_rfl)

set_option maxHeartbeats 6400000 in
set_option maxRecDepth 100000 in
theorem refParse_any (S : ByteArray) (hS : S.size ≤ 20000) (w : World) :
    Calls Tryd.prog 8 #[.string S] w fun e w' => refEnd (getL S.data.toList) e w' ∧ Below w.heap.size w w' := by
  obtain ⟨n, hn⟩ : ∃ n, S.size = n := ⟨_, rfl⟩
  have e1 : decide ((20000 : Int) < (n : Int)) = false := decide_eq_false (by omega)
  have e1' : decide (20000 < n) = false := decide_eq_false (by omega)
  have hx0 : Below w.heap.size w (w.alloc (.cells #[.slice none 0 0, .bool false] 28)) := by (repeat' (first | exact Below.refl _ _ | assumption | refine gr_drew ?_ | refine gr_drewN ?_ _ | refine gr_alloc ?_ _ | refine gr_set ?_ ?_ _ | refine gr_call ?_ (by assumption)) <;> (try (simp; done)) <;> (try (simp; omega)) <;> (try omega))
  by_cases hS0 : S.data.toList = []
  · have g1 : S.toList = [] := by rw [Lib.toList_data]; exact hS0
    have g2 : S.toList.isEmpty = true := by rw [g1]; rfl
    have HE := Lib.hid (show getL S.data.toList = some [] by unfold getL; rw [if_pos hS0])
    clear hS0
    go_enter Tryd.func8, Tryd.ntmps8
    go_wp2_with fail
    refine bodyPost_ret (v := .agg #[.slice none 0 0, .bool true]) ?_ rfl ⟨by rw [HE.out]; exact ⟨_, rfl, At.nil _⟩, by (repeat' (first | exact Below.refl _ _ | assumption | refine gr_drew ?_ | refine gr_drewN ?_ _ | refine gr_alloc ?_ _ | refine gr_set ?_ ?_ _ | refine gr_call ?_ (by assumption)) <;> (try (simp; done)) <;> (try (simp; omega)) <;> (try omega))⟩
    simp [results, Tryd.results8, go_sem, *]
  have g1 : ¬ S.toList = [] := by rw [Lib.toList_data]; exact hS0
  have g2 : S.toList.isEmpty = false := by rw [Bool.eq_false_iff]; intro e; exact g1 (List.isEmpty_iff.1 e)
  have hres : ∀ W, Below (w.alloc (.cells #[.slice none 0 0, .bool false] 28)).heap.size (w.alloc (.cells #[.slice none 0 0, .bool false] 28)) W → W.cell? ⟨w.heap.size, 0, none⟩ = some (.slice none 0 0) ∧ W.cell? ⟨w.heap.size, 1, none⟩ = some (.bool false) ∧ W.frozen? ⟨w.heap.size, 0, none⟩ = false ∧ W.frozen? ⟨w.heap.size, 1, none⟩ = false := fun W hb =>
    ⟨cell_kept hb (by simp [go_sem]), cell_kept hb (by simp [go_sem]), free_kept hb (v := .slice none 0 0) (by simp [go_sem]) (by simp [go_sem]), free_kept hb (v := .bool false) (by simp [go_sem]) (by simp [go_sem])⟩
  have Hres := Lib.hid hres
  have hcut := Lib.hid (refCut_any S 44 44 rfl (by omega) (w.alloc (.cells #[.slice none 0 0, .bool false] 28)))
  obtain ⟨hk1, hk2⟩ := cutAt_sum 44 S.data.toList
  rw [len_list] at hk1 hk2
  have Hq := Lib.hid (fun (j : Nat) (h : j < (cutAt 44 S.data.toList).length) W => refCut_any (strOf (cutAt 44 S.data.toList)[j]) 58 58 rfl (by rw [strOf_size]; have := hk2 _ (List.getElem_mem h); omega) W)
  have Hqs := Lib.hid (fun (j : Nat) (h : j < (cutAt 44 S.data.toList).length) => And.intro (cutAt_sum 58 (cutAt 44 S.data.toList)[j]) (hk2 _ (List.getElem_mem h)))
  have Hbad := Lib.hid (fun (i : Nat) (hi : i < (cutAt 44 S.data.toList).length) h => sofar_bad hS0 hi h)
  have Hstep := Lib.hid (fun (i : Nat) (hi : i < (cutAt 44 S.data.toList).length) acc h x y z u hq => @sofar_step S.data.toList hS0 acc i hi h x y z u hq)
  obtain ⟨z, hz⟩ : ∃ z, (cutAt 44 S.data.toList).length = z := ⟨_, rfl⟩
  have Hz := Lib.hid hz
  have HS0 := Lib.hid hS0
  rw [hz] at hk1
  obtain ⟨DD, hDD⟩ : ∃ O : ByteArray, (⟨#[68]⟩ : ByteArray) = O := ⟨_, rfl⟩
  have hDDl : DD.toList = [68] := by rw [Lib.toList_data, ← hDD]
  clear hk2 hres hS0
  go_enter Tryd.func8, Tryd.ntmps8
  simp only [hDD]
  clear hDD
  go_wp2_with fail
  refine (hcut.out).mono ?_
  rintro e w1 ⟨⟨v, rfl, hR⟩, hb1⟩
  obtain ⟨p, cap, rfl, hcap, hcell⟩ := str_look hR.at
  rw [hz] at hcap ⊢
  have Hcell := Lib.hid hcell
  clear hcell hR hcut hz
  go_wp2_with fail
  go_loopw [4, 5] (fun lv iv wr => ∃ (i : Nat) (acc : List Wid), iv = .int .i64 (i : Int) ∧ i ≤ z ∧ acc.length = i ∧ Row wideE w1.heap.size lv acc wr ∧ Below w1.heap.size w1 wr ∧ Hid (SoFar S.data.toList acc i)) (fun _ iv _ => z - (intOf iv).toNat)
  case atStart => exact ⟨0, [], rfl, by omega, rfl, Row.nil _ _, Below.refl _ _, Lib.hid (sofar_nil _)⟩
  case round =>
    obtain ⟨i, acc, rfl, hi, hacc, hR, hbm, HR⟩ := hrel
    rename World => wr
    by_cases hlt : i < z
    · have hlt' : decide ((i : Int) < (z : Int)) = true := decide_eq_true (by omega)
      have hlt2 : decide (i < z) = true := decide_eq_true hlt
      have hlt3 : (i : Int) < (z : Int) := by omega
      have hi' : i < (cutAt 44 S.data.toList).length := by rw [Hz.out]; exact hlt
      obtain ⟨g, off, rfl, hg, c0⟩ := Hcell.out i hi'
      replace c0 := cell_kept hbm c0
      have hq := Lib.hid (Hq.out i hi' wr)
      rw [strOf_list] at hq
      have hqs := Hqs.out i hi'
      have HB := Lib.hid (Hbad.out i hi')
      have HS := Lib.hid (fun x y z u hq => Hstep.out i hi' acc HR.out x y z u hq)
      obtain ⟨X, hX⟩ : ∃ X, strOf (cutAt 44 S.data.toList)[i] = X := ⟨_, rfl⟩
      rw [hX] at c0 hq
      generalize cutAt 58 (cutAt 44 S.data.toList)[i] = qs at *
      clear hX HR
      go_wp2_with fail
      refine (hq.out).mono ?_
      rintro e w2 ⟨⟨v6, rfl, hR6⟩, hb2⟩
      have hR2 := hR.call hb2
      have hbm2 := gr_call hbm hb2
      have hr2 := Hres.out w2 (gr_call hb1 hbm2)
      have hbl2 : Below w.heap.size w w2 := gr_call hx0 (gr_call hb1 hbm2)
      clear hq c0
      have hsz2 := hb2.size
      by_cases hl4 : qs.length = 4
      · obtain ⟨x, y, zz, u, rfl⟩ : ∃ x y z u, qs = [x, y, z, u] := by
          match qs, hl4 with
          | [x, y, z, u], _ => exact ⟨x, y, z, u, rfl⟩
        obtain ⟨g6, off6, cap6, rfl, hcap6, hg6, D0, D1, D2, D3⟩ := str_four hR6
        have hy := hqs.1.2 y (by simp)
        have hu := hqs.1.2 u (by simp)
        have hp := hqs.2
        have hq1 := Lib.hid (fun W => unbits_any (strOf y) flB (by rw [strOf_size]; omega) (by decide) W)
        have hq2 := Lib.hid (fun W => unbits_any (strOf u) msB (by rw [strOf_size]; omega) (by decide) W)
        rw [strOf_list, flB_list] at hq1
        rw [strOf_list, msB_list] at hq2
        have HN := Lib.hid (HS.out x y zz u rfl)
        obtain ⟨X0, hX0⟩ : ∃ X, strOf x = X := ⟨_, rfl⟩
        obtain ⟨Y, hY⟩ : ∃ X, strOf y = X := ⟨_, rfl⟩
        obtain ⟨Z, hZ⟩ : ∃ X, strOf zz = X := ⟨_, rfl⟩
        obtain ⟨U, hU⟩ : ∃ X, strOf u = X := ⟨_, rfl⟩
        rw [hX0] at D0
        rw [hY] at D1 hq1
        rw [hZ] at D2 HN
        rw [hU] at D3 hq2
        have hXe : X0.toList = x := by rw [← hX0, Lib.toList_data, strOf_list]
        generalize unbL flL y 0 = f at *
        generalize unbL msL u 0 = m at *
        clear hR6 HB HS hqs hy hu hp hX0 hY hZ hU hR
        go_wp2_with fail
        refine region_lastqgL (S := fun W => Below w2.heap.size w2 W) 13
          [(fun W v => v = .slice (some ⟨g6, off6, none⟩) 4 cap6),
     (fun W v => v = .pointer (some ⟨g6, off6 + 1, none⟩)),
     (fun W v => v = .string Y),
     (fun W v => v = .int .i64 (f : Nat)),
     (fun W v => v = .slice (some ⟨g6, off6, none⟩) 4 cap6),
     (fun W v => v = .pointer (some ⟨g6, off6 + 2, none⟩)),
     (fun W v => v = .string Z),
     (fun W v => v = .slice (some ⟨g6, off6, none⟩) 4 cap6),
     (fun W v => v = .pointer (some ⟨g6, off6 + 3, none⟩)),
     (fun W v => v = .string U),
     (fun W v => v = .int .i64 (m : Nat)),
     (fun W v => v = .agg #[.int .i64 1, .int .i64 (f : Nat), .int .i64 (m : Nat), .string Z]),
     (fun W v => ∃ h, v = .pointer (some ⟨h, 0, none⟩) ∧ w2.heap.size ≤ h ∧ BlkIs W h 41 #[.int .i64 0, .int .i64 0, .int .i64 0, .string ⟨#[]⟩])] (by rfl) (by kernel_rfl) (by kernel_rfl) (by kernel_rfl) (by kernel_rfl) (by rfl) (by kernel_rfl) ?hS ?hp ?hs ?he
        case hS => exact gr_drew (Below.refl _ _)
        case hp => repeat' (first | exact trivial | refine ⟨fun _ _ _ _ h => h, ?_⟩ | refine ⟨fun _ _ _ hb h => ?_, ?_⟩ | (obtain ⟨h', q1, q2, q3⟩ := h; exact ⟨h', q1, q2, q3.kept hb q3.size⟩))
        case hs =>
          simp only [List.take_succ_cons, List.take_zero]
          refine ⟨?_, ?_, ?_, ?_, ?_, ?_, ?_, ?_, ?_, ?_, ?_, ?_, ?_, trivial⟩
          · refine ⟨met_none rfl, ?_⟩
            intro a W K hS hd hf hK
            have e6 : a.tmps.getD 6 undef = .slice (some ⟨g6, off6, none⟩) 4 cap6 := hf 6 (by kernel_rfl)
            clear hd hf
            go_simp
            exact hK _ _ (Below.refl _ _) hS rfl
          · refine ⟨met_none rfl, ?_⟩
            intro a W K hS hd hf hK
            have e32 : a.tmps.getD 32 undef = .slice (some ⟨g6, off6, none⟩) 4 cap6 := hd ⟨0, .data⟩ (by simp) rfl
            clear hd hf
            go_simp
            exact hK _ _ (Below.refl _ _) hS rfl
          · refine ⟨met_none rfl, ?_⟩
            intro a W K hS hd hf hK
            have e33 : a.tmps.getD 33 undef = .pointer (some ⟨g6, off6 + 1, none⟩) := hd ⟨1, .data⟩ (by simp) rfl
            have c0 := cell_kept hS D1
            clear hd hf
            go_simp
            exact hK _ _ (Below.refl _ _) hS rfl
          · refine ⟨met_none rfl, ?_⟩
            intro a W K hS hd hf hK
            have e34 : a.tmps.getD 34 undef = .string Y := hd ⟨2, .data⟩ (by simp) rfl
            clear hd hf
            go_simp
            go_at_call 20
            refine (hq1.out _).mono ?_
            rintro e w1 ⟨rfl, hb⟩
            exact hK _ _ hb (gr_call hS hb) rfl
          · refine ⟨met_none rfl, ?_⟩
            intro a W K hS hd hf hK
            have e6 : a.tmps.getD 6 undef = .slice (some ⟨g6, off6, none⟩) 4 cap6 := hf 6 (by kernel_rfl)
            clear hd hf
            go_simp
            exact hK _ _ (Below.refl _ _) hS rfl
          · refine ⟨met_none rfl, ?_⟩
            intro a W K hS hd hf hK
            have e36 : a.tmps.getD 36 undef = .slice (some ⟨g6, off6, none⟩) 4 cap6 := hd ⟨4, .data⟩ (by simp) rfl
            clear hd hf
            go_simp
            exact hK _ _ (Below.refl _ _) hS rfl
          · refine ⟨met_none rfl, ?_⟩
            intro a W K hS hd hf hK
            have e37 : a.tmps.getD 37 undef = .pointer (some ⟨g6, off6 + 2, none⟩) := hd ⟨5, .data⟩ (by simp) rfl
            have c0 := cell_kept hS D2
            clear hd hf
            go_simp
            exact hK _ _ (Below.refl _ _) hS rfl
          · refine ⟨met_none rfl, ?_⟩
            intro a W K hS hd hf hK
            have e6 : a.tmps.getD 6 undef = .slice (some ⟨g6, off6, none⟩) 4 cap6 := hf 6 (by kernel_rfl)
            clear hd hf
            go_simp
            exact hK _ _ (Below.refl _ _) hS rfl
          · refine ⟨met_none rfl, ?_⟩
            intro a W K hS hd hf hK
            have e39 : a.tmps.getD 39 undef = .slice (some ⟨g6, off6, none⟩) 4 cap6 := hd ⟨7, .data⟩ (by simp) rfl
            clear hd hf
            go_simp
            exact hK _ _ (Below.refl _ _) hS rfl
          · refine ⟨met_none rfl, ?_⟩
            intro a W K hS hd hf hK
            have e40 : a.tmps.getD 40 undef = .pointer (some ⟨g6, off6 + 3, none⟩) := hd ⟨8, .data⟩ (by simp) rfl
            have c0 := cell_kept hS D3
            clear hd hf
            go_simp
            exact hK _ _ (Below.refl _ _) hS rfl
          · refine ⟨met_none rfl, ?_⟩
            intro a W K hS hd hf hK
            have e41 : a.tmps.getD 41 undef = .string U := hd ⟨9, .data⟩ (by simp) rfl
            clear hd hf
            go_simp
            go_at_call 20
            refine (hq2.out _).mono ?_
            rintro e w1 ⟨rfl, hb⟩
            exact hK _ _ hb (gr_call hS hb) rfl
          · refine ⟨met_none rfl, ?_⟩
            intro a W K hS hd hf hK
            have e35 : a.tmps.getD 35 undef = .int .i64 (f : Nat) := hd ⟨3, .data⟩ (by simp) rfl
            have e38 : a.tmps.getD 38 undef = .string Z := hd ⟨6, .data⟩ (by simp) rfl
            have e42 : a.tmps.getD 42 undef = .int .i64 (m : Nat) := hd ⟨10, .data⟩ (by simp) rfl
            have hbd := buildW2 f m Z
            have f35 := e35
            rw [Array.getD_eq_getD_getElem?] at f35
            have f38 := e38
            rw [Array.getD_eq_getD_getElem?] at f38
            have f42 := e42
            rw [Array.getD_eq_getD_getElem?] at f42
            clear hd hf
            go_simp
            exact hK _ _ (Below.refl _ _) hS rfl
          · refine ⟨met_none rfl, ?_⟩
            intro a W K hS hd hf hK
            clear hd hf
            go_simp
            exact hK _ _ ((Below.refl _ _).alloc (Nat.le_refl _) _) (gr_alloc hS _) ⟨_, rfl, hS.size, BlkIs.made _ _ _⟩
        case he =>
          intro vals w3 K hS3 hV hK
          have e43 := hV 11 (by omega)
          have e7 := hV 12 (by omega)
          clear hV
          simp only [List.getD_cons_succ, List.getD_cons_zero] at e43 e7
          obtain ⟨h, e7, hh, hblk⟩ := e7
          refine Later.mk ?_
          simp only [List.append_eq, List.cons_append, List.nil_append, setN, Nat.reduceAdd, List.setIfInBounds_toArray, List.set_cons_succ, List.set_cons_zero]
          rw [e43, e7]
          have k0 := hblk.cell_some 0 _ rfl
          have f0 := hblk.free 0
          have k1 := hblk.cell_some 1 _ rfl
          have f1 := hblk.free 1
          have k2 := hblk.cell_some 2 _ rfl
          have f2 := hblk.free 2
          have k3 := hblk.cell_some 3 _ rfl
          have f3 := hblk.free 3
          clear hq1 hq2 D1 D2 D3 e43 e7
          go_simp
          have hblk2 : BlkIs ((((w3.setCell ⟨h, 0, none⟩ (.int .i64 1)).setCell ⟨h, 1, none⟩ (.int .i64 (f : Nat))).setCell ⟨h, 2, none⟩ (.int .i64 (m : Nat))).setCell ⟨h, 3, none⟩ (.string Z)) h 41 #[.int .i64 1, .int .i64 (f : Nat), .int .i64 (m : Nat), .string Z] :=
            (((hblk.put 0 _).put 1 _).put 2 _).put 3 _
          have hB3 : Below w2.heap.size w2 ((((w3.setCell ⟨h, 0, none⟩ (.int .i64 1)).setCell ⟨h, 1, none⟩ (.int .i64 (f : Nat))).setCell ⟨h, 2, none⟩ (.int .i64 (m : Nat))).setCell ⟨h, 3, none⟩ (.string Z)) :=
            gr_set (gr_set (gr_set (gr_set hS3 (p := ⟨h, 0, none⟩) hh _) (p := ⟨h, 1, none⟩) hh _) (p := ⟨h, 2, none⟩) hh _) (p := ⟨h, 3, none⟩) hh _
          obtain ⟨W3, hW3⟩ : ∃ W3, ((((w3.setCell ⟨h, 0, none⟩ (.int .i64 1)).setCell ⟨h, 1, none⟩ (.int .i64 (f : Nat))).setCell ⟨h, 2, none⟩ (.int .i64 (m : Nat))).setCell ⟨h, 3, none⟩ (.string Z)) = W3 := ⟨_, rfl⟩
          rw [hW3] at hblk2 hB3 ⊢
          clear hW3 hblk hS3 k0 f0 k1 f1 k2 f2 k3 f3
          replace D0 := cell_kept hB3 D0
          refine hK _ _ ?_
          clear hK
          have hl1 : ∀ t : Int, acc.length + [(⟨t, (f : Nat), (m : Nat), Z⟩ : Wid)].length ≤ 1000000 := by intro t; simp; omega
          have hsm := hbm2.size
          by_cases hxD : x = [68]
          · have fx : (X0.toList == DD.toList) = true := by rw [hXe, hDDl, hxD]; exact beq_self_eq_true _
            have fx2 : X0.toList = DD.toList := by rw [hXe, hDDl, hxD]
            have ht : tyR x = 2 := by unfold tyR; rw [if_pos hxD]
            rw [ht] at HN
            have hblk4 : BlkIs (W3.setCell ⟨h, 0, none⟩ (.int .i64 2)) h 41 #[.int .i64 2, .int .i64 (f : Nat), .int .i64 (m : Nat), .string Z] := hblk2.put 0 _
            have hB4 : Below w2.heap.size w2 (W3.setCell ⟨h, 0, none⟩ (.int .i64 2)) := gr_set hB3 (p := ⟨h, 0, none⟩) hh _
            have k0 := hblk2.cell_some 0 _ rfl
            have f0 := hblk2.free 0
            clear ht hxD hXe hDDl
            have k1 := hblk2.cell_some 1 _ rfl
            have k2 := hblk2.cell_some 2 _ rfl
            have k3 := hblk2.cell_some 3 _ rfl
            have q0_ := hblk4.cell_some 0 _ rfl
            have q1_ := hblk4.cell_some 1 _ rfl
            have q2_ := hblk4.cell_some 2 _ rfl
            have q3_ := hblk4.cell_some 3 _ rfl
            have hRr := (hR2.call hB4).alloc (.cells #[.int .i64 2, .int .i64 (f : Nat), .int .i64 (m : Nat), .string Z] 41)
            have hbm5 := gr_alloc (gr_call hbm2 hB4) (.cells #[.int .i64 2, .int .i64 (f : Nat), .int .i64 (m : Nat), .string Z] 41)
            have hone := (one_wide (W3.setCell ⟨h, 0, none⟩ (.int .i64 2)) ⟨2, (f : Nat), (m : Nat), Z⟩ 0 (Nat.zero_le _)).at
            simp only at hone
            rw [show (W3.setCell ⟨h, 0, none⟩ (.int .i64 2)).heap.size = W3.heap.size by simp] at hone
            have hs5 := hbm5.size
            go_wp2_with (at_builtin; refine wp_append_at wideE rfl _ _ rfl w1.heap.size _ (.slice (some ⟨W3.heap.size, 0, none⟩) 1 1) acc [⟨2, (f : Nat), (m : Nat), Z⟩] ((W3.setCell ⟨h, 0, none⟩ (.int .i64 2)).alloc (.cells #[.int .i64 2, .int .i64 (f : Nat), .int .i64 (m : Nat), .string Z] 41)) rfl (by exact hRr) (by rfl) (by exact hone) (hl1 _) hs5 ?_)
            intro v' w7 hR7 hb7 _ _
            have hbm7 := hbm5.trans hb7
            clear hRr hone hb7 hbm5 hR2 hB3 hblk2 q0_ q1_ q2_ q3_ D0 hB4 hblk4 k0 k1 k2 k3 f0
            go_wp2_with fail
            go_roundw
            case rel => exact ⟨i + 1, _, rfl, by omega, by rw [List.length_append, hacc]; rfl, hR7, hbm7, HN⟩
            case measure => simp only [intOf]; omega
          · have fx : (X0.toList == DD.toList) = false := by rw [hXe, hDDl]; exact beq_eq_false_iff_ne.2 hxD
            have fx2 : ¬ X0.toList = DD.toList := by rw [hXe, hDDl]; exact hxD
            have ht : tyR x = 1 := by unfold tyR; rw [if_neg hxD]
            rw [ht] at HN
            clear ht hxD hXe hDDl
            have q0 := hblk2.cell_some 0 _ rfl
            have q1 := hblk2.cell_some 1 _ rfl
            have q2 := hblk2.cell_some 2 _ rfl
            have q3 := hblk2.cell_some 3 _ rfl
            have hRr := (hR2.call hB3).alloc (.cells #[.int .i64 1, .int .i64 (f : Nat), .int .i64 (m : Nat), .string Z] 41)
            have hbm5 := gr_alloc (gr_call hbm2 hB3) (.cells #[.int .i64 1, .int .i64 (f : Nat), .int .i64 (m : Nat), .string Z] 41)
            have hone := (one_wide W3 ⟨1, (f : Nat), (m : Nat), Z⟩ 0 (Nat.zero_le _)).at
            simp only at hone
            have hs5 := hbm5.size
            go_wp2_with (at_builtin; refine wp_append_at wideE rfl _ _ rfl w1.heap.size _ (.slice (some ⟨W3.heap.size, 0, none⟩) 1 1) acc [⟨1, (f : Nat), (m : Nat), Z⟩] (W3.alloc (.cells #[.int .i64 1, .int .i64 (f : Nat), .int .i64 (m : Nat), .string Z] 41)) rfl (by exact hRr) (by rfl) (by exact hone) (hl1 _) hs5 ?_)
            intro v' w7 hR7 hb7 _ _
            have hbm7 := hbm5.trans hb7
            clear hRr hone hb7 hbm5 hR2 hB3 hblk2 q0 q1 q2 q3 D0
            go_wp2_with fail
            go_roundw
            case rel => exact ⟨i + 1, _, rfl, by omega, by rw [List.length_append, hacc]; rfl, hR7, hbm7, HN⟩
            case measure => simp only [intOf]; omega
      · have f4 : ((qs.length : Int) == 4) = false := beq_eq_false_iff_ne.2 (by omega)
        have HE := Lib.hid (HB.out hl4)
        obtain ⟨r0, r1, r2, r3⟩ := hr2
        obtain ⟨p6, cap6, rfl, hcap6, hcell6⟩ := str_look hR6.at
        clear hcell6 HB HS hR6
        generalize qs.length = ql at *
        go_wp2_with fail
        refine bodyPost_ret (v := .agg #[.slice none 0 0, .bool false]) ?_ rfl ⟨by rw [HE.out]; rfl, by (repeat' (first | exact Below.refl _ _ | assumption | refine gr_drew ?_ | refine gr_drewN ?_ _ | refine gr_alloc ?_ _ | refine gr_set ?_ ?_ _ | refine gr_call ?_ (by assumption)) <;> (try (simp; done)) <;> (try (simp; omega)) <;> (try omega))⟩
        simp [results, Tryd.results8, go_sem, *]
    · have hlt' : decide ((i : Int) < (z : Int)) = false := decide_eq_false (by omega)
      have hlt2 : decide (i < z) = false := decide_eq_false hlt
      have hiz : i = z := by omega
      have HSo : Hid (SoFar S.data.toList acc (cutAt 44 S.data.toList).length) := Lib.hid (by rw [Hz.out, ← hiz]; exact HR.out)
      have hlen : acc.length ≤ 1000000 := by omega
      have hat := hR.at
      have hbl : Below w.heap.size w wr := gr_call hx0 (gr_call hb1 hbm)
      have Hb : Hid (Below (w.alloc (.cells #[.slice none 0 0, .bool false] 28)).heap.size (w.alloc (.cells #[.slice none 0 0, .bool false] 28)) wr) := Lib.hid (gr_call hb1 hbm)
      have hmy := Lib.hid (refMay_any _ acc wr hat hlen)
      have hSe : S.toList = S.data.toList := Lib.toList_data S
      clear hiz
      rcases hm : may acc with _ | _
      · rw [hm] at hmy
        have HE := Lib.hid (sofar_no HS0.out HSo.out (by rw [hm]; rintro ⟨h, _⟩; cases h))
        go_wp2_with fail
        refine (hmy.out).mono ?_
        rintro e w2 ⟨rfl, hb2⟩
        obtain ⟨r0, r1, r2, r3⟩ := Hres.out w2 (gr_call Hb.out hb2)
        have hbl2 := gr_call hbl hb2
        clear hmy
        go_wp2_with fail
        refine bodyPost_ret (v := .agg #[.slice none 0 0, .bool false]) ?_ rfl ⟨by rw [HE.out]; rfl, by (repeat' (first | exact Below.refl _ _ | assumption | refine gr_drew ?_ | refine gr_drewN ?_ _ | refine gr_alloc ?_ _ | refine gr_set ?_ ?_ _ | refine gr_call ?_ (by assumption)) <;> (try (simp; done)) <;> (try (simp; omega)) <;> (try omega))⟩
        simp [results, Tryd.results8, go_sem, *]
      · rw [hm] at hmy
        obtain ⟨T, hT⟩ : ∃ T, strOf (textL acc) = T := ⟨_, rfl⟩
        have hTe : T.toList = textL acc := by rw [← hT, Lib.toList_data, strOf_list]
        have hsh := hat.shape
        rw [hacc] at hsh
        obtain ⟨pl, cl, rfl, _⟩ := hsh
        clear hacc hlen
        by_cases hts : T.toList = S.toList
        · have hts2 : (T.toList == S.toList) = true := by rw [hts]; exact beq_self_eq_true _
          have HE := Lib.hid (sofar_yes hm (by rw [← hTe, hts, hSe]))
          clear hts hTe hSe HSo
          go_wp2_with fail
          refine (hmy.out).mono ?_
          rintro e w2 ⟨rfl, hb2⟩
          have hat2 := hat.call hb2
          have htx2 := Lib.hid (refText_any _ acc w2 hat2 hm)
          rw [hT] at htx2
          go_wp2_with fail
          refine (htx2.out).mono ?_
          rintro e w3 ⟨rfl, hb3⟩
          obtain ⟨r0, r1, r2, r3⟩ := Hres.out w3 (gr_call (gr_call Hb.out hb2) hb3)
          have hbl3 := gr_call (gr_call hbl hb2) hb3
          have hat3 := hat2.call hb3
          have hR3 := (hR.call hb2).call hb3
          have hx1 : w.heap.size < w1.heap.size := by have := hb1.size; simp at this; omega
          have hon : (Value.slice pl i cl).ownBlock ≠ some w.heap.size := fun h => by have := (hR3.lt _ h).1; omega
          have hown : At wideE (.slice pl i cl) acc (((w3.setCell ⟨w.heap.size, 0, none⟩ (.slice pl i cl)).setCell ⟨w.heap.size, 1, none⟩ (.bool true))) :=
            ((hR3.other (a := ⟨w.heap.size, 0, none⟩) hon _).other (a := ⟨w.heap.size, 1, none⟩) hon _).at
          clear hR3 hon
          clear hmy htx2 hb2 hb3
          go_wp2_with fail
          refine bodyPost_ret (v := .agg #[.slice pl i cl, .bool true]) ?_ rfl ⟨by rw [HE.out]; exact ⟨_, rfl, hown⟩, by (repeat' (first | exact Below.refl _ _ | assumption | refine gr_drew ?_ | refine gr_drewN ?_ _ | refine gr_alloc ?_ _ | refine gr_set ?_ ?_ _ | refine gr_call ?_ (by assumption)) <;> (try (simp; done)) <;> (try (simp; omega)) <;> (try omega))⟩
          simp [results, Tryd.results8, go_sem, *]
        · have hts2 : (T.toList == S.toList) = false := beq_eq_false_iff_ne.2 hts
          have HE := Lib.hid (sofar_no HS0.out HSo.out (by rintro ⟨_, h⟩; exact hts (by rw [hTe, hSe, h])))
          clear hts hTe hSe HSo
          go_wp2_with fail
          refine (hmy.out).mono ?_
          rintro e w2 ⟨rfl, hb2⟩
          have hat2 := hat.call hb2
          have htx2 := Lib.hid (refText_any _ acc w2 hat2 hm)
          rw [hT] at htx2
          go_wp2_with fail
          refine (htx2.out).mono ?_
          rintro e w3 ⟨rfl, hb3⟩
          obtain ⟨r0, r1, r2, r3⟩ := Hres.out w3 (gr_call (gr_call Hb.out hb2) hb3)
          have hbl3 := gr_call (gr_call hbl hb2) hb3
          clear hmy htx2 hb2 hb3
          go_wp2_with fail
          refine bodyPost_ret (v := .agg #[.slice none 0 0, .bool false]) ?_ rfl ⟨by rw [HE.out]; rfl, by (repeat' (first | exact Below.refl _ _ | assumption | refine gr_drew ?_ | refine gr_drewN ?_ _ | refine gr_alloc ?_ _ | refine gr_set ?_ ?_ _ | refine gr_call ?_ (by assumption)) <;> (try (simp; done)) <;> (try (simp; omega)) <;> (try omega))⟩
          simp [results, Tryd.results8, go_sem, *]
end Go.Proofs.YtikdpoekjfbpaaaDoor
