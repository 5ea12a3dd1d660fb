/- The document's answer: what a text says. -/
import Derived.Test.YtdjffnhkfpjafaaDoorAclRefParseM
import Derived.Test.YtdjffnhkfpjafaaDoorAclRefMay
import Derived.Test.YtdjffnhkfpjafaaDoorAclRefText
import Derived.Test.YtdjffnhkfpjafaaDoorAclCut
import Derived.Test.YtdjffnhkfpjafaaDoorAclDec
import Derived.Test.YtdjffnhkfpjafaaDoorAclPiece
import Derived.Test.YtdjffnhkfpjafaaDoorAclParse
namespace Go.Proofs.YtdjffnhkfpjafaaDoor
open Go.RowKit
open AclM DecM
set_option linter.unusedVariables false
attribute [local irreducible] Row At

/-- What ParseAcl hands back. -/
def refEnd (o : Option (List Ace)) (e : Ending) (w' : World) : Prop := match o with
  | some l => ∃ v, e = .returned (.agg #[v, .bool true]) ∧ At aceE v l w'
  | none => e = .returned (.agg #[.slice none 0 0, .bool false])
theorem str_look {v : Value} {l : List (List UInt8)} {w : World} (h : At strE v l w) :
    ∃ p cap, v = .slice p l.length cap ∧ l.length ≤ cap ∧ ∀ j (h : j < l.length), ∃ g off, p = some ⟨g, off, none⟩ ∧ g < w.heap.size ∧ w.cell? ⟨g, off + j, none⟩ = some (.string (strOf l[j])) := by
  by_cases hl : l = []
  · obtain ⟨p, cap, h1, h2⟩ := h.shape
    exact ⟨p, cap, h1, h2, fun j hj => by subst hl; simp at hj⟩
  · obtain ⟨g, off, cap, h1, h2, h3, h4⟩ := str_open h hl
    exact ⟨_, cap, h1, h2, fun j hj => ⟨g, off, rfl, h3, h4 j hj⟩⟩

theorem dash_b (a : UInt8) : ((a.toNat : Int) == 45) = !(decide (a ≠ 45)) := by
  by_cases h : a = 45
  · subst h; rfl
  · rw [decide_eq_true h]
    exact toNat_ne h
theorem str_three {v : Value} {x y u : List UInt8} {w : World} (h : At strE v [x, y, u] w) : ∃ g off cap, v = .slice (some ⟨g, off, none⟩) 3 cap ∧ 3 ≤ cap ∧ g < w.heap.size ∧
    w.cell? ⟨g, off, none⟩ = some (.string (strOf x)) ∧ w.cell? ⟨g, off + 1, none⟩ = some (.string (strOf y)) ∧ w.cell? ⟨g, off + 2, none⟩ = some (.string (strOf u)) := by
  obtain ⟨g, off, cap, h1, h2, h3, h4⟩ := str_open h (by simp)
  exact ⟨g, off, cap, h1, h2, h3, h4 0 (by simp), h4 1 (by simp), h4 2 (by simp)⟩

set_option maxHeartbeats 6400000 in
set_option maxRecDepth 100000 in
theorem refParse_any (S : ByteArray) (hS : S.size ≤ 100000) (w : World) :
    Calls Tryd.prog 10 #[.string S] w fun e w' => refEnd (getL S.data.toList) e w' ∧ Below w.heap.size w w' := by
  obtain ⟨n, hn⟩ : ∃ n, S.size = n := ⟨_, rfl⟩
  by_cases h1000 : 1000 < n
  · have e1 : decide ((1000 : Int) < (n : Int)) = true := decide_eq_true (by omega)
    have HE := Lib.hid (get_long (s := S.data.toList) (by rw [len_list, hn]; omega))
    go_enter Tryd.func10, Tryd.ntmps10
    go_wp2_with fail
    refine bodyPost_ret (v := .agg #[.slice none 0 0, .bool false]) ?_ rfl ⟨by rw [HE.out]; rfl, by (repeat' (first | exact Below.refl _ _ | assumption | refine gr_drew ?_ | refine gr_drewN ?_ _ | refine gr_alloc ?_ _ | refine gr_set ?_ ?_ _ | refine gr_call ?_ (by assumption)) <;> (try (simp; done)) <;> (try (simp; omega)) <;> (try omega))⟩
    simp [results, Tryd.results10, go_sem, *]
  have e1 : decide ((1000 : Int) < (n : Int)) = false := decide_eq_false (by omega)
  have hx0 : Below w.heap.size w (w.alloc (.cells #[.slice none 0 0, .bool false] 27)) := by (repeat' (first | exact Below.refl _ _ | assumption | refine gr_drew ?_ | refine gr_drewN ?_ _ | refine gr_alloc ?_ _ | refine gr_set ?_ ?_ _ | refine gr_call ?_ (by assumption)) <;> (try (simp; done)) <;> (try (simp; omega)) <;> (try omega))
  have hres : ∀ W, Below (w.alloc (.cells #[.slice none 0 0, .bool false] 27)).heap.size (w.alloc (.cells #[.slice none 0 0, .bool false] 27)) W → W.cell? ⟨w.heap.size, 0, none⟩ = some (.slice none 0 0) ∧ W.cell? ⟨w.heap.size, 1, none⟩ = some (.bool false) ∧ W.frozen? ⟨w.heap.size, 0, none⟩ = false ∧ W.frozen? ⟨w.heap.size, 1, none⟩ = false := fun W hb =>
    ⟨cell_kept hb (by simp [go_sem]), cell_kept hb (by simp [go_sem]), free_kept hb (v := .slice none 0 0) (by simp [go_sem]) (by simp [go_sem]), free_kept hb (v := .bool false) (by simp [go_sem]) (by simp [go_sem])⟩
  have Hres := Lib.hid hres
  have hcut := Lib.hid (refCut_any S 44 44 rfl hS (w.alloc (.cells #[.slice none 0 0, .bool false] 27)))
  obtain ⟨hk1, hk2⟩ := cutAt_sum 44 S.data.toList
  rw [len_list] at hk1 hk2
  have Hq := Lib.hid (fun (j : Nat) (h : j < (cutAt 44 S.data.toList).length) W => refCut_any (strOf (cutAt 44 S.data.toList)[j]) 58 58 rfl (by rw [strOf_size]; have := hk2 _ (List.getElem_mem h); omega) W)
  have Hqs := Lib.hid (fun (j : Nat) (h : j < (cutAt 44 S.data.toList).length) => And.intro (cutAt_sum 58 (cutAt 44 S.data.toList)[j]) (hk2 _ (List.getElem_mem h)))
  have Hbad := Lib.hid (fun (i : Nat) (hi : i < (cutAt 44 S.data.toList).length) h => sofar_bad hi h)
  have Hstep := Lib.hid (fun (i : Nat) (hi : i < (cutAt 44 S.data.toList).length) acc h x y u hq m h1 h2 => @sofar_step S.data.toList acc i hi h x y u hq m h1 h2)
  obtain ⟨z, hz⟩ : ∃ z, (cutAt 44 S.data.toList).length = z := ⟨_, rfl⟩
  have Hz := Lib.hid hz
  rw [hz] at hk1
  clear hk2 hres
  go_enter Tryd.func10, Tryd.ntmps10
  go_wp2_with fail
  refine (hcut.out).mono ?_
  rintro e w1 ⟨⟨v, rfl, hR⟩, hb1⟩
  obtain ⟨p, cap, rfl, hcap, hcell⟩ := str_look hR.at
  rw [hz] at hcap ⊢
  have Hcell := Lib.hid hcell
  clear hcell hR hcut hz
  go_wp2_with fail
  go_loopw [4, 5] (fun lv iv wr => ∃ (i : Nat) (acc : List Ace), iv = .int .i64 (i : Int) ∧ i ≤ z ∧ acc.length = i ∧ Row aceE w1.heap.size lv acc wr ∧ Below w1.heap.size w1 wr ∧ Hid (SoFar S.data.toList acc i)) (fun _ iv _ => z - (intOf iv).toNat)
  case atStart => exact ⟨0, [], rfl, by omega, rfl, Row.nil _ _, Below.refl _ _, Lib.hid (sofar_nil _)⟩
  case round =>
    obtain ⟨i, acc, rfl, hi, hacc, hR, hbm, HR⟩ := hrel
    rename World => wr
    by_cases hlt : i < z
    · have hlt' : decide ((i : Int) < (z : Int)) = true := decide_eq_true (by omega)
      have hlt2 : decide (i < z) = true := decide_eq_true hlt
      have hi' : i < (cutAt 44 S.data.toList).length := by rw [Hz.out]; exact hlt
      obtain ⟨g, off, rfl, hg, c0⟩ := Hcell.out i hi'
      replace c0 := cell_kept hbm c0
      have hq := Lib.hid (Hq.out i hi' wr)
      rw [strOf_list] at hq
      have hqs := Hqs.out i hi'
      have HB := Lib.hid (Hbad.out i hi')
      have HS := Lib.hid (fun x y u hq m h1 h2 => Hstep.out i hi' acc HR.out x y u hq m h1 h2)
      obtain ⟨X, hX⟩ : ∃ X, strOf (cutAt 44 S.data.toList)[i] = X := ⟨_, rfl⟩
      rw [hX] at c0 hq
      generalize cutAt 58 (cutAt 44 S.data.toList)[i] = qs at *
      clear hX HR
      go_wp2_with fail
      refine (hq.out).mono ?_
      rintro e w2 ⟨⟨v6, rfl, hR6⟩, hb2⟩
      have hR2 := hR.call hb2
      have hbm2 := gr_call hbm hb2
      have hr2 := Hres.out w2 (gr_call hb1 hbm2)
      have hbl2 : Below w.heap.size w w2 := gr_call hx0 (gr_call hb1 hbm2)
      clear hq c0
      have hsz2 := hb2.size
      by_cases hl3 : qs.length = 3
      · obtain ⟨x, y, u, rfl⟩ : ∃ x y u, qs = [x, y, u] := by
          match qs, hl3 with
          | [x, y, u], _ => exact ⟨x, y, u, rfl⟩
        obtain ⟨g6, off6, cap6, rfl, hcap6, hg6, d0, d1, d2⟩ := str_three hR6.at
        obtain ⟨U, hU⟩ : ∃ U, strOf u = U := ⟨_, rfl⟩
        rw [hU] at d2
        have hUs : U.size = u.length := by rw [← hU, strOf_size]
        clear hR6
        by_cases hu3 : u.length = 3
        · have f3 : ((U.size : Int) == 3) = true := beq_iff_eq.2 (by omega)
          obtain ⟨a, b, c, rfl⟩ : ∃ a b c, u = [a, b, c] := by
            match u, hu3 with
            | [a, b, c], _ => exact ⟨a, b, c, rfl⟩
          have HS2 := Lib.hid (HS.out x y _ rfl)
          obtain ⟨X, hX⟩ : ∃ X, strOf x = X := ⟨_, rfl⟩
          obtain ⟨Y, hY⟩ : ∃ Y, strOf y = Y := ⟨_, rfl⟩
          rw [hX] at d0
          rw [hY] at d1
          have hXe : X.toList = x := by rw [← hX, Lib.toList_data, strOf_list]
          have hYe : Y.toList = y := by rw [← hY, Lib.toList_data, strOf_list]
          have hYs : Y.size ≤ 100000 := by
            have h := hqs.1.2 y (by simp)
            have h2 := hqs.2
            rw [← hY, strOf_size]
            omega
          have hYd : Y.data.toList = y := by rw [← hY, strOf_list]
          have hdec := Lib.hid (fun W => refDecimal_any Y hYs W)
          rw [hYd] at hdec
          have hix : ∀ (k : Nat) (e : UInt8), [a, b, c][k]? = some e → ∀ W, (Instr.index 9 (.string U) (.int .i64 (k : Int))).run Tryd.prog W = .ok (.int .u8 (e.toNat : Int)) W := by
            intro k e he W
            obtain ⟨e', he', h⟩ := idxAt (P := Tryd.prog) Tryd.underlying9 U k (by rw [hUs]; exact (List.getElem?_eq_some_iff.1 he).1)
            rw [← hU, strOf_list, he] at he'
            cases he'
            exact h W
          have i0 := hix 0 a rfl
          have i1 := hix 1 b rfl
          have i2 := hix 2 c rfl
          simp only [show ((0 : Nat) : Int) = 0 from rfl, show ((1 : Nat) : Int) = 1 from rfl, show ((2 : Nat) : Int) = 2 from rfl] at i0 i1 i2
          clear hix hX hY hYd
          clear HB HS hqs hUs hU
          have t0 : ((a.toNat : Int) == 45) = !(decide (a ≠ 45)) := dash_b a
          have t1 : ((b.toNat : Int) == 45) = !(decide (b ≠ 45)) := dash_b b
          have t2 : ((c.toNat : Int) == 45) = !(decide (c ≠ 45)) := dash_b c
          simp only [permL] at HS2
          generalize decide (a ≠ 45) = da at *
          generalize decide (b ≠ 45) = db at *
          generalize decide (c ≠ 45) = dc at *
          have hp0 : puR da db dc 0 = 0 := by simp [puR]
          have hR1 := hacc
          clear hu3
          by_cases hx : x = [117]
          · subst hx
            by_cases y0 : y = []
            · subst y0
              rw [show tgR [117] [] = 1 from rfl] at HS2
              have hnm := Lib.hid (fun W => named_any (1, 0, 0) W)
              unfold aceV at hnm
              simp only [show hasId 1 = false from rfl] at hnm
              go_wp2_with fail
              refine (hnm.out _).mono ?_
              rintro e w3 ⟨rfl, hb3⟩
              have hG3 : BlkIs w3 w2.heap.size 39 #[.int .i64 1, .int .i64 0, .int .i64 0] := (BlkIs.made _ _ _).kept hb3 (by simp)
              have hW3 : Below w2.heap.size w2 w3 := gr_call (gr_alloc (Below.refl _ _) _) hb3
              clear hnm hb3 d0
              have HN := Lib.hid (HS2.out 0 (fun h => absurd h (by decide)) (fun _ => rfl))
              have hG5 := hG3
              have hW5 := hW3
              clear HS2 hdec hG3 hW3 d1
              go_wp2_with fail
              go_loopw [8] (fun kv W => ∃ k : Nat, kv = .int .i64 (k : Int) ∧ k ≤ 3 ∧ BlkIs W w2.heap.size 39 #[.int .i64 1, .int .i64 0, .int .i64 (puR da db dc k)] ∧ Below w2.heap.size w2 W) (fun kv _ => 3 - (intOf kv).toNat)
              case atStart => exact ⟨0, rfl, by omega, by rw [hp0]; exact hG5, hW5⟩
              case round =>
                clear hG5 hW5 hp0
                obtain ⟨k, rfl, hk, hG, hW⟩ := hrel
                rename World => wk
                have d22 := cell_kept hW d2
                have c2 := hG.cell_some 2 _ rfl
                have f2 := hG.free 2
                have hk4 : k = 0 ∨ k = 1 ∨ k = 2 ∨ k = 3 := by omega
                rcases hk4 with rfl | rfl | rfl | rfl
                · have hor := (or_pu da db dc).1
                  have hno := (pu_no da db dc).1
                  clear hk t1 i1 t2 i2
                  rcases da with _ | _
                  · rw [hno] at hG c2
                    simp only [Bool.not_false] at t0
                    clear hor hno
                    go_wp2_with fail
                    go_roundw
                    case rel => exact ⟨1, rfl, by omega, hG, hW⟩
                    case measure => simp only [intOf]; omega
                  · have hG2 := hG.put 2 (.int .i64 (bits .or .i64 (puR true db dc 0) 4))
                    rw [hor] at hG2
                    simp only [Bool.not_true] at t0
                    generalize puR true db dc 0 = p0 at *
                    obtain ⟨p1, hp1⟩ : ∃ p, puR true db dc 1 = p := ⟨_, rfl⟩
                    rw [hp1] at hG2 hor
                    have Hp1 := Lib.hid hp1
                    clear hno hp1
                    go_wp2_with fail
                    go_region
                    all_goals
                      go_wp2_with fail
                      go_roundw
                      case rel => exact ⟨1, rfl, by omega, by rw [Hp1.out]; exact hG2, gr_drew (gr_set hW (Nat.le_refl _) _)⟩
                      case measure => simp only [intOf]; omega
                · have hor := (or_pu da db dc).2.1
                  have hno := (pu_no da db dc).2.1
                  clear hk t0 i0 t2 i2
                  rcases db with _ | _
                  · rw [hno] at hG c2
                    simp only [Bool.not_false] at t1
                    clear hor hno
                    go_wp2_with fail
                    go_roundw
                    case rel => exact ⟨2, rfl, by omega, hG, hW⟩
                    case measure => simp only [intOf]; omega
                  · have hG2 := hG.put 2 (.int .i64 (bits .or .i64 (puR da true dc 1) 2))
                    rw [hor] at hG2
                    simp only [Bool.not_true] at t1
                    generalize puR da true dc 1 = p0 at *
                    obtain ⟨p1, hp1⟩ : ∃ p, puR da true dc 2 = p := ⟨_, rfl⟩
                    rw [hp1] at hG2 hor
                    have Hp1 := Lib.hid hp1
                    clear hno hp1
                    go_wp2_with fail
                    go_region
                    all_goals
                      go_wp2_with fail
                      go_roundw
                      case rel => exact ⟨2, rfl, by omega, by rw [Hp1.out]; exact hG2, gr_drew (gr_set hW (Nat.le_refl _) _)⟩
                      case measure => simp only [intOf]; omega
                · have hor := (or_pu da db dc).2.2
                  have hno := (pu_no da db dc).2.2
                  clear hk t0 i0 t1 i1
                  rcases dc with _ | _
                  · rw [hno] at hG c2
                    simp only [Bool.not_false] at t2
                    clear hor hno
                    go_wp2_with fail
                    go_roundw
                    case rel => exact ⟨3, rfl, by omega, hG, hW⟩
                    case measure => simp only [intOf]; omega
                  · have hG2 := hG.put 2 (.int .i64 (bits .or .i64 (puR da db true 2) 1))
                    rw [hor] at hG2
                    simp only [Bool.not_true] at t2
                    generalize puR da db true 2 = p0 at *
                    obtain ⟨p1, hp1⟩ : ∃ p, puR da db true 3 = p := ⟨_, rfl⟩
                    rw [hp1] at hG2 hor
                    have Hp1 := Lib.hid hp1
                    clear hno hp1
                    go_wp2_with fail
                    go_region
                    all_goals
                      go_wp2_with fail
                      go_roundw
                      case rel => exact ⟨3, rfl, by omega, by rw [Hp1.out]; exact hG2, gr_drew (gr_set hW (Nat.le_refl _) _)⟩
                      case measure => simp only [intOf]; omega
                · have hR5 := hR2.call hW
                  generalize puR da db dc 3 = p3 at *
                  have c0 := hG.cell_some 0 _ rfl
                  have c1 := hG.cell_some 1 _ rfl
                  have hR6 := hR5.alloc (.cells #[.int .i64 1, .int .i64 0, .int .i64 p3] 39)
                  have hone := (one_ace wk (1, 0, p3) 0 (Nat.zero_le _)).at
                  have hl1 : acc.length + [((1, 0, p3) : Ace)].length ≤ 1000000 := by simp; omega
                  have hbk : Below w1.heap.size w1 wk := gr_call hbm2 hW
                  have hs1 : w1.heap.size ≤ (wk.alloc (.cells #[.int .i64 1, .int .i64 0, .int .i64 p3] 39)).heap.size := by have := hbk.size; simp; omega
                  clear hG f2 t0 t1 t2 i0 i1 i2 hk d22
                  go_wp2_with (at_builtin; refine wp_append_at aceE rfl _ _ rfl w1.heap.size _ (.slice (some ⟨wk.heap.size, 0, none⟩) 1 1) acc [(1, 0, p3)] (wk.alloc (.cells #[.int .i64 1, .int .i64 0, .int .i64 p3] 39)) rfl (by exact hR6) (by rfl) (by exact hone) hl1 hs1 ?_)
                  intro v' w' hR' hb' _ _
                  have hbm' : Below w1.heap.size w1 w' := (gr_alloc hbk _).trans hb'
                  clear hR5 hR6 hone hb' hbk
                  go_wp2_with fail
                  go_roundw
                  case rel => exact ⟨i + 1, _, rfl, by omega, by simp; omega, hR', hbm', HN⟩
                  case measure => simp only [intOf]; omega
            · have y1 : ¬ Y.toList = [] := by rw [hYe]; exact y0
              have y2 : Y.toList.isEmpty = false := by rw [Bool.eq_false_iff]; intro e; exact y1 (List.isEmpty_iff.1 e)
              have htg : tgR [117] y = 2 := by simp [tgR, y0]
              rw [htg] at HS2
              clear hYe y0 htg
              have hnm := Lib.hid (fun W => named_any (2, 0, 0) W)
              unfold aceV at hnm
              simp only [show hasId 2 = true from rfl] at hnm
              go_wp2_with fail
              refine (hnm.out _).mono ?_
              rintro e w3 ⟨rfl, hb3⟩
              have hG3 : BlkIs w3 w2.heap.size 39 #[.int .i64 2, .int .i64 0, .int .i64 0] := (BlkIs.made _ _ _).kept hb3 (by simp)
              have hW3 : Below w2.heap.size w2 w3 := gr_call (gr_alloc (Below.refl _ _) _) hb3
              clear hnm hb3 d0
              have d11 := cell_kept hW3 d1
              go_wp2_with fail
              refine (hdec.out _).mono ?_
              rintro e w4 ⟨⟨m, rfl, hm1, hm2, hm3⟩, hb4⟩
              have HN := Lib.hid (HS2.out m (fun _ => hm3) (fun h => absurd h (by decide)))
              have hG4 := hG3.kept hb4 hG3.size
              have hW4 := gr_call hW3 hb4
              have f1 := hG4.free 1
              have c1 := hG4.cell_some 1 _ rfl
              have hG5 : BlkIs (w4.setCell ⟨w2.heap.size, 1, none⟩ (.int .i64 m)) w2.heap.size 39 #[.int .i64 2, .int .i64 m, .int .i64 0] := hG4.put 1 _
              have hW5 : Below w2.heap.size w2 (w4.setCell ⟨w2.heap.size, 1, none⟩ (.int .i64 m)) := gr_set hW4 (Nat.le_refl _) _
              clear hm3 HS2 hdec hG3 hW3 hb4 hG4 hW4 d1 d11
              go_wp2_with fail
              clear f1 c1
              go_loopw [8] (fun kv W => ∃ k : Nat, kv = .int .i64 (k : Int) ∧ k ≤ 3 ∧ BlkIs W w2.heap.size 39 #[.int .i64 2, .int .i64 m, .int .i64 (puR da db dc k)] ∧ Below w2.heap.size w2 W) (fun kv _ => 3 - (intOf kv).toNat)
              case atStart => exact ⟨0, rfl, by omega, by rw [hp0]; exact hG5, hW5⟩
              case round =>
                clear hG5 hW5 hp0
                obtain ⟨k, rfl, hk, hG, hW⟩ := hrel
                rename World => wk
                have d22 := cell_kept hW d2
                have c2 := hG.cell_some 2 _ rfl
                have f2 := hG.free 2
                have hk4 : k = 0 ∨ k = 1 ∨ k = 2 ∨ k = 3 := by omega
                rcases hk4 with rfl | rfl | rfl | rfl
                · have hor := (or_pu da db dc).1
                  have hno := (pu_no da db dc).1
                  clear hk t1 i1 t2 i2
                  rcases da with _ | _
                  · rw [hno] at hG c2
                    simp only [Bool.not_false] at t0
                    clear hor hno
                    go_wp2_with fail
                    go_roundw
                    case rel => exact ⟨1, rfl, by omega, hG, hW⟩
                    case measure => simp only [intOf]; omega
                  · have hG2 := hG.put 2 (.int .i64 (bits .or .i64 (puR true db dc 0) 4))
                    rw [hor] at hG2
                    simp only [Bool.not_true] at t0
                    generalize puR true db dc 0 = p0 at *
                    obtain ⟨p1, hp1⟩ : ∃ p, puR true db dc 1 = p := ⟨_, rfl⟩
                    rw [hp1] at hG2 hor
                    have Hp1 := Lib.hid hp1
                    clear hno hp1
                    go_wp2_with fail
                    go_region
                    all_goals
                      go_wp2_with fail
                      go_roundw
                      case rel => exact ⟨1, rfl, by omega, by rw [Hp1.out]; exact hG2, gr_drew (gr_set hW (Nat.le_refl _) _)⟩
                      case measure => simp only [intOf]; omega
                · have hor := (or_pu da db dc).2.1
                  have hno := (pu_no da db dc).2.1
                  clear hk t0 i0 t2 i2
                  rcases db with _ | _
                  · rw [hno] at hG c2
                    simp only [Bool.not_false] at t1
                    clear hor hno
                    go_wp2_with fail
                    go_roundw
                    case rel => exact ⟨2, rfl, by omega, hG, hW⟩
                    case measure => simp only [intOf]; omega
                  · have hG2 := hG.put 2 (.int .i64 (bits .or .i64 (puR da true dc 1) 2))
                    rw [hor] at hG2
                    simp only [Bool.not_true] at t1
                    generalize puR da true dc 1 = p0 at *
                    obtain ⟨p1, hp1⟩ : ∃ p, puR da true dc 2 = p := ⟨_, rfl⟩
                    rw [hp1] at hG2 hor
                    have Hp1 := Lib.hid hp1
                    clear hno hp1
                    go_wp2_with fail
                    go_region
                    all_goals
                      go_wp2_with fail
                      go_roundw
                      case rel => exact ⟨2, rfl, by omega, by rw [Hp1.out]; exact hG2, gr_drew (gr_set hW (Nat.le_refl _) _)⟩
                      case measure => simp only [intOf]; omega
                · have hor := (or_pu da db dc).2.2
                  have hno := (pu_no da db dc).2.2
                  clear hk t0 i0 t1 i1
                  rcases dc with _ | _
                  · rw [hno] at hG c2
                    simp only [Bool.not_false] at t2
                    clear hor hno
                    go_wp2_with fail
                    go_roundw
                    case rel => exact ⟨3, rfl, by omega, hG, hW⟩
                    case measure => simp only [intOf]; omega
                  · have hG2 := hG.put 2 (.int .i64 (bits .or .i64 (puR da db true 2) 1))
                    rw [hor] at hG2
                    simp only [Bool.not_true] at t2
                    generalize puR da db true 2 = p0 at *
                    obtain ⟨p1, hp1⟩ : ∃ p, puR da db true 3 = p := ⟨_, rfl⟩
                    rw [hp1] at hG2 hor
                    have Hp1 := Lib.hid hp1
                    clear hno hp1
                    go_wp2_with fail
                    go_region
                    all_goals
                      go_wp2_with fail
                      go_roundw
                      case rel => exact ⟨3, rfl, by omega, by rw [Hp1.out]; exact hG2, gr_drew (gr_set hW (Nat.le_refl _) _)⟩
                      case measure => simp only [intOf]; omega
                · have hR5 := hR2.call hW
                  generalize puR da db dc 3 = p3 at *
                  have c0 := hG.cell_some 0 _ rfl
                  have c1 := hG.cell_some 1 _ rfl
                  have hR6 := hR5.alloc (.cells #[.int .i64 2, .int .i64 m, .int .i64 p3] 39)
                  have hone := (one_ace wk (2, m, p3) 0 (Nat.zero_le _)).at
                  have hl1 : acc.length + [((2, m, p3) : Ace)].length ≤ 1000000 := by simp; omega
                  have hbk : Below w1.heap.size w1 wk := gr_call hbm2 hW
                  have hs1 : w1.heap.size ≤ (wk.alloc (.cells #[.int .i64 2, .int .i64 m, .int .i64 p3] 39)).heap.size := by have := hbk.size; simp; omega
                  clear hG f2 t0 t1 t2 i0 i1 i2 hk d22
                  go_wp2_with (at_builtin; refine wp_append_at aceE rfl _ _ rfl w1.heap.size _ (.slice (some ⟨wk.heap.size, 0, none⟩) 1 1) acc [(2, m, p3)] (wk.alloc (.cells #[.int .i64 2, .int .i64 m, .int .i64 p3] 39)) rfl (by exact hR6) (by rfl) (by exact hone) hl1 hs1 ?_)
                  intro v' w' hR' hb' _ _
                  have hbm' : Below w1.heap.size w1 w' := (gr_alloc hbk _).trans hb'
                  clear hR5 hR6 hone hb' hbk
                  go_wp2_with fail
                  go_roundw
                  case rel => exact ⟨i + 1, _, rfl, by omega, by simp; omega, hR', hbm', HN⟩
                  case measure => simp only [intOf]; omega
          have hx117 := hx
          clear hx
          by_cases hx : x = [103]
          · subst hx
            by_cases y0 : y = []
            · subst y0
              rw [show tgR [103] [] = 3 from rfl] at HS2
              have hnm := Lib.hid (fun W => named_any (3, 0, 0) W)
              unfold aceV at hnm
              simp only [show hasId 3 = false from rfl] at hnm
              go_wp2_with fail
              refine (hnm.out _).mono ?_
              rintro e w3 ⟨rfl, hb3⟩
              have hG3 : BlkIs w3 w2.heap.size 39 #[.int .i64 3, .int .i64 0, .int .i64 0] := (BlkIs.made _ _ _).kept hb3 (by simp)
              have hW3 : Below w2.heap.size w2 w3 := gr_call (gr_alloc (Below.refl _ _) _) hb3
              clear hnm hb3 d0
              have HN := Lib.hid (HS2.out 0 (fun h => absurd h (by decide)) (fun _ => rfl))
              have hG5 := hG3
              have hW5 := hW3
              clear HS2 hdec hG3 hW3 d1
              go_wp2_with fail
              go_loopw [8] (fun kv W => ∃ k : Nat, kv = .int .i64 (k : Int) ∧ k ≤ 3 ∧ BlkIs W w2.heap.size 39 #[.int .i64 3, .int .i64 0, .int .i64 (puR da db dc k)] ∧ Below w2.heap.size w2 W) (fun kv _ => 3 - (intOf kv).toNat)
              case atStart => exact ⟨0, rfl, by omega, by rw [hp0]; exact hG5, hW5⟩
              case round =>
                clear hG5 hW5 hp0
                obtain ⟨k, rfl, hk, hG, hW⟩ := hrel
                rename World => wk
                have d22 := cell_kept hW d2
                have c2 := hG.cell_some 2 _ rfl
                have f2 := hG.free 2
                have hk4 : k = 0 ∨ k = 1 ∨ k = 2 ∨ k = 3 := by omega
                rcases hk4 with rfl | rfl | rfl | rfl
                · have hor := (or_pu da db dc).1
                  have hno := (pu_no da db dc).1
                  clear hk t1 i1 t2 i2
                  rcases da with _ | _
                  · rw [hno] at hG c2
                    simp only [Bool.not_false] at t0
                    clear hor hno
                    go_wp2_with fail
                    go_roundw
                    case rel => exact ⟨1, rfl, by omega, hG, hW⟩
                    case measure => simp only [intOf]; omega
                  · have hG2 := hG.put 2 (.int .i64 (bits .or .i64 (puR true db dc 0) 4))
                    rw [hor] at hG2
                    simp only [Bool.not_true] at t0
                    generalize puR true db dc 0 = p0 at *
                    obtain ⟨p1, hp1⟩ : ∃ p, puR true db dc 1 = p := ⟨_, rfl⟩
                    rw [hp1] at hG2 hor
                    have Hp1 := Lib.hid hp1
                    clear hno hp1
                    go_wp2_with fail
                    go_region
                    all_goals
                      go_wp2_with fail
                      go_roundw
                      case rel => exact ⟨1, rfl, by omega, by rw [Hp1.out]; exact hG2, gr_drew (gr_set hW (Nat.le_refl _) _)⟩
                      case measure => simp only [intOf]; omega
                · have hor := (or_pu da db dc).2.1
                  have hno := (pu_no da db dc).2.1
                  clear hk t0 i0 t2 i2
                  rcases db with _ | _
                  · rw [hno] at hG c2
                    simp only [Bool.not_false] at t1
                    clear hor hno
                    go_wp2_with fail
                    go_roundw
                    case rel => exact ⟨2, rfl, by omega, hG, hW⟩
                    case measure => simp only [intOf]; omega
                  · have hG2 := hG.put 2 (.int .i64 (bits .or .i64 (puR da true dc 1) 2))
                    rw [hor] at hG2
                    simp only [Bool.not_true] at t1
                    generalize puR da true dc 1 = p0 at *
                    obtain ⟨p1, hp1⟩ : ∃ p, puR da true dc 2 = p := ⟨_, rfl⟩
                    rw [hp1] at hG2 hor
                    have Hp1 := Lib.hid hp1
                    clear hno hp1
                    go_wp2_with fail
                    go_region
                    all_goals
                      go_wp2_with fail
                      go_roundw
                      case rel => exact ⟨2, rfl, by omega, by rw [Hp1.out]; exact hG2, gr_drew (gr_set hW (Nat.le_refl _) _)⟩
                      case measure => simp only [intOf]; omega
                · have hor := (or_pu da db dc).2.2
                  have hno := (pu_no da db dc).2.2
                  clear hk t0 i0 t1 i1
                  rcases dc with _ | _
                  · rw [hno] at hG c2
                    simp only [Bool.not_false] at t2
                    clear hor hno
                    go_wp2_with fail
                    go_roundw
                    case rel => exact ⟨3, rfl, by omega, hG, hW⟩
                    case measure => simp only [intOf]; omega
                  · have hG2 := hG.put 2 (.int .i64 (bits .or .i64 (puR da db true 2) 1))
                    rw [hor] at hG2
                    simp only [Bool.not_true] at t2
                    generalize puR da db true 2 = p0 at *
                    obtain ⟨p1, hp1⟩ : ∃ p, puR da db true 3 = p := ⟨_, rfl⟩
                    rw [hp1] at hG2 hor
                    have Hp1 := Lib.hid hp1
                    clear hno hp1
                    go_wp2_with fail
                    go_region
                    all_goals
                      go_wp2_with fail
                      go_roundw
                      case rel => exact ⟨3, rfl, by omega, by rw [Hp1.out]; exact hG2, gr_drew (gr_set hW (Nat.le_refl _) _)⟩
                      case measure => simp only [intOf]; omega
                · have hR5 := hR2.call hW
                  generalize puR da db dc 3 = p3 at *
                  have c0 := hG.cell_some 0 _ rfl
                  have c1 := hG.cell_some 1 _ rfl
                  have hR6 := hR5.alloc (.cells #[.int .i64 3, .int .i64 0, .int .i64 p3] 39)
                  have hone := (one_ace wk (3, 0, p3) 0 (Nat.zero_le _)).at
                  have hl1 : acc.length + [((3, 0, p3) : Ace)].length ≤ 1000000 := by simp; omega
                  have hbk : Below w1.heap.size w1 wk := gr_call hbm2 hW
                  have hs1 : w1.heap.size ≤ (wk.alloc (.cells #[.int .i64 3, .int .i64 0, .int .i64 p3] 39)).heap.size := by have := hbk.size; simp; omega
                  clear hG f2 t0 t1 t2 i0 i1 i2 hk d22
                  go_wp2_with (at_builtin; refine wp_append_at aceE rfl _ _ rfl w1.heap.size _ (.slice (some ⟨wk.heap.size, 0, none⟩) 1 1) acc [(3, 0, p3)] (wk.alloc (.cells #[.int .i64 3, .int .i64 0, .int .i64 p3] 39)) rfl (by exact hR6) (by rfl) (by exact hone) hl1 hs1 ?_)
                  intro v' w' hR' hb' _ _
                  have hbm' : Below w1.heap.size w1 w' := (gr_alloc hbk _).trans hb'
                  clear hR5 hR6 hone hb' hbk
                  go_wp2_with fail
                  go_roundw
                  case rel => exact ⟨i + 1, _, rfl, by omega, by simp; omega, hR', hbm', HN⟩
                  case measure => simp only [intOf]; omega
            · have y1 : ¬ Y.toList = [] := by rw [hYe]; exact y0
              have y2 : Y.toList.isEmpty = false := by rw [Bool.eq_false_iff]; intro e; exact y1 (List.isEmpty_iff.1 e)
              have htg : tgR [103] y = 4 := by simp [tgR, y0]
              rw [htg] at HS2
              clear hYe y0 htg
              have hnm := Lib.hid (fun W => named_any (4, 0, 0) W)
              unfold aceV at hnm
              simp only [show hasId 4 = true from rfl] at hnm
              go_wp2_with fail
              refine (hnm.out _).mono ?_
              rintro e w3 ⟨rfl, hb3⟩
              have hG3 : BlkIs w3 w2.heap.size 39 #[.int .i64 4, .int .i64 0, .int .i64 0] := (BlkIs.made _ _ _).kept hb3 (by simp)
              have hW3 : Below w2.heap.size w2 w3 := gr_call (gr_alloc (Below.refl _ _) _) hb3
              clear hnm hb3 d0
              have d11 := cell_kept hW3 d1
              go_wp2_with fail
              refine (hdec.out _).mono ?_
              rintro e w4 ⟨⟨m, rfl, hm1, hm2, hm3⟩, hb4⟩
              have HN := Lib.hid (HS2.out m (fun _ => hm3) (fun h => absurd h (by decide)))
              have hG4 := hG3.kept hb4 hG3.size
              have hW4 := gr_call hW3 hb4
              have f1 := hG4.free 1
              have c1 := hG4.cell_some 1 _ rfl
              have hG5 : BlkIs (w4.setCell ⟨w2.heap.size, 1, none⟩ (.int .i64 m)) w2.heap.size 39 #[.int .i64 4, .int .i64 m, .int .i64 0] := hG4.put 1 _
              have hW5 : Below w2.heap.size w2 (w4.setCell ⟨w2.heap.size, 1, none⟩ (.int .i64 m)) := gr_set hW4 (Nat.le_refl _) _
              clear hm3 HS2 hdec hG3 hW3 hb4 hG4 hW4 d1 d11
              go_wp2_with fail
              clear f1 c1
              go_loopw [8] (fun kv W => ∃ k : Nat, kv = .int .i64 (k : Int) ∧ k ≤ 3 ∧ BlkIs W w2.heap.size 39 #[.int .i64 4, .int .i64 m, .int .i64 (puR da db dc k)] ∧ Below w2.heap.size w2 W) (fun kv _ => 3 - (intOf kv).toNat)
              case atStart => exact ⟨0, rfl, by omega, by rw [hp0]; exact hG5, hW5⟩
              case round =>
                clear hG5 hW5 hp0
                obtain ⟨k, rfl, hk, hG, hW⟩ := hrel
                rename World => wk
                have d22 := cell_kept hW d2
                have c2 := hG.cell_some 2 _ rfl
                have f2 := hG.free 2
                have hk4 : k = 0 ∨ k = 1 ∨ k = 2 ∨ k = 3 := by omega
                rcases hk4 with rfl | rfl | rfl | rfl
                · have hor := (or_pu da db dc).1
                  have hno := (pu_no da db dc).1
                  clear hk t1 i1 t2 i2
                  rcases da with _ | _
                  · rw [hno] at hG c2
                    simp only [Bool.not_false] at t0
                    clear hor hno
                    go_wp2_with fail
                    go_roundw
                    case rel => exact ⟨1, rfl, by omega, hG, hW⟩
                    case measure => simp only [intOf]; omega
                  · have hG2 := hG.put 2 (.int .i64 (bits .or .i64 (puR true db dc 0) 4))
                    rw [hor] at hG2
                    simp only [Bool.not_true] at t0
                    generalize puR true db dc 0 = p0 at *
                    obtain ⟨p1, hp1⟩ : ∃ p, puR true db dc 1 = p := ⟨_, rfl⟩
                    rw [hp1] at hG2 hor
                    have Hp1 := Lib.hid hp1
                    clear hno hp1
                    go_wp2_with fail
                    go_region
                    all_goals
                      go_wp2_with fail
                      go_roundw
                      case rel => exact ⟨1, rfl, by omega, by rw [Hp1.out]; exact hG2, gr_drew (gr_set hW (Nat.le_refl _) _)⟩
                      case measure => simp only [intOf]; omega
                · have hor := (or_pu da db dc).2.1
                  have hno := (pu_no da db dc).2.1
                  clear hk t0 i0 t2 i2
                  rcases db with _ | _
                  · rw [hno] at hG c2
                    simp only [Bool.not_false] at t1
                    clear hor hno
                    go_wp2_with fail
                    go_roundw
                    case rel => exact ⟨2, rfl, by omega, hG, hW⟩
                    case measure => simp only [intOf]; omega
                  · have hG2 := hG.put 2 (.int .i64 (bits .or .i64 (puR da true dc 1) 2))
                    rw [hor] at hG2
                    simp only [Bool.not_true] at t1
                    generalize puR da true dc 1 = p0 at *
                    obtain ⟨p1, hp1⟩ : ∃ p, puR da true dc 2 = p := ⟨_, rfl⟩
                    rw [hp1] at hG2 hor
                    have Hp1 := Lib.hid hp1
                    clear hno hp1
                    go_wp2_with fail
                    go_region
                    all_goals
                      go_wp2_with fail
                      go_roundw
                      case rel => exact ⟨2, rfl, by omega, by rw [Hp1.out]; exact hG2, gr_drew (gr_set hW (Nat.le_refl _) _)⟩
                      case measure => simp only [intOf]; omega
                · have hor := (or_pu da db dc).2.2
                  have hno := (pu_no da db dc).2.2
                  clear hk t0 i0 t1 i1
                  rcases dc with _ | _
                  · rw [hno] at hG c2
                    simp only [Bool.not_false] at t2
                    clear hor hno
                    go_wp2_with fail
                    go_roundw
                    case rel => exact ⟨3, rfl, by omega, hG, hW⟩
                    case measure => simp only [intOf]; omega
                  · have hG2 := hG.put 2 (.int .i64 (bits .or .i64 (puR da db true 2) 1))
                    rw [hor] at hG2
                    simp only [Bool.not_true] at t2
                    generalize puR da db true 2 = p0 at *
                    obtain ⟨p1, hp1⟩ : ∃ p, puR da db true 3 = p := ⟨_, rfl⟩
                    rw [hp1] at hG2 hor
                    have Hp1 := Lib.hid hp1
                    clear hno hp1
                    go_wp2_with fail
                    go_region
                    all_goals
                      go_wp2_with fail
                      go_roundw
                      case rel => exact ⟨3, rfl, by omega, by rw [Hp1.out]; exact hG2, gr_drew (gr_set hW (Nat.le_refl _) _)⟩
                      case measure => simp only [intOf]; omega
                · have hR5 := hR2.call hW
                  generalize puR da db dc 3 = p3 at *
                  have c0 := hG.cell_some 0 _ rfl
                  have c1 := hG.cell_some 1 _ rfl
                  have hR6 := hR5.alloc (.cells #[.int .i64 4, .int .i64 m, .int .i64 p3] 39)
                  have hone := (one_ace wk (4, m, p3) 0 (Nat.zero_le _)).at
                  have hl1 : acc.length + [((4, m, p3) : Ace)].length ≤ 1000000 := by simp; omega
                  have hbk : Below w1.heap.size w1 wk := gr_call hbm2 hW
                  have hs1 : w1.heap.size ≤ (wk.alloc (.cells #[.int .i64 4, .int .i64 m, .int .i64 p3] 39)).heap.size := by have := hbk.size; simp; omega
                  clear hG f2 t0 t1 t2 i0 i1 i2 hk d22
                  go_wp2_with (at_builtin; refine wp_append_at aceE rfl _ _ rfl w1.heap.size _ (.slice (some ⟨wk.heap.size, 0, none⟩) 1 1) acc [(4, m, p3)] (wk.alloc (.cells #[.int .i64 4, .int .i64 m, .int .i64 p3] 39)) rfl (by exact hR6) (by rfl) (by exact hone) hl1 hs1 ?_)
                  intro v' w' hR' hb' _ _
                  have hbm' : Below w1.heap.size w1 w' := (gr_alloc hbk _).trans hb'
                  clear hR5 hR6 hone hb' hbk
                  go_wp2_with fail
                  go_roundw
                  case rel => exact ⟨i + 1, _, rfl, by omega, by simp; omega, hR', hbm', HN⟩
                  case measure => simp only [intOf]; omega
          have hx103 := hx
          clear hx
          by_cases hx : x = [109]
          · subst hx
            rw [show tgR [109] y = 5 from rfl] at HS2
            clear hYe
            have hnm := Lib.hid (fun W => named_any (5, 0, 0) W)
            unfold aceV at hnm
            simp only [show hasId 5 = false from rfl] at hnm
            go_wp2_with fail
            refine (hnm.out _).mono ?_
            rintro e w3 ⟨rfl, hb3⟩
            have hG3 : BlkIs w3 w2.heap.size 39 #[.int .i64 5, .int .i64 0, .int .i64 0] := (BlkIs.made _ _ _).kept hb3 (by simp)
            have hW3 : Below w2.heap.size w2 w3 := gr_call (gr_alloc (Below.refl _ _) _) hb3
            clear hnm hb3 d0
            have HN := Lib.hid (HS2.out 0 (fun h => absurd h (by decide)) (fun _ => rfl))
            have hG5 := hG3
            have hW5 := hW3
            clear HS2 hdec hG3 hW3 d1
            go_wp2_with fail
            go_loopw [8] (fun kv W => ∃ k : Nat, kv = .int .i64 (k : Int) ∧ k ≤ 3 ∧ BlkIs W w2.heap.size 39 #[.int .i64 5, .int .i64 0, .int .i64 (puR da db dc k)] ∧ Below w2.heap.size w2 W) (fun kv _ => 3 - (intOf kv).toNat)
            case atStart => exact ⟨0, rfl, by omega, by rw [hp0]; exact hG5, hW5⟩
            case round =>
              clear hG5 hW5 hp0
              obtain ⟨k, rfl, hk, hG, hW⟩ := hrel
              rename World => wk
              have d22 := cell_kept hW d2
              have c2 := hG.cell_some 2 _ rfl
              have f2 := hG.free 2
              have hk4 : k = 0 ∨ k = 1 ∨ k = 2 ∨ k = 3 := by omega
              rcases hk4 with rfl | rfl | rfl | rfl
              · have hor := (or_pu da db dc).1
                have hno := (pu_no da db dc).1
                clear hk t1 i1 t2 i2
                rcases da with _ | _
                · rw [hno] at hG c2
                  simp only [Bool.not_false] at t0
                  clear hor hno
                  go_wp2_with fail
                  go_roundw
                  case rel => exact ⟨1, rfl, by omega, hG, hW⟩
                  case measure => simp only [intOf]; omega
                · have hG2 := hG.put 2 (.int .i64 (bits .or .i64 (puR true db dc 0) 4))
                  rw [hor] at hG2
                  simp only [Bool.not_true] at t0
                  generalize puR true db dc 0 = p0 at *
                  obtain ⟨p1, hp1⟩ : ∃ p, puR true db dc 1 = p := ⟨_, rfl⟩
                  rw [hp1] at hG2 hor
                  have Hp1 := Lib.hid hp1
                  clear hno hp1
                  go_wp2_with fail
                  go_region
                  all_goals
                    go_wp2_with fail
                    go_roundw
                    case rel => exact ⟨1, rfl, by omega, by rw [Hp1.out]; exact hG2, gr_drew (gr_set hW (Nat.le_refl _) _)⟩
                    case measure => simp only [intOf]; omega
              · have hor := (or_pu da db dc).2.1
                have hno := (pu_no da db dc).2.1
                clear hk t0 i0 t2 i2
                rcases db with _ | _
                · rw [hno] at hG c2
                  simp only [Bool.not_false] at t1
                  clear hor hno
                  go_wp2_with fail
                  go_roundw
                  case rel => exact ⟨2, rfl, by omega, hG, hW⟩
                  case measure => simp only [intOf]; omega
                · have hG2 := hG.put 2 (.int .i64 (bits .or .i64 (puR da true dc 1) 2))
                  rw [hor] at hG2
                  simp only [Bool.not_true] at t1
                  generalize puR da true dc 1 = p0 at *
                  obtain ⟨p1, hp1⟩ : ∃ p, puR da true dc 2 = p := ⟨_, rfl⟩
                  rw [hp1] at hG2 hor
                  have Hp1 := Lib.hid hp1
                  clear hno hp1
                  go_wp2_with fail
                  go_region
                  all_goals
                    go_wp2_with fail
                    go_roundw
                    case rel => exact ⟨2, rfl, by omega, by rw [Hp1.out]; exact hG2, gr_drew (gr_set hW (Nat.le_refl _) _)⟩
                    case measure => simp only [intOf]; omega
              · have hor := (or_pu da db dc).2.2
                have hno := (pu_no da db dc).2.2
                clear hk t0 i0 t1 i1
                rcases dc with _ | _
                · rw [hno] at hG c2
                  simp only [Bool.not_false] at t2
                  clear hor hno
                  go_wp2_with fail
                  go_roundw
                  case rel => exact ⟨3, rfl, by omega, hG, hW⟩
                  case measure => simp only [intOf]; omega
                · have hG2 := hG.put 2 (.int .i64 (bits .or .i64 (puR da db true 2) 1))
                  rw [hor] at hG2
                  simp only [Bool.not_true] at t2
                  generalize puR da db true 2 = p0 at *
                  obtain ⟨p1, hp1⟩ : ∃ p, puR da db true 3 = p := ⟨_, rfl⟩
                  rw [hp1] at hG2 hor
                  have Hp1 := Lib.hid hp1
                  clear hno hp1
                  go_wp2_with fail
                  go_region
                  all_goals
                    go_wp2_with fail
                    go_roundw
                    case rel => exact ⟨3, rfl, by omega, by rw [Hp1.out]; exact hG2, gr_drew (gr_set hW (Nat.le_refl _) _)⟩
                    case measure => simp only [intOf]; omega
              · have hR5 := hR2.call hW
                generalize puR da db dc 3 = p3 at *
                have c0 := hG.cell_some 0 _ rfl
                have c1 := hG.cell_some 1 _ rfl
                have hR6 := hR5.alloc (.cells #[.int .i64 5, .int .i64 0, .int .i64 p3] 39)
                have hone := (one_ace wk (5, 0, p3) 0 (Nat.zero_le _)).at
                have hl1 : acc.length + [((5, 0, p3) : Ace)].length ≤ 1000000 := by simp; omega
                have hbk : Below w1.heap.size w1 wk := gr_call hbm2 hW
                have hs1 : w1.heap.size ≤ (wk.alloc (.cells #[.int .i64 5, .int .i64 0, .int .i64 p3] 39)).heap.size := by have := hbk.size; simp; omega
                clear hG f2 t0 t1 t2 i0 i1 i2 hk d22
                go_wp2_with (at_builtin; refine wp_append_at aceE rfl _ _ rfl w1.heap.size _ (.slice (some ⟨wk.heap.size, 0, none⟩) 1 1) acc [(5, 0, p3)] (wk.alloc (.cells #[.int .i64 5, .int .i64 0, .int .i64 p3] 39)) rfl (by exact hR6) (by rfl) (by exact hone) hl1 hs1 ?_)
                intro v' w' hR' hb' _ _
                have hbm' : Below w1.heap.size w1 w' := (gr_alloc hbk _).trans hb'
                clear hR5 hR6 hone hb' hbk
                go_wp2_with fail
                go_roundw
                case rel => exact ⟨i + 1, _, rfl, by omega, by simp; omega, hR', hbm', HN⟩
                case measure => simp only [intOf]; omega
          have hx109 := hx
          clear hx
          by_cases hx : x = [111]
          · subst hx
            rw [show tgR [111] y = 6 from rfl] at HS2
            clear hYe
            have hnm := Lib.hid (fun W => named_any (6, 0, 0) W)
            unfold aceV at hnm
            simp only [show hasId 6 = false from rfl] at hnm
            go_wp2_with fail
            refine (hnm.out _).mono ?_
            rintro e w3 ⟨rfl, hb3⟩
            have hG3 : BlkIs w3 w2.heap.size 39 #[.int .i64 6, .int .i64 0, .int .i64 0] := (BlkIs.made _ _ _).kept hb3 (by simp)
            have hW3 : Below w2.heap.size w2 w3 := gr_call (gr_alloc (Below.refl _ _) _) hb3
            clear hnm hb3 d0
            have HN := Lib.hid (HS2.out 0 (fun h => absurd h (by decide)) (fun _ => rfl))
            have hG5 := hG3
            have hW5 := hW3
            clear HS2 hdec hG3 hW3 d1
            go_wp2_with fail
            go_loopw [8] (fun kv W => ∃ k : Nat, kv = .int .i64 (k : Int) ∧ k ≤ 3 ∧ BlkIs W w2.heap.size 39 #[.int .i64 6, .int .i64 0, .int .i64 (puR da db dc k)] ∧ Below w2.heap.size w2 W) (fun kv _ => 3 - (intOf kv).toNat)
            case atStart => exact ⟨0, rfl, by omega, by rw [hp0]; exact hG5, hW5⟩
            case round =>
              clear hG5 hW5 hp0
              obtain ⟨k, rfl, hk, hG, hW⟩ := hrel
              rename World => wk
              have d22 := cell_kept hW d2
              have c2 := hG.cell_some 2 _ rfl
              have f2 := hG.free 2
              have hk4 : k = 0 ∨ k = 1 ∨ k = 2 ∨ k = 3 := by omega
              rcases hk4 with rfl | rfl | rfl | rfl
              · have hor := (or_pu da db dc).1
                have hno := (pu_no da db dc).1
                clear hk t1 i1 t2 i2
                rcases da with _ | _
                · rw [hno] at hG c2
                  simp only [Bool.not_false] at t0
                  clear hor hno
                  go_wp2_with fail
                  go_roundw
                  case rel => exact ⟨1, rfl, by omega, hG, hW⟩
                  case measure => simp only [intOf]; omega
                · have hG2 := hG.put 2 (.int .i64 (bits .or .i64 (puR true db dc 0) 4))
                  rw [hor] at hG2
                  simp only [Bool.not_true] at t0
                  generalize puR true db dc 0 = p0 at *
                  obtain ⟨p1, hp1⟩ : ∃ p, puR true db dc 1 = p := ⟨_, rfl⟩
                  rw [hp1] at hG2 hor
                  have Hp1 := Lib.hid hp1
                  clear hno hp1
                  go_wp2_with fail
                  go_region
                  all_goals
                    go_wp2_with fail
                    go_roundw
                    case rel => exact ⟨1, rfl, by omega, by rw [Hp1.out]; exact hG2, gr_drew (gr_set hW (Nat.le_refl _) _)⟩
                    case measure => simp only [intOf]; omega
              · have hor := (or_pu da db dc).2.1
                have hno := (pu_no da db dc).2.1
                clear hk t0 i0 t2 i2
                rcases db with _ | _
                · rw [hno] at hG c2
                  simp only [Bool.not_false] at t1
                  clear hor hno
                  go_wp2_with fail
                  go_roundw
                  case rel => exact ⟨2, rfl, by omega, hG, hW⟩
                  case measure => simp only [intOf]; omega
                · have hG2 := hG.put 2 (.int .i64 (bits .or .i64 (puR da true dc 1) 2))
                  rw [hor] at hG2
                  simp only [Bool.not_true] at t1
                  generalize puR da true dc 1 = p0 at *
                  obtain ⟨p1, hp1⟩ : ∃ p, puR da true dc 2 = p := ⟨_, rfl⟩
                  rw [hp1] at hG2 hor
                  have Hp1 := Lib.hid hp1
                  clear hno hp1
                  go_wp2_with fail
                  go_region
                  all_goals
                    go_wp2_with fail
                    go_roundw
                    case rel => exact ⟨2, rfl, by omega, by rw [Hp1.out]; exact hG2, gr_drew (gr_set hW (Nat.le_refl _) _)⟩
                    case measure => simp only [intOf]; omega
              · have hor := (or_pu da db dc).2.2
                have hno := (pu_no da db dc).2.2
                clear hk t0 i0 t1 i1
                rcases dc with _ | _
                · rw [hno] at hG c2
                  simp only [Bool.not_false] at t2
                  clear hor hno
                  go_wp2_with fail
                  go_roundw
                  case rel => exact ⟨3, rfl, by omega, hG, hW⟩
                  case measure => simp only [intOf]; omega
                · have hG2 := hG.put 2 (.int .i64 (bits .or .i64 (puR da db true 2) 1))
                  rw [hor] at hG2
                  simp only [Bool.not_true] at t2
                  generalize puR da db true 2 = p0 at *
                  obtain ⟨p1, hp1⟩ : ∃ p, puR da db true 3 = p := ⟨_, rfl⟩
                  rw [hp1] at hG2 hor
                  have Hp1 := Lib.hid hp1
                  clear hno hp1
                  go_wp2_with fail
                  go_region
                  all_goals
                    go_wp2_with fail
                    go_roundw
                    case rel => exact ⟨3, rfl, by omega, by rw [Hp1.out]; exact hG2, gr_drew (gr_set hW (Nat.le_refl _) _)⟩
                    case measure => simp only [intOf]; omega
              · have hR5 := hR2.call hW
                generalize puR da db dc 3 = p3 at *
                have c0 := hG.cell_some 0 _ rfl
                have c1 := hG.cell_some 1 _ rfl
                have hR6 := hR5.alloc (.cells #[.int .i64 6, .int .i64 0, .int .i64 p3] 39)
                have hone := (one_ace wk (6, 0, p3) 0 (Nat.zero_le _)).at
                have hl1 : acc.length + [((6, 0, p3) : Ace)].length ≤ 1000000 := by simp; omega
                have hbk : Below w1.heap.size w1 wk := gr_call hbm2 hW
                have hs1 : w1.heap.size ≤ (wk.alloc (.cells #[.int .i64 6, .int .i64 0, .int .i64 p3] 39)).heap.size := by have := hbk.size; simp; omega
                clear hG f2 t0 t1 t2 i0 i1 i2 hk d22
                go_wp2_with (at_builtin; refine wp_append_at aceE rfl _ _ rfl w1.heap.size _ (.slice (some ⟨wk.heap.size, 0, none⟩) 1 1) acc [(6, 0, p3)] (wk.alloc (.cells #[.int .i64 6, .int .i64 0, .int .i64 p3] 39)) rfl (by exact hR6) (by rfl) (by exact hone) hl1 hs1 ?_)
                intro v' w' hR' hb' _ _
                have hbm' : Below w1.heap.size w1 w' := (gr_alloc hbk _).trans hb'
                clear hR5 hR6 hone hb' hbk
                go_wp2_with fail
                go_roundw
                case rel => exact ⟨i + 1, _, rfl, by omega, by simp; omega, hR', hbm', HN⟩
                case measure => simp only [intOf]; omega
          have hx111 := hx
          clear hx
          have x117 : (X.toList == [117]) = false := by rw [hXe]; exact beq_eq_false_iff_ne.2 hx117
          have x103 : (X.toList == [103]) = false := by rw [hXe]; exact beq_eq_false_iff_ne.2 hx103
          have x109 : (X.toList == [109]) = false := by rw [hXe]; exact beq_eq_false_iff_ne.2 hx109
          have x111 : (X.toList == [111]) = false := by rw [hXe]; exact beq_eq_false_iff_ne.2 hx111
          have htg : tgR x y = 0 := by simp [tgR, hx117, hx103, hx109, hx111]
          rw [htg] at HS2
          clear hXe hYe htg hx117 hx103 hx109 hx111
          have hnm := Lib.hid (fun W => named_any (0, 0, 0) W)
          unfold aceV at hnm
          simp only [show hasId 0 = false from rfl] at hnm
          go_wp2_with fail
          refine (hnm.out _).mono ?_
          rintro e w3 ⟨rfl, hb3⟩
          have hG3 : BlkIs w3 w2.heap.size 39 #[.int .i64 0, .int .i64 0, .int .i64 0] := (BlkIs.made _ _ _).kept hb3 (by simp)
          have hW3 : Below w2.heap.size w2 w3 := gr_call (gr_alloc (Below.refl _ _) _) hb3
          clear hnm hb3 d0
          have HN := Lib.hid (HS2.out 0 (fun h => absurd h (by decide)) (fun _ => rfl))
          have hG5 := hG3
          have hW5 := hW3
          clear HS2 hdec hG3 hW3 d1
          go_wp2_with fail
          go_loopw [8] (fun kv W => ∃ k : Nat, kv = .int .i64 (k : Int) ∧ k ≤ 3 ∧ BlkIs W w2.heap.size 39 #[.int .i64 0, .int .i64 0, .int .i64 (puR da db dc k)] ∧ Below w2.heap.size w2 W) (fun kv _ => 3 - (intOf kv).toNat)
          case atStart => exact ⟨0, rfl, by omega, by rw [hp0]; exact hG5, hW5⟩
          case round =>
            clear hG5 hW5 hp0
            obtain ⟨k, rfl, hk, hG, hW⟩ := hrel
            rename World => wk
            have d22 := cell_kept hW d2
            have c2 := hG.cell_some 2 _ rfl
            have f2 := hG.free 2
            have hk4 : k = 0 ∨ k = 1 ∨ k = 2 ∨ k = 3 := by omega
            rcases hk4 with rfl | rfl | rfl | rfl
            · have hor := (or_pu da db dc).1
              have hno := (pu_no da db dc).1
              clear hk t1 i1 t2 i2
              rcases da with _ | _
              · rw [hno] at hG c2
                simp only [Bool.not_false] at t0
                clear hor hno
                go_wp2_with fail
                go_roundw
                case rel => exact ⟨1, rfl, by omega, hG, hW⟩
                case measure => simp only [intOf]; omega
              · have hG2 := hG.put 2 (.int .i64 (bits .or .i64 (puR true db dc 0) 4))
                rw [hor] at hG2
                simp only [Bool.not_true] at t0
                generalize puR true db dc 0 = p0 at *
                obtain ⟨p1, hp1⟩ : ∃ p, puR true db dc 1 = p := ⟨_, rfl⟩
                rw [hp1] at hG2 hor
                have Hp1 := Lib.hid hp1
                clear hno hp1
                go_wp2_with fail
                go_region
                all_goals
                  go_wp2_with fail
                  go_roundw
                  case rel => exact ⟨1, rfl, by omega, by rw [Hp1.out]; exact hG2, gr_drew (gr_set hW (Nat.le_refl _) _)⟩
                  case measure => simp only [intOf]; omega
            · have hor := (or_pu da db dc).2.1
              have hno := (pu_no da db dc).2.1
              clear hk t0 i0 t2 i2
              rcases db with _ | _
              · rw [hno] at hG c2
                simp only [Bool.not_false] at t1
                clear hor hno
                go_wp2_with fail
                go_roundw
                case rel => exact ⟨2, rfl, by omega, hG, hW⟩
                case measure => simp only [intOf]; omega
              · have hG2 := hG.put 2 (.int .i64 (bits .or .i64 (puR da true dc 1) 2))
                rw [hor] at hG2
                simp only [Bool.not_true] at t1
                generalize puR da true dc 1 = p0 at *
                obtain ⟨p1, hp1⟩ : ∃ p, puR da true dc 2 = p := ⟨_, rfl⟩
                rw [hp1] at hG2 hor
                have Hp1 := Lib.hid hp1
                clear hno hp1
                go_wp2_with fail
                go_region
                all_goals
                  go_wp2_with fail
                  go_roundw
                  case rel => exact ⟨2, rfl, by omega, by rw [Hp1.out]; exact hG2, gr_drew (gr_set hW (Nat.le_refl _) _)⟩
                  case measure => simp only [intOf]; omega
            · have hor := (or_pu da db dc).2.2
              have hno := (pu_no da db dc).2.2
              clear hk t0 i0 t1 i1
              rcases dc with _ | _
              · rw [hno] at hG c2
                simp only [Bool.not_false] at t2
                clear hor hno
                go_wp2_with fail
                go_roundw
                case rel => exact ⟨3, rfl, by omega, hG, hW⟩
                case measure => simp only [intOf]; omega
              · have hG2 := hG.put 2 (.int .i64 (bits .or .i64 (puR da db true 2) 1))
                rw [hor] at hG2
                simp only [Bool.not_true] at t2
                generalize puR da db true 2 = p0 at *
                obtain ⟨p1, hp1⟩ : ∃ p, puR da db true 3 = p := ⟨_, rfl⟩
                rw [hp1] at hG2 hor
                have Hp1 := Lib.hid hp1
                clear hno hp1
                go_wp2_with fail
                go_region
                all_goals
                  go_wp2_with fail
                  go_roundw
                  case rel => exact ⟨3, rfl, by omega, by rw [Hp1.out]; exact hG2, gr_drew (gr_set hW (Nat.le_refl _) _)⟩
                  case measure => simp only [intOf]; omega
            · have hR5 := hR2.call hW
              generalize puR da db dc 3 = p3 at *
              have c0 := hG.cell_some 0 _ rfl
              have c1 := hG.cell_some 1 _ rfl
              have hR6 := hR5.alloc (.cells #[.int .i64 0, .int .i64 0, .int .i64 p3] 39)
              have hone := (one_ace wk (0, 0, p3) 0 (Nat.zero_le _)).at
              have hl1 : acc.length + [((0, 0, p3) : Ace)].length ≤ 1000000 := by simp; omega
              have hbk : Below w1.heap.size w1 wk := gr_call hbm2 hW
              have hs1 : w1.heap.size ≤ (wk.alloc (.cells #[.int .i64 0, .int .i64 0, .int .i64 p3] 39)).heap.size := by have := hbk.size; simp; omega
              clear hG f2 t0 t1 t2 i0 i1 i2 hk d22
              go_wp2_with (at_builtin; refine wp_append_at aceE rfl _ _ rfl w1.heap.size _ (.slice (some ⟨wk.heap.size, 0, none⟩) 1 1) acc [(0, 0, p3)] (wk.alloc (.cells #[.int .i64 0, .int .i64 0, .int .i64 p3] 39)) rfl (by exact hR6) (by rfl) (by exact hone) hl1 hs1 ?_)
              intro v' w' hR' hb' _ _
              have hbm' : Below w1.heap.size w1 w' := (gr_alloc hbk _).trans hb'
              clear hR5 hR6 hone hb' hbk
              go_wp2_with fail
              go_roundw
              case rel => exact ⟨i + 1, _, rfl, by omega, by simp; omega, hR', hbm', HN⟩
              case measure => simp only [intOf]; omega
        · have f3 : ((U.size : Int) == 3) = false := beq_eq_false_iff_ne.2 (by omega)
          have HE := Lib.hid (HB.out (fun x' y' u' e => by injection e with _ e; injection e with _ e; injection e with e _; subst e; exact hu3))
          obtain ⟨r0, r1, r2, r3⟩ := hr2
          clear HB HS hqs hUs hU hu3
          go_wp2_with fail
          refine bodyPost_ret (v := .agg #[.slice none 0 0, .bool false]) ?_ rfl ⟨by rw [HE.out]; rfl, by (repeat' (first | exact Below.refl _ _ | assumption | refine gr_drew ?_ | refine gr_drewN ?_ _ | refine gr_alloc ?_ _ | refine gr_set ?_ ?_ _ | refine gr_call ?_ (by assumption)) <;> (try (simp; done)) <;> (try (simp; omega)) <;> (try omega))⟩
          simp [results, Tryd.results10, go_sem, *]
      · have f3 : ((qs.length : Int) == 3) = false := beq_eq_false_iff_ne.2 (by omega)
        have HE := Lib.hid (HB.out (fun x y u e => absurd (by rw [e]; rfl) hl3))
        obtain ⟨r0, r1, r2, r3⟩ := hr2
        obtain ⟨p6, cap6, rfl, hcap6, hcell6⟩ := str_look hR6.at
        clear hcell6 HB HS hR6
        generalize qs.length = ql at *
        go_wp2_with fail
        refine bodyPost_ret (v := .agg #[.slice none 0 0, .bool false]) ?_ rfl ⟨by rw [HE.out]; rfl, by (repeat' (first | exact Below.refl _ _ | assumption | refine gr_drew ?_ | refine gr_drewN ?_ _ | refine gr_alloc ?_ _ | refine gr_set ?_ ?_ _ | refine gr_call ?_ (by assumption)) <;> (try (simp; done)) <;> (try (simp; omega)) <;> (try omega))⟩
        simp [results, Tryd.results10, go_sem, *]
    · have hlt' : decide ((i : Int) < (z : Int)) = false := decide_eq_false (by omega)
      have hlt2 : decide (i < z) = false := decide_eq_false hlt
      have hiz : i = z := by omega
      have hal := may_any
      have HSo : Hid (SoFar S.data.toList acc (cutAt 44 S.data.toList).length) := Lib.hid (by rw [Hz.out, ← hiz]; exact HR.out)
      have hlen : acc.length ≤ 1000000 := by omega
      have hat := hR.at
      have hbl : Below w.heap.size w wr := gr_call hx0 (gr_call hb1 hbm)
      have Hb : Hid (Below (w.alloc (.cells #[.slice none 0 0, .bool false] 27)).heap.size (w.alloc (.cells #[.slice none 0 0, .bool false] 27)) wr) := Lib.hid (gr_call hb1 hbm)
      have hmy := Lib.hid (refMay_any _ acc wr hat hlen)
      have hSe : S.toList = S.data.toList := Lib.toList_data S
      clear hal hiz
      rcases hm : may acc with _ | _
      · rw [hm] at hmy
        have HE := Lib.hid (sofar_no HSo.out (by rw [hm]; rintro ⟨h, _⟩; cases h))
        go_wp2_with fail
        refine (hmy.out).mono ?_
        rintro e w2 ⟨rfl, hb2⟩
        obtain ⟨r0, r1, r2, r3⟩ := Hres.out w2 (gr_call Hb.out hb2)
        have hbl2 := gr_call hbl hb2
        clear hmy
        go_wp2_with fail
        refine bodyPost_ret (v := .agg #[.slice none 0 0, .bool false]) ?_ rfl ⟨by rw [HE.out]; rfl, by (repeat' (first | exact Below.refl _ _ | assumption | refine gr_drew ?_ | refine gr_drewN ?_ _ | refine gr_alloc ?_ _ | refine gr_set ?_ ?_ _ | refine gr_call ?_ (by assumption)) <;> (try (simp; done)) <;> (try (simp; omega)) <;> (try omega))⟩
        simp [results, Tryd.results10, go_sem, *]
      · rw [hm] at hmy
        obtain ⟨T, hT⟩ : ∃ T, strOf (textL acc) = T := ⟨_, rfl⟩
        have hTe : T.toList = textL acc := by rw [← hT, Lib.toList_data, strOf_list]
        have hsh := hat.shape
        rw [hacc] at hsh
        obtain ⟨pl, cl, rfl, _⟩ := hsh
        clear hacc hlen
        by_cases hts : T.toList = S.toList
        · have hts2 : (T.toList == S.toList) = true := by rw [hts]; exact beq_self_eq_true _
          have HE := Lib.hid (sofar_yes hm (by rw [← hTe, hts, hSe]))
          clear hts hTe hSe HSo
          go_wp2_with fail
          refine (hmy.out).mono ?_
          rintro e w2 ⟨rfl, hb2⟩
          have hat2 := hat.call hb2
          have htx2 := Lib.hid (refText_any _ acc w2 hat2 hm)
          rw [hT] at htx2
          go_wp2_with fail
          refine (htx2.out).mono ?_
          rintro e w3 ⟨rfl, hb3⟩
          obtain ⟨r0, r1, r2, r3⟩ := Hres.out w3 (gr_call (gr_call Hb.out hb2) hb3)
          have hbl3 := gr_call (gr_call hbl hb2) hb3
          have hat3 := hat2.call hb3
          have hR3 := (hR.call hb2).call hb3
          have hx1 : w.heap.size < w1.heap.size := by have := hb1.size; simp at this; omega
          have hon : (Value.slice pl i cl).ownBlock ≠ some w.heap.size := fun h => by have := (hR3.lt _ h).1; omega
          have hown : At aceE (.slice pl i cl) acc (((w3.setCell ⟨w.heap.size, 0, none⟩ (.slice pl i cl)).setCell ⟨w.heap.size, 1, none⟩ (.bool true))) :=
            ((hR3.other (a := ⟨w.heap.size, 0, none⟩) hon _).other (a := ⟨w.heap.size, 1, none⟩) hon _).at
          clear hR3 hon
          clear hmy htx2 hb2 hb3
          go_wp2_with fail
          refine bodyPost_ret (v := .agg #[.slice pl i cl, .bool true]) ?_ rfl ⟨by rw [HE.out]; exact ⟨_, rfl, hown⟩, by (repeat' (first | exact Below.refl _ _ | assumption | refine gr_drew ?_ | refine gr_drewN ?_ _ | refine gr_alloc ?_ _ | refine gr_set ?_ ?_ _ | refine gr_call ?_ (by assumption)) <;> (try (simp; done)) <;> (try (simp; omega)) <;> (try omega))⟩
          simp [results, Tryd.results10, go_sem, *]
        · have hts2 : (T.toList == S.toList) = false := beq_eq_false_iff_ne.2 hts
          have HE := Lib.hid (sofar_no HSo.out (by rintro ⟨_, h⟩; exact hts (by rw [hTe, hSe, h])))
          clear hts hTe hSe HSo
          go_wp2_with fail
          refine (hmy.out).mono ?_
          rintro e w2 ⟨rfl, hb2⟩
          have hat2 := hat.call hb2
          have htx2 := Lib.hid (refText_any _ acc w2 hat2 hm)
          rw [hT] at htx2
          go_wp2_with fail
          refine (htx2.out).mono ?_
          rintro e w3 ⟨rfl, hb3⟩
          obtain ⟨r0, r1, r2, r3⟩ := Hres.out w3 (gr_call (gr_call Hb.out hb2) hb3)
          have hbl3 := gr_call (gr_call hbl hb2) hb3
          clear hmy htx2 hb2 hb3
          go_wp2_with fail
          refine bodyPost_ret (v := .agg #[.slice none 0 0, .bool false]) ?_ rfl ⟨by rw [HE.out]; rfl, by (repeat' (first | exact Below.refl _ _ | assumption | refine gr_drew ?_ | refine gr_drewN ?_ _ | refine gr_alloc ?_ _ | refine gr_set ?_ ?_ _ | refine gr_call ?_ (by assumption)) <;> (try (simp; done)) <;> (try (simp; omega)) <;> (try omega))⟩
          simp [results, Tryd.results10, go_sem, *]
end Go.Proofs.YtdjffnhkfpjafaaDoor
