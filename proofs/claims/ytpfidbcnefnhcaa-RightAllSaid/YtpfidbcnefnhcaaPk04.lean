/- Bundle of 2 texts. -/
import Derived.Test.YtpfidbcnefnhcaaPk03
import Derived.Test.YtpfidbcnefnhcaaRegionU
import Derived.Deep.CutBlock
/- The document's answer: the lesser mode. -/
namespace Go.Proofs.Ytpfidbcnefnhcaa
open Go.RowKit
open MetaM RightM AclM
set_option linter.unusedVariables false
theorem and8 (a b : Nat) (ha : a < 8) (hb : b < 8) : bits .and .i64 (a : Int) (b : Int) = ((a &&& b : Nat) : Int) := by
  have h : ∀ x y : Fin 8, bits .and .i64 (x.val : Int) (y.val : Int) = ((x.val &&& y.val : Nat) : Int) := by decide +kernel
  exact h ⟨a, ha⟩ ⟨b, hb⟩
theorem and_lt8 {a : Nat} (b : Nat) (ha : a < 8) : a &&& b < 8 := Nat.lt_of_le_of_lt Nat.and_le_left ha
theorem perm_nat {l : List Ace} (h : may l = true) {t : Int} (ht : has l t = true) : AclW.permR l t = (permM l t : Int) := by
  obtain ⟨a, h1, _, h3⟩ := permR_mem ht
  have := okPart_iff ((may_parts h).1 a h1)
  unfold permM
  omega
theorem mask_nat {l : List Ace} (h : may l = true) : (AclW.permR l 5 < 0 ∧ maskM l = 7) ∨ (¬ AclW.permR l 5 < 0 ∧ AclW.permR l 5 = (maskM l : Int) ∧ maskM l < 8) := by
  by_cases hn : AclW.permR l 5 < 0
  · exact .inl ⟨hn, if_pos hn⟩
  · refine .inr ⟨hn, ?_⟩
    have ht : has l 5 = true := by
      have := AclW.permR_neg (may_parts h).1 5
      rw [decide_eq_false hn] at this
      simpa using this.symm
    have e : maskM l = permM l 5 := if_neg hn
    rw [e]
    exact ⟨perm_nat h ht, perm_lt h ht⟩
theorem mask_lt {l : List Ace} (h : may l = true) : maskM l < 8 := by rcases mask_nat h with ⟨_, h⟩ | ⟨_, _, h⟩ <;> omega
theorem gF_step {l : List Ace} {k : Nat} (h : k < l.length) (x : Nat) : gF (l.drop k) x = gF (l.drop (k + 1)) (if l[k].1 = 2 then x &&& l[k].2.2.toNat else x) := by
  rw [List.drop_eq_getElem_cons h]; rfl
theorem oF_step {l : List Ace} {k : Nat} (h : k < l.length) (m x : Nat) : oF (l.drop k) m x = oF (l.drop (k + 1)) m (if l[k].1 = 2 ∨ l[k].1 = 4 then (x &&& l[k].2.2.toNat) &&& m else x) := by
  rw [List.drop_eq_getElem_cons h]; rfl
theorem gF_end {l : List Ace} {k : Nat} (h : l.length ≤ k) (x : Nat) : gF (l.drop k) x = x := by rw [List.drop_eq_nil_of_le h]; rfl
theorem oF_end {l : List Ace} {k : Nat} (h : l.length ≤ k) (m x : Nat) : oF (l.drop k) m x = x := by rw [List.drop_eq_nil_of_le h]; rfl
attribute [local irreducible] Row At

set_option maxHeartbeats 3200000 in
set_option maxRecDepth 100000 in
theorem refLess_any (m : Mt) (va vd vx : Value) (w : World) (hat : At AclW.aceE va m.acl w) (hok : okL m) :
    Calls Try.prog 19 #[.agg (metaC m va vd vx)] w fun e w' => e = .returned (.int .i64 (lessM m : Int)) ∧ Below w.heap.size w w' := by
  rcases hok with hnil | hmay
  · have e := and511 m.mode
    have hr : (lessM m : Int) = m.mode % 512 := by unfold lessM; rw [if_pos hnil]; omega
    rw [hr]
    obtain ⟨p, cap, rfl, hcap, hcell⟩ := AclW.ace_look hat
    rw [hnil] at hcap ⊢
    unfold metaC
    simp only [List.length_nil]
    clear hcell hat hr hnil
    go_enter Try.func19, Try.ntmps19
    go_wp2_with fail
    go_ret
    exact ⟨by rw [← e]; rfl, by (repeat' (first | exact Below.refl _ _ | assumption | refine gr_drew ?_ | refine gr_drewN ?_ _ | refine gr_alloc ?_ _ | refine gr_set ?_ ?_ _ | refine gr_call ?_ (by assumption)) <;> (try (simp; done)) <;> (try (simp; omega)) <;> (try omega))⟩
  · have hlen := (may_parts hmay).2.1
    obtain ⟨h1, h3, h6⟩ := may_has hmay
    have Q := Lib.hid (fun t W (hb : Below w.heap.size w W) => AclW.refPerm_any va m.acl t W (hat.call hb) (by omega))
    have q5 := Lib.hid (Q.out 5)
    have q3 := Lib.hid (Q.out 3)
    have q1 := Lib.hid (Q.out 1)
    have q6 := Lib.hid (Q.out 6)
    rw [perm_nat hmay h3] at q3
    rw [perm_nat hmay h1] at q1
    rw [perm_nat hmay h6] at q6
    have p1 := perm_lt hmay h1
    have p3 := perm_lt hmay h3
    have p6 := perm_lt hmay h6
    have pm := mask_nat hmay
    have pm8 := mask_lt hmay
    have hokp := Lib.hid (may_parts hmay).1
    have hr : lessM m = 64 * permM m.acl 1 + 8 * gF m.acl (permM m.acl 3 &&& maskM m.acl) + oF m.acl (maskM m.acl) (permM m.acl 6) := by unfold lessM; rw [if_neg (may_ne hmay)]
    rw [hr]
    have HG := Lib.hid (show gF m.acl (permM m.acl 3 &&& maskM m.acl) = gF (m.acl.drop 0) (permM m.acl 3 &&& maskM m.acl) from rfl)
    have HO := Lib.hid (show oF m.acl (maskM m.acl) (permM m.acl 6) = oF (m.acl.drop 0) (maskM m.acl) (permM m.acl 6) from rfl)
    generalize gF m.acl (permM m.acl 3 &&& maskM m.acl) = G at *
    generalize oF m.acl (maskM m.acl) (permM m.acl 6) = O at *
    generalize permM m.acl 1 = P1 at *
    generalize permM m.acl 3 = P3 at *
    generalize permM m.acl 6 = P6 at *
    generalize AclW.permR m.acl 5 = P5 at *
    generalize maskM m.acl = MK at *
    have hne := may_ne hmay
    obtain ⟨z, hz⟩ : ∃ z, m.acl.length = z := ⟨_, rfl⟩
    obtain ⟨p, cap, rfl, hcap, hcell⟩ := AclW.ace_look hat
    have hz0 : 0 < z := by rw [← hz]; exact List.length_pos_iff.2 hne
    rw [hz] at hlen hcap q5 q3 q1 q6 ⊢
    have Hcell := Lib.hid hcell
    have Hz := Lib.hid hz
    unfold metaC
    generalize m.acl = l at *
    clear Q hr hne hmay h1 h3 h6 hcell hat hz
    obtain ⟨W, hW⟩ : ∃ W, (w.alloc (.cells #[.int .i64 m.mode, .int .i64 m.uid, .int .i64 m.gid, .int .i64 m.sec, .int .i64 m.nano, .slice p z cap, vd, vx, .int .i64 m.cap.v, .int .u64 (m.cap.p : Int), .int .u64 (m.cap.i : Int), .bool m.cap.e, .int .i64 m.cap.r, .int .i64 m.flags] 30)) = W := ⟨_, rfl⟩
    have k5 : W.cell? ⟨w.heap.size, 5, none⟩ = some (.slice p z cap) := by rw [← hW]; simp [go_sem]
    have hbl : Below w.heap.size w W := by rw [← hW]; (repeat' (first | exact Below.refl _ _ | assumption | refine gr_drew ?_ | refine gr_drewN ?_ _ | refine gr_alloc ?_ _ | refine gr_set ?_ ?_ _ | refine gr_call ?_ (by assumption)) <;> (try (simp; done)) <;> (try (simp; omega)) <;> (try omega))
    obtain ⟨bx, hbx⟩ : ∃ b, w.heap.size = b := ⟨_, rfl⟩
    rw [hbx] at k5
    have hzd : decide (((z : Nat) : Int) = 0) = false := decide_eq_false (by omega)
    have hz1 : ((z : Int) == 0) = false := beq_eq_false_iff_ne.2 (by omega)
    have hz2 : (z == 0) = false := beq_eq_false_iff_ne.2 (by omega)
    go_enter Try.func19, Try.ntmps19
    go_upto_if 18 with (first | (go_at_call 30; refine (q5.out _ hbl).mono ?_; rintro e w1 ⟨rfl, hb1⟩; replace k5 := cell_kept hb1 k5; replace hbl := gr_call hbl hb1; clear hb1))
    go_cut [3] from 18 to 18 (fun s wx => s = .int .i64 (MK : Int) ∧ wx = w1)
    case first =>
      rcases pm with ⟨hneg, hmk⟩ | ⟨hneg, hmk, _⟩
      · have hn : decide (P5 < 0) = true := decide_eq_true hneg
        go_wp2_with fail
        go_meet
        exact ⟨by first | rfl | rw [hmk]; rfl, rfl⟩
      · have hn : decide (P5 < 0) = false := decide_eq_false (by omega)
        go_wp2_with fail
        go_meet
        exact ⟨by rw [← hmk], rfl⟩
    case rest =>
      obtain ⟨rfl, hcw⟩ := hcut
      rename World => wc
      subst hcw
      clear pm q5
      go_upto_region 6 with fail
      refine region_oneUL (S := fun W => Below wc.heap.size wc W) 9
        [(fun W v => v = .pointer (some ⟨bx, 5, none⟩)),
        (fun W v => v = .slice p z cap),
        (fun W v => v = .int .i64 (P3 : Int)),
        (fun W v => v = .int .i64 (MK : Int)),
        (fun W v => v = .int .i64 ((P3 &&& MK : Nat) : Int)),
        (fun W v => v = .pointer (some ⟨bx, 5, none⟩)),
        (fun W v => v = .slice p z cap),
        (fun W v => v = .int .i64 (P6 : Int)),
        (fun W v => v = .int .i64 ((P3 &&& MK : Nat) : Int))] (by rfl) (by kernel_rfl) (by kernel_rfl) (by kernel_rfl) (by kernel_rfl) (by rfl) (by kernel_rfl) ?hS ?hp ?hs ?he
      case hS => exact gr_drew (Below.refl _ _)
      case hp => repeat' (first | exact trivial | refine ⟨fun _ _ _ _ h => h, ?_⟩)
      case hs =>
        simp only [List.take_succ_cons, List.take_zero]
        refine ⟨?_, ?_, ?_, ?_, ?_, ?_, ?_, ?_, ?_, trivial⟩
        · refine .inl ⟨met_none rfl, ?_⟩
          intro a W K hS hd hD hf hK
          have e1 : a.tmps.getD 1 undef = .pointer (some ⟨bx, 0, none⟩) := hf 1 (by kernel_rfl)
          clear hd hf hD
          go_simp
          exact hK _ _ (Below.refl _ _) hS rfl (fun h => absurd h (by decide))
        · refine .inl ⟨met_none rfl, ?_⟩
          intro a W K hS hd hD hf hK
          have e19 : a.tmps.getD 19 undef = .pointer (some ⟨bx, 5, none⟩) := hd ⟨0, .data⟩ (by simp) rfl
          have c5 := cell_kept hS k5
          clear hd hf hD
          go_simp
          exact hK _ _ (Below.refl _ _) hS rfl (fun h => absurd h (by decide))
        · refine .inl ⟨met_none rfl, ?_⟩
          intro a W K hS hd hD hf hK
          have e20 : a.tmps.getD 20 undef = .slice p z cap := hd ⟨1, .data⟩ (by simp) rfl
          clear hd hf hD
          go_simp
          go_at_call 30
          refine (q3.out _ (gr_call hbl hS)).mono ?_
          rintro e w9 ⟨rfl, hb⟩
          exact hK _ _ hb (gr_call hS hb) rfl (fun h => absurd h (by decide))
        · refine .inl ⟨met_none rfl, ?_⟩
          intro a W K hS hd hD hf hK
          have e3 : a.tmps.getD 3 undef = .int .i64 (MK : Int) := hf 3 (by kernel_rfl)
          clear hd hf hD
          go_simp
          exact hK _ _ (Below.refl _ _) hS rfl (fun h => absurd h (by decide))
        · refine .inl ⟨met_none rfl, ?_⟩
          intro a W K hS hd hD hf hK
          have e21 : a.tmps.getD 21 undef = .int .i64 (P3 : Int) := hd ⟨2, .data⟩ (by simp) rfl
          have e22 : a.tmps.getD 22 undef = .int .i64 (MK : Int) := hd ⟨3, .data⟩ (by simp) rfl
          have a8 := and8 P3 MK p3 pm8
          clear hd hf hD
          go_simp
          exact hK _ _ (Below.refl _ _) hS rfl (fun h => absurd h (by decide))
        · refine .inl ⟨met_none rfl, ?_⟩
          intro a W K hS hd hD hf hK
          have e1 : a.tmps.getD 1 undef = .pointer (some ⟨bx, 0, none⟩) := hf 1 (by kernel_rfl)
          clear hd hf hD
          go_simp
          exact hK _ _ (Below.refl _ _) hS rfl (fun h => absurd h (by decide))
        · refine .inl ⟨met_none rfl, ?_⟩
          intro a W K hS hd hD hf hK
          have e24 : a.tmps.getD 24 undef = .pointer (some ⟨bx, 5, none⟩) := hd ⟨5, .data⟩ (by simp) rfl
          have c5 := cell_kept hS k5
          clear hd hf hD
          go_simp
          exact hK _ _ (Below.refl _ _) hS rfl (fun h => absurd h (by decide))
        · refine .inl ⟨met_none rfl, ?_⟩
          intro a W K hS hd hD hf hK
          have e25 : a.tmps.getD 25 undef = .slice p z cap := hd ⟨6, .data⟩ (by simp) rfl
          clear hd hf hD
          go_simp
          go_at_call 30
          refine (q6.out _ (gr_call hbl hS)).mono ?_
          rintro e w9 ⟨rfl, hb⟩
          exact hK _ _ hb (gr_call hS hb) rfl (fun h => absurd h (by decide))
        · refine .inl ⟨met_none rfl, ?_⟩
          intro a W K hS hd hD hf hK
          have e23 : a.tmps.getD 23 undef = .int .i64 ((P3 &&& MK : Nat) : Int) := hd ⟨4, .data⟩ (by simp) rfl
          clear hd hf hD
          go_simp
          exact hK _ _ (Below.refl _ _) hS rfl (fun h => absurd h (by decide))
      case he =>
        intro vals w6 K hS6 hV hK
        have e7 := hV 7 (by omega)
        have e8 := hV 8 (by omega)
        clear hV
        simp only [List.getD_cons_succ, List.getD_cons_zero] at e7 e8
        refine Later.mk ?_
        simp only [List.append_eq, List.cons_append, List.nil_append, setN, Nat.reduceAdd, List.setIfInBounds_toArray, List.set_cons_succ, List.set_cons_zero]
        rw [show vals 7 = _ from e7, show vals 8 = _ from e8]
        replace k5 := cell_kept hS6 k5
        replace hbl := gr_call hbl hS6
        clear hS6 e7 e8
        go_simp
        refine hK _ _ ?_
        clear hK
        clear q3 q6
        have hGM8 := and_lt8 MK p3
        generalize P3 &&& MK = GM at *
        go_wp2_with fail
        go_loopw [4, 5, 6] (fun gv ov iv wr => ∃ (k g o : Nat), gv = .int .i64 (g : Int) ∧ ov = .int .i64 (o : Int) ∧ iv = .int .i64 (k : Int) ∧ k ≤ z ∧ g < 8 ∧ o < 8 ∧ Below w.heap.size w wr ∧ wr.cell? ⟨bx, 5, none⟩ = some (.slice p z cap) ∧ Hid (G = gF (l.drop k) g) ∧ Hid (O = oF (l.drop k) MK o)) (fun _ _ iv _ => z - (intOf iv).toNat)
        case atStart => exact ⟨0, GM, P6, rfl, rfl, rfl, by omega, hGM8, p6, hbl, k5, HG, HO⟩
        case round =>
          clear HG HO hbl k5 hGM8 hzd hz1 hz2 p3 p6
          obtain ⟨k, g, o, rfl, rfl, rfl, hk, hg8, ho8, hbl, k5, HG, HO⟩ := hrel
          rename_i wr
          by_cases hlt : k < z
          · have hlt' : decide ((k : Int) < (z : Int)) = true := decide_eq_true (by omega)
            have hlt2 : decide (k < z) = true := decide_eq_true hlt
            have hk' : k < l.length := by rw [Hz.out]; exact hlt
            obtain ⟨b, off, rfl, hgb, c0, c1, c2⟩ := Hcell.out k hk'
            have hbw := hbl
            rw [hbx] at hbw
            replace c0 := cell_kept hbl c0
            replace c2 := cell_kept hbl c2
            have hq := okPart_iff (hokp.out l[k] (List.getElem_mem hk'))
            have SG := Lib.hid (gF_step hk' g)
            have SO := Lib.hid (oF_step hk' MK o)
            clear c1 hbw
            generalize l[k] = a at *
            obtain ⟨t, d, q⟩ := a
            simp only at c0 c2 hq SG SO
            replace hq : 0 ≤ q ∧ q ≤ 7 := ⟨hq.2.2.1, hq.2.2.2.1⟩
            obtain ⟨n, rfl⟩ : ∃ n : Nat, q = (n : Int) := ⟨q.toNat, by omega⟩
            have hn8 : n < 8 := by omega
            rw [Int.toNat_natCast] at SG SO
            clear hq
            by_cases h2 : t = 2
            · have HG2 := Lib.hid (show G = gF (l.drop (k + 1)) (g &&& n) by rw [HG.out, SG.out, if_pos h2])
              have HO2 := Lib.hid (show O = oF (l.drop (k + 1)) MK ((o &&& n) &&& MK) by rw [HO.out, SO.out, if_pos (.inl h2)])
              have a1 := and8 g n hg8 hn8
              have a2 := and8 o n ho8 hn8
              have a3 := and8 (o &&& n) MK (and_lt8 n ho8) pm8
              have r1 := and_lt8 n hg8
              have r2 := and_lt8 MK (and_lt8 n ho8)
              subst h2
              clear SG SO HG HO
              go_wp2_with fail
              go_roundw
              case rel => exact ⟨k + 1, g &&& n, (o &&& n) &&& MK, rfl, rfl, rfl, by omega, r1, r2, hbl, k5, HG2, HO2⟩
              case measure => simp only [intOf]; omega
            · have e2 : (t == 2) = false := beq_eq_false_iff_ne.2 h2
              by_cases h4 : t = 4
              · have HG2 := Lib.hid (show G = gF (l.drop (k + 1)) g by rw [HG.out, SG.out, if_neg h2])
                have HO2 := Lib.hid (show O = oF (l.drop (k + 1)) MK ((o &&& n) &&& MK) by rw [HO.out, SO.out, if_pos (.inr h4)])
                have a2 := and8 o n ho8 hn8
                have a3 := and8 (o &&& n) MK (and_lt8 n ho8) pm8
                have r2 := and_lt8 MK (and_lt8 n ho8)
                clear h2
                subst h4
                clear SG SO HG HO
                go_wp2_with fail
                go_roundw
                case rel => exact ⟨k + 1, g, (o &&& n) &&& MK, rfl, rfl, rfl, by omega, hg8, r2, hbl, k5, HG2, HO2⟩
                case measure => simp only [intOf]; omega
              · have HG2 := Lib.hid (show G = gF (l.drop (k + 1)) g by rw [HG.out, SG.out, if_neg h2])
                have HO2 := Lib.hid (show O = oF (l.drop (k + 1)) MK o by rw [HO.out, SO.out, if_neg (by omega)])
                have e4 : (t == 4) = false := beq_eq_false_iff_ne.2 h4
                clear SG SO HG HO h2 h4
                go_wp2_with fail
                go_roundw
                case rel => exact ⟨k + 1, g, o, rfl, rfl, rfl, by omega, hg8, ho8, hbl, k5, HG2, HO2⟩
                case measure => simp only [intOf]; omega
          · have hlt' : decide ((k : Int) < (z : Int)) = false := decide_eq_false (by omega)
            have hlt2 : decide (k < z) = false := decide_eq_false hlt
            have EG := Lib.hid (show G = g by rw [HG.out, gF_end (by rw [Hz.out]; omega)])
            have EO := Lib.hid (show O = o by rw [HO.out, oF_end (by rw [Hz.out]; omega)])
            have s1 : IntKind.i64.wrap ((P1 : Int) * 64) = (P1 : Int) * 64 := by rw [IntKind.wrap_i64]; omega
            have s2 : IntKind.i64.wrap ((g : Int) * 8) = (g : Int) * 8 := by rw [IntKind.wrap_i64]; omega
            have s3 : IntKind.i64.wrap ((P1 : Int) * 64 + (g : Int) * 8) = (P1 : Int) * 64 + (g : Int) * 8 := by rw [IntKind.wrap_i64]; omega
            have s4 : IntKind.i64.wrap ((P1 : Int) * 64 + (g : Int) * 8 + (o : Int)) = (P1 : Int) * 64 + (g : Int) * 8 + (o : Int) := by rw [IntKind.wrap_i64]; omega
            have q1b := Lib.hid (q1.out _ hbl)
            clear HG HO
            go_wp2_with fail
            refine (q1b.out).mono ?_
            rintro e w9 ⟨rfl, hb9⟩
            go_wp2_with fail
            go_ret
            refine ⟨?_, gr_call hbl hb9⟩
            rw [EG.out, EO.out]
            show Ending.returned (Value.int .i64 ((P1 : Int) * 64 + (g : Int) * 8 + (o : Int))) = _
            congr 2
            omega
end Go.Proofs.Ytpfidbcnefnhcaa

/- The document's answer: owners, lists, who can. -/
namespace Go.Proofs.Ytpfidbcnefnhcaa
open Go.RowKit
open MetaM RightM AclM
set_option linter.unusedVariables false
theorem from_row (m : Int) (w : World) : Row AclW.aceE w.heap.size (.slice (some ⟨w.heap.size, 0, none⟩) 3 3) (fromL m) (w.alloc (.cells #[.int .i64 1, .int .i64 0, .int .i64 (bits .and .i64 (m / 64) 7), .int .i64 3, .int .i64 0, .int .i64 (bits .and .i64 (m / 8) 7), .int .i64 6, .int .i64 0, .int .i64 (bits .and .i64 m 7)] 51)) := by
  rw [AclW.and7, AclW.and7, AclW.and7]
  exact lit_row (E := AclW.aceE) w (fromL m) _ w.heap.size 3 rfl (Nat.le_refl _) (by simp [fromL]) rfl
def InRange (n : Int) : Prop := -9223372036854775808 ≤ n ∧ n ≤ 9223372036854775807
theorem refFrom_any (m : Int) (w : World) (h : InRange m) :
    Calls Try.prog 44 #[.int .i64 m] w fun e w' => (∃ v, e = .returned v ∧ Row AclW.aceE w.heap.size v (fromL m) w') ∧ Below w.heap.size w w' := by
  have h0 := h.1
  have h1 := h.2
  go_enter Try.func44, Try.ntmps44
  go_wp2_with fail
  go_ret
  exact ⟨⟨_, rfl, from_row m w⟩, by (repeat' (first | exact Below.refl _ _ | assumption | refine gr_drew ?_ | refine gr_drewN ?_ _ | refine gr_alloc ?_ _ | refine gr_set ?_ ?_ _ | refine gr_call ?_ (by assumption)) <;> (try (simp; done)) <;> (try (simp; omega)) <;> (try omega))⟩
structure LOk (l : List Ace) : Prop where
  len : l.length ≤ 32
  perm : ∀ a ∈ l, 0 ≤ a.2.2 ∧ a.2.2 ≤ 7
  own : has l 1 = true
  oth : has l 6 = true
theorem LOk.of_may {l : List Ace} (h : may l = true) : LOk l :=
  ⟨(may_parts h).2.1, fun a ha => by have := okPart_iff ((may_parts h).1 a ha); omega, (may_has h).1, (may_has h).2.2⟩
theorem LOk.of_mode (n : Int) : LOk (fromL n) := by
  refine ⟨by simp [fromL], fun a ha => ?_, by simp [fromL, has, findN], by simp [fromL, has, findN]⟩
  unfold fromL at ha
  simp only [List.mem_cons, List.not_mem_nil, or_false] at ha
  rcases ha with rfl | rfl | rfl <;> (simp only; omega)
theorem LOk.of {m : Mt} (h : okL m) : LOk (listM m) := by
  unfold listM
  rcases h with h | h
  · rw [if_pos h]; exact LOk.of_mode _
  · rw [if_neg (may_ne h)]; exact LOk.of_may h
theorem LOk.nat {l : List Ace} (h : LOk l) {t : Int} (ht : has l t = true) : AclW.permR l t = (permM l t : Int) ∧ permM l t < 8 := by
  obtain ⟨a, h1, _, h3⟩ := permR_mem ht
  have := h.perm a h1
  unfold permM
  omega
theorem LOk.mask {l : List Ace} (h : LOk l) : ((AclW.permR l 5 < 0 ∧ maskM l = 7) ∨ (¬ AclW.permR l 5 < 0 ∧ AclW.permR l 5 = (maskM l : Int))) ∧ maskM l < 8 := by
  by_cases hn : AclW.permR l 5 < 0
  · have e : maskM l = 7 := if_pos hn
    exact ⟨.inl ⟨hn, e⟩, by omega⟩
  · have ht : has l 5 = true := by
      by_cases hb : has l 5 = true
      · exact hb
      · exfalso; apply hn; unfold AclW.permR; rw [if_neg hb]; decide
    have e : maskM l = permM l 5 := if_neg hn
    rw [e]
    exact ⟨.inr ⟨hn, (h.nat ht).1⟩, (h.nat ht).2⟩
attribute [local irreducible] Row At
set_option maxHeartbeats 3200000 in
set_option maxRecDepth 100000 in
theorem refOwner_any (m : Mt) (va vd vx : Value) (c : Cr) (gv : Value) (w : World) :
    Calls Try.prog 17 #[.agg (metaC m va vd vx), .agg (credC c gv)] w fun e w' => e = .returned (.bool (ownM m c)) ∧ Below w.heap.size w w' := by
  have H := Lib.hid (fun W => refHas_any c gv 4 W)
  rw [has_own c] at H
  unfold ownM
  generalize hasOwn c = ho at *
  obtain ⟨uid, gid, gs, pw⟩ := c
  unfold credC at H ⊢
  unfold metaC
  simp only at H ⊢
  by_cases hu : m.uid = uid
  · rw [decide_eq_true hu, Bool.true_or]
    have e1 : (m.uid == uid) = true := beq_iff_eq.2 hu
    clear hu
    go_enter Try.func17, Try.ntmps17
    go_wp2_with fail
    go_ret
    exact ⟨by rfl, by (repeat' (first | exact Below.refl _ _ | assumption | refine gr_drew ?_ | refine gr_drewN ?_ _ | refine gr_alloc ?_ _ | refine gr_set ?_ ?_ _ | refine gr_call ?_ (by assumption)) <;> (try (simp; done)) <;> (try (simp; omega)) <;> (try omega))⟩
  · rw [decide_eq_false hu, Bool.false_or]
    have e1 : (m.uid == uid) = false := beq_eq_false_iff_ne.2 hu
    clear hu
    obtain ⟨W, hW⟩ : ∃ W, (w.alloc (.cells #[.int .i64 m.mode, .int .i64 m.uid, .int .i64 m.gid, .int .i64 m.sec, .int .i64 m.nano, va, vd, vx, .int .i64 m.cap.v, .int .u64 (m.cap.p : Int), .int .u64 (m.cap.i : Int), .bool m.cap.e, .int .i64 m.cap.r, .int .i64 m.flags] 30)).alloc (.cells #[.int .i64 uid, .int .i64 gid, gv, .int .i64 pw] 33) = W := ⟨_, rfl⟩
    have hbl : Below w.heap.size w W := by rw [← hW]; (repeat' (first | exact Below.refl _ _ | assumption | refine gr_drew ?_ | refine gr_drewN ?_ _ | refine gr_alloc ?_ _ | refine gr_set ?_ ?_ _ | refine gr_call ?_ (by assumption)) <;> (try (simp; done)) <;> (try (simp; omega)) <;> (try omega))
    have k1 : W.cell? ⟨w.heap.size, 1, none⟩ = some (.int .i64 m.uid) := by rw [← hW]; simp [go_sem]
    have c0 : W.cell? ⟨w.heap.size + 1, 0, none⟩ = some (.int .i64 uid) := by rw [← hW]; simp [go_sem]
    have c1 : W.cell? ⟨w.heap.size + 1, 1, none⟩ = some (.int .i64 gid) := by rw [← hW]; simp [go_sem]
    have c2 : W.cell? ⟨w.heap.size + 1, 2, none⟩ = some gv := by rw [← hW]; simp [go_sem]
    have c3 : W.cell? ⟨w.heap.size + 1, 3, none⟩ = some (.int .i64 pw) := by rw [← hW]; simp [go_sem]
    go_enter Try.func17, Try.ntmps17
    go_wp2_with (first | (go_at_call 28; refine (H.out _).mono ?_; rintro e w1 ⟨rfl, hb1⟩))
    go_ret
    exact ⟨by rfl, gr_call hbl hb1⟩
set_option maxHeartbeats 3200000 in
set_option maxRecDepth 100000 in
theorem refList_any (m : Mt) (va vd vx : Value) (w : World) (hat : At AclW.aceE va m.acl w) (hl : m.acl.length ≤ 1000000) (hmd : InRange m.mode) :
    Calls Try.prog 29 #[.agg (metaC m va vd vx)] w fun e w' => (∃ v, e = .returned v ∧ At AclW.aceE v (listM m) w') ∧ Below w.heap.size w w' := by
  obtain ⟨p, cap, hv, hcap⟩ := hat.shape
  unfold listM
  have Hat := Lib.hid hat
  by_cases hn : m.acl = []
  · rw [if_pos hn]
    rw [hn] at hv
    simp only [List.length_nil] at hv
    subst hv
    have HF := Lib.hid (fun W => refFrom_any m.mode W hmd)
    unfold metaC
    clear hat hcap hn
    have hbl : Below w.heap.size w (w.alloc (.cells #[.int .i64 m.mode, .int .i64 m.uid, .int .i64 m.gid, .int .i64 m.sec, .int .i64 m.nano, .slice p 0 cap, vd, vx, .int .i64 m.cap.v, .int .u64 (m.cap.p : Int), .int .u64 (m.cap.i : Int), .bool m.cap.e, .int .i64 m.cap.r, .int .i64 m.flags] 30)) := by (repeat' (first | exact Below.refl _ _ | assumption | refine gr_drew ?_ | refine gr_drewN ?_ _ | refine gr_alloc ?_ _ | refine gr_set ?_ ?_ _ | refine gr_call ?_ (by assumption)) <;> (try (simp; done)) <;> (try (simp; omega)) <;> (try omega))
    go_enter Try.func29, Try.ntmps29
    go_wp2_with (first | (go_at_call 44; refine (HF.out _).mono ?_; rintro e w1 ⟨⟨v1, rfl, hr1⟩, hb1⟩))
    go_ret
    exact ⟨⟨_, rfl, hr1.at⟩, gr_call hbl hb1⟩
  · rw [if_neg hn]
    have hz : 0 < m.acl.length := List.length_pos_iff.2 hn
    generalize m.acl = l at *
    obtain ⟨z, hz'⟩ : ∃ z, l.length = z := ⟨_, rfl⟩
    rw [hz'] at hv hz hcap hl
    subst hv
    have hzd : decide ((0 : Int) < (z : Int)) = true := decide_eq_true (by omega)
    have hzd2 : decide (0 < z) = true := decide_eq_true hz
    unfold metaC
    clear hat hz' hn
    have hbl : Below w.heap.size w (w.alloc (.cells #[.int .i64 m.mode, .int .i64 m.uid, .int .i64 m.gid, .int .i64 m.sec, .int .i64 m.nano, .slice p z cap, vd, vx, .int .i64 m.cap.v, .int .u64 (m.cap.p : Int), .int .u64 (m.cap.i : Int), .bool m.cap.e, .int .i64 m.cap.r, .int .i64 m.flags] 30)) := by (repeat' (first | exact Below.refl _ _ | assumption | refine gr_drew ?_ | refine gr_drewN ?_ _ | refine gr_alloc ?_ _ | refine gr_set ?_ ?_ _ | refine gr_call ?_ (by assumption)) <;> (try (simp; done)) <;> (try (simp; omega)) <;> (try omega))
    go_enter Try.func29, Try.ntmps29
    go_wp2_with fail
    go_ret
    exact ⟨⟨_, rfl, Hat.out.call hbl⟩, hbl⟩
end Go.Proofs.Ytpfidbcnefnhcaa
