/- Bundle of 3 texts. -/
import Derived.Test.YtpfidbcnefnhcaaPk05
/- Walks over package right: the part with a tag, its rights, the mask. -/
namespace Go.Proofs.Ytpfidbcnefnhcaa
open Go.RowKit
open MetaM RightM AclM AclW
set_option linter.unusedVariables false
attribute [local irreducible] Row At
set_option maxHeartbeats 1600000 in
theorem goFindF_any (v : Value) (l : List Ace) (t : Int) (b : Nat) (w : World) (hat : At aceE v l w) (hl : l.length ≤ 1000000) (hc : w.cell? ⟨b, 0, none⟩ = some (.int .i64 t)) :
    Calls Try.prog 51 #[v, .func (.func 52) #[] #[.pointer (some ⟨b, 0, none⟩)]] w fun e w' => e = .returned (.int .i64 (findN t l 0)) ∧ Below w.heap.size w w' := by
  obtain ⟨z, hz⟩ : ∃ z, l.length = z := ⟨_, rfl⟩
  obtain ⟨p, cap, rfl, hcap, hcell⟩ := ace_look hat
  rw [hz] at hl hcap ⊢
  have Hcell := Lib.hid hcell
  have Hz := Lib.hid hz
  have Htag := Lib.hid goTag_any
  clear hcell hat hz
  go_enter Try.func51, Try.ntmps51
  go_wp2_with fail
  go_loopw [8] (fun iv wr => ∃ i : Nat, iv = .int .i64 (i : Int) ∧ i ≤ z ∧ Below w.heap.size w wr ∧ Hid (findN t l 0 = findN t (l.drop i) i)) (fun iv _ => z - (intOf iv).toNat)
  case atStart => exact ⟨0, rfl, by omega, Below.refl _ _, Lib.hid (by simp)⟩
  case round =>
    obtain ⟨i, rfl, hi, hbl, HR⟩ := hrel
    rename_i wr
    by_cases hlt : i < z
    · have hlt' : decide ((i : Int) < (z : Int)) = true := decide_eq_true (by omega)
      have hlt2 : decide (i < z) = true := decide_eq_true hlt
      have hi' : i < l.length := by rw [Hz.out]; exact hlt
      obtain ⟨g, off, rfl, hg, c0, c1, c2⟩ := Hcell.out i hi'
      replace c0 := cell_kept hbl c0
      replace c1 := cell_kept hbl c1
      replace c2 := cell_kept hbl c2
      have ht := Lib.hid (Htag.out l[i] t b _ (cell_kept hbl hc))
      have HS := Lib.hid (find_drop (t := t) hi')
      generalize l[i] = a at *
      obtain ⟨u, d, q⟩ := a
      simp only at c0 c1 c2
      have hgs := hbl.size
      by_cases hu : u = t
      · have HE := Lib.hid (show findN t l 0 = (i : Int) by rw [HR.out, HS.out, if_pos hu])
        have ht2 := Lib.hid (by simpa only [decide_eq_true hu] using ht.out)
        clear HR HS hu ht
        go_wp2_with fail
        refine (ht2.out).mono ?_
        rintro e w1 ⟨rfl, hb1⟩
        go_wp2_with fail
        go_ret
        exact ⟨by rw [HE.out]; rfl, by (repeat' (first | exact Below.refl _ _ | assumption | refine gr_drew ?_ | refine gr_drewN ?_ _ | refine gr_alloc ?_ _ | refine gr_set ?_ ?_ _ | refine gr_call ?_ (by assumption)) <;> (try (simp; done)) <;> (try (simp; omega)) <;> (try omega))⟩
      · have HE := Lib.hid (show findN t l 0 = findN t (l.drop (i + 1)) (i + 1) by rw [HR.out, HS.out, if_neg hu])
        have ht2 := Lib.hid (by simpa only [decide_eq_false hu] using ht.out)
        clear HR HS hu ht
        go_wp2_with fail
        refine (ht2.out).mono ?_
        rintro e w1 ⟨rfl, hb1⟩
        go_wp2_with fail
        go_roundw
        case rel => exact ⟨i + 1, rfl, by omega, by (repeat' (first | exact Below.refl _ _ | assumption | refine gr_drew ?_ | refine gr_drewN ?_ _ | refine gr_alloc ?_ _ | refine gr_set ?_ ?_ _ | refine gr_call ?_ (by assumption)) <;> (try (simp; done)) <;> (try (simp; omega)) <;> (try omega)), HE⟩
        case measure => simp only [intOf]; omega
    · have hlt' : decide ((i : Int) < (z : Int)) = false := decide_eq_false (by omega)
      have hlt2 : decide (i < z) = false := decide_eq_false hlt
      have HE := Lib.hid (show findN t l 0 = -1 by rw [HR.out, find_end (by rw [Hz.out]; omega)])
      clear HR
      go_wp2_with fail
      go_ret
      exact ⟨by rw [HE.out]; rfl, by (repeat' (first | exact Below.refl _ _ | assumption | refine gr_drew ?_ | refine gr_drewN ?_ _ | refine gr_alloc ?_ _ | refine gr_set ?_ ?_ _ | refine gr_call ?_ (by assumption)) <;> (try (simp; done)) <;> (try (simp; omega)) <;> (try omega))⟩
theorem goFind_any (v : Value) (l : List Ace) (t : Int) (w : World) (hat : At aceE v l w) (hl : l.length ≤ 1000000) :
    Calls Try.prog 48 #[v, .int .i64 t] w fun e w' => e = .returned (.int .i64 (findN t l 0)) ∧ Below w.heap.size w w' := by
  have hmf : ∀ (fn : Fn) (first cap : Array Value) (w : World), (Instr.makeFunc fn first cap).run Try.prog w = .ok (.func fn first cap) w := fun _ _ _ _ => rfl
  have hix := Lib.hid (goFindF_any v l t w.heap.size (w.alloc (.cells #[.int .i64 t] 3)) (hat.alloc _) hl (by simp [go_sem]))
  generalize findN t l 0 = r at hix ⊢
  clear hat hl
  go_enter Try.func48, Try.ntmps48
  go_wp2_with fail
  refine (hix.out).mono ?_
  rintro e w1 ⟨rfl, hb1⟩
  go_wp2_with fail
  go_ret
  exact ⟨rfl, by (repeat' (first | exact Below.refl _ _ | assumption | refine gr_drew ?_ | refine gr_drewN ?_ _ | refine gr_alloc ?_ _ | refine gr_set ?_ ?_ _ | refine gr_call ?_ (by assumption)) <;> (try (simp; done)) <;> (try (simp; omega)) <;> (try omega))⟩
theorem find_at {l : List Ace} {t : Int} (h : has l t = true) : ∃ k, ∃ hk : k < l.length, findN t l 0 = (k : Int) ∧ permR l t = l[k].2.2 := by
  have h0 : 0 ≤ findN t l 0 := of_decide_eq_true h
  rcases findN_in t l 0 with h1 | ⟨k, hk, h2⟩
  · omega
  · rw [Nat.zero_add] at h2
    refine ⟨k, hk, h2, ?_⟩
    unfold permR permN
    rw [if_pos h, h2, if_neg (by omega), Int.toNat_natCast]
    simp [List.getD, hk]
set_option maxHeartbeats 1600000 in
theorem goPerm_any (v : Value) (l : List Ace) (t : Int) (w : World) (hat : At aceE v l w) (hl : l.length ≤ 1000000) (h : has l t = true) :
    Calls Try.prog 40 #[v, .int .i64 t] w fun e w' => e = .returned (.int .i64 (permR l t)) ∧ Below w.heap.size w w' := by
  have HF := Lib.hid (goFind_any v l t w hat hl)
  obtain ⟨k, hk, e1, e2⟩ := find_at h
  rw [e1] at HF
  rw [e2]
  obtain ⟨p, cap, rfl, hcap, hcell⟩ := ace_look hat
  obtain ⟨g, off, rfl, hg, c0, c1, c2⟩ := hcell k hk
  generalize l[k].2.2 = q at *
  obtain ⟨z, hz⟩ : ∃ z, l.length = z := ⟨_, rfl⟩
  rw [hz] at hk hl hcap HF ⊢
  have i0 : (0 : Int) ≤ (k : Int) := by omega
  have i1 : (k : Int) < (z : Int) := by omega
  have i2 : decide ((k : Int) < 0) = false := decide_eq_false (by omega)
  clear hcell c0 c1 e1 e2 hz hat h
  go_enter Try.func40, Try.ntmps40
  go_wp2_with fail
  refine (HF.out).mono ?_
  rintro e w1 ⟨rfl, hb1⟩
  replace c2 := cell_kept hb1 c2
  go_wp2_with fail
  go_ret
  exact ⟨by rfl, hb1⟩
set_option maxHeartbeats 1600000 in
theorem goMasked_any (v : Value) (l : List Ace) (w : World) (hat : At aceE v l w) (hl : l.length ≤ 1000000) (h : LOk l) :
    Calls Try.prog 43 #[v] w fun e w' => e = .returned (.int .i64 (maskM l : Int)) ∧ Below w.heap.size w w' := by
  have HF := Lib.hid (goFind_any v l 5 w hat hl)
  by_cases h5 : has l 5 = true
  · rw [← mask_of h h5]
    obtain ⟨k, hk, e1, e2⟩ := find_at h5
    rw [e1] at HF
    rw [e2]
    obtain ⟨p, cap, rfl, hcap, hcell⟩ := ace_look hat
    obtain ⟨g, off, rfl, hg, c0, c1, c2⟩ := hcell k hk
    generalize l[k].2.2 = q at *
    obtain ⟨z, hz⟩ : ∃ z, l.length = z := ⟨_, rfl⟩
    rw [hz] at hk hl hcap HF ⊢
    have i0 : (0 : Int) ≤ (k : Int) := by omega
    have i1 : (k : Int) < (z : Int) := by omega
    have i2 : decide ((k : Int) < 0) = false := decide_eq_false (by omega)
    clear hcell c0 c1 e1 e2 hz hat h h5
    go_enter Try.func43, Try.ntmps43
    go_wp2_with fail
    refine (HF.out).mono ?_
    rintro e w1 ⟨rfl, hb1⟩
    replace c2 := cell_kept hb1 c2
    go_wp2_with fail
    go_ret
    exact ⟨by rfl, hb1⟩
  · have e7 : maskM l = 7 := by
      unfold maskM permR
      rw [if_neg h5]; rfl
    have hn : findN 5 l 0 < 0 := by
      rcases Int.lt_or_le (findN 5 l 0) 0 with h | h
      · exact h
      · exact absurd (decide_eq_true h) h5
    rw [e7]
    generalize findN 5 l 0 = r at *
    have i2 : decide (r < 0) = true := decide_eq_true hn
    clear hat h h5 e7 hn
    go_enter Try.func43, Try.ntmps43
    go_wp2_with fail
    refine (HF.out).mono ?_
    rintro e w1 ⟨rfl, hb1⟩
    go_wp2_with fail
    go_ret
    exact ⟨by rfl, hb1⟩
end Go.Proofs.Ytpfidbcnefnhcaa

/- Walks over package right: the parts for groups, and what they grant. -/
namespace Go.Proofs.Ytpfidbcnefnhcaa
open Go.RowKit
open MetaM RightM AclM AclW
set_option linter.unusedVariables false
theorem goOne_int (w : World) (x : Int) (B : Nat) (hB : B ≤ w.heap.size) : Row intE B (.slice (some ⟨w.heap.size, 0, none⟩) 1 1) [x] (w.alloc (.cells #[.int .i64 x] 3)) :=
  lit_row (E := intE) w [x] _ B 1 rfl hB (by simp) rfl
theorem cell_low {b : Nat} {w w' : World} {a : Addr} {u : Value} (hb : Below b w w') (h : a.block < b) (hc : w.cell? a = some u) : w'.cell? a = some u := (hb.cell h).trans hc
theorem gr_alloc' {b : Nat} {w w' : World} (hb : Below b w w') (h : b ≤ w'.heap.size) (o : Obj) : Below b w (w'.alloc o) := hb.alloc h o
attribute [local irreducible] Row At
set_option maxHeartbeats 3200000 in
set_option maxRecDepth 100000 in
theorem ofGroups_any (v : Value) (l : List Ace) (m : Mt) (va vd vx : Value) (c : Cr) (gv : Value) (w : World) (hat : At aceE v l w) (hl : l.length ≤ 1000) (h : LGo l) (hc : CredAt c gv w) :
    Calls Try.prog 41 #[v, .agg (metaC m va vd vx), .agg (credC c gv)] w fun e w' => (∃ u, e = .returned u ∧ At intE u (partsG l m c) w') ∧ Below w.heap.size w w' := by
  have H3 := Lib.hid (fun W (hb : Below w.heap.size w W) => goPerm_any v l 3 W (hat.call hb) (by omega) h.grp)
  have HI := Lib.hid (fun g W (hb : Below w.heap.size w W) => in_any c gv g W (hc.call hb))
  obtain ⟨z, hz⟩ : ∃ z, l.length = z := ⟨_, rfl⟩
  obtain ⟨p, cap, rfl, hcap, hcell⟩ := ace_look hat
  rw [hz] at hl hcap H3 ⊢
  have Hcell := Lib.hid hcell
  have Hz := Lib.hid hz
  have HE : partsG l m c = (if inM c m.gid = true then [permR l 3] else []) ++ namedG (l.drop 0) c := by rw [List.drop_zero]; rfl
  obtain ⟨PG, hPG⟩ : ∃ x, partsG l m c = x := ⟨_, rfl⟩
  rw [hPG] at HE ⊢
  have HND := Lib.hid (fun k (hk : k < l.length) => named_drop (c := c) hk)
  have HNE := Lib.hid (fun k (hk : l.length ≤ k) => named_end (c := c) hk)
  generalize permR l 3 = P3 at *
  clear hcell hat hz h hPG hc
  obtain ⟨B, hB⟩ : ∃ b, w.heap.size = b := ⟨_, rfl⟩
  unfold credC metaC at *
  obtain ⟨W0, hW0⟩ : ∃ W, ((w.alloc (.cells #[.int .i64 m.mode, .int .i64 m.uid, .int .i64 m.gid, .int .i64 m.sec, .int .i64 m.nano, va, vd, vx, .int .i64 m.cap.v, .int .u64 (m.cap.p : Int), .int .u64 (m.cap.i : Int), .bool m.cap.e, .int .i64 m.cap.r, .int .i64 m.flags] 30)).alloc (.cells #[.int .i64 c.uid, .int .i64 c.gid, gv, .int .i64 c.powers] 33)) = W := ⟨_, rfl⟩
  have hbl : Below w.heap.size w W0 := by rw [← hW0]; (repeat' (first | exact Below.refl _ _ | assumption | refine gr_drew ?_ | refine gr_drewN ?_ _ | refine gr_alloc ?_ _ | refine gr_set ?_ ?_ _ | refine gr_call ?_ (by assumption)) <;> (try (simp; done)) <;> (try (simp; omega)) <;> (try omega))
  have k2 : W0.cell? ⟨B, 2, none⟩ = some (.int .i64 m.gid) := by rw [← hW0]; simp [go_sem, ← hB]
  have z0 : W0.cell? ⟨B + 1, 0, none⟩ = some (.int .i64 c.uid) := by rw [← hW0]; simp [go_sem, ← hB]
  have z1 : W0.cell? ⟨B + 1, 1, none⟩ = some (.int .i64 c.gid) := by rw [← hW0]; simp [go_sem, ← hB]
  have z2 : W0.cell? ⟨B + 1, 2, none⟩ = some gv := by rw [← hW0]; simp [go_sem, ← hB]
  have z3 : W0.cell? ⟨B + 1, 3, none⟩ = some (.int .i64 c.powers) := by rw [← hW0]; simp [go_sem, ← hB]
  have hlt0 : B + 2 ≤ W0.heap.size := by rw [← hW0, ← hB]; simp
  go_enter Try.func41, Try.ntmps41
  go_upto_if 13 with (first | (go_at_call 12; refine (HI.out _ _ hbl).mono ?_; rintro e w1 ⟨rfl, hb1⟩))
  have hbl1 := gr_call hbl hb1
  have y0 := cell_kept hb1 z0
  have y1 := cell_kept hb1 z1
  have y2 := cell_kept hb1 z2
  have y3 := cell_kept hb1 z3
  have hlt1 : B + 2 ≤ w1.heap.size := Nat.le_trans hlt0 hb1.size
  clear hb1 hbl z0 z1 z2 z3 k2 hlt0 hW0 W0
  have lowr : ∀ W, Below (B + 2) w1 W → Below w.heap.size w W := fun W hb => hbl1.trans (hb.mono (by omega))
  obtain ⟨bi, hbi⟩ : ∃ b, inM c m.gid = b := ⟨_, rfl⟩
  rw [hbi] at HE ⊢
  clear hbi
  go_cut [7] from 14 to 18 (fun s wx => ∃ acc : List Int, Row intE (B + 2) s acc wx ∧ acc.length ≤ 1 ∧ Below (B + 2) w1 wx ∧ Hid (PG = acc ++ namedG (l.drop 0) c))
  case first =>
    cases bi with
    | true =>
      rw [if_pos rfl] at HE
      go_wp2_with fail
      refine (H3.out _ hbl1).mono ?_
      rintro e w2 ⟨rfl, hb2⟩
      have hbm : Below (B + 2) w1 w2 := hb2.mono hlt1
      have hs2 := hb2.size
      clear hb2
      have hR2 : Row intE (B + 2) (.slice none 0 0) [] (w2.alloc (.cells #[.int .i64 P3] 3)) := Row.nil _ _
      have hone := (goOne_int w2 P3 0 (Nat.zero_le _)).at
      have hs1 : B + 2 ≤ (w2.alloc (.cells #[.int .i64 P3] 3)).heap.size := by simp; omega
      go_wp2_with (at_builtin; refine wp_append_at intE rfl _ _ rfl (B + 2) _ (.slice (some ⟨w2.heap.size, 0, none⟩) 1 1) [] [P3] (w2.alloc (.cells #[.int .i64 P3] 3)) rfl (by exact hR2) (by rfl) (by exact hone) (by simp) hs1 ?_)
      intro v' w' hR' hb' _ _
      have hbm2 : Below (B + 2) w1 w' := (gr_alloc' hbm (by omega) _).trans hb'
      clear hb' hbm hR2 hone
      go_wp2_with fail
      go_meet
      exact ⟨[P3], hR', by simp, hbm2, Lib.hid HE⟩
    | false =>
      rw [if_neg (by decide)] at HE
      go_wp2_with fail
      go_meet
      exact ⟨[], Row.nil _ _, by decide, Below.refl _ _, Lib.hid HE⟩
  case rest =>
    clear HE
    obtain ⟨acc, hR, hacc, hbm, HE⟩ := hcut
    rename World => w2
    go_wp2_with fail
    go_loopw [7, 21] (fun lv iv wr => ∃ (k : Nat) (acc : List Int), iv = .int .i64 (k : Int) ∧ k ≤ z ∧ Row intE (B + 2) lv acc wr ∧ acc.length ≤ k + 1 ∧ Below (B + 2) w1 wr ∧ Hid (PG = acc ++ namedG (l.drop k) c)) (fun _ iv _ => z - (intOf iv).toNat)
    case atStart => exact ⟨0, acc, rfl, by omega, hR, by omega, hbm, HE⟩
    case round =>
      clear HE hR hbm hacc
      obtain ⟨k, acc, rfl, hk, hR, hacc, hbm, HE⟩ := hrel
      rename World => wr
      have hgs := hbm.size
      have hbl := lowr _ hbm
      by_cases hlt : k < z
      · have hlt' : decide ((k : Int) < (z : Int)) = true := decide_eq_true (by omega)
        have hlt2 : decide (k < z) = true := decide_eq_true hlt
        have hk' : k < l.length := by rw [Hz.out]; exact hlt
        obtain ⟨b, off, rfl, hgb, c0, c1, c2⟩ := Hcell.out k hk'
        replace c0 := cell_kept hbl c0
        replace c1 := cell_kept hbl c1
        replace c2 := cell_kept hbl c2
        have z0 := cell_low hbm (show B + 1 < B + 2 by omega) y0
        have z1 := cell_low hbm (show B + 1 < B + 2 by omega) y1
        have z2 := cell_low hbm (show B + 1 < B + 2 by omega) y2
        have z3 := cell_low hbm (show B + 1 < B + 2 by omega) y3
        have HS := Lib.hid (HND.out k hk')
        generalize l[k] = a at *
        obtain ⟨t, d, q⟩ := a
        simp only at c0 c1 c2 HS
        have hne : B + 1 ≠ wr.heap.size := by omega
        by_cases h4 : t = 4
        · rw [decide_eq_true h4, Bool.true_and] at HS
          subst h4
          have x0 := cell_kept (gr_alloc (Below.refl wr.heap.size wr) (.cells #[.int .i64 4, .int .i64 d, .int .i64 q] 51)) z0
          have x1 := cell_kept (gr_alloc (Below.refl wr.heap.size wr) (.cells #[.int .i64 4, .int .i64 d, .int .i64 q] 51)) z1
          have x2 := cell_kept (gr_alloc (Below.refl wr.heap.size wr) (.cells #[.int .i64 4, .int .i64 d, .int .i64 q] 51)) z2
          have x3 := cell_kept (gr_alloc (Below.refl wr.heap.size wr) (.cells #[.int .i64 4, .int .i64 d, .int .i64 q] 51)) z3
          have HJ := Lib.hid (fun W (hb : Below w.heap.size w W) => HI.out d W hb)
          cases hi : inM c d with
          | true =>
            rw [hi, if_pos rfl] at HS
            rw [hi] at HJ
            have HE2 := Lib.hid (show PG = (acc ++ [q]) ++ namedG (l.drop (k + 1)) c by rw [HE.out, HS.out, List.append_assoc])
            clear hi HS HE
            have q2 : (wr.alloc (.cells #[.int .i64 4, .int .i64 d, .int .i64 q] 51)).cell? ⟨wr.heap.size, 2, none⟩ = some (.int .i64 q) := by simp [go_sem]
            go_wp2_with fail
            refine (HJ.out _ (gr_alloc hbl _)).mono ?_
            rintro e w5 ⟨rfl, hb5⟩
            have q3 := cell_kept hb5 q2
            have hs5 : B + 2 ≤ w5.heap.size := by have := hb5.size; simp at this; omega
            have hbm5 : Below (B + 2) w1 w5 := (gr_alloc' hbm (by omega) _).trans (hb5.mono (by simp; omega))
            have hR2 := ((hR.alloc (.cells #[.int .i64 4, .int .i64 d, .int .i64 q] 51)).call hb5).alloc (.cells #[.int .i64 q] 3)
            have hone := (goOne_int w5 q 0 (Nat.zero_le _)).at
            have hs1 : B + 2 ≤ (w5.alloc (.cells #[.int .i64 q] 3)).heap.size := by simp; omega
            have hl1 : acc.length + [q].length ≤ 1000000 := by simp; omega
            clear hb5 x0 x1 x2 x3 z0 z1 z2 z3 q2 c0 c1 c2
            go_wp2_with (at_builtin; refine wp_append_at intE rfl _ _ rfl (B + 2) _ (.slice (some ⟨w5.heap.size, 0, none⟩) 1 1) acc [q] (w5.alloc (.cells #[.int .i64 q] 3)) rfl (by exact hR2) (by rfl) (by exact hone) hl1 hs1 ?_)
            intro v' w' hR' hb' _ _
            have hbm2 : Below (B + 2) w1 w' := (gr_alloc' hbm5 hs5 _).trans hb'
            clear hb' hbm hR2 hone hR hbm5
            go_wp2_with fail
            go_roundw
            case rel => exact ⟨k + 1, acc ++ [q], rfl, by omega, hR', by simp; omega, hbm2, HE2⟩
            case measure => simp only [intOf]; omega
          | false =>
            rw [hi, if_neg (by decide)] at HS
            rw [hi] at HJ
            have HE2 := Lib.hid (show PG = acc ++ namedG (l.drop (k + 1)) c by rw [HE.out, HS.out]; rfl)
            clear hi HS HE
            go_wp2_with fail
            refine (HJ.out _ (gr_alloc hbl _)).mono ?_
            rintro e w5 ⟨rfl, hb5⟩
            have hbm5 : Below (B + 2) w1 w5 := (gr_alloc' hbm (by omega) _).trans (hb5.mono (by simp; omega))
            have hR2 := (hR.alloc (.cells #[.int .i64 4, .int .i64 d, .int .i64 q] 51)).call hb5
            clear hb5 x0 x1 x2 x3 z0 z1 z2 z3 c0 c1 c2
            go_wp2_with fail
            go_roundw
            case rel => exact ⟨k + 1, acc, rfl, by omega, hR2, by omega, hbm5, HE2⟩
            case measure => simp only [intOf]; omega
        · have e4 : (t == 4) = false := beq_eq_false_iff_ne.2 h4
          rw [decide_eq_false h4, Bool.false_and, if_neg (by decide)] at HS
          have HE2 := Lib.hid (show PG = acc ++ namedG (l.drop (k + 1)) c by rw [HE.out, HS.out]; rfl)
          clear h4 HS HE
          go_wp2_with fail
          go_roundw
          case rel => exact ⟨k + 1, acc, rfl, by omega, hR.alloc _, by omega, gr_alloc' hbm (by omega) _, HE2⟩
          case measure => simp only [intOf]; omega
      · have hlt' : decide ((k : Int) < (z : Int)) = false := decide_eq_false (by omega)
        have hlt2 : decide (k < z) = false := decide_eq_false hlt
        have HX := Lib.hid (show PG = acc by rw [HE.out, HNE.out k (by rw [Hz.out]; omega), List.append_nil])
        clear HE
        go_wp2_with fail
        go_ret
        exact ⟨⟨_, rfl, by rw [HX.out]; exact hR.at⟩, hbl⟩
end Go.Proofs.Ytpfidbcnefnhcaa

/- Walks over package right: what some of several rights grant. -/
namespace Go.Proofs.Ytpfidbcnefnhcaa
open Go.RowKit
open MetaM RightM AclM AclW
set_option linter.unusedVariables false
attribute [local irreducible] Row At
theorem grantC_any (p k n b c : Nat) (w : World) (hp : p < 8) (hk : k < 8) (hn : n < 8) (h1 : w.cell? ⟨b, 0, none⟩ = some (.int .i64 (k : Int))) (h2 : w.cell? ⟨c, 0, none⟩ = some (.int .i64 (n : Int))) :
    Calls Try.prog 50 #[.int .i64 (p : Int), .pointer (some ⟨b, 0, none⟩), .pointer (some ⟨c, 0, none⟩)] w fun e w' => e = .returned (.bool (grantG k n (p : Int))) ∧ Below w.heap.size w w' := by
  have a1 := and8 p k hp hk
  have HG := Lib.hid (fun W => grants_any (p &&& k) n (and_lt8 k hp) hn W)
  have e0 : grantG k n (p : Int) = gr (p &&& k) n := by unfold grantG; rw [Int.toNat_natCast]
  rw [e0]
  generalize gr (p &&& k) n = r at *
  clear e0
  go_enter Try.func50, Try.ntmps50
  go_wp2_with fail
  refine (HG.out _).mono ?_
  rintro e w1 ⟨rfl, hb1⟩
  go_wp2_with fail
  go_ret
  exact ⟨rfl, hb1⟩
set_option maxHeartbeats 1600000 in
theorem grantF_any (v : Value) (l : List Int) (k n b c : Nat) (w : World) (hat : At intE v l w) (hl : l.length ≤ 1000000) (hok : ∀ p ∈ l, 0 ≤ p ∧ p ≤ 7) (hk8 : k < 8) (hn8 : n < 8)
    (h1 : w.cell? ⟨b, 0, none⟩ = some (.int .i64 (k : Int))) (h2 : w.cell? ⟨c, 0, none⟩ = some (.int .i64 (n : Int))) :
    Calls Try.prog 53 #[v, .func (.func 50) #[] #[.pointer (some ⟨b, 0, none⟩), .pointer (some ⟨c, 0, none⟩)]] w fun e w' => e = .returned (.int .i64 (idxP (grantG k n) l 0)) ∧ Below w.heap.size w w' := by
  obtain ⟨z, hz⟩ : ∃ z, l.length = z := ⟨_, rfl⟩
  obtain ⟨p, cap, rfl, hcap, hcell⟩ := int_look hat
  rw [hz] at hl hcap ⊢
  have Hcell := Lib.hid hcell
  have Hz := Lib.hid hz
  have Hok := Lib.hid hok
  have HP := Lib.hid (fun p W (hp : p < 8) (hb : Below w.heap.size w W) => grantC_any p k n b c W hp hk8 hn8 (cell_kept hb h1) (cell_kept hb h2))
  clear hcell hat hz hok h1 h2
  go_enter Try.func53, Try.ntmps53
  go_wp2_with fail
  go_loopw [8] (fun iv wr => ∃ i : Nat, iv = .int .i64 (i : Int) ∧ i ≤ z ∧ Below w.heap.size w wr ∧ Hid (idxP (grantG k n) l 0 = idxP (grantG k n) (l.drop i) i)) (fun iv _ => z - (intOf iv).toNat)
  case atStart => exact ⟨0, rfl, by omega, Below.refl _ _, Lib.hid (by simp)⟩
  case round =>
    obtain ⟨i, rfl, hi, hbl, HR⟩ := hrel
    rename_i wr
    by_cases hlt : i < z
    · have hlt' : decide ((i : Int) < (z : Int)) = true := decide_eq_true (by omega)
      have hlt2 : decide (i < z) = true := decide_eq_true hlt
      have hi' : i < l.length := by rw [Hz.out]; exact hlt
      obtain ⟨h, off, rfl, hg, c0⟩ := Hcell.out i hi'
      replace c0 := cell_kept hbl c0
      have HS := Lib.hid (idxP_drop (p := grantG k n) hi')
      have hq := Hok.out l[i] (List.getElem_mem hi')
      generalize l[i] = x at *
      obtain ⟨q, rfl⟩ : ∃ q : Nat, x = (q : Int) := ⟨x.toNat, by omega⟩
      have HQ := Lib.hid (HP.out q wr (by omega) hbl)
      cases hu : grantG k n (q : Int) with
      | true =>
        have HE := Lib.hid (show idxP (grantG k n) l 0 = (i : Int) by rw [HR.out, HS.out, if_pos hu])
        rw [hu] at HQ
        clear HR HS hu hq
        go_wp2_with fail
        refine (HQ.out).mono ?_
        rintro e w1 ⟨rfl, hb1⟩
        go_wp2_with fail
        go_ret
        exact ⟨by rw [HE.out]; rfl, by (repeat' (first | exact Below.refl _ _ | assumption | refine gr_drew ?_ | refine gr_drewN ?_ _ | refine gr_alloc ?_ _ | refine gr_set ?_ ?_ _ | refine gr_call ?_ (by assumption)) <;> (try (simp; done)) <;> (try (simp; omega)) <;> (try omega))⟩
      | false =>
        have HE := Lib.hid (show idxP (grantG k n) l 0 = idxP (grantG k n) (l.drop (i + 1)) (i + 1) by rw [HR.out, HS.out, if_neg (by rw [hu]; decide)])
        rw [hu] at HQ
        clear HR HS hu hq
        go_wp2_with fail
        refine (HQ.out).mono ?_
        rintro e w1 ⟨rfl, hb1⟩
        go_wp2_with fail
        go_roundw
        case rel => exact ⟨i + 1, rfl, by omega, by (repeat' (first | exact Below.refl _ _ | assumption | refine gr_drew ?_ | refine gr_drewN ?_ _ | refine gr_alloc ?_ _ | refine gr_set ?_ ?_ _ | refine gr_call ?_ (by assumption)) <;> (try (simp; done)) <;> (try (simp; omega)) <;> (try omega)), HE⟩
        case measure => simp only [intOf]; omega
    · have hlt' : decide ((i : Int) < (z : Int)) = false := decide_eq_false (by omega)
      have hlt2 : decide (i < z) = false := decide_eq_false hlt
      have HE := Lib.hid (show idxP (grantG k n) l 0 = -1 by rw [HR.out, idxP_end (by rw [Hz.out]; omega)])
      clear HR
      go_wp2_with fail
      go_ret
      exact ⟨by rw [HE.out]; rfl, by (repeat' (first | exact Below.refl _ _ | assumption | refine gr_drew ?_ | refine gr_drewN ?_ _ | refine gr_alloc ?_ _ | refine gr_set ?_ ?_ _ | refine gr_call ?_ (by assumption)) <;> (try (simp; done)) <;> (try (simp; omega)) <;> (try omega))⟩
theorem someGrants_any (v : Value) (l : List Int) (k n b c : Nat) (w : World) (hat : At intE v l w) (hl : l.length ≤ 1000000) (hok : ∀ p ∈ l, 0 ≤ p ∧ p ≤ 7) (hk8 : k < 8) (hn8 : n < 8)
    (h1 : w.cell? ⟨b, 0, none⟩ = some (.int .i64 (k : Int))) (h2 : w.cell? ⟨c, 0, none⟩ = some (.int .i64 (n : Int))) :
    Calls Try.prog 49 #[v, .func (.func 50) #[] #[.pointer (some ⟨b, 0, none⟩), .pointer (some ⟨c, 0, none⟩)]] w fun e w' => e = .returned (.bool (l.any (grantG k n))) ∧ Below w.heap.size w w' := by
  have hix := Lib.hid (grantF_any v l k n b c w hat hl hok hk8 hn8 h1 h2)
  rw [← idxP_any _ l 0]
  generalize idxP (grantG k n) l 0 = r at hix ⊢
  clear hat hl hok h1 h2
  go_enter Try.func49, Try.ntmps49
  go_wp2_with fail
  refine (hix.out).mono ?_
  rintro e w1 ⟨rfl, hb1⟩
  go_wp2_with fail
  go_ret
  exact ⟨rfl, hb1⟩
theorem anyGrants_any (v : Value) (l : List Int) (k n : Nat) (w : World) (hat : At intE v l w) (hl : l.length ≤ 1000000) (hok : ∀ p ∈ l, 0 ≤ p ∧ p ≤ 7) (hk8 : k < 8) (hn8 : n < 8) :
    Calls Try.prog 42 #[v, .int .i64 (k : Int), .int .i64 (n : Int)] w fun e w' => e = .returned (.bool (l.any (grantG k n))) ∧ Below w.heap.size w w' := by
  have hmf : ∀ (fn : Fn) (first cap : Array Value) (w : World), (Instr.makeFunc fn first cap).run Try.prog w = .ok (.func fn first cap) w := fun _ _ _ _ => rfl
  have hix := Lib.hid (someGrants_any v l k n w.heap.size (w.heap.size + 1) ((w.alloc (.cells #[.int .i64 (k : Int)] 3)).alloc (.cells #[.int .i64 (n : Int)] 3)) ((hat.alloc _).alloc _) hl hok hk8 hn8 (by simp [go_sem]) (by simp [go_sem]))
  generalize (l.any (grantG k n)) = r at hix ⊢
  clear hat hl hok
  go_enter Try.func42, Try.ntmps42
  go_wp2_with fail
  refine (hix.out).mono ?_
  rintro e w1 ⟨rfl, hb1⟩
  go_wp2_with fail
  go_ret
  exact ⟨rfl, by (repeat' (first | exact Below.refl _ _ | assumption | refine gr_drew ?_ | refine gr_drewN ?_ _ | refine gr_alloc ?_ _ | refine gr_set ?_ ?_ _ | refine gr_call ?_ (by assumption)) <;> (try (simp; done)) <;> (try (simp; omega)) <;> (try omega))⟩
end Go.Proofs.Ytpfidbcnefnhcaa
