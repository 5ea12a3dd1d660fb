/- Bundle of 4 texts. -/
import Derived.Test.YtbhnhoenjoagbaaGreatDoorPk14
import Derived.Test.YtbhnhoenjoagbaaGreatDoorPk21
import Derived.Test.YtbhnhoenjoagbaaGreatDoorPk18
import Derived.Test.YtbhnhoenjoagbaaGreatDoorChecked
import Derived.Deep.QuietTactic
import Derived.BigQuiet
import Derived.Outline
import Derived.Laws.Tables
import Derived.Recover
/- Walks over package acl: Same; and the document's answer of it. -/
namespace Go.Proofs.YtbhnhoenjoagbaaGreatDoor.AclW
open Go.RowKit
open AclM
set_option linter.unusedVariables false

def sameL (l m : List Ace) : Bool := decide (l = m)
theorem same_end {l m : List Ace} {i : Nat} (hl : l.length = m.length) (hi : l.length ≤ i) (h : l.take i = m.take i) : sameL l m = true := by
  rw [List.take_of_length_le hi, List.take_of_length_le (by omega)] at h
  exact decide_eq_true h
theorem same_not {l m : List Ace} {i : Nat} (h1 : i < l.length) (h2 : i < m.length) (h : l[i] ≠ m[i]) : sameL l m = false := by
  refine decide_eq_false ?_
  rintro rfl
  exact h rfl
theorem same_step {l m : List Ace} {i : Nat} (h1 : i < l.length) (h2 : i < m.length) (h : l.take i = m.take i) (he : l[i] = m[i]) : l.take (i + 1) = m.take (i + 1) := by
  rw [List.take_succ_eq_append_getElem h1, List.take_succ_eq_append_getElem h2, h, he]

set_option maxHeartbeats 1600000 in
theorem equal_any (v x : Value) (l m : List Ace) (w : World) (hat : At aceE v l w) (hax : At aceE x m w) (hl : l.length ≤ 1000000) (hm : m.length ≤ 1000000) :
    Calls Tryz.prog 208 #[v, x] w fun e w' => e = .returned (.bool (sameL l m)) ∧ Below w.heap.size w w' := by
  obtain ⟨p, cap, rfl, hcap, hcell⟩ := ace_look hat
  obtain ⟨p2, cap2, rfl, hcap2, hcell2⟩ := ace_look hax
  clear hat hax
  by_cases hlm : l.length = m.length
  · obtain ⟨z, hz⟩ : ∃ z, l.length = z := ⟨_, rfl⟩
    have hz2 : m.length = z := by omega
    rw [hz] at hl hcap ⊢
    rw [hz2] at hm hcap2 ⊢
    have Hcell := Lib.hid hcell
    have Hcell2 := Lib.hid hcell2
    have Hz := Lib.hid hz
    have Hz2 := Lib.hid hz2
    have hself : ((z : Int) == (z : Int)) = true := beq_self_eq_true _
    clear hcell hcell2 hz hz2 hlm
    go_enter Tryz.func208, Tryz.ntmps208
    go_wp2_with fail
    go_loopw [13] (fun iv wr => ∃ i : Nat, iv = .int .i64 (i : Int) ∧ i ≤ z ∧ Below w.heap.size w wr ∧ Hid (l.take i = m.take i)) (fun iv _ => z - (intOf iv).toNat)
    case atStart => exact ⟨0, rfl, by omega, Below.refl _ _, Lib.hid (by simp)⟩
    case round =>
      obtain ⟨i, rfl, hi, hbl, HR⟩ := hrel
      rename_i wr
      by_cases hlt : i < z
      · have hlt' : decide ((i : Int) < (z : Int)) = true := decide_eq_true (by omega)
        have hlt2 : decide (i < z) = true := decide_eq_true hlt
        have hi' : i < l.length := by rw [Hz.out]; exact hlt
        have hi2 : i < m.length := by rw [Hz2.out]; exact hlt
        obtain ⟨g, off, rfl, hg, c0, c1, c2⟩ := Hcell.out i hi'
        obtain ⟨g2, off2, rfl, hg2, d0, d1, d2⟩ := Hcell2.out i hi2
        replace c0 := cell_kept hbl c0
        replace c1 := cell_kept hbl c1
        replace c2 := cell_kept hbl c2
        replace d0 := cell_kept hbl d0
        replace d1 := cell_kept hbl d1
        replace d2 := cell_kept hbl d2
        have HN : Hid (l[i] ≠ m[i] → sameL l m = false) := Lib.hid (same_not hi' hi2)
        have HS : Hid (l[i] = m[i] → l.take (i + 1) = m.take (i + 1)) := Lib.hid (same_step hi' hi2 HR.out)
        generalize l[i] = a at *
        generalize m[i] = b at *
        clear HR
        obtain ⟨t, d, q⟩ := a
        obtain ⟨t', d', q'⟩ := b
        simp only at c0 c1 c2 d0 d1 d2
        by_cases hab : t = t' ∧ d = d' ∧ q = q'
        · obtain ⟨rfl, rfl, rfl⟩ := hab
          have HE := Lib.hid (HS.out rfl)
          have f1 : (t == t) = true := beq_self_eq_true t
          have f2 : (d == d) = true := beq_self_eq_true d
          have f3 : (q == q) = true := beq_self_eq_true q
          clear HS HN
          go_wp2_with fail
          go_region_held3 (fun w' => Below w.heap.size w w' ∧ w'.cell? ⟨g, off + i * 3, none⟩ = some (.int .i64 t) ∧ w'.cell? ⟨g, off + i * 3 + 1, none⟩ = some (.int .i64 d) ∧ w'.cell? ⟨g, off + i * 3 + 2, none⟩ = some (.int .i64 q) ∧ w'.cell? ⟨g2, off2 + i * 3, none⟩ = some (.int .i64 t) ∧ w'.cell? ⟨g2, off2 + i * 3 + 1, none⟩ = some (.int .i64 d) ∧ w'.cell? ⟨g2, off2 + i * 3 + 2, none⟩ = some (.int .i64 q))
            (first | (go_keep; done) | (go_split_ands; (repeat' apply And.intro) <;> (first | assumption | exact Amb.on (by assumption) hb1 | exact AmbB.on (by assumption) hb1 | exact gr_call (by assumption) hb1 | exact cell_kept hb1 (by assumption) | exact free_kept hb1 (by assumption) (by assumption) | (show Below _ _ _; (repeat' (first | exact Below.refl _ _ | assumption | refine gr_drew ?_ | refine gr_drewN ?_ _ | refine gr_alloc ?_ _ | refine gr_set ?_ ?_ _ | refine gr_call ?_ (by assumption)) <;> (try (simp; done)) <;> (try (simp; omega)) <;> (try omega)); done) | (go_keep; done) | (simp [go_sem, *]; done)))) (fail)
          go_split_ands
          go_wp2_with fail
          go_roundw
          case rel => exact ⟨i + 1, rfl, by omega, by (repeat' (first | exact Below.refl _ _ | assumption | refine gr_drew ?_ | refine gr_drewN ?_ _ | refine gr_alloc ?_ _ | refine gr_set ?_ ?_ _ | refine gr_call ?_ (by assumption)) <;> (try (simp; done)) <;> (try (simp; omega)) <;> (try omega)), HE⟩
          case measure => simp only [intOf]; omega
        · have HE := Lib.hid (HN.out (by intro e; injection e with e1 e2; injection e2 with e2 e3; exact hab ⟨e1, e2, e3⟩))
          have f : (t == t' && (d == d' && q == q')) = false := by
            rw [Bool.eq_false_iff]
            intro e
            simp only [Bool.and_eq_true, beq_iff_eq] at e
            exact hab ⟨e.1, e.2.1, e.2.2⟩
          clear HS HN
          by_cases e1 : t = t'
          · subst e1
            have f1 : (t == t) = true := beq_self_eq_true t
            by_cases e2 : d = d'
            · subst e2
              have f2 : (d == d) = true := beq_self_eq_true d
              have f3 : ¬ q = q' := fun e => hab ⟨rfl, rfl, e⟩
              clear f hab
              go_wp2_with fail
              go_region_held3 (fun w' => Below w.heap.size w w' ∧ w'.cell? ⟨g, off + i * 3, none⟩ = some (.int .i64 t) ∧ w'.cell? ⟨g, off + i * 3 + 1, none⟩ = some (.int .i64 d) ∧ w'.cell? ⟨g, off + i * 3 + 2, none⟩ = some (.int .i64 q) ∧ w'.cell? ⟨g2, off2 + i * 3, none⟩ = some (.int .i64 t) ∧ w'.cell? ⟨g2, off2 + i * 3 + 1, none⟩ = some (.int .i64 d) ∧ w'.cell? ⟨g2, off2 + i * 3 + 2, none⟩ = some (.int .i64 q'))
                (first | (go_keep; done) | (go_split_ands; (repeat' apply And.intro) <;> (first | assumption | exact Amb.on (by assumption) hb1 | exact AmbB.on (by assumption) hb1 | exact gr_call (by assumption) hb1 | exact cell_kept hb1 (by assumption) | exact free_kept hb1 (by assumption) (by assumption) | (show Below _ _ _; (repeat' (first | exact Below.refl _ _ | assumption | refine gr_drew ?_ | refine gr_drewN ?_ _ | refine gr_alloc ?_ _ | refine gr_set ?_ ?_ _ | refine gr_call ?_ (by assumption)) <;> (try (simp; done)) <;> (try (simp; omega)) <;> (try omega)); done) | (go_keep; done) | (simp [go_sem, *]; done)))) (fail)
              go_split_ands
              go_wp2_with fail
              go_ret
              exact ⟨by rw [HE.out]; rfl, by (repeat' (first | exact Below.refl _ _ | assumption | refine gr_drew ?_ | refine gr_drewN ?_ _ | refine gr_alloc ?_ _ | refine gr_set ?_ ?_ _ | refine gr_call ?_ (by assumption)) <;> (try (simp; done)) <;> (try (simp; omega)) <;> (try omega))⟩
            · clear f hab
              go_wp2_with fail
              go_region_held3 (fun w' => Below w.heap.size w w' ∧ w'.cell? ⟨g, off + i * 3, none⟩ = some (.int .i64 t) ∧ w'.cell? ⟨g, off + i * 3 + 1, none⟩ = some (.int .i64 d) ∧ w'.cell? ⟨g, off + i * 3 + 2, none⟩ = some (.int .i64 q) ∧ w'.cell? ⟨g2, off2 + i * 3, none⟩ = some (.int .i64 t) ∧ w'.cell? ⟨g2, off2 + i * 3 + 1, none⟩ = some (.int .i64 d') ∧ w'.cell? ⟨g2, off2 + i * 3 + 2, none⟩ = some (.int .i64 q'))
                (first | (go_keep; done) | (go_split_ands; (repeat' apply And.intro) <;> (first | assumption | exact Amb.on (by assumption) hb1 | exact AmbB.on (by assumption) hb1 | exact gr_call (by assumption) hb1 | exact cell_kept hb1 (by assumption) | exact free_kept hb1 (by assumption) (by assumption) | (show Below _ _ _; (repeat' (first | exact Below.refl _ _ | assumption | refine gr_drew ?_ | refine gr_drewN ?_ _ | refine gr_alloc ?_ _ | refine gr_set ?_ ?_ _ | refine gr_call ?_ (by assumption)) <;> (try (simp; done)) <;> (try (simp; omega)) <;> (try omega)); done) | (go_keep; done) | (simp [go_sem, *]; done)))) (fail)
              go_split_ands
              go_wp2_with fail
              go_ret
              exact ⟨by rw [HE.out]; rfl, by (repeat' (first | exact Below.refl _ _ | assumption | refine gr_drew ?_ | refine gr_drewN ?_ _ | refine gr_alloc ?_ _ | refine gr_set ?_ ?_ _ | refine gr_call ?_ (by assumption)) <;> (try (simp; done)) <;> (try (simp; omega)) <;> (try omega))⟩
          · clear f hab
            go_wp2_with fail
            go_region_held3 (fun w' => Below w.heap.size w w' ∧ w'.cell? ⟨g, off + i * 3, none⟩ = some (.int .i64 t) ∧ w'.cell? ⟨g, off + i * 3 + 1, none⟩ = some (.int .i64 d) ∧ w'.cell? ⟨g, off + i * 3 + 2, none⟩ = some (.int .i64 q) ∧ w'.cell? ⟨g2, off2 + i * 3, none⟩ = some (.int .i64 t') ∧ w'.cell? ⟨g2, off2 + i * 3 + 1, none⟩ = some (.int .i64 d') ∧ w'.cell? ⟨g2, off2 + i * 3 + 2, none⟩ = some (.int .i64 q'))
              (first | (go_keep; done) | (go_split_ands; (repeat' apply And.intro) <;> (first | assumption | exact Amb.on (by assumption) hb1 | exact AmbB.on (by assumption) hb1 | exact gr_call (by assumption) hb1 | exact cell_kept hb1 (by assumption) | exact free_kept hb1 (by assumption) (by assumption) | (show Below _ _ _; (repeat' (first | exact Below.refl _ _ | assumption | refine gr_drew ?_ | refine gr_drewN ?_ _ | refine gr_alloc ?_ _ | refine gr_set ?_ ?_ _ | refine gr_call ?_ (by assumption)) <;> (try (simp; done)) <;> (try (simp; omega)) <;> (try omega)); done) | (go_keep; done) | (simp [go_sem, *]; done)))) (fail)
            go_split_ands
            go_wp2_with fail
            go_ret
            exact ⟨by rw [HE.out]; rfl, by (repeat' (first | exact Below.refl _ _ | assumption | refine gr_drew ?_ | refine gr_drewN ?_ _ | refine gr_alloc ?_ _ | refine gr_set ?_ ?_ _ | refine gr_call ?_ (by assumption)) <;> (try (simp; done)) <;> (try (simp; omega)) <;> (try omega))⟩
      · have hlt' : decide ((i : Int) < (z : Int)) = false := decide_eq_false (by omega)
        have hlt2 : decide (i < z) = false := decide_eq_false hlt
        have HE := Lib.hid (same_end (by rw [Hz.out, Hz2.out]) (by rw [Hz.out]; omega) HR.out)
        clear HR
        go_wp2_with fail
        go_ret
        exact ⟨by rw [HE.out]; rfl, by (repeat' (first | exact Below.refl _ _ | assumption | refine gr_drew ?_ | refine gr_drewN ?_ _ | refine gr_alloc ?_ _ | refine gr_set ?_ ?_ _ | refine gr_call ?_ (by assumption)) <;> (try (simp; done)) <;> (try (simp; omega)) <;> (try omega))⟩
  · have hE : sameL l m = false := decide_eq_false (by rintro rfl; exact hlm rfl)
    rw [hE]
    have hne : ((l.length : Int) == (m.length : Int)) = false := beq_eq_false_iff_ne.2 (by omega)
    clear hcell hcell2 hE hlm
    generalize l.length = z at *
    generalize m.length = y at *
    go_enter Tryz.func208, Tryz.ntmps208
    go_wp2_with fail
    go_ret
    exact ⟨rfl, Below.refl _ _⟩

theorem same_any (v x : Value) (l m : List Ace) (w : World) (hat : At aceE v l w) (hax : At aceE x m w) (hl : l.length ≤ 1000000) (hm : m.length ≤ 1000000) :
    Calls Tryz.prog 159 #[v, x] w fun e w' => e = .returned (.bool (sameL l m)) ∧ Below w.heap.size w w' := by
  have h := Lib.hid (equal_any v x l m w hat hax hl hm)
  clear hat hax
  generalize sameL l m = b at *
  go_enter Tryz.func159, Tryz.ntmps159
  go_wp2_with fail
  refine (h.out).mono ?_
  rintro e w1 ⟨rfl, hb1⟩
  go_wp2_with fail
  go_ret
  exact ⟨rfl, hb1⟩
end Go.Proofs.YtbhnhoenjoagbaaGreatDoor.AclW

/- Metadata in memory; when two are one; nothing but three numbers. -/
namespace Go.Proofs.YtbhnhoenjoagbaaGreatDoor
open Go.RowKit
open MetaM
set_option linter.unusedVariables false

def metaC (m : Mt) (va vd vx : Value) : Array Value := #[.int .i64 m.mode, .int .i64 m.uid, .int .i64 m.gid, .int .i64 m.sec, .int .i64 m.nano, va, vd, vx, .int .i64 m.cap.v, .int .u64 (m.cap.p : Int), .int .u64 (m.cap.i : Int), .bool m.cap.e, .int .i64 m.cap.r, .int .i64 m.flags]
structure MetaAt (m : Mt) (va vd vx : Value) (w : World) : Prop where
  acl : At AclW.aceE va m.acl w
  dfl : At AclW.aceE vd m.dfl w
  xat : At XatW.xatE vx m.xat w
  la : m.acl.length ≤ 1000000
  ld : m.dfl.length ≤ 1000000
  lx : m.xat.length ≤ 1000000
theorem MetaAt.call {m : Mt} {va vd vx : Value} {w w1 : World} (h : MetaAt m va vd vx w) (hb : Below w.heap.size w w1) : MetaAt m va vd vx w1 := ⟨h.acl.call hb, h.dfl.call hb, h.xat.call hb, h.la, h.ld, h.lx⟩
def MetaM.sameM (a b : Mt) : Bool :=
  decide (a.mode = b.mode) && decide (a.uid = b.uid) && decide (a.gid = b.gid) && decide (a.sec = b.sec ∧ a.nano = b.nano) && AclW.sameL a.acl b.acl && AclW.sameL a.dfl b.dfl && decide (a.xat = b.xat) &&
    decide (a.cap.v = b.cap.v ∧ a.cap.p = b.cap.p ∧ a.cap.i = b.cap.i ∧ a.cap.e = b.cap.e ∧ a.cap.r = b.cap.r) && decide (a.flags = b.flags)
theorem blk_next (w : World) (o : Obj) (t : TypeId) (cs : Array Value) : BlkIs ((w.alloc o).alloc (.cells cs t)) (w.heap.size + 1) t cs := by
  have h := BlkIs.made (w.alloc o) t cs
  rw [show (w.alloc o).heap.size = w.heap.size + 1 by simp] at h
  exact h
def MetaM.plainM (a b c : Int) : Mt := ⟨a, b, c, 0, 0, [], [], [], ⟨0, 0, 0, false, 0⟩, 0⟩
def nilV : Value := .slice none 0 0
end Go.Proofs.YtbhnhoenjoagbaaGreatDoor

/- Package meta: its small functions, and those of stamp, flags, caps that it asks. -/
namespace Go.Proofs.YtbhnhoenjoagbaaGreatDoor
open Go.RowKit
open MetaM
set_option linter.unusedVariables false

def noMeta : List PanicEntry := [{ v := .iface 243 (.agg #[]), recovered := false }]
theorem must_yes (w : World) : Calls Tryz.prog 228 #[.bool true] w fun e w' => e = .returned (.tuple #[]) ∧ w' = w := by
  go_enter Tryz.func228, Tryz.ntmps228
  go_wp2_with fail
  exact ⟨rfl, .tuple #[], by first | rfl | simp [results, Tryz.results228, go_sem], rfl, rfl⟩
theorem must_no (w : World) : Calls Tryz.prog 228 #[.bool false] w fun e w' => e = .panicked noMeta ∧ w' = w := by
  go_enter Tryz.func228, Tryz.ntmps228
  go_wp2_with fail
  exact ⟨rfl, rfl, rfl⟩
theorem mayKind_any (k : Int) (w : World) : Calls Tryz.prog 229 #[.int .i64 k] w fun e w' => e = .returned (.bool (kindIn k)) ∧ w' = w := by
  go_enter Tryz.func229, Tryz.ntmps229
  go_wp2_with fail
  all_goals go_ret
  all_goals refine ⟨?_, rfl⟩
  all_goals show Ending.returned (.bool _) = _
  all_goals refine congrArg (fun b => Ending.returned (.bool b)) ?_
  all_goals unfold kindIn
  all_goals rw [Bool.eq_iff_iff]
  all_goals (simp <;> omega)
theorem mayId_any (n : Int) (w : World) : Calls Tryz.prog 230 #[.int .i64 n] w fun e w' => e = .returned (.bool (idOk n)) ∧ w' = w := by
  go_enter Tryz.func230, Tryz.ntmps230
  go_wp2_with fail
  all_goals go_ret
  all_goals refine ⟨?_, rfl⟩
  all_goals show Ending.returned (.bool _) = _
  all_goals (simp [idOk, *] <;> omega)
theorem goStamp_any (s n : Int) (w : World) : Calls Tryz.prog 217 #[.agg #[.int .i64 s, .int .i64 n]] w fun e w' => e = .returned (.bool (stampOk s n)) ∧ Below w.heap.size w w' := by
  go_enter Tryz.func217, Tryz.ntmps217
  go_wp2_with fail
  all_goals go_ret
  all_goals refine ⟨?_, by (repeat' (first | exact Below.refl _ _ | assumption | refine gr_drew ?_ | refine gr_drewN ?_ _ | refine gr_alloc ?_ _ | refine gr_set ?_ ?_ _ | refine gr_call ?_ (by assumption)) <;> (try (simp; done)) <;> (try (simp; omega)) <;> (try omega))⟩
  all_goals show Ending.returned (.bool _) = _
  all_goals (simp [stampOk, *] <;> omega)
theorem goFlags_any (n : Int) (w : World) : Calls Tryz.prog 138 #[.int .i64 n] w fun e w' => e = .returned (.bool (flagsOk n)) ∧ w' = w := by
  go_enter Tryz.func138, Tryz.ntmps138
  go_wp2_with fail
  all_goals go_ret
  all_goals refine ⟨?_, rfl⟩
  all_goals show Ending.returned (.bool _) = _
  all_goals (simp [flagsOk, *] <;> omega)
open CapsM in
set_option maxHeartbeats 800000 in
theorem goCaps_any (c : Cap) (w : World) :
    Calls Tryz.prog 141 #[capV c] w fun e w' => e = .returned (.bool (may c)) ∧ Below w.heap.size w w' := by
  obtain ⟨v, p, i, e, r⟩ := c
  unfold capV
  simp only
  by_cases h0 : v = 0
  · subst h0
    have HE := Lib.hid (show may ⟨0, p, i, e, r⟩ = decide (p = 0 ∧ i = 0 ∧ e = false ∧ r = 0) from rfl)
    go_enter Tryz.func141, Tryz.ntmps141
    go_wp2_with fail
    all_goals go_ret
    all_goals refine ⟨?_, by (repeat' (first | exact Below.refl _ _ | assumption | refine gr_drew ?_ | refine gr_drewN ?_ _ | refine gr_alloc ?_ _ | refine gr_set ?_ ?_ _ | refine gr_call ?_ (by assumption)) <;> (try (simp; done)) <;> (try (simp; omega)) <;> (try omega))⟩
    all_goals rw [HE.out]
    all_goals show Ending.returned (.bool _) = _
    all_goals simp [*]
  have t0 : (v == 0) = false := by simpa using h0
  by_cases h2 : v = 2
  · subst h2
    have HE := Lib.hid (show may ⟨2, p, i, e, r⟩ = decide (r = 0) from rfl)
    clear t0 h0
    by_cases hr : r = 0
    · have t1 : (r == 0) = true := by simpa using hr
      have HF := Lib.hid (HE.out.trans (decide_eq_true hr))
      clear HE hr
      go_enter Tryz.func141, Tryz.ntmps141
      go_wp2_with fail
      go_ret
      exact ⟨by rw [HF.out]; rfl, by (repeat' (first | exact Below.refl _ _ | assumption | refine gr_drew ?_ | refine gr_drewN ?_ _ | refine gr_alloc ?_ _ | refine gr_set ?_ ?_ _ | refine gr_call ?_ (by assumption)) <;> (try (simp; done)) <;> (try (simp; omega)) <;> (try omega))⟩
    · have t1 : (r == 0) = false := by simpa using hr
      have HF := Lib.hid (HE.out.trans (decide_eq_false hr))
      clear HE hr
      go_enter Tryz.func141, Tryz.ntmps141
      go_wp2_with fail
      go_ret
      exact ⟨by rw [HF.out]; rfl, by (repeat' (first | exact Below.refl _ _ | assumption | refine gr_drew ?_ | refine gr_drewN ?_ _ | refine gr_alloc ?_ _ | refine gr_set ?_ ?_ _ | refine gr_call ?_ (by assumption)) <;> (try (simp; done)) <;> (try (simp; omega)) <;> (try omega))⟩
  have t2 : (v == 2) = false := by simpa using h2
  by_cases h3 : v = 3
  · subst h3
    have HE := Lib.hid (show may ⟨3, p, i, e, r⟩ = decide (0 ≤ r ∧ r ≤ 2147483647) from rfl)
    clear t0 t2 h0 h2
    by_cases hr : 0 ≤ r
    · by_cases hs : r ≤ 2147483647
      · have t1 : decide (0 ≤ r) = true := decide_eq_true hr
        have t3 : decide (r ≤ 2147483647) = true := decide_eq_true hs
        have HF := Lib.hid (HE.out.trans (decide_eq_true ⟨hr, hs⟩))
        clear HE
        go_enter Tryz.func141, Tryz.ntmps141
        go_wp2_with fail
        go_ret
        exact ⟨by rw [HF.out]; rfl, by (repeat' (first | exact Below.refl _ _ | assumption | refine gr_drew ?_ | refine gr_drewN ?_ _ | refine gr_alloc ?_ _ | refine gr_set ?_ ?_ _ | refine gr_call ?_ (by assumption)) <;> (try (simp; done)) <;> (try (simp; omega)) <;> (try omega))⟩
      · have t1 : decide (0 ≤ r) = true := decide_eq_true hr
        have t3 : decide (r ≤ 2147483647) = false := decide_eq_false hs
        have HF := Lib.hid (HE.out.trans (decide_eq_false (fun h => hs h.2)))
        clear HE
        go_enter Tryz.func141, Tryz.ntmps141
        go_wp2_with fail
        go_ret
        exact ⟨by rw [HF.out]; rfl, by (repeat' (first | exact Below.refl _ _ | assumption | refine gr_drew ?_ | refine gr_drewN ?_ _ | refine gr_alloc ?_ _ | refine gr_set ?_ ?_ _ | refine gr_call ?_ (by assumption)) <;> (try (simp; done)) <;> (try (simp; omega)) <;> (try omega))⟩
    · have t1 : decide (0 ≤ r) = false := decide_eq_false hr
      have HF := Lib.hid (HE.out.trans (decide_eq_false (fun h => hr h.1)))
      clear HE
      go_enter Tryz.func141, Tryz.ntmps141
      go_wp2_with fail
      go_ret
      exact ⟨by rw [HF.out]; rfl, by (repeat' (first | exact Below.refl _ _ | assumption | refine gr_drew ?_ | refine gr_drewN ?_ _ | refine gr_alloc ?_ _ | refine gr_set ?_ ?_ _ | refine gr_call ?_ (by assumption)) <;> (try (simp; done)) <;> (try (simp; omega)) <;> (try omega))⟩
  have t3 : (v == 3) = false := by simpa using h3
  have HF := Lib.hid (show may ⟨v, p, i, e, r⟩ = false by unfold may; simp only; rw [if_neg h0, if_neg h2, if_neg h3])
  clear h0 h2 h3
  go_enter Tryz.func141, Tryz.ntmps141
  go_wp2_with fail
  go_ret
  exact ⟨by rw [HF.out]; rfl, by (repeat' (first | exact Below.refl _ _ | assumption | refine gr_drew ?_ | refine gr_drewN ?_ _ | refine gr_alloc ?_ _ | refine gr_set ?_ ?_ _ | refine gr_call ?_ (by assumption)) <;> (try (simp; done)) <;> (try (simp; omega)) <;> (try omega))⟩

theorem AclW.may_ok {l : List AclM.Ace} (h : AclM.may l = true) : ∀ a ∈ l, AclM.okPart a = true := by
  have h1 : (l.all AclM.okPart) = true := by
    unfold AclM.may at h
    simp only [Bool.and_eq_true] at h
    first | exact h.1.1.2 | exact h.1.2.1 | exact h.2.1.1 | exact h.2.1
  exact fun a ha => List.all_eq_true.1 h1 a ha
theorem and_511 (n : Int) : bits .and .i64 n 511 = n % 512 := by
  have key : (BitVec.ofInt 64 n &&& BitVec.ofInt 64 511).toNat = (n % ((2 ^ 64 : Nat) : Int)).toNat % 2 ^ 9 := by
    rw [BitVec.toNat_and, BitVec.toNat_ofInt, show (BitVec.ofInt 64 511).toNat = 2 ^ 9 - 1 by decide, Nat.and_two_pow_sub_one_eq_mod]
  show IntKind.i64.wrap ((BitVec.ofInt 64 n &&& BitVec.ofInt 64 511).toNat : Int) = _
  rw [key, IntKind.wrap_i64]
  omega
attribute [local irreducible] Row At

set_option maxHeartbeats 1600000 in
theorem mayAcl_any (v : Value) (l : List AclM.Ace) (mode : Int) (w : World) (hat : At AclW.aceE v l w) (hl : l.length ≤ 1000000) :
    Calls Tryz.prog 231 #[v, .int .i64 mode] w fun e w' => e = .returned (.bool (aclOk l mode)) ∧ Below w.heap.size w w' := by
  have H1 := Lib.hid (AclW.may_any v l w hat hl)
  have H2 := Lib.hid (fun W (hb : Below w.heap.size w W) (h : AclM.may l = true) => AclW.mode_any v l W (hat.call hb) hl (AclW.may_ok h))
  have H5 := and_511 mode
  have HE := Lib.hid (show aclOk l mode = (decide (l.length = 0) || (AclM.may l && decide (AclW.modeL l = mode % 512))) from rfl)
  obtain ⟨r, hr⟩ : ∃ r, aclOk l mode = r := ⟨_, rfl⟩
  rw [hr] at HE ⊢
  obtain ⟨p, c, rfl, hc⟩ := hat.shape
  obtain ⟨n, hn⟩ : ∃ n, l.length = n := ⟨_, rfl⟩
  rw [hn] at H1 H2 HE hc ⊢
  obtain ⟨M, hM⟩ : ∃ M, AclW.modeL l = M := ⟨_, rfl⟩
  rw [hM] at H2 HE
  obtain ⟨N, hN⟩ : ∃ N, mode % 512 = N := ⟨_, rfl⟩
  rw [hN] at H5 HE
  clear hat hn hr hM hN hl
  by_cases h0 : n = 0
  · have e1 : ((n : Int) == 0) = true := by rw [h0]; rfl
    have HF := Lib.hid (show r = true by rw [HE.out, decide_eq_true h0]; rfl)
    clear HE H1 H2 h0
    go_enter Tryz.func231, Tryz.ntmps231
    go_wp2_with fail
    go_ret
    exact ⟨ret_bool HF.out.symm, Below.refl _ _⟩
  have e1 : ((n : Int) == 0) = false := by rw [beq_eq_false_iff_ne]; omega
  rcases hb : AclM.may l with _ | _
  · have HF := Lib.hid (show r = false by rw [HE.out, decide_eq_false h0, hb]; rfl)
    rw [hb] at H1
    clear HE H2 h0 hb
    go_enter Tryz.func231, Tryz.ntmps231
    go_wp2_with fail
    refine (H1.out).mono ?_
    rintro e w1 ⟨rfl, hb1⟩
    go_wp2_with fail
    go_ret
    exact ⟨ret_bool HF.out.symm, hb1⟩
  · have HF := Lib.hid (show r = decide (M = N) by rw [HE.out, decide_eq_false h0, hb]; rfl)
    rw [hb] at H1
    have H3 := Lib.hid (fun W h => H2.out W h hb)
    clear HE H2 h0 hb
    go_enter Tryz.func231, Tryz.ntmps231
    go_wp2_with fail
    refine (H1.out).mono ?_
    rintro e w1 ⟨rfl, hb1⟩
    go_wp2_with fail
    refine (H3.out _ hb1).mono ?_
    rintro e w2 ⟨rfl, hb2⟩
    have hb3 := gr_call hb1 hb2
    go_wp2_with fail
    go_ret
    refine ⟨ret_bool ?_, hb3⟩
    rw [HF.out]
    rfl
set_option maxHeartbeats 1600000 in
theorem mayDefault_any (v : Value) (l : List AclM.Ace) (k : Int) (w : World) (hat : At AclW.aceE v l w) (hl : l.length ≤ 1000000) :
    Calls Tryz.prog 232 #[v, .int .i64 k] w fun e w' => e = .returned (.bool (dflOk l k)) ∧ Below w.heap.size w w' := by
  have H1 := Lib.hid (AclW.may_any v l w hat hl)
  have HE := Lib.hid (show dflOk l k = (decide (l.length = 0) || (decide (k = 6) && AclM.may l)) from rfl)
  obtain ⟨r, hr⟩ : ∃ r, dflOk l k = r := ⟨_, rfl⟩
  rw [hr] at HE ⊢
  obtain ⟨p, c, rfl, hc⟩ := hat.shape
  obtain ⟨n, hn⟩ : ∃ n, l.length = n := ⟨_, rfl⟩
  rw [hn] at H1 HE hc ⊢
  generalize AclM.may l = b at *
  clear hat hn hr hl
  by_cases h0 : n = 0
  · have e1 : ((n : Int) == 0) = true := by rw [h0]; rfl
    have HF := Lib.hid (show r = true by rw [HE.out, decide_eq_true h0]; rfl)
    clear HE H1 h0
    go_enter Tryz.func232, Tryz.ntmps232
    go_wp2_with fail
    go_ret
    exact ⟨ret_bool HF.out.symm, Below.refl _ _⟩
  have e1 : ((n : Int) == 0) = false := by rw [beq_eq_false_iff_ne]; omega
  by_cases h6 : k = 6
  · have e2 : (k == 6) = true := by rw [h6]; rfl
    have HF := Lib.hid (show r = b by rw [HE.out, decide_eq_false h0, decide_eq_true h6]; cases b <;> rfl)
    clear HE h0 h6
    go_enter Tryz.func232, Tryz.ntmps232
    go_wp2_with fail
    refine (H1.out).mono ?_
    rintro e w1 ⟨rfl, hb1⟩
    go_wp2_with fail
    go_ret
    exact ⟨ret_bool HF.out.symm, hb1⟩
  · have e2 : (k == 6) = false := by rw [beq_eq_false_iff_ne]; exact h6
    have HF := Lib.hid (show r = false by rw [HE.out, decide_eq_false h0, decide_eq_false h6]; cases b <;> rfl)
    clear HE H1 h0 h6
    go_enter Tryz.func232, Tryz.ntmps232
    go_wp2_with fail
    go_ret
    exact ⟨ret_bool HF.out.symm, Below.refl _ _⟩
end Go.Proofs.YtbhnhoenjoagbaaGreatDoor

/- slices.Equal of two lists of names with values; package xattr's Same. -/
namespace Go.Proofs.YtbhnhoenjoagbaaGreatDoor.XatW
open Go.RowKit
open XatM
set_option linter.unusedVariables false
attribute [local irreducible] Row At

set_option maxHeartbeats 1600000 in
theorem equal_any (va vb : Value) (a b : List Xa) (w : World) (ha : At xatE va a w) (hb : At xatE vb b w) (hl : a.length ≤ 1000000) (hl2 : b.length ≤ 1000000) :
    Calls Tryz.prog 209 #[va, vb] w fun e w' => e = .returned (.bool (decide (a = b))) ∧ Below w.heap.size w w' := by
  obtain ⟨pa, ca, rfl, hca, hja⟩ := two_look xat_two ha
  obtain ⟨pb, cb, rfl, hcb, hjb⟩ := two_look xat_two hb
  by_cases hlen : a.length = b.length
  · have hne : ((a.length : Int) != (b.length : Int)) = false := by rw [hlen]; simp
    obtain ⟨n, hn⟩ : ∃ n, a.length = n := ⟨_, rfl⟩
    have hn2 : b.length = n := by rw [← hlen, hn]
    have HA := Lib.hid hja
    have HB := Lib.hid hjb
    have HN := Lib.hid hn
    have HN2 := Lib.hid hn2
    rw [hn] at hca hl ⊢
    rw [hn2] at hcb ⊢
    obtain ⟨r, hr⟩ : ∃ r, decide (a = b) = r := ⟨_, rfl⟩
    have Hr := Lib.hid hr
    rw [hr]
    clear hne hlen hja hjb hn hn2 ha hb hr hl2
    go_enter Tryz.func209, Tryz.ntmps209
    go_wp2_with fail
    go_loopw [13] (fun iv wr => ∃ i : Nat, iv = .int .i64 (i : Int) ∧ i ≤ n ∧ Below w.heap.size w wr ∧ Hid (a.take i = b.take i)) (fun iv _ => n - (intOf iv).toNat)
    case atStart => exact ⟨0, rfl, by omega, Below.refl _ _, Lib.hid (by simp)⟩
    case round =>
      obtain ⟨i, rfl, hi, hbl, HT⟩ := hrel
      rename_i wr
      by_cases hlt : i < n
      · have hlt' : decide ((i : Int) < (n : Int)) = true := decide_eq_true (by omega)
        have hlt2 : decide (i < n) = true := decide_eq_true hlt
        have hia : i < a.length := by rw [HN.out]; exact hlt
        have hib : i < b.length := by rw [HN2.out]; exact hlt
        obtain ⟨ga, oa, rfl, hga, ta⟩ := HA.out i hia
        obtain ⟨gb, ob, rfl, hgb, tb⟩ := HB.out i hib
        obtain ⟨ca0, ca1⟩ := ta.kept hbl
        obtain ⟨cb0, cb1⟩ := tb.kept hbl
        obtain ⟨ra, hra⟩ : ∃ r, a[i] = r := ⟨_, rfl⟩
        obtain ⟨rb, hrb⟩ : ∃ r, b[i] = r := ⟨_, rfl⟩
        rw [hra] at ca0 ca1
        rw [hrb] at cb0 cb1
        obtain ⟨ka, va⟩ := ra
        obtain ⟨kb, vb⟩ := rb
        simp only at ca0 ca1 cb0 cb1
        have i0 : (0 : Int) ≤ (i : Int) := by omega
        have i1 : (i : Int) < (n : Int) := by omega
        clear ta tb
        by_cases hk : ka = kb
        · subst hk
          by_cases hv : va = vb
          · subst hv
            have HT2 := Lib.hid (show a.take (i + 1) = b.take (i + 1) by
              rw [List.take_succ_eq_append_getElem hia, List.take_succ_eq_append_getElem hib, HT.out, hra, hrb])
            clear hra hrb HT hia hib
            go_wp2_with fail
            go_region
            go_wp2_with fail
            go_roundw
            case rel => exact ⟨i + 1, by go_num, by omega, by (repeat' (first | exact Below.refl _ _ | assumption | refine gr_drew ?_ | refine gr_drewN ?_ _ | refine gr_alloc ?_ _ | refine gr_set ?_ ?_ _ | refine gr_call ?_ (by assumption)) <;> (try (simp; done)) <;> (try (simp; omega)) <;> (try omega)), HT2⟩
            case measure => simp only [intOf]; omega
          · have hv' := strOf_ne hv
            have Hq := Lib.hid (show r = false by
              rw [← Hr.out, decide_eq_false_iff_not]
              intro h; subst h; rw [hra] at hrb
              exact hv (congrArg Prod.snd hrb))
            clear hra hrb HT hia hib hv
            go_wp2_with fail
            go_region
            go_wp2_with fail
            go_ret
            exact ⟨ret_bool Hq.out.symm, by (repeat' (first | exact Below.refl _ _ | assumption | refine gr_drew ?_ | refine gr_drewN ?_ _ | refine gr_alloc ?_ _ | refine gr_set ?_ ?_ _ | refine gr_call ?_ (by assumption)) <;> (try (simp; done)) <;> (try (simp; omega)) <;> (try omega))⟩
        · have hk' := strOf_ne hk
          have Hq := Lib.hid (show r = false by
            rw [← Hr.out, decide_eq_false_iff_not]
            intro h; subst h; rw [hra] at hrb
            exact hk (congrArg Prod.fst hrb))
          clear hra hrb HT hia hib hk
          go_wp2_with fail
          go_region
          go_wp2_with fail
          go_ret
          exact ⟨ret_bool Hq.out.symm, by (repeat' (first | exact Below.refl _ _ | assumption | refine gr_drew ?_ | refine gr_drewN ?_ _ | refine gr_alloc ?_ _ | refine gr_set ?_ ?_ _ | refine gr_call ?_ (by assumption)) <;> (try (simp; done)) <;> (try (simp; omega)) <;> (try omega))⟩
      · have hlt' : decide ((i : Int) < (n : Int)) = false := decide_eq_false (by omega)
        have hlt2 : decide (i < n) = false := decide_eq_false hlt
        have Hq := Lib.hid (show r = true by
          rw [← Hr.out, decide_eq_true_eq]
          have := HT.out
          rw [List.take_of_length_le (by rw [HN.out]; omega), List.take_of_length_le (by rw [HN2.out]; omega)] at this
          exact this)
        clear hlt
        go_wp2_with fail
        go_ret
        exact ⟨ret_bool Hq.out.symm, hbl⟩
  · have hne : ((a.length : Int) != (b.length : Int)) = true := by rw [bne_iff_ne]; omega
    rw [decide_eq_false (fun h => hlen (by rw [h]))]
    clear hlen
    go_enter Tryz.func209, Tryz.ntmps209
    go_wp2_with fail
    go_ret
    exact ⟨rfl, Below.refl _ _⟩

theorem SameX_go (va vb : Value) (a b : List Xa) (w : World) (ha : At xatE va a w) (hb : At xatE vb b w) (hl : a.length ≤ 1000000) (hl2 : b.length ≤ 1000000) :
    Calls Tryz.prog 160 #[va, vb] w fun e w' => e = .returned (.bool (decide (a = b))) ∧ Below w.heap.size w w' := by
  have H := Lib.hid (equal_any va vb a b w ha hb hl hl2)
  clear ha hb hl hl2
  go_enter Tryz.func160, Tryz.ntmps160
  go_wp2_with (go_at_call 209; refine H.out.mono ?_; rintro e w1 ⟨rfl, hb⟩)
  go_ret
  exact ⟨rfl, hb⟩
end Go.Proofs.YtbhnhoenjoagbaaGreatDoor.XatW
