/- The document's answer: who can, walked. -/
import Derived.Test.YtpfidbcnefnhcaaPk04
namespace Go.Proofs.Ytpfidbcnefnhcaa
open Go.RowKit
open MetaM RightM AclM
set_option linter.unusedVariables false
structure CanSt (w : World) (B : Nat) (mu mg cu cg : Int) (gv : Value) (pw : Int) (W : World) : Prop where
  below : Below w.heap.size w W
  k1 : W.cell? ⟨B, 1, none⟩ = some (.int .i64 mu)
  k2 : W.cell? ⟨B, 2, none⟩ = some (.int .i64 mg)
  c0 : W.cell? ⟨B + 1, 0, none⟩ = some (.int .i64 cu)
  c1 : W.cell? ⟨B + 1, 1, none⟩ = some (.int .i64 cg)
  c2 : W.cell? ⟨B + 1, 2, none⟩ = some gv
  c3 : W.cell? ⟨B + 1, 3, none⟩ = some (.int .i64 pw)
theorem CanSt.call {w : World} {B : Nat} {mu mg cu cg : Int} {gv : Value} {pw : Int} {W W' : World} (h : CanSt w B mu mg cu cg gv pw W) (hb : Below W.heap.size W W') : CanSt w B mu mg cu cg gv pw W' :=
  ⟨gr_call h.below hb, cell_kept hb h.k1, cell_kept hb h.k2, cell_kept hb h.c0, cell_kept hb h.c1, cell_kept hb h.c2, cell_kept hb h.c3⟩
theorem user_drop {l : List Ace} {k : Nat} (h : k < l.length) (u : Int) : userM (l.drop k) u = if l[k].1 = 2 ∧ l[k].2.1 = u then some l[k] else userM (l.drop (k + 1)) u := by
  unfold userM
  rw [List.drop_eq_getElem_cons h, List.find?_cons]
  by_cases h1 : l[k].1 = 2 ∧ l[k].2.1 = u
  · rw [if_pos h1, decide_eq_true h1.1, decide_eq_true h1.2]; rfl
  · rw [if_neg h1]
    have : (decide (l[k].1 = 2) && decide (l[k].2.1 = u)) = false := by
      rw [Bool.and_eq_false_iff, decide_eq_false_iff_not, decide_eq_false_iff_not]
      by_cases h2 : l[k].1 = 2
      · exact .inr fun h3 => h1 ⟨h2, h3⟩
      · exact .inl h2
    rw [this]
theorem user_end {l : List Ace} {k : Nat} (h : l.length ≤ k) (u : Int) : userM (l.drop k) u = none := by rw [List.drop_eq_nil_of_le h]; rfl
def leftG (G : Ace → Bool) (l : List Ace) (w : Nat) (km ko : Bool) (b : Bool) (k : Nat) : Bool :=
  if (b || (l.drop k).any G) = true then ((l.drop k).any fun a => G a && gr a.2.2.toNat w) && km else ko
theorem left_not {G : Ace → Bool} {l : List Ace} {k : Nat} (h : k < l.length) {w : Nat} {km ko b : Bool} (hg : G l[k] = false) : leftG G l w km ko b k = leftG G l w km ko b (k + 1) := by
  unfold leftG
  rw [List.drop_eq_getElem_cons h, List.any_cons, List.any_cons, hg, Bool.false_or, Bool.false_and, Bool.false_or]
theorem left_yes {G : Ace → Bool} {l : List Ace} {k : Nat} (h : k < l.length) {w : Nat} {km ko b : Bool} (hg : G l[k] = true) (hr : (gr l[k].2.2.toNat w && km) = true) : leftG G l w km ko b k = true := by
  unfold leftG
  rw [List.drop_eq_getElem_cons h, List.any_cons, List.any_cons, hg]
  rw [Bool.and_eq_true] at hr
  rw [hr.1, hr.2]
  simp
theorem left_on {G : Ace → Bool} {l : List Ace} {k : Nat} (h : k < l.length) {w : Nat} {km ko b : Bool} (hg : G l[k] = true) (hr : (gr l[k].2.2.toNat w && km) = false) : leftG G l w km ko b k = leftG G l w km ko true (k + 1) := by
  unfold leftG
  rw [List.drop_eq_getElem_cons h, List.any_cons, List.any_cons, hg]
  rw [if_pos (by simp), if_pos (by simp), Bool.true_and]
  generalize ((l.drop (k + 1)).any fun a => G a && gr a.2.2.toNat w) = r
  generalize gr l[k].2.2.toNat w = y at hr ⊢
  cases y <;> cases km <;> cases r <;> simp_all
theorem gr_cmp (p n : Nat) : gr p n = (((p &&& n : Nat) : Int) == (n : Int)) := by
  unfold gr
  rw [← int_beq]
  by_cases h : p &&& n = n
  · rw [decide_eq_true h, decide_eq_true (by omega)]
  · rw [decide_eq_false h, decide_eq_false (by omega)]
theorem left_end {G : Ace → Bool} {l : List Ace} {k : Nat} (h : l.length ≤ k) {w : Nat} {km ko b : Bool} : leftG G l w km ko b k = (!b && ko) := by
  unfold leftG
  rw [List.drop_eq_nil_of_le h]
  cases b <;> simp
attribute [local irreducible] Row At

set_option maxHeartbeats 6400000 in
set_option maxRecDepth 100000 in
theorem refCan_any (m : Mt) (va vd vx : Value) (c : Cr) (gv : Value) (want : Int) (w : World) (hat : At AclW.aceE va m.acl w) (hl0 : m.acl.length ≤ 1000000) (hok : okL m) (hmd : InRange m.mode) (hc : CredAt c gv w) :
    Calls Try.prog 15 #[.agg (metaC m va vd vx), .agg (credC c gv), .int .i64 want] w fun e w' => e = .returned (.bool (canM m c want)) ∧ Below w.heap.size w w' := by
  by_cases h0 : want < 0
  · rw [can_out m c (.inl h0)]
    have e1 : decide (want < 0) = true := decide_eq_true h0
    unfold metaC credC
    clear hat hok hmd hc h0
    go_enter Try.func15, Try.ntmps15
    go_wp2_with fail
    go_ret
    exact ⟨by rfl, by (repeat' (first | exact Below.refl _ _ | assumption | refine gr_drew ?_ | refine gr_drewN ?_ _ | refine gr_alloc ?_ _ | refine gr_set ?_ ?_ _ | refine gr_call ?_ (by assumption)) <;> (try (simp; done)) <;> (try (simp; omega)) <;> (try omega))⟩
  by_cases h7 : 7 < want
  · rw [can_out m c (.inr h7)]
    have e1 : decide (want < 0) = false := decide_eq_false h0
    have e2 : decide (7 < want) = true := decide_eq_true h7
    unfold metaC credC
    clear hat hok hmd hc h0 h7
    go_enter Try.func15, Try.ntmps15
    go_wp2_with fail
    go_ret
    exact ⟨by rfl, by (repeat' (first | exact Below.refl _ _ | assumption | refine gr_drew ?_ | refine gr_drewN ?_ _ | refine gr_alloc ?_ _ | refine gr_set ?_ ?_ _ | refine gr_call ?_ (by assumption)) <;> (try (simp; done)) <;> (try (simp; omega)) <;> (try omega))⟩
  obtain ⟨n, rfl⟩ : ∃ n : Nat, want = (n : Int) := ⟨want.toNat, by omega⟩
  have hn : n < 8 := by omega
  have d0 : decide ((n : Int) < 0) = false := decide_eq_false (by omega)
  have d7 : decide ((7 : Int) < (n : Int)) = false := decide_eq_false (by omega)
  have d8 : decide (7 < n) = false := decide_eq_false (by omega)
  clear h0 h7
  rw [can_nat m c hn]
  have HH := Lib.hid (fun W => refHas_any c gv 2 W)
  rw [has_all c] at HH
  obtain ⟨B, hB⟩ : ∃ B, w.heap.size = B := ⟨_, rfl⟩
  obtain ⟨W, hW⟩ : ∃ W, (w.alloc (.cells #[.int .i64 m.mode, .int .i64 m.uid, .int .i64 m.gid, .int .i64 m.sec, .int .i64 m.nano, va, vd, vx, .int .i64 m.cap.v, .int .u64 (m.cap.p : Int), .int .u64 (m.cap.i : Int), .bool m.cap.e, .int .i64 m.cap.r, .int .i64 m.flags] 30)).alloc (.cells #[.int .i64 c.uid, .int .i64 c.gid, gv, .int .i64 c.powers] 33) = W := ⟨_, rfl⟩
  have hst : CanSt w B m.uid m.gid c.uid c.gid gv c.powers W := by
    rw [← hW, ← hB]
    refine ⟨by (repeat' (first | exact Below.refl _ _ | assumption | refine gr_drew ?_ | refine gr_drewN ?_ _ | refine gr_alloc ?_ _ | refine gr_set ?_ ?_ _ | refine gr_call ?_ (by assumption)) <;> (try (simp; done)) <;> (try (simp; omega)) <;> (try omega)), ?_, ?_, ?_, ?_, ?_, ?_⟩ <;> simp [go_sem]
  have hblk : BlkIs W B 30 #[.int .i64 m.mode, .int .i64 m.uid, .int .i64 m.gid, .int .i64 m.sec, .int .i64 m.nano, va, vd, vx, .int .i64 m.cap.v, .int .u64 (m.cap.p : Int), .int .u64 (m.cap.i : Int), .bool m.cap.e, .int .i64 m.cap.r, .int .i64 m.flags] := by rw [← hW, ← hB]; exact (BlkIs.made _ _ _).alloc _
  have y0 := hst.c0
  have y1 := hst.c1
  have y2 := hst.c2
  have y3 := hst.c3
  by_cases ha : hasAll c = true
  · rw [if_pos ha]
    rw [ha] at HH
    unfold credC at HH ⊢
    unfold metaC
    clear hat hok hmd hc ha hblk
    go_enter Try.func15, Try.ntmps15
    go_wp2_with (first | (go_at_call 28; refine (HH.out _).mono ?_; rintro e w1 ⟨rfl, hb1⟩))
    go_ret
    exact ⟨by rfl, gr_call hst.below hb1⟩
  rw [if_neg ha]
  rw [Bool.eq_false_iff.2 ha] at HH
  have HL := Lib.hid (fun W (hb : Below w.heap.size w W) => refList_any m va vd vx W (hat.call hb) hl0 hmd)
  have HI := Lib.hid (fun W (hb : Below w.heap.size w W) (g : Int) => refIn_any c gv g W (hc.call hb))
  have hL := LOk.of hok
  generalize listM m = L at *
  have HP := Lib.hid (fun (v : Value) (t : Int) W (ht : At AclW.aceE v L W) => AclW.refPerm_any v L t W ht (by have := hL.len; omega))
  clear hat hok hmd ha hc hl0
  unfold credC at HH HI ⊢
  unfold metaC at HL ⊢
  by_cases hu : m.uid = c.uid
  · rw [if_pos hu]
    have eu : (m.uid == c.uid) = true := beq_iff_eq.2 hu
    obtain ⟨hp, hp8⟩ := hL.nat hL.own
    have HP1 := Lib.hid (fun v W ht => HP.out v 1 W ht)
    rw [hp] at HP1
    have a1 := and8 (permM L 1) n hp8 hn
    have HR := Lib.hid (gr_cmp (permM L 1) n)
    generalize gr (permM L 1) n = R at *
    generalize permM L 1 = P1 at *
    generalize P1 &&& n = q at *
    generalize hqn : ((q : Int) == (n : Int)) = R2 at HR
    clear hu hp hL HI HP
    have k0 := hblk.cell_some 0 _ rfl; have k1 := hblk.cell_some 1 _ rfl; have k2 := hblk.cell_some 2 _ rfl; have k3 := hblk.cell_some 3 _ rfl; have k4 := hblk.cell_some 4 _ rfl; have k5 := hblk.cell_some 5 _ rfl; have k6 := hblk.cell_some 6 _ rfl; have k7 := hblk.cell_some 7 _ rfl; have k8 := hblk.cell_some 8 _ rfl; have k9 := hblk.cell_some 9 _ rfl; have k10 := hblk.cell_some 10 _ rfl; have k11 := hblk.cell_some 11 _ rfl; have k12 := hblk.cell_some 12 _ rfl; have k13 := hblk.cell_some 13 _ rfl
    go_enter Try.func15, Try.ntmps15
    go_wp2_with (first
      | (go_at_call 28; refine (HH.out _).mono ?_; rintro e w1 ⟨rfl, hb1⟩; replace hst := hst.call hb1; replace hblk := hblk.kept hb1 hblk.size; clear hb1 y0 y1 y2 y3; have y0 := hst.c0; clear k0 k1 k2 k3 k4 k5 k6 k7 k8 k9 k10 k11 k12 k13; have k0 := hblk.cell_some 0 _ rfl; have k1 := hblk.cell_some 1 _ rfl; have k2 := hblk.cell_some 2 _ rfl; have k3 := hblk.cell_some 3 _ rfl; have k4 := hblk.cell_some 4 _ rfl; have k5 := hblk.cell_some 5 _ rfl; have k6 := hblk.cell_some 6 _ rfl; have k7 := hblk.cell_some 7 _ rfl; have k8 := hblk.cell_some 8 _ rfl; have k9 := hblk.cell_some 9 _ rfl; have k10 := hblk.cell_some 10 _ rfl; have k11 := hblk.cell_some 11 _ rfl; have k12 := hblk.cell_some 12 _ rfl; have k13 := hblk.cell_some 13 _ rfl)
      | (go_at_call 29; refine (HL.out _ hst.below).mono ?_; rintro e w2 ⟨⟨v, rfl, hv⟩, hb1⟩; replace hst := hst.call hb1; clear hb1 y0 hblk k0 k1 k2 k3 k4 k5 k6 k7 k8 k9 k10 k11 k12 k13; have y0 := hst.c0; have k1 := hst.k1)
      | (go_at_call 30; refine (HP1.out _ _ hv).mono ?_; rintro e w3 ⟨rfl, hb1⟩; replace hst := hst.call hb1; clear hb1))
    go_ret
    exact ⟨by rw [HR.out]; rfl, hst.below⟩
  rw [if_neg hu]
  have eu : (m.uid == c.uid) = false := beq_eq_false_iff_ne.2 hu
  clear hu
  obtain ⟨hmk, hmk8⟩ := hL.mask
  have HP5 := Lib.hid (fun v W ht => HP.out v 5 W ht)
  obtain ⟨hp6, hp68⟩ := hL.nat hL.oth
  have HP6 := Lib.hid (fun v W ht => HP.out v 6 W ht)
  rw [hp6] at HP6
  have a6 := and8 (permM L 6) n hp68 hn
  have hRR := Lib.hid (show restM L m c n = match userM L c.uid with
    | some a => gr a.2.2.toNat n && gr (maskM L) n
    | none => leftG (grpM m c) L n (gr (maskM L) n) (gr (permM L 6) n) false 0 by
    unfold restM leftG
    cases userM L c.uid with
    | some a => rfl
    | none => simp only [Bool.false_or, List.drop_zero])
  generalize restM L m c n = R at *
  have h6 := Lib.hid (gr_cmp (permM L 6) n)
  generalize gr (permM L 6) n = G6 at *
  generalize permM L 6 = P6 at *
  generalize AclW.permR L 5 = P5 at *
  generalize P6 &&& n = q6 at *
  generalize hqn : ((q6 : Int) == (n : Int)) = R6 at h6
  have hperm := Lib.hid hL.perm
  have hlen := hL.len
  generalize maskM L = MK at *
  clear hp6 hL HP hp68
  have k0 := hblk.cell_some 0 _ rfl; have k1 := hblk.cell_some 1 _ rfl; have k2 := hblk.cell_some 2 _ rfl; have k3 := hblk.cell_some 3 _ rfl; have k4 := hblk.cell_some 4 _ rfl; have k5 := hblk.cell_some 5 _ rfl; have k6 := hblk.cell_some 6 _ rfl; have k7 := hblk.cell_some 7 _ rfl; have k8 := hblk.cell_some 8 _ rfl; have k9 := hblk.cell_some 9 _ rfl; have k10 := hblk.cell_some 10 _ rfl; have k11 := hblk.cell_some 11 _ rfl; have k12 := hblk.cell_some 12 _ rfl; have k13 := hblk.cell_some 13 _ rfl
  go_enter Try.func15, Try.ntmps15
  go_upto_if 36 with (first
      | (go_at_call 28; refine (HH.out _).mono ?_; rintro e w1 ⟨rfl, hb1⟩; replace hst := hst.call hb1; replace hblk := hblk.kept hb1 hblk.size; clear hb1 y0 y1 y2 y3; have y0 := hst.c0; clear k0 k1 k2 k3 k4 k5 k6 k7 k8 k9 k10 k11 k12 k13; have k0 := hblk.cell_some 0 _ rfl; have k1 := hblk.cell_some 1 _ rfl; have k2 := hblk.cell_some 2 _ rfl; have k3 := hblk.cell_some 3 _ rfl; have k4 := hblk.cell_some 4 _ rfl; have k5 := hblk.cell_some 5 _ rfl; have k6 := hblk.cell_some 6 _ rfl; have k7 := hblk.cell_some 7 _ rfl; have k8 := hblk.cell_some 8 _ rfl; have k9 := hblk.cell_some 9 _ rfl; have k10 := hblk.cell_some 10 _ rfl; have k11 := hblk.cell_some 11 _ rfl; have k12 := hblk.cell_some 12 _ rfl; have k13 := hblk.cell_some 13 _ rfl)
      | (go_at_call 29; refine (HL.out _ hst.below).mono ?_; rintro e w2 ⟨⟨v, rfl, hv⟩, hb1⟩; replace hst := hst.call hb1; clear hb1 y0 hblk k0 k1 k2 k3 k4 k5 k6 k7 k8 k9 k10 k11 k12 k13; have y0 := hst.c0; have k1 := hst.k1)
      | (go_at_call 30; refine (HP5.out _ _ hv).mono ?_; rintro e w3 ⟨rfl, hb1⟩; replace hst := hst.call hb1; replace hv := hv.call hb1; clear hb1))
  go_cut [8] from 36 to 36 (fun s wx => s = .int .i64 (MK : Int) ∧ wx = w3)
  case first =>
    rcases hmk with ⟨hneg, hmk⟩ | ⟨hneg, hmk⟩
    · have hng : decide (P5 < 0) = true := decide_eq_true hneg
      go_wp2_with fail
      go_meet
      exact ⟨by first | rfl | rw [hmk]; rfl, rfl⟩
    · have hng : decide (P5 < 0) = false := decide_eq_false (by omega)
      go_wp2_with fail
      go_meet
      exact ⟨by rw [← hmk], rfl⟩
  case rest =>
    obtain ⟨rfl, hcw⟩ := hcut
    rename World => wc
    subst hcw
    obtain ⟨p, cap, rfl, hcap, hcell⟩ := AclW.ace_look hv
    have Hv := Lib.hid (fun W (hb : Below wc.heap.size wc W) => HP6.out _ W (hv.call hb))
    obtain ⟨z, hz⟩ : ∃ z, L.length = z := ⟨_, rfl⟩
    rw [hz] at hcap hlen Hv ⊢
    have Hcell := Lib.hid hcell
    have Hz := Lib.hid hz
    have HU0 := Lib.hid (show userM L c.uid = userM (L.drop 0) c.uid from rfl)
    have HST := Lib.hid (fun W (hb : Below wc.heap.size wc W) => hst.call hb)
    clear hcell hz hv HP5 HP6 hmk HL HH y0 k1 hst
    go_wp2_with fail
    go_loopw [9] (fun iv wr => ∃ k : Nat, iv = .int .i64 (k : Int) ∧ k ≤ z ∧ Below wc.heap.size wc wr ∧ Hid (userM L c.uid = userM (L.drop k) c.uid)) (fun iv _ => z - (intOf iv).toNat)
    case atStart => exact ⟨0, rfl, by omega, Below.refl _ _, HU0⟩
    case round =>
      clear HU0
      obtain ⟨k, rfl, hk, hbl, HU⟩ := hrel
      rename_i wr
      by_cases hlt : k < z
      · have hlt' : decide ((k : Int) < (z : Int)) = true := decide_eq_true (by omega)
        have hlt2 : decide (k < z) = true := decide_eq_true hlt
        have hk' : k < L.length := by rw [Hz.out]; exact hlt
        obtain ⟨b, off, rfl, hgb, c0, c1, c2⟩ := Hcell.out k hk'
        replace c0 := cell_kept hbl c0
        replace c1 := cell_kept hbl c1
        replace c2 := cell_kept hbl c2
        have y0 := (HST.out _ hbl).c0
        have hq := hperm.out L[k] (List.getElem_mem hk')
        have SU := Lib.hid (user_drop hk' c.uid)
        generalize L[k] = a at *
        obtain ⟨t, d, q⟩ := a
        simp only at c0 c1 c2 hq SU
        obtain ⟨x, rfl⟩ : ∃ x : Nat, q = (x : Int) := ⟨q.toNat, by omega⟩
        have hx8 : x < 8 := by omega
        clear hq
        by_cases h2 : t = 2
        · have e2 : (t == 2) = true := beq_iff_eq.2 h2
          by_cases hd : d = c.uid
          · have ed : (d == c.uid) = true := beq_iff_eq.2 hd
            have a1 := and8 x MK hx8 hmk8
            have a2 := and8 (x &&& MK) n (and_lt8 MK hx8) hn
            have HE := Lib.hid (show R = ((((x &&& MK) &&& n : Nat) : Int) == (n : Int)) by
              rw [hRR.out, HU.out, SU.out, if_pos ⟨h2, hd⟩]
              simp only [Int.toNat_natCast]
              rw [← gr_and, gr_cmp])
            generalize hqx : ((((x &&& MK) &&& n : Nat) : Int) == (n : Int)) = rx at HE
            clear SU HU h2 hd
            go_wp2_with fail
            go_quiet (fail)
            go_wp2_with fail
            go_ret
            exact ⟨by rw [HE.out]; rfl, by have hbw := (HST.out _ hbl).below; (repeat' (first | exact Below.refl _ _ | assumption | refine gr_drew ?_ | refine gr_drewN ?_ _ | refine gr_alloc ?_ _ | refine gr_set ?_ ?_ _ | refine gr_call ?_ (by assumption)) <;> (try (simp; done)) <;> (try (simp; omega)) <;> (try omega))⟩
          · have ed : (d == c.uid) = false := beq_eq_false_iff_ne.2 hd
            have HU2 := Lib.hid (show userM L c.uid = userM (L.drop (k + 1)) c.uid by rw [HU.out, SU.out, if_neg (fun h => hd h.2)])
            clear SU HU h2 hd
            go_wp2_with fail
            go_quiet (fail)
            go_wp2_with fail
            go_roundw
            case rel => exact ⟨k + 1, rfl, by omega, by (repeat' (first | exact Below.refl _ _ | assumption | refine gr_drew ?_ | refine gr_drewN ?_ _ | refine gr_alloc ?_ _ | refine gr_set ?_ ?_ _ | refine gr_call ?_ (by assumption)) <;> (try (simp; done)) <;> (try (simp; omega)) <;> (try omega)), HU2⟩
            case measure => simp only [intOf]; omega
        · have e2 : (t == 2) = false := beq_eq_false_iff_ne.2 h2
          have HU2 := Lib.hid (show userM L c.uid = userM (L.drop (k + 1)) c.uid by rw [HU.out, SU.out, if_neg (fun h => h2 h.1)])
          clear SU HU h2
          go_wp2_with fail
          go_quiet (fail)
          go_wp2_with fail
          go_roundw
          case rel => exact ⟨k + 1, rfl, by omega, by (repeat' (first | exact Below.refl _ _ | assumption | refine gr_drew ?_ | refine gr_drewN ?_ _ | refine gr_alloc ?_ _ | refine gr_set ?_ ?_ _ | refine gr_call ?_ (by assumption)) <;> (try (simp; done)) <;> (try (simp; omega)) <;> (try omega)), HU2⟩
          case measure => simp only [intOf]; omega
      · have hlt' : decide ((k : Int) < (z : Int)) = false := decide_eq_false (by omega)
        have hlt2 : decide (k < z) = false := decide_eq_false hlt
        have HR0 := Lib.hid (show R = leftG (grpM m c) L n (gr MK n) G6 false 0 by rw [hRR.out, HU.out, user_end (by rw [Hz.out]; omega)])
        clear HU hRR
        have hb1 := hbl
        go_wp2_with fail
        clear hlt hlt' hlt2
        go_loopw [10, 11] (fun bv iv wr => ∃ (k : Nat) (b : Bool), bv = .bool b ∧ iv = .int .i64 (k : Int) ∧ k ≤ z ∧ Below wc.heap.size wc wr ∧ Hid (R = leftG (grpM m c) L n (gr MK n) G6 b k)) (fun _ iv _ => z - (intOf iv).toNat)
        case atStart => exact ⟨0, false, rfl, rfl, by omega, hbl, HR0⟩
        case round =>
          clear HR0 hbl hb1
          obtain ⟨j, b, rfl, rfl, hj, hbl, HR⟩ := hrel
          rename World => wr2
          by_cases hlt : j < z
          · have hlt' : decide ((j : Int) < (z : Int)) = true := decide_eq_true (by omega)
            have hlt2 : decide (j < z) = true := decide_eq_true hlt
            have hk' : j < L.length := by rw [Hz.out]; exact hlt
            obtain ⟨gb, off, rfl, hgb, c0, c1, c2⟩ := Hcell.out j hk'
            replace c0 := cell_kept hbl c0
            replace c1 := cell_kept hbl c1
            replace c2 := cell_kept hbl c2
            have hst := HST.out _ hbl
            have hq := hperm.out L[j] (List.getElem_mem hk')
            have SN := Lib.hid (fun hg => left_not (G := grpM m c) hk' (w := n) (km := gr MK n) (ko := G6) (b := b) hg)
            have SY := Lib.hid (fun hg hr => left_yes (G := grpM m c) hk' (w := n) (km := gr MK n) (ko := G6) (b := b) hg hr)
            have SO := Lib.hid (fun hg hr => left_on (G := grpM m c) hk' (w := n) (km := gr MK n) (ko := G6) (b := b) hg hr)
            generalize L[j] = a at *
            obtain ⟨t, d, q⟩ := a
            simp only at c0 c1 c2 hq SN SY SO
            obtain ⟨x, rfl⟩ : ∃ x : Nat, q = (x : Int) := ⟨q.toNat, by omega⟩
            have hx8 : x < 8 := by omega
            simp only [Int.toNat_natCast] at SN SY SO
            clear hq
            obtain ⟨g, hgv⟩ : ∃ g, grpM m c (t, d, (x : Int)) = g := ⟨_, rfl⟩
            rw [hgv] at SN SY SO
            go_upto_region 20 with fail
            go_cut [104] from 76 to 104 (fun s wx => s = .bool g ∧ Below wr2.heap.size wr2 wx)
            case first =>
              clear SN SY SO HR
              by_cases h3 : t = 3
              · have e3 : (t == 3) = true := beq_iff_eq.2 h3
                have e4 : (t == 4) = false := beq_eq_false_iff_ne.2 (by omega)
                have hg3 : inM c m.gid = g := by rw [← hgv]; unfold grpM; simp only [decide_eq_true h3, decide_eq_false (show ¬ t = 4 by omega), Bool.true_and, Bool.false_and, Bool.or_false]
                have HC := Lib.hid (fun W (hb : Below wr2.heap.size wr2 W) => HI.out W (gr_call hst.below hb) m.gid)
                rw [hg3] at HC
                clear hgv hg3 h3
                cases g
                · refine region_oneUL (S := fun W => Below wr2.heap.size wr2 W) 28
                    [(fun W v => v = .slice (some ⟨gb, off, none⟩) z cap),
                    (fun W v => v = .int .i64 (j : Int)),
                    (fun W v => v = .pointer (some ⟨gb, off + j * 3, none⟩)),
                    (fun W v => v = .pointer (some ⟨gb, off + j * 3, none⟩)),
                    (fun W v => v = .int .i64 t),
                    (fun W v => v = .bool true),
                    (fun W v => v = .bool true),
                    (fun W v => v = .agg #[.int .i64 c.uid, .int .i64 c.gid, gv, .int .i64 c.powers]),
                    (fun W v => v = .pointer (some ⟨B, 2, none⟩)),
                    (fun W v => v = .int .i64 m.gid),
                    (fun W v => v = .bool false),
                    (fun W v => v = .bool false),
                    (fun W v => v = .bool false),
                    (fun W v => v = .slice (some ⟨gb, off, none⟩) z cap),
                    (fun W v => v = .int .i64 (j : Int)),
                    (fun W v => v = .pointer (some ⟨gb, off + j * 3, none⟩)),
                    (fun W v => v = .pointer (some ⟨gb, off + j * 3, none⟩)),
                    (fun W v => v = .int .i64 t),
                    (fun W v => v = .bool false),
                    (fun W v => v = .bool false),
                    (fun W v => v = undef),
                    (fun W v => v = undef),
                    (fun W v => v = undef),
                    (fun W v => v = undef),
                    (fun W v => v = undef),
                    (fun W v => v = undef),
                    (fun W v => v = undef),
                    (fun W v => v = .bool false)] (by rfl) (by kernel_rfl) (by kernel_rfl) (by kernel_rfl) (by kernel_rfl) (by rfl) (by kernel_rfl) ?hS ?hp ?hs ?he
                  case hS => exact gr_drew (Below.refl _ _)
                  case hp => repeat' (first | exact trivial | refine ⟨fun _ _ _ _ h => h, ?_⟩)
                  case hs =>
                    simp only [List.take_succ_cons, List.take_zero]
                    refine ⟨?_, ?_, ?_, ?_, ?_, ?_, ?_, ?_, ?_, ?_, ?_, ?_, ?_, ?_, ?_, ?_, ?_, ?_, ?_, ?_, ?_, ?_, ?_, ?_, ?_, ?_, ?_, ?_, trivial⟩
                    · refine .inl ⟨met_none rfl, ?_⟩
                      intro a W K hS hd hD hf hK
                      have e7 : a.tmps.getD 7 undef = .slice (some ⟨gb, off, none⟩) z cap := hf 7 (by kernel_rfl)
                      clear hd hf hD
                      go_simp
                      exact hK _ _ (Below.refl _ _) hS rfl (fun h => absurd h (by decide))
                    · refine .inl ⟨met_none rfl, ?_⟩
                      intro a W K hS hd hD hf hK
                      have e11 : a.tmps.getD 11 undef = .int .i64 (j : Int) := hf 11 (by kernel_rfl)
                      clear hd hf hD
                      go_simp
                      exact hK _ _ (Below.refl _ _) hS rfl (fun h => absurd h (by decide))
                    · refine .inl ⟨met_none rfl, ?_⟩
                      intro a W K hS hd hD hf hK
                      have e76 : a.tmps.getD 76 undef = .slice (some ⟨gb, off, none⟩) z cap := hd ⟨0, .data⟩ (by simp) rfl
                      have e77 : a.tmps.getD 77 undef = .int .i64 (j : Int) := hd ⟨1, .data⟩ (by simp) rfl
                      clear hd hf hD
                      go_simp
                      exact hK _ _ (Below.refl _ _) hS rfl (fun h => absurd h (by decide))
                    · refine .inl ⟨met_none rfl, ?_⟩
                      intro a W K hS hd hD hf hK
                      have e78 : a.tmps.getD 78 undef = .pointer (some ⟨gb, off + j * 3, none⟩) := hd ⟨2, .data⟩ (by simp) rfl
                      clear hd hf hD
                      go_simp
                      exact hK _ _ (Below.refl _ _) hS rfl (fun h => absurd h (by decide))
                    · refine .inl ⟨met_none rfl, ?_⟩
                      intro a W K hS hd hD hf hK
                      have e79 : a.tmps.getD 79 undef = .pointer (some ⟨gb, off + j * 3, none⟩) := hd ⟨3, .data⟩ (by simp) rfl
                      have z0 := cell_kept hS c0
                      clear hd hf hD
                      go_simp
                      exact hK _ _ (Below.refl _ _) hS rfl (fun h => absurd h (by decide))
                    · refine .inl ⟨met_none rfl, ?_⟩
                      intro a W K hS hd hD hf hK
                      have e80 : a.tmps.getD 80 undef = .int .i64 t := hd ⟨4, .data⟩ (by simp) rfl
                      clear hd hf hD
                      go_simp
                      exact hK _ _ (Below.refl _ _) hS rfl (fun h => absurd h (by decide))
                    · refine .inl ⟨met_none rfl, ?_⟩
                      intro a W K hS hd hD hf hK
                      have e81 : a.tmps.getD 81 undef = .bool true := hd ⟨5, .data⟩ (by simp) rfl
                      clear hd hf hD
                      go_simp
                      exact hK _ _ (Below.refl _ _) hS rfl (fun h => absurd h (by decide))
                    · refine .inl ⟨met_some 6 true rfl (fun w v h => h), ?_⟩
                      intro a W K hS hd hD hf hK
                      have e4 : a.tmps.getD 4 undef = .pointer (some ⟨B + 1, 0, none⟩) := hf 4 (by kernel_rfl)
                      have z0 := cell_kept hS hst.c0
                      have z1 := cell_kept hS hst.c1
                      have z2 := cell_kept hS hst.c2
                      have z3 := cell_kept hS hst.c3
                      clear hd hf hD
                      go_simp
                      exact hK _ _ (Below.refl _ _) hS rfl (fun h => absurd h (by decide))
                    · refine .inl ⟨met_some 6 true rfl (fun w v h => h), ?_⟩
                      intro a W K hS hd hD hf hK
                      have e3 : a.tmps.getD 3 undef = .pointer (some ⟨B, 0, none⟩) := hf 3 (by kernel_rfl)
                      clear hd hf hD
                      go_simp
                      exact hK _ _ (Below.refl _ _) hS rfl (fun h => absurd h (by decide))
                    · refine .inl ⟨met_some 6 true rfl (fun w v h => h), ?_⟩
                      intro a W K hS hd hD hf hK
                      have e84 : a.tmps.getD 84 undef = .pointer (some ⟨B, 2, none⟩) := hd ⟨8, .data⟩ (by simp) rfl
                      have z0 := cell_kept hS hst.k2
                      clear hd hf hD
                      go_simp
                      exact hK _ _ (Below.refl _ _) hS rfl (fun h => absurd h (by decide))
                    · refine .inl ⟨met_some 6 true rfl (fun w v h => h), ?_⟩
                      intro a W K hS hd hD hf hK
                      have e83 : a.tmps.getD 83 undef = .agg #[.int .i64 c.uid, .int .i64 c.gid, gv, .int .i64 c.powers] := hd ⟨7, .data⟩ (by simp) rfl
                      have e85 : a.tmps.getD 85 undef = .int .i64 m.gid := hd ⟨9, .data⟩ (by simp) rfl
                      clear hd hf hD
                      go_simp
                      go_at_call 13
                      refine (HC.out _ hS).mono ?_
                      rintro e w9 ⟨rfl, hb⟩
                      exact hK _ _ hb (gr_call hS hb) rfl (fun h => absurd h (by decide))
                    · refine .inl ⟨met_none rfl, ?_⟩
                      intro a W K hS hd hD hf hK
                      have e82 : a.tmps.getD 82 undef = .bool true := hd ⟨6, .data⟩ (by simp) rfl
                      have e86 : a.tmps.getD 86 undef = .bool false := hd ⟨10, .data⟩ (by simp) rfl
                      clear hd hf hD
                      go_simp
                      exact hK _ _ (Below.refl _ _) hS rfl (fun h => absurd h (by decide))
                    · refine .inl ⟨met_none rfl, ?_⟩
                      intro a W K hS hd hD hf hK
                      have e87 : a.tmps.getD 87 undef = .bool false := hd ⟨11, .data⟩ (by simp) rfl
                      clear hd hf hD
                      go_simp
                      exact hK _ _ (Below.refl _ _) hS rfl (fun h => absurd h (by decide))
                    · refine .inl ⟨met_some 12 false rfl (fun w v h => h), ?_⟩
                      intro a W K hS hd hD hf hK
                      have e7 : a.tmps.getD 7 undef = .slice (some ⟨gb, off, none⟩) z cap := hf 7 (by kernel_rfl)
                      clear hd hf hD
                      go_simp
                      exact hK _ _ (Below.refl _ _) hS rfl (fun h => absurd h (by decide))
                    · refine .inl ⟨met_some 12 false rfl (fun w v h => h), ?_⟩
                      intro a W K hS hd hD hf hK
                      have e11 : a.tmps.getD 11 undef = .int .i64 (j : Int) := hf 11 (by kernel_rfl)
                      clear hd hf hD
                      go_simp
                      exact hK _ _ (Below.refl _ _) hS rfl (fun h => absurd h (by decide))
                    · refine .inl ⟨met_some 12 false rfl (fun w v h => h), ?_⟩
                      intro a W K hS hd hD hf hK
                      have e89 : a.tmps.getD 89 undef = .slice (some ⟨gb, off, none⟩) z cap := hd ⟨13, .data⟩ (by simp) rfl
                      have e90 : a.tmps.getD 90 undef = .int .i64 (j : Int) := hd ⟨14, .data⟩ (by simp) rfl
                      clear hd hf hD
                      go_simp
                      exact hK _ _ (Below.refl _ _) hS rfl (fun h => absurd h (by decide))
                    · refine .inl ⟨met_some 12 false rfl (fun w v h => h), ?_⟩
                      intro a W K hS hd hD hf hK
                      have e91 : a.tmps.getD 91 undef = .pointer (some ⟨gb, off + j * 3, none⟩) := hd ⟨15, .data⟩ (by simp) rfl
                      clear hd hf hD
                      go_simp
                      exact hK _ _ (Below.refl _ _) hS rfl (fun h => absurd h (by decide))
                    · refine .inl ⟨met_some 12 false rfl (fun w v h => h), ?_⟩
                      intro a W K hS hd hD hf hK
                      have e92 : a.tmps.getD 92 undef = .pointer (some ⟨gb, off + j * 3, none⟩) := hd ⟨16, .data⟩ (by simp) rfl
                      have z0 := cell_kept hS c0
                      clear hd hf hD
                      go_simp
                      exact hK _ _ (Below.refl _ _) hS rfl (fun h => absurd h (by decide))
                    · refine .inl ⟨met_some 12 false rfl (fun w v h => h), ?_⟩
                      intro a W K hS hd hD hf hK
                      have e93 : a.tmps.getD 93 undef = .int .i64 t := hd ⟨17, .data⟩ (by simp) rfl
                      clear hd hf hD
                      go_simp
                      exact hK _ _ (Below.refl _ _) hS rfl (fun h => absurd h (by decide))
                    · refine .inl ⟨met_some 12 false rfl (fun w v h => h), ?_⟩
                      intro a W K hS hd hD hf hK
                      have e94 : a.tmps.getD 94 undef = .bool false := hd ⟨18, .data⟩ (by simp) rfl
                      clear hd hf hD
                      go_simp
                      exact hK _ _ (Below.refl _ _) hS rfl (fun h => absurd h (by decide))
                    · exact .inr ⟨⟨19, true, rfl, fun w v h => .inl h⟩, rfl, fun _ => rfl⟩
                    · exact .inr ⟨⟨19, true, rfl, fun w v h => .inl h⟩, rfl, fun _ => rfl⟩
                    · exact .inr ⟨⟨19, true, rfl, fun w v h => .inl h⟩, rfl, fun _ => rfl⟩
                    · exact .inr ⟨⟨19, true, rfl, fun w v h => .inl h⟩, rfl, fun _ => rfl⟩
                    · exact .inr ⟨⟨19, true, rfl, fun w v h => .inl h⟩, rfl, fun _ => rfl⟩
                    · exact .inr ⟨⟨19, true, rfl, fun w v h => .inl h⟩, rfl, fun _ => rfl⟩
                    · exact .inr ⟨⟨19, true, rfl, fun w v h => .inl h⟩, rfl, fun _ => rfl⟩
                    · refine .inl ⟨met_some 12 false rfl (fun w v h => h), ?_⟩
                      intro a W K hS hd hD hf hK
                      have e95 : a.tmps.getD 95 undef = .bool false := hd ⟨19, .data⟩ (by simp) rfl
                      have e102 : a.tmps.getD 102 undef = undef := hd ⟨26, .data⟩ (by simp) rfl
                      clear hd hf hD
                      go_simp
                      exact hK _ _ (Below.refl _ _) hS rfl (fun h => absurd h (by decide))
                  case he =>
                    intro vals w6 K hS6 hV hK
                    have e12 := hV 12 (by omega)
                    have e27 := hV 27 (by omega)
                    clear hV
                    simp only [List.getD_cons_succ, List.getD_cons_zero] at e12 e27
                    refine Later.mk ?_
                    simp only [List.append_eq, List.cons_append, List.nil_append, setN, Nat.reduceAdd, List.setIfInBounds_toArray, List.set_cons_succ, List.set_cons_zero]
                    rw [show vals 12 = _ from e12, show vals 27 = _ from e27]
                    clear e12 e27
                    go_simp
                    refine hK _ _ ?_
                    clear hK
                    go_wp2_with fail
                    go_meet
                    exact ⟨rfl, hS6⟩
                · refine region_oneUL (S := fun W => Below wr2.heap.size wr2 W) 28
                    [(fun W v => v = .slice (some ⟨gb, off, none⟩) z cap),
                    (fun W v => v = .int .i64 (j : Int)),
                    (fun W v => v = .pointer (some ⟨gb, off + j * 3, none⟩)),
                    (fun W v => v = .pointer (some ⟨gb, off + j * 3, none⟩)),
                    (fun W v => v = .int .i64 t),
                    (fun W v => v = .bool true),
                    (fun W v => v = .bool true),
                    (fun W v => v = .agg #[.int .i64 c.uid, .int .i64 c.gid, gv, .int .i64 c.powers]),
                    (fun W v => v = .pointer (some ⟨B, 2, none⟩)),
                    (fun W v => v = .int .i64 m.gid),
                    (fun W v => v = .bool true),
                    (fun W v => v = .bool true),
                    (fun W v => v = .bool true),
                    (fun W v => v = undef),
                    (fun W v => v = undef),
                    (fun W v => v = undef),
                    (fun W v => v = undef),
                    (fun W v => v = undef),
                    (fun W v => v = undef),
                    (fun W v => v = undef),
                    (fun W v => v = undef),
                    (fun W v => v = undef),
                    (fun W v => v = undef),
                    (fun W v => v = undef),
                    (fun W v => v = undef),
                    (fun W v => v = undef),
                    (fun W v => v = undef),
                    (fun W v => v = undef)] (by rfl) (by kernel_rfl) (by kernel_rfl) (by kernel_rfl) (by kernel_rfl) (by rfl) (by kernel_rfl) ?hS ?hp ?hs ?he
                  case hS => exact gr_drew (Below.refl _ _)
                  case hp => repeat' (first | exact trivial | refine ⟨fun _ _ _ _ h => h, ?_⟩)
                  case hs =>
                    simp only [List.take_succ_cons, List.take_zero]
                    refine ⟨?_, ?_, ?_, ?_, ?_, ?_, ?_, ?_, ?_, ?_, ?_, ?_, ?_, ?_, ?_, ?_, ?_, ?_, ?_, ?_, ?_, ?_, ?_, ?_, ?_, ?_, ?_, ?_, trivial⟩
                    · refine .inl ⟨met_none rfl, ?_⟩
                      intro a W K hS hd hD hf hK
                      have e7 : a.tmps.getD 7 undef = .slice (some ⟨gb, off, none⟩) z cap := hf 7 (by kernel_rfl)
                      clear hd hf hD
                      go_simp
                      exact hK _ _ (Below.refl _ _) hS rfl (fun h => absurd h (by decide))
                    · refine .inl ⟨met_none rfl, ?_⟩
                      intro a W K hS hd hD hf hK
                      have e11 : a.tmps.getD 11 undef = .int .i64 (j : Int) := hf 11 (by kernel_rfl)
                      clear hd hf hD
                      go_simp
                      exact hK _ _ (Below.refl _ _) hS rfl (fun h => absurd h (by decide))
                    · refine .inl ⟨met_none rfl, ?_⟩
                      intro a W K hS hd hD hf hK
                      have e76 : a.tmps.getD 76 undef = .slice (some ⟨gb, off, none⟩) z cap := hd ⟨0, .data⟩ (by simp) rfl
                      have e77 : a.tmps.getD 77 undef = .int .i64 (j : Int) := hd ⟨1, .data⟩ (by simp) rfl
                      clear hd hf hD
                      go_simp
                      exact hK _ _ (Below.refl _ _) hS rfl (fun h => absurd h (by decide))
                    · refine .inl ⟨met_none rfl, ?_⟩
                      intro a W K hS hd hD hf hK
                      have e78 : a.tmps.getD 78 undef = .pointer (some ⟨gb, off + j * 3, none⟩) := hd ⟨2, .data⟩ (by simp) rfl
                      clear hd hf hD
                      go_simp
                      exact hK _ _ (Below.refl _ _) hS rfl (fun h => absurd h (by decide))
                    · refine .inl ⟨met_none rfl, ?_⟩
                      intro a W K hS hd hD hf hK
                      have e79 : a.tmps.getD 79 undef = .pointer (some ⟨gb, off + j * 3, none⟩) := hd ⟨3, .data⟩ (by simp) rfl
                      have z0 := cell_kept hS c0
                      clear hd hf hD
                      go_simp
                      exact hK _ _ (Below.refl _ _) hS rfl (fun h => absurd h (by decide))
                    · refine .inl ⟨met_none rfl, ?_⟩
                      intro a W K hS hd hD hf hK
                      have e80 : a.tmps.getD 80 undef = .int .i64 t := hd ⟨4, .data⟩ (by simp) rfl
                      clear hd hf hD
                      go_simp
                      exact hK _ _ (Below.refl _ _) hS rfl (fun h => absurd h (by decide))
                    · refine .inl ⟨met_none rfl, ?_⟩
                      intro a W K hS hd hD hf hK
                      have e81 : a.tmps.getD 81 undef = .bool true := hd ⟨5, .data⟩ (by simp) rfl
                      clear hd hf hD
                      go_simp
                      exact hK _ _ (Below.refl _ _) hS rfl (fun h => absurd h (by decide))
                    · refine .inl ⟨met_some 6 true rfl (fun w v h => h), ?_⟩
                      intro a W K hS hd hD hf hK
                      have e4 : a.tmps.getD 4 undef = .pointer (some ⟨B + 1, 0, none⟩) := hf 4 (by kernel_rfl)
                      have z0 := cell_kept hS hst.c0
                      have z1 := cell_kept hS hst.c1
                      have z2 := cell_kept hS hst.c2
                      have z3 := cell_kept hS hst.c3
                      clear hd hf hD
                      go_simp
                      exact hK _ _ (Below.refl _ _) hS rfl (fun h => absurd h (by decide))
                    · refine .inl ⟨met_some 6 true rfl (fun w v h => h), ?_⟩
                      intro a W K hS hd hD hf hK
                      have e3 : a.tmps.getD 3 undef = .pointer (some ⟨B, 0, none⟩) := hf 3 (by kernel_rfl)
                      clear hd hf hD
                      go_simp
                      exact hK _ _ (Below.refl _ _) hS rfl (fun h => absurd h (by decide))
                    · refine .inl ⟨met_some 6 true rfl (fun w v h => h), ?_⟩
                      intro a W K hS hd hD hf hK
                      have e84 : a.tmps.getD 84 undef = .pointer (some ⟨B, 2, none⟩) := hd ⟨8, .data⟩ (by simp) rfl
                      have z0 := cell_kept hS hst.k2
                      clear hd hf hD
                      go_simp
                      exact hK _ _ (Below.refl _ _) hS rfl (fun h => absurd h (by decide))
                    · refine .inl ⟨met_some 6 true rfl (fun w v h => h), ?_⟩
                      intro a W K hS hd hD hf hK
                      have e83 : a.tmps.getD 83 undef = .agg #[.int .i64 c.uid, .int .i64 c.gid, gv, .int .i64 c.powers] := hd ⟨7, .data⟩ (by simp) rfl
                      have e85 : a.tmps.getD 85 undef = .int .i64 m.gid := hd ⟨9, .data⟩ (by simp) rfl
                      clear hd hf hD
                      go_simp
                      go_at_call 13
                      refine (HC.out _ hS).mono ?_
                      rintro e w9 ⟨rfl, hb⟩
                      exact hK _ _ hb (gr_call hS hb) rfl (fun h => absurd h (by decide))
                    · refine .inl ⟨met_none rfl, ?_⟩
                      intro a W K hS hd hD hf hK
                      have e82 : a.tmps.getD 82 undef = .bool true := hd ⟨6, .data⟩ (by simp) rfl
                      have e86 : a.tmps.getD 86 undef = .bool true := hd ⟨10, .data⟩ (by simp) rfl
                      clear hd hf hD
                      go_simp
                      exact hK _ _ (Below.refl _ _) hS rfl (fun h => absurd h (by decide))
                    · refine .inl ⟨met_none rfl, ?_⟩
                      intro a W K hS hd hD hf hK
                      have e87 : a.tmps.getD 87 undef = .bool true := hd ⟨11, .data⟩ (by simp) rfl
                      clear hd hf hD
                      go_simp
                      exact hK _ _ (Below.refl _ _) hS rfl (fun h => absurd h (by decide))
                    · exact .inr ⟨⟨12, false, rfl, fun w v h => .inl h⟩, rfl, fun _ => rfl⟩
                    · exact .inr ⟨⟨12, false, rfl, fun w v h => .inl h⟩, rfl, fun _ => rfl⟩
                    · exact .inr ⟨⟨12, false, rfl, fun w v h => .inl h⟩, rfl, fun _ => rfl⟩
                    · exact .inr ⟨⟨12, false, rfl, fun w v h => .inl h⟩, rfl, fun _ => rfl⟩
                    · exact .inr ⟨⟨12, false, rfl, fun w v h => .inl h⟩, rfl, fun _ => rfl⟩
                    · exact .inr ⟨⟨12, false, rfl, fun w v h => .inl h⟩, rfl, fun _ => rfl⟩
                    · exact .inr ⟨⟨12, false, rfl, fun w v h => .inl h⟩, rfl, fun _ => rfl⟩
                    · exact .inr ⟨⟨19, true, rfl, fun w v h => .inr h⟩, rfl, fun _ => rfl⟩
                    · exact .inr ⟨⟨19, true, rfl, fun w v h => .inr h⟩, rfl, fun _ => rfl⟩
                    · exact .inr ⟨⟨19, true, rfl, fun w v h => .inr h⟩, rfl, fun _ => rfl⟩
                    · exact .inr ⟨⟨19, true, rfl, fun w v h => .inr h⟩, rfl, fun _ => rfl⟩
                    · exact .inr ⟨⟨19, true, rfl, fun w v h => .inr h⟩, rfl, fun _ => rfl⟩
                    · exact .inr ⟨⟨19, true, rfl, fun w v h => .inr h⟩, rfl, fun _ => rfl⟩
                    · exact .inr ⟨⟨19, true, rfl, fun w v h => .inr h⟩, rfl, fun _ => rfl⟩
                    · exact .inr ⟨⟨12, false, rfl, fun w v h => .inl h⟩, rfl, fun _ => rfl⟩
                  case he =>
                    intro vals w6 K hS6 hV hK
                    have e12 := hV 12 (by omega)
                    have e27 := hV 27 (by omega)
                    clear hV
                    simp only [List.getD_cons_succ, List.getD_cons_zero] at e12 e27
                    refine Later.mk ?_
                    simp only [List.append_eq, List.cons_append, List.nil_append, setN, Nat.reduceAdd, List.setIfInBounds_toArray, List.set_cons_succ, List.set_cons_zero]
                    rw [show vals 12 = _ from e12, show vals 27 = _ from e27]
                    clear e12 e27
                    go_simp
                    refine hK _ _ ?_
                    clear hK
                    go_wp2_with fail
                    go_meet
                    exact ⟨rfl, hS6⟩
              · have e3 : (t == 3) = false := beq_eq_false_iff_ne.2 h3
                by_cases h4 : t = 4
                · have e4 : (t == 4) = true := beq_iff_eq.2 h4
                  have hg4 : inM c d = g := by rw [← hgv]; unfold grpM; simp only [decide_eq_false h3, decide_eq_true h4, Bool.true_and, Bool.false_and, Bool.false_or]
                  have HC := Lib.hid (fun W (hb : Below wr2.heap.size wr2 W) => HI.out W (gr_call hst.below hb) d)
                  rw [hg4] at HC
                  clear hgv hg4 h3 h4
                  refine region_oneUL (S := fun W => Below wr2.heap.size wr2 W) 28
                    [(fun W v => v = .slice (some ⟨gb, off, none⟩) z cap),
                    (fun W v => v = .int .i64 (j : Int)),
                    (fun W v => v = .pointer (some ⟨gb, off + j * 3, none⟩)),
                    (fun W v => v = .pointer (some ⟨gb, off + j * 3, none⟩)),
                    (fun W v => v = .int .i64 t),
                    (fun W v => v = .bool false),
                    (fun W v => v = .bool false),
                    (fun W v => v = undef),
                    (fun W v => v = undef),
                    (fun W v => v = undef),
                    (fun W v => v = undef),
                    (fun W v => v = .bool false),
                    (fun W v => v = .bool false),
                    (fun W v => v = .slice (some ⟨gb, off, none⟩) z cap),
                    (fun W v => v = .int .i64 (j : Int)),
                    (fun W v => v = .pointer (some ⟨gb, off + j * 3, none⟩)),
                    (fun W v => v = .pointer (some ⟨gb, off + j * 3, none⟩)),
                    (fun W v => v = .int .i64 t),
                    (fun W v => v = .bool true),
                    (fun W v => v = .bool true),
                    (fun W v => v = .agg #[.int .i64 c.uid, .int .i64 c.gid, gv, .int .i64 c.powers]),
                    (fun W v => v = .slice (some ⟨gb, off, none⟩) z cap),
                    (fun W v => v = .int .i64 (j : Int)),
                    (fun W v => v = .pointer (some ⟨gb, off + j * 3, none⟩)),
                    (fun W v => v = .pointer (some ⟨gb, off + j * 3 + 1, none⟩)),
                    (fun W v => v = .int .i64 d),
                    (fun W v => v = .bool g),
                    (fun W v => v = .bool g)] (by rfl) (by kernel_rfl) (by kernel_rfl) (by kernel_rfl) (by kernel_rfl) (by rfl) (by kernel_rfl) ?hS ?hp ?hs ?he
                  case hS => exact gr_drew (Below.refl _ _)
                  case hp => repeat' (first | exact trivial | refine ⟨fun _ _ _ _ h => h, ?_⟩)
                  case hs =>
                    simp only [List.take_succ_cons, List.take_zero]
                    refine ⟨?_, ?_, ?_, ?_, ?_, ?_, ?_, ?_, ?_, ?_, ?_, ?_, ?_, ?_, ?_, ?_, ?_, ?_, ?_, ?_, ?_, ?_, ?_, ?_, ?_, ?_, ?_, ?_, trivial⟩
                    · refine .inl ⟨met_none rfl, ?_⟩
                      intro a W K hS hd hD hf hK
                      have e7 : a.tmps.getD 7 undef = .slice (some ⟨gb, off, none⟩) z cap := hf 7 (by kernel_rfl)
                      clear hd hf hD
                      go_simp
                      exact hK _ _ (Below.refl _ _) hS rfl (fun h => absurd h (by decide))
                    · refine .inl ⟨met_none rfl, ?_⟩
                      intro a W K hS hd hD hf hK
                      have e11 : a.tmps.getD 11 undef = .int .i64 (j : Int) := hf 11 (by kernel_rfl)
                      clear hd hf hD
                      go_simp
                      exact hK _ _ (Below.refl _ _) hS rfl (fun h => absurd h (by decide))
                    · refine .inl ⟨met_none rfl, ?_⟩
                      intro a W K hS hd hD hf hK
                      have e76 : a.tmps.getD 76 undef = .slice (some ⟨gb, off, none⟩) z cap := hd ⟨0, .data⟩ (by simp) rfl
                      have e77 : a.tmps.getD 77 undef = .int .i64 (j : Int) := hd ⟨1, .data⟩ (by simp) rfl
                      clear hd hf hD
                      go_simp
                      exact hK _ _ (Below.refl _ _) hS rfl (fun h => absurd h (by decide))
                    · refine .inl ⟨met_none rfl, ?_⟩
                      intro a W K hS hd hD hf hK
                      have e78 : a.tmps.getD 78 undef = .pointer (some ⟨gb, off + j * 3, none⟩) := hd ⟨2, .data⟩ (by simp) rfl
                      clear hd hf hD
                      go_simp
                      exact hK _ _ (Below.refl _ _) hS rfl (fun h => absurd h (by decide))
                    · refine .inl ⟨met_none rfl, ?_⟩
                      intro a W K hS hd hD hf hK
                      have e79 : a.tmps.getD 79 undef = .pointer (some ⟨gb, off + j * 3, none⟩) := hd ⟨3, .data⟩ (by simp) rfl
                      have z0 := cell_kept hS c0
                      clear hd hf hD
                      go_simp
                      exact hK _ _ (Below.refl _ _) hS rfl (fun h => absurd h (by decide))
                    · refine .inl ⟨met_none rfl, ?_⟩
                      intro a W K hS hd hD hf hK
                      have e80 : a.tmps.getD 80 undef = .int .i64 t := hd ⟨4, .data⟩ (by simp) rfl
                      clear hd hf hD
                      go_simp
                      exact hK _ _ (Below.refl _ _) hS rfl (fun h => absurd h (by decide))
                    · refine .inl ⟨met_none rfl, ?_⟩
                      intro a W K hS hd hD hf hK
                      have e81 : a.tmps.getD 81 undef = .bool false := hd ⟨5, .data⟩ (by simp) rfl
                      clear hd hf hD
                      go_simp
                      exact hK _ _ (Below.refl _ _) hS rfl (fun h => absurd h (by decide))
                    · exact .inr ⟨⟨6, true, rfl, fun w v h => .inl h⟩, rfl, fun _ => rfl⟩
                    · exact .inr ⟨⟨6, true, rfl, fun w v h => .inl h⟩, rfl, fun _ => rfl⟩
                    · exact .inr ⟨⟨6, true, rfl, fun w v h => .inl h⟩, rfl, fun _ => rfl⟩
                    · exact .inr ⟨⟨6, true, rfl, fun w v h => .inl h⟩, rfl, fun _ => rfl⟩
                    · refine .inl ⟨met_none rfl, ?_⟩
                      intro a W K hS hd hD hf hK
                      have e82 : a.tmps.getD 82 undef = .bool false := hd ⟨6, .data⟩ (by simp) rfl
                      have e86 : a.tmps.getD 86 undef = undef := hd ⟨10, .data⟩ (by simp) rfl
                      clear hd hf hD
                      go_simp
                      exact hK _ _ (Below.refl _ _) hS rfl (fun h => absurd h (by decide))
                    · refine .inl ⟨met_none rfl, ?_⟩
                      intro a W K hS hd hD hf hK
                      have e87 : a.tmps.getD 87 undef = .bool false := hd ⟨11, .data⟩ (by simp) rfl
                      clear hd hf hD
                      go_simp
                      exact hK _ _ (Below.refl _ _) hS rfl (fun h => absurd h (by decide))
                    · refine .inl ⟨met_some 12 false rfl (fun w v h => h), ?_⟩
                      intro a W K hS hd hD hf hK
                      have e7 : a.tmps.getD 7 undef = .slice (some ⟨gb, off, none⟩) z cap := hf 7 (by kernel_rfl)
                      clear hd hf hD
                      go_simp
                      exact hK _ _ (Below.refl _ _) hS rfl (fun h => absurd h (by decide))
                    · refine .inl ⟨met_some 12 false rfl (fun w v h => h), ?_⟩
                      intro a W K hS hd hD hf hK
                      have e11 : a.tmps.getD 11 undef = .int .i64 (j : Int) := hf 11 (by kernel_rfl)
                      clear hd hf hD
                      go_simp
                      exact hK _ _ (Below.refl _ _) hS rfl (fun h => absurd h (by decide))
                    · refine .inl ⟨met_some 12 false rfl (fun w v h => h), ?_⟩
                      intro a W K hS hd hD hf hK
                      have e89 : a.tmps.getD 89 undef = .slice (some ⟨gb, off, none⟩) z cap := hd ⟨13, .data⟩ (by simp) rfl
                      have e90 : a.tmps.getD 90 undef = .int .i64 (j : Int) := hd ⟨14, .data⟩ (by simp) rfl
                      clear hd hf hD
                      go_simp
                      exact hK _ _ (Below.refl _ _) hS rfl (fun h => absurd h (by decide))
                    · refine .inl ⟨met_some 12 false rfl (fun w v h => h), ?_⟩
                      intro a W K hS hd hD hf hK
                      have e91 : a.tmps.getD 91 undef = .pointer (some ⟨gb, off + j * 3, none⟩) := hd ⟨15, .data⟩ (by simp) rfl
                      clear hd hf hD
                      go_simp
                      exact hK _ _ (Below.refl _ _) hS rfl (fun h => absurd h (by decide))
                    · refine .inl ⟨met_some 12 false rfl (fun w v h => h), ?_⟩
                      intro a W K hS hd hD hf hK
                      have e92 : a.tmps.getD 92 undef = .pointer (some ⟨gb, off + j * 3, none⟩) := hd ⟨16, .data⟩ (by simp) rfl
                      have z0 := cell_kept hS c0
                      clear hd hf hD
                      go_simp
                      exact hK _ _ (Below.refl _ _) hS rfl (fun h => absurd h (by decide))
                    · refine .inl ⟨met_some 12 false rfl (fun w v h => h), ?_⟩
                      intro a W K hS hd hD hf hK
                      have e93 : a.tmps.getD 93 undef = .int .i64 t := hd ⟨17, .data⟩ (by simp) rfl
                      clear hd hf hD
                      go_simp
                      exact hK _ _ (Below.refl _ _) hS rfl (fun h => absurd h (by decide))
                    · refine .inl ⟨met_some 12 false rfl (fun w v h => h), ?_⟩
                      intro a W K hS hd hD hf hK
                      have e94 : a.tmps.getD 94 undef = .bool true := hd ⟨18, .data⟩ (by simp) rfl
                      clear hd hf hD
                      go_simp
                      exact hK _ _ (Below.refl _ _) hS rfl (fun h => absurd h (by decide))
                    · refine .inl ⟨met_some 19 true rfl (fun w v h => h), ?_⟩
                      intro a W K hS hd hD hf hK
                      have e4 : a.tmps.getD 4 undef = .pointer (some ⟨B + 1, 0, none⟩) := hf 4 (by kernel_rfl)
                      have z0 := cell_kept hS hst.c0
                      have z1 := cell_kept hS hst.c1
                      have z2 := cell_kept hS hst.c2
                      have z3 := cell_kept hS hst.c3
                      clear hd hf hD
                      go_simp
                      exact hK _ _ (Below.refl _ _) hS rfl (fun h => absurd h (by decide))
                    · refine .inl ⟨met_some 19 true rfl (fun w v h => h), ?_⟩
                      intro a W K hS hd hD hf hK
                      have e7 : a.tmps.getD 7 undef = .slice (some ⟨gb, off, none⟩) z cap := hf 7 (by kernel_rfl)
                      clear hd hf hD
                      go_simp
                      exact hK _ _ (Below.refl _ _) hS rfl (fun h => absurd h (by decide))
                    · refine .inl ⟨met_some 19 true rfl (fun w v h => h), ?_⟩
                      intro a W K hS hd hD hf hK
                      have e11 : a.tmps.getD 11 undef = .int .i64 (j : Int) := hf 11 (by kernel_rfl)
                      clear hd hf hD
                      go_simp
                      exact hK _ _ (Below.refl _ _) hS rfl (fun h => absurd h (by decide))
                    · refine .inl ⟨met_some 19 true rfl (fun w v h => h), ?_⟩
                      intro a W K hS hd hD hf hK
                      have e97 : a.tmps.getD 97 undef = .slice (some ⟨gb, off, none⟩) z cap := hd ⟨21, .data⟩ (by simp) rfl
                      have e98 : a.tmps.getD 98 undef = .int .i64 (j : Int) := hd ⟨22, .data⟩ (by simp) rfl
                      clear hd hf hD
                      go_simp
                      exact hK _ _ (Below.refl _ _) hS rfl (fun h => absurd h (by decide))
                    · refine .inl ⟨met_some 19 true rfl (fun w v h => h), ?_⟩
                      intro a W K hS hd hD hf hK
                      have e99 : a.tmps.getD 99 undef = .pointer (some ⟨gb, off + j * 3, none⟩) := hd ⟨23, .data⟩ (by simp) rfl
                      clear hd hf hD
                      go_simp
                      exact hK _ _ (Below.refl _ _) hS rfl (fun h => absurd h (by decide))
                    · refine .inl ⟨met_some 19 true rfl (fun w v h => h), ?_⟩
                      intro a W K hS hd hD hf hK
                      have e100 : a.tmps.getD 100 undef = .pointer (some ⟨gb, off + j * 3 + 1, none⟩) := hd ⟨24, .data⟩ (by simp) rfl
                      have z0 := cell_kept hS c1
                      clear hd hf hD
                      go_simp
                      exact hK _ _ (Below.refl _ _) hS rfl (fun h => absurd h (by decide))
                    · refine .inl ⟨met_some 19 true rfl (fun w v h => h), ?_⟩
                      intro a W K hS hd hD hf hK
                      have e96 : a.tmps.getD 96 undef = .agg #[.int .i64 c.uid, .int .i64 c.gid, gv, .int .i64 c.powers] := hd ⟨20, .data⟩ (by simp) rfl
                      have e101 : a.tmps.getD 101 undef = .int .i64 d := hd ⟨25, .data⟩ (by simp) rfl
                      clear hd hf hD
                      go_simp
                      go_at_call 13
                      refine (HC.out _ hS).mono ?_
                      rintro e w9 ⟨rfl, hb⟩
                      exact hK _ _ hb (gr_call hS hb) rfl (fun h => absurd h (by decide))
                    · refine .inl ⟨met_some 12 false rfl (fun w v h => h), ?_⟩
                      intro a W K hS hd hD hf hK
                      have e95 : a.tmps.getD 95 undef = .bool true := hd ⟨19, .data⟩ (by simp) rfl
                      have e102 : a.tmps.getD 102 undef = .bool g := hd ⟨26, .data⟩ (by simp) rfl
                      clear hd hf hD
                      go_simp
                      exact hK _ _ (Below.refl _ _) hS rfl (fun h => absurd h (by decide))
                  case he =>
                    intro vals w6 K hS6 hV hK
                    have e12 := hV 12 (by omega)
                    have e27 := hV 27 (by omega)
                    clear hV
                    simp only [List.getD_cons_succ, List.getD_cons_zero] at e12 e27
                    refine Later.mk ?_
                    simp only [List.append_eq, List.cons_append, List.nil_append, setN, Nat.reduceAdd, List.setIfInBounds_toArray, List.set_cons_succ, List.set_cons_zero]
                    rw [show vals 12 = _ from e12, show vals 27 = _ from e27]
                    clear e12 e27
                    go_simp
                    refine hK _ _ ?_
                    clear hK
                    go_wp2_with fail
                    go_meet
                    exact ⟨rfl, hS6⟩
                · have e4 : (t == 4) = false := beq_eq_false_iff_ne.2 h4
                  have hg0 : g = false := by rw [← hgv]; unfold grpM; simp only [decide_eq_false h3, decide_eq_false h4, Bool.false_and, Bool.or_false]
                  clear hgv h3 h4
                  subst hg0
                  refine region_oneUL (S := fun W => Below wr2.heap.size wr2 W) 28
                    [(fun W v => v = .slice (some ⟨gb, off, none⟩) z cap),
                    (fun W v => v = .int .i64 (j : Int)),
                    (fun W v => v = .pointer (some ⟨gb, off + j * 3, none⟩)),
                    (fun W v => v = .pointer (some ⟨gb, off + j * 3, none⟩)),
                    (fun W v => v = .int .i64 t),
                    (fun W v => v = .bool false),
                    (fun W v => v = .bool false),
                    (fun W v => v = undef),
                    (fun W v => v = undef),
                    (fun W v => v = undef),
                    (fun W v => v = undef),
                    (fun W v => v = .bool false),
                    (fun W v => v = .bool false),
                    (fun W v => v = .slice (some ⟨gb, off, none⟩) z cap),
                    (fun W v => v = .int .i64 (j : Int)),
                    (fun W v => v = .pointer (some ⟨gb, off + j * 3, none⟩)),
                    (fun W v => v = .pointer (some ⟨gb, off + j * 3, none⟩)),
                    (fun W v => v = .int .i64 t),
                    (fun W v => v = .bool false),
                    (fun W v => v = .bool false),
                    (fun W v => v = undef),
                    (fun W v => v = undef),
                    (fun W v => v = undef),
                    (fun W v => v = undef),
                    (fun W v => v = undef),
                    (fun W v => v = undef),
                    (fun W v => v = undef),
                    (fun W v => v = .bool false)] (by rfl) (by kernel_rfl) (by kernel_rfl) (by kernel_rfl) (by kernel_rfl) (by rfl) (by kernel_rfl) ?hS ?hp ?hs ?he
                  case hS => exact gr_drew (Below.refl _ _)
                  case hp => repeat' (first | exact trivial | refine ⟨fun _ _ _ _ h => h, ?_⟩)
                  case hs =>
                    simp only [List.take_succ_cons, List.take_zero]
                    refine ⟨?_, ?_, ?_, ?_, ?_, ?_, ?_, ?_, ?_, ?_, ?_, ?_, ?_, ?_, ?_, ?_, ?_, ?_, ?_, ?_, ?_, ?_, ?_, ?_, ?_, ?_, ?_, ?_, trivial⟩
                    · refine .inl ⟨met_none rfl, ?_⟩
                      intro a W K hS hd hD hf hK
                      have e7 : a.tmps.getD 7 undef = .slice (some ⟨gb, off, none⟩) z cap := hf 7 (by kernel_rfl)
                      clear hd hf hD
                      go_simp
                      exact hK _ _ (Below.refl _ _) hS rfl (fun h => absurd h (by decide))
                    · refine .inl ⟨met_none rfl, ?_⟩
                      intro a W K hS hd hD hf hK
                      have e11 : a.tmps.getD 11 undef = .int .i64 (j : Int) := hf 11 (by kernel_rfl)
                      clear hd hf hD
                      go_simp
                      exact hK _ _ (Below.refl _ _) hS rfl (fun h => absurd h (by decide))
                    · refine .inl ⟨met_none rfl, ?_⟩
                      intro a W K hS hd hD hf hK
                      have e76 : a.tmps.getD 76 undef = .slice (some ⟨gb, off, none⟩) z cap := hd ⟨0, .data⟩ (by simp) rfl
                      have e77 : a.tmps.getD 77 undef = .int .i64 (j : Int) := hd ⟨1, .data⟩ (by simp) rfl
                      clear hd hf hD
                      go_simp
                      exact hK _ _ (Below.refl _ _) hS rfl (fun h => absurd h (by decide))
                    · refine .inl ⟨met_none rfl, ?_⟩
                      intro a W K hS hd hD hf hK
                      have e78 : a.tmps.getD 78 undef = .pointer (some ⟨gb, off + j * 3, none⟩) := hd ⟨2, .data⟩ (by simp) rfl
                      clear hd hf hD
                      go_simp
                      exact hK _ _ (Below.refl _ _) hS rfl (fun h => absurd h (by decide))
                    · refine .inl ⟨met_none rfl, ?_⟩
                      intro a W K hS hd hD hf hK
                      have e79 : a.tmps.getD 79 undef = .pointer (some ⟨gb, off + j * 3, none⟩) := hd ⟨3, .data⟩ (by simp) rfl
                      have z0 := cell_kept hS c0
                      clear hd hf hD
                      go_simp
                      exact hK _ _ (Below.refl _ _) hS rfl (fun h => absurd h (by decide))
                    · refine .inl ⟨met_none rfl, ?_⟩
                      intro a W K hS hd hD hf hK
                      have e80 : a.tmps.getD 80 undef = .int .i64 t := hd ⟨4, .data⟩ (by simp) rfl
                      clear hd hf hD
                      go_simp
                      exact hK _ _ (Below.refl _ _) hS rfl (fun h => absurd h (by decide))
                    · refine .inl ⟨met_none rfl, ?_⟩
                      intro a W K hS hd hD hf hK
                      have e81 : a.tmps.getD 81 undef = .bool false := hd ⟨5, .data⟩ (by simp) rfl
                      clear hd hf hD
                      go_simp
                      exact hK _ _ (Below.refl _ _) hS rfl (fun h => absurd h (by decide))
                    · exact .inr ⟨⟨6, true, rfl, fun w v h => .inl h⟩, rfl, fun _ => rfl⟩
                    · exact .inr ⟨⟨6, true, rfl, fun w v h => .inl h⟩, rfl, fun _ => rfl⟩
                    · exact .inr ⟨⟨6, true, rfl, fun w v h => .inl h⟩, rfl, fun _ => rfl⟩
                    · exact .inr ⟨⟨6, true, rfl, fun w v h => .inl h⟩, rfl, fun _ => rfl⟩
                    · refine .inl ⟨met_none rfl, ?_⟩
                      intro a W K hS hd hD hf hK
                      have e82 : a.tmps.getD 82 undef = .bool false := hd ⟨6, .data⟩ (by simp) rfl
                      have e86 : a.tmps.getD 86 undef = undef := hd ⟨10, .data⟩ (by simp) rfl
                      clear hd hf hD
                      go_simp
                      exact hK _ _ (Below.refl _ _) hS rfl (fun h => absurd h (by decide))
                    · refine .inl ⟨met_none rfl, ?_⟩
                      intro a W K hS hd hD hf hK
                      have e87 : a.tmps.getD 87 undef = .bool false := hd ⟨11, .data⟩ (by simp) rfl
                      clear hd hf hD
                      go_simp
                      exact hK _ _ (Below.refl _ _) hS rfl (fun h => absurd h (by decide))
                    · refine .inl ⟨met_some 12 false rfl (fun w v h => h), ?_⟩
                      intro a W K hS hd hD hf hK
                      have e7 : a.tmps.getD 7 undef = .slice (some ⟨gb, off, none⟩) z cap := hf 7 (by kernel_rfl)
                      clear hd hf hD
                      go_simp
                      exact hK _ _ (Below.refl _ _) hS rfl (fun h => absurd h (by decide))
                    · refine .inl ⟨met_some 12 false rfl (fun w v h => h), ?_⟩
                      intro a W K hS hd hD hf hK
                      have e11 : a.tmps.getD 11 undef = .int .i64 (j : Int) := hf 11 (by kernel_rfl)
                      clear hd hf hD
                      go_simp
                      exact hK _ _ (Below.refl _ _) hS rfl (fun h => absurd h (by decide))
                    · refine .inl ⟨met_some 12 false rfl (fun w v h => h), ?_⟩
                      intro a W K hS hd hD hf hK
                      have e89 : a.tmps.getD 89 undef = .slice (some ⟨gb, off, none⟩) z cap := hd ⟨13, .data⟩ (by simp) rfl
                      have e90 : a.tmps.getD 90 undef = .int .i64 (j : Int) := hd ⟨14, .data⟩ (by simp) rfl
                      clear hd hf hD
                      go_simp
                      exact hK _ _ (Below.refl _ _) hS rfl (fun h => absurd h (by decide))
                    · refine .inl ⟨met_some 12 false rfl (fun w v h => h), ?_⟩
                      intro a W K hS hd hD hf hK
                      have e91 : a.tmps.getD 91 undef = .pointer (some ⟨gb, off + j * 3, none⟩) := hd ⟨15, .data⟩ (by simp) rfl
                      clear hd hf hD
                      go_simp
                      exact hK _ _ (Below.refl _ _) hS rfl (fun h => absurd h (by decide))
                    · refine .inl ⟨met_some 12 false rfl (fun w v h => h), ?_⟩
                      intro a W K hS hd hD hf hK
                      have e92 : a.tmps.getD 92 undef = .pointer (some ⟨gb, off + j * 3, none⟩) := hd ⟨16, .data⟩ (by simp) rfl
                      have z0 := cell_kept hS c0
                      clear hd hf hD
                      go_simp
                      exact hK _ _ (Below.refl _ _) hS rfl (fun h => absurd h (by decide))
                    · refine .inl ⟨met_some 12 false rfl (fun w v h => h), ?_⟩
                      intro a W K hS hd hD hf hK
                      have e93 : a.tmps.getD 93 undef = .int .i64 t := hd ⟨17, .data⟩ (by simp) rfl
                      clear hd hf hD
                      go_simp
                      exact hK _ _ (Below.refl _ _) hS rfl (fun h => absurd h (by decide))
                    · refine .inl ⟨met_some 12 false rfl (fun w v h => h), ?_⟩
                      intro a W K hS hd hD hf hK
                      have e94 : a.tmps.getD 94 undef = .bool false := hd ⟨18, .data⟩ (by simp) rfl
                      clear hd hf hD
                      go_simp
                      exact hK _ _ (Below.refl _ _) hS rfl (fun h => absurd h (by decide))
                    · exact .inr ⟨⟨19, true, rfl, fun w v h => .inl h⟩, rfl, fun _ => rfl⟩
                    · exact .inr ⟨⟨19, true, rfl, fun w v h => .inl h⟩, rfl, fun _ => rfl⟩
                    · exact .inr ⟨⟨19, true, rfl, fun w v h => .inl h⟩, rfl, fun _ => rfl⟩
                    · exact .inr ⟨⟨19, true, rfl, fun w v h => .inl h⟩, rfl, fun _ => rfl⟩
                    · exact .inr ⟨⟨19, true, rfl, fun w v h => .inl h⟩, rfl, fun _ => rfl⟩
                    · exact .inr ⟨⟨19, true, rfl, fun w v h => .inl h⟩, rfl, fun _ => rfl⟩
                    · exact .inr ⟨⟨19, true, rfl, fun w v h => .inl h⟩, rfl, fun _ => rfl⟩
                    · refine .inl ⟨met_some 12 false rfl (fun w v h => h), ?_⟩
                      intro a W K hS hd hD hf hK
                      have e95 : a.tmps.getD 95 undef = .bool false := hd ⟨19, .data⟩ (by simp) rfl
                      have e102 : a.tmps.getD 102 undef = undef := hd ⟨26, .data⟩ (by simp) rfl
                      clear hd hf hD
                      go_simp
                      exact hK _ _ (Below.refl _ _) hS rfl (fun h => absurd h (by decide))
                  case he =>
                    intro vals w6 K hS6 hV hK
                    have e12 := hV 12 (by omega)
                    have e27 := hV 27 (by omega)
                    clear hV
                    simp only [List.getD_cons_succ, List.getD_cons_zero] at e12 e27
                    refine Later.mk ?_
                    simp only [List.append_eq, List.cons_append, List.nil_append, setN, Nat.reduceAdd, List.setIfInBounds_toArray, List.set_cons_succ, List.set_cons_zero]
                    rw [show vals 12 = _ from e12, show vals 27 = _ from e27]
                    clear e12 e27
                    go_simp
                    refine hK _ _ ?_
                    clear hK
                    go_wp2_with fail
                    go_meet
                    exact ⟨rfl, hS6⟩
            case rest =>
              obtain ⟨rfl, hb2⟩ := hcut
              rename World => wd
              replace c2 := cell_kept hb2 c2
              replace hbl := gr_call hbl hb2
              clear hb2 c0 c1 hst
              cases g
              · have HR2 := Lib.hid (show R = leftG (grpM m c) L n (gr MK n) G6 b (j + 1) by rw [HR.out, SN.out rfl])
                clear SN SY SO HR
                go_wp2_with fail
                go_roundw
                case rel => exact ⟨j + 1, b, rfl, rfl, by omega, hbl, HR2⟩
                case measure => simp only [intOf]; omega
              · have a1 := and8 x MK hx8 hmk8
                have a2 := and8 (x &&& MK) n (and_lt8 MK hx8) hn
                have hcm := gr_cmp (x &&& MK) n
                rw [gr_and] at hcm
                obtain ⟨y, hy⟩ : ∃ y, ((((x &&& MK) &&& n : Nat) : Int) == (n : Int)) = y := ⟨_, rfl⟩
                rw [hy] at hcm
                cases y
                · have HR2 := Lib.hid (show R = leftG (grpM m c) L n (gr MK n) G6 true (j + 1) by rw [HR.out, SO.out rfl hcm])
                  clear SN SY SO HR hcm
                  go_wp2_with fail
                  go_roundw
                  case rel => exact ⟨j + 1, true, rfl, rfl, by omega, hbl, HR2⟩
                  case measure => simp only [intOf]; omega
                · have HR2 := Lib.hid (show R = true by rw [HR.out, SY.out rfl hcm])
                  have hst := HST.out _ hbl
                  clear SN SY SO HR hcm
                  go_wp2_with fail
                  go_ret
                  exact ⟨by rw [HR2.out]; rfl, hst.below⟩
          · have hlt' : decide ((j : Int) < (z : Int)) = false := decide_eq_false (by omega)
            have hlt2 : decide (j < z) = false := decide_eq_false hlt
            have HE := Lib.hid (show R = (!b && G6) by rw [HR.out, left_end (by rw [Hz.out]; omega)])
            have hst := HST.out _ hbl
            have HV := Lib.hid (Hv.out _ hbl)
            clear HR
            cases b
            · go_wp2_with (first | (go_at_call 30; refine (HV.out).mono ?_; rintro e w4 ⟨rfl, hb4⟩; replace hst := hst.call hb4; clear hb4))
              go_ret
              exact ⟨by rw [HE.out, h6.out]; rfl, hst.below⟩
            · go_wp2_with fail
              go_ret
              exact ⟨by rw [HE.out]; rfl, by have hbw := hst.below; (repeat' (first | exact Below.refl _ _ | assumption | refine gr_drew ?_ | refine gr_drewN ?_ _ | refine gr_alloc ?_ _ | refine gr_set ?_ ?_ _ | refine gr_call ?_ (by assumption)) <;> (try (simp; done)) <;> (try (simp; omega)) <;> (try omega))⟩
end Go.Proofs.Ytpfidbcnefnhcaa
