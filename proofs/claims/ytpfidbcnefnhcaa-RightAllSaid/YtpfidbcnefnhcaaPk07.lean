/- Bundle of 4 texts. -/
import Derived.Test.YtpfidbcnefnhcaaPk06
import Derived.Defers
import Derived.Recover
import Derived.Test.YtpfidbcnefnhcaaRegionU
import Derived.Test.YtpfidbcnefnhcaaPk03
/- Walks over package right: the lesser mode; a panic that is recovered. -/
namespace Go.Proofs.Ytpfidbcnefnhcaa
open Go.RowKit
open MetaM RightM AclM AclW
set_option linter.unusedVariables false
attribute [local irreducible] Row At
set_option maxHeartbeats 3200000 in
set_option maxRecDepth 100000 in
theorem least_any (v : Value) (l : List Ace) (w : World) (hat : At aceE v l w) (hl : l.length ≤ 1000000) (h : LGo l) :
    Calls Try.prog 32 #[v] w fun e w' => e = .returned (.int .i64 ((64 * permM l 1 + 8 * gG l (permM l 3) + oG l (permM l 6) : Nat) : Int)) ∧ Below w.heap.size w w' := by
  have H1 := Lib.hid (fun W (hb : Below w.heap.size w W) => goPerm_any v l 1 W (hat.call hb) hl h.ok.own)
  have H3 := Lib.hid (fun W (hb : Below w.heap.size w W) => goPerm_any v l 3 W (hat.call hb) hl h.grp)
  have H6 := Lib.hid (fun W (hb : Below w.heap.size w W) => goPerm_any v l 6 W (hat.call hb) hl h.ok.oth)
  rw [(h.ok.nat h.ok.own).1] at H1
  rw [(h.ok.nat h.grp).1] at H3
  rw [(h.ok.nat h.ok.oth).1] at H6
  have p1 := (h.ok.nat h.ok.own).2
  have p3 := (h.ok.nat h.grp).2
  have p6 := (h.ok.nat h.ok.oth).2
  have Hpm := Lib.hid h.ok.perm
  generalize permM l 1 = P1 at *
  generalize permM l 3 = P3 at *
  generalize permM l 6 = P6 at *
  obtain ⟨z, hz⟩ : ∃ z, l.length = z := ⟨_, rfl⟩
  obtain ⟨p, cap, rfl, hcap, hcell⟩ := ace_look hat
  rw [hz] at hl hcap H1 H3 H6 ⊢
  have Hcell := Lib.hid hcell
  have Hz := Lib.hid hz
  obtain ⟨G, hG⟩ : ∃ x, gG l P3 = x := ⟨_, rfl⟩
  obtain ⟨O, hO⟩ : ∃ x, oG l P6 = x := ⟨_, rfl⟩
  have HG := Lib.hid (show G = gG (l.drop 0) P3 by rw [List.drop_zero, hG])
  have HO := Lib.hid (show O = oG (l.drop 0) P6 by rw [List.drop_zero, hO])
  rw [hG, hO]
  clear hcell hat hz h hG hO
  have hbl := Below.refl w.heap.size w
  go_enter Try.func32, Try.ntmps32
  go_wp2_with fail
  refine (H3.out _ hbl).mono ?_
  rintro e w1 ⟨rfl, hb1⟩
  replace hbl := gr_call hbl hb1
  clear hb1
  go_wp2_with fail
  refine (H6.out _ hbl).mono ?_
  rintro e w2 ⟨rfl, hb1⟩
  replace hbl := gr_call hbl hb1
  clear hb1
  go_wp2_with fail
  go_loopw [3, 4, 13] (fun gv ov iv wr => ∃ (k g o : Nat), gv = .int .i64 (g : Int) ∧ ov = .int .i64 (o : Int) ∧ iv = .int .i64 (k : Int) ∧ k ≤ z ∧ g < 8 ∧ o < 8 ∧ Below w.heap.size w wr ∧ Hid (G = gG (l.drop k) g) ∧ Hid (O = oG (l.drop k) o)) (fun _ _ iv _ => z - (intOf iv).toNat)
  case atStart => exact ⟨0, P3, P6, rfl, rfl, rfl, by omega, p3, p6, hbl, HG, HO⟩
  case round =>
    clear HG HO hbl p3 p6
    obtain ⟨k, g, o, rfl, rfl, rfl, hk, hg8, ho8, hbl, HG, HO⟩ := hrel
    rename_i wr
    by_cases hlt : k < z
    · have hlt' : decide ((k : Int) < (z : Int)) = true := decide_eq_true (by omega)
      have hlt2 : decide (k < z) = true := decide_eq_true hlt
      have hk' : k < l.length := by rw [Hz.out]; exact hlt
      obtain ⟨b, off, rfl, hgb, c0, c1, c2⟩ := Hcell.out k hk'
      replace c0 := cell_kept hbl c0
      replace c1 := cell_kept hbl c1
      replace c2 := cell_kept hbl c2
      have hq := Hpm.out l[k] (List.getElem_mem hk')
      have SG := Lib.hid (gG_step hk' g)
      have SO := Lib.hid (oG_step hk' o)
      have hgs := hbl.size
      generalize l[k] = a at *
      obtain ⟨t, d, q⟩ := a
      simp only at c0 c1 c2 hq SG SO
      obtain ⟨n, rfl⟩ : ∃ n : Nat, q = (n : Int) := ⟨q.toNat, by omega⟩
      have hn8 : n < 8 := by omega
      rw [Int.toNat_natCast] at SG SO
      have a1 := and8 g n hg8 hn8
      have a2 := and8 o n ho8 hn8
      have r1 := and_lt8 n hg8
      have r2 := and_lt8 n ho8
      clear hq
      by_cases h5 : t = 5
      · have HG2 := Lib.hid (show G = gG (l.drop (k + 1)) (g &&& n) by rw [HG.out, SG.out, if_pos (.inl h5)])
        have HO2 := Lib.hid (show O = oG (l.drop (k + 1)) (o &&& n) by rw [HO.out, SO.out, if_pos (.inl (.inl h5))])
        subst h5
        clear SG SO HG HO
        go_wp2_with fail
        go_roundw
        case rel => exact ⟨k + 1, g &&& n, o &&& n, rfl, rfl, rfl, by omega, r1, r2, by (repeat' (first | exact Below.refl _ _ | assumption | refine gr_drew ?_ | refine gr_drewN ?_ _ | refine gr_alloc ?_ _ | refine gr_set ?_ ?_ _ | refine gr_call ?_ (by assumption)) <;> (try (simp; done)) <;> (try (simp; omega)) <;> (try omega)), HG2, HO2⟩
        case measure => simp only [intOf]; omega
      · have e5 : (t == 5) = false := beq_eq_false_iff_ne.2 h5
        by_cases h2 : t = 2
        · have HG2 := Lib.hid (show G = gG (l.drop (k + 1)) (g &&& n) by rw [HG.out, SG.out, if_pos (.inr h2)])
          have HO2 := Lib.hid (show O = oG (l.drop (k + 1)) (o &&& n) by rw [HO.out, SO.out, if_pos (.inl (.inr h2))])
          clear h5
          subst h2
          clear SG SO HG HO
          go_wp2_with fail
          go_roundw
          case rel => exact ⟨k + 1, g &&& n, o &&& n, rfl, rfl, rfl, by omega, r1, r2, by (repeat' (first | exact Below.refl _ _ | assumption | refine gr_drew ?_ | refine gr_drewN ?_ _ | refine gr_alloc ?_ _ | refine gr_set ?_ ?_ _ | refine gr_call ?_ (by assumption)) <;> (try (simp; done)) <;> (try (simp; omega)) <;> (try omega)), HG2, HO2⟩
          case measure => simp only [intOf]; omega
        · have e2 : (t == 2) = false := beq_eq_false_iff_ne.2 h2
          by_cases h4 : t = 4
          · have HG2 := Lib.hid (show G = gG (l.drop (k + 1)) g by rw [HG.out, SG.out, if_neg (by omega)])
            have HO2 := Lib.hid (show O = oG (l.drop (k + 1)) (o &&& n) by rw [HO.out, SO.out, if_pos (.inr h4)])
            clear h5 h2
            subst h4
            clear SG SO HG HO
            go_wp2_with fail
            go_roundw
            case rel => exact ⟨k + 1, g, o &&& n, rfl, rfl, rfl, by omega, hg8, r2, by (repeat' (first | exact Below.refl _ _ | assumption | refine gr_drew ?_ | refine gr_drewN ?_ _ | refine gr_alloc ?_ _ | refine gr_set ?_ ?_ _ | refine gr_call ?_ (by assumption)) <;> (try (simp; done)) <;> (try (simp; omega)) <;> (try omega)), HG2, HO2⟩
            case measure => simp only [intOf]; omega
          · have HG2 := Lib.hid (show G = gG (l.drop (k + 1)) g by rw [HG.out, SG.out, if_neg (by omega)])
            have HO2 := Lib.hid (show O = oG (l.drop (k + 1)) o by rw [HO.out, SO.out, if_neg (by omega)])
            have e4 : (t == 4) = false := beq_eq_false_iff_ne.2 h4
            clear SG SO HG HO h2 h4 h5
            go_wp2_with fail
            go_roundw
            case rel => exact ⟨k + 1, g, o, rfl, rfl, rfl, by omega, hg8, ho8, by (repeat' (first | exact Below.refl _ _ | assumption | refine gr_drew ?_ | refine gr_drewN ?_ _ | refine gr_alloc ?_ _ | refine gr_set ?_ ?_ _ | refine gr_call ?_ (by assumption)) <;> (try (simp; done)) <;> (try (simp; omega)) <;> (try omega)), HG2, HO2⟩
            case measure => simp only [intOf]; omega
    · have hlt' : decide ((k : Int) < (z : Int)) = false := decide_eq_false (by omega)
      have hlt2 : decide (k < z) = false := decide_eq_false hlt
      have EG := Lib.hid (show G = g by rw [HG.out, gG_end (by rw [Hz.out]; omega)])
      have EO := Lib.hid (show O = o by rw [HO.out, oG_end (by rw [Hz.out]; omega)])
      have s1 : IntKind.i64.wrap (64 * (P1 : Int)) = 64 * (P1 : Int) := by rw [IntKind.wrap_i64]; omega
      have s2 : IntKind.i64.wrap (8 * (g : Int)) = 8 * (g : Int) := by rw [IntKind.wrap_i64]; omega
      have s3 : IntKind.i64.wrap (64 * (P1 : Int) + 8 * (g : Int)) = 64 * (P1 : Int) + 8 * (g : Int) := by rw [IntKind.wrap_i64]; omega
      have s4 : IntKind.i64.wrap (64 * (P1 : Int) + 8 * (g : Int) + (o : Int)) = 64 * (P1 : Int) + 8 * (g : Int) + (o : Int) := by rw [IntKind.wrap_i64]; omega
      clear HG HO
      go_wp2_with fail
      refine (H1.out _ hbl).mono ?_
      rintro e w9 ⟨rfl, hb9⟩
      go_wp2_with fail
      go_ret
      refine ⟨?_, gr_call hbl hb9⟩
      rw [EG.out, EO.out]
      show Ending.returned (Value.int .i64 (64 * (P1 : Int) + 8 * (g : Int) + (o : Int))) = _
      congr 2
theorem lessCatch_idle (p : Addr) (w : World) :
    CallsD Try.prog 31 #[.pointer (some p)] .returning w fun e u' w' => e = .returned (.tuple #[]) ∧ u' = .returning ∧ w' = w := by
  refine callsD_of_wpS Try.func31 rfl fun c₀ cs hu => ?_
  apply wpS_seq
  apply wpS_region
  simp [wpOpsS, go_sem, recoverD, hu, Try.ntmps31, Exit.thenS]
  refine wpS_cond (t := false) (by simp [Act.eval, Array.replicate]) ?_
  simp only [Bool.false_eq_true, if_false]
  refine wpS_of_wp (wp_skip ?_)
  cases c₀
  simp_all [bodyPostS, results, Try.results31]
structure RightAt (m : Mt) (va vd vx : Value) (w : World) : Prop where
  acl : At AclW.aceE va m.acl w
  len : m.acl.length ≤ 1000000
  ok : okL m
  md : InRange m.mode
theorem RightAt.call {m : Mt} {va vd vx : Value} {w w1 : World} (h : RightAt m va vd vx w) (hb : Below w.heap.size w w1) : RightAt m va vd vx w1 := ⟨h.acl.call hb, h.len, h.ok, h.md⟩
theorem listM_len {m : Mt} (h : m.acl.length ≤ 1000000) : (listM m).length ≤ 1000000 := by
  unfold listM
  split
  · simp [fromL]
  · exact h
set_option maxHeartbeats 3200000 in
set_option maxRecDepth 100000 in
theorem less_any (m : Mt) (va vd vx : Value) (w : World) (h : RightAt m va vd vx w) :
    Calls Try.prog 18 #[.agg (metaC m va vd vx)] w fun e w' => e = .returned (.int .i64 (lessM m : Int)) ∧ Below w.heap.size w w' := by
  have hmf : ∀ (fn : Fn) (first cap : Array Value) (w : World), (Instr.makeFunc fn first cap).run Try.prog w = .ok (.func fn first cap) w := fun _ _ _ _ => rfl
  have HL := Lib.hid (fun W (hb : Below w.heap.size w W) => goList_any m va vd vx W (h.acl.call hb) h.len h.md)
  have HT := Lib.hid (fun v W (hat : At aceE v (listM m) W) => least_any v (listM m) W hat (listM_len h.len) (LGo.of h.ok))
  rw [← less_go h.ok] at HT
  obtain ⟨r, hr⟩ : ∃ r, lessM m = r := ⟨_, rfl⟩
  rw [hr] at HT ⊢
  clear hr h
  unfold metaC at HL ⊢
  have hbl : Below w.heap.size w ((w.alloc (.cells #[.int .i64 m.mode, .int .i64 m.uid, .int .i64 m.gid, .int .i64 m.sec, .int .i64 m.nano, va, vd, vx, .int .i64 m.cap.v, .int .u64 (m.cap.p : Int), .int .u64 (m.cap.i : Int), .bool m.cap.e, .int .i64 m.cap.r, .int .i64 m.flags] 30)).alloc (.cells #[.int .i64 0] 3)) := by (repeat' (first | exact Below.refl _ _ | assumption | refine gr_drew ?_ | refine gr_drewN ?_ _ | refine gr_alloc ?_ _ | refine gr_set ?_ ?_ _ | refine gr_call ?_ (by assumption)) <;> (try (simp; done)) <;> (try (simp; omega)) <;> (try omega))
  go_enter_defers Try.func18, Try.ntmps18
  go_wp2_with fail
  refine (HL.out _ hbl).mono ?_
  rintro e w1 ⟨⟨v1, rfl, hat1⟩, hb1⟩
  have d0 : w1.cell? ⟨w.heap.size + 1, 0, none⟩ = some (.int .i64 0) := cell_kept hb1 (by simp [go_sem])
  have f0 : w1.frozen? ⟨w.heap.size + 1, 0, none⟩ = false := free_kept hb1 (v := .int .i64 0) (by simp [go_sem]) (by simp [go_sem])
  replace hbl := gr_call hbl hb1
  clear hb1
  go_wp2_with fail
  refine (HT.out _ _ hat1).mono ?_
  rintro e w2 ⟨rfl, hb2⟩
  have d1 := cell_kept hb2 d0
  have f1 := free_kept hb2 d0 f0
  have hsz := hb2.size
  replace hbl := gr_call hbl hb2
  clear hb2 d0 f0 hat1
  go_wp2_with fail
  refine leaves_cons (f := 31) (args := #[.pointer (some ⟨w.heap.size + 1, 0, none⟩)]) (by simp) (by simp [go_sem]) ?_
  refine (lessCatch_idle ⟨w.heap.size + 1, 0, none⟩ _).mono ?_
  rintro e u' w'' ⟨rfl, rfl, rfl⟩
  simp [Leaves, settle, results, Try.results18, go_sem, d1]
  exact hbl.setCell (show w.heap.size ≤ w.heap.size + 1 by omega) _
end Go.Proofs.Ytpfidbcnefnhcaa

/- Walks over package right: who can. -/
namespace Go.Proofs.Ytpfidbcnefnhcaa
open Go.RowKit
open MetaM RightM AclM AclW
set_option linter.unusedVariables false
structure GoSt (w : World) (B : Nat) (m : Mt) (va vd vx : Value) (c : Cr) (gv : Value) (W : World) : Prop where
  below : Below w.heap.size w W
  m : BlkIs W B 30 (metaC m va vd vx)
  c : BlkIs W (B + 1) 33 (credC c gv)
theorem GoSt.call {w : World} {B : Nat} {m : Mt} {va vd vx : Value} {c : Cr} {gv : Value} {W W' : World} (h : GoSt w B m va vd vx c gv W) (hb : Below W.heap.size W W') : GoSt w B m va vd vx c gv W' :=
  ⟨gr_call h.below hb, h.m.kept hb h.m.size, h.c.kept hb h.c.size⟩
theorem GoSt.made (w : World) (m : Mt) (va vd vx : Value) (c : Cr) (gv : Value) : GoSt w w.heap.size m va vd vx c gv ((w.alloc (.cells (metaC m va vd vx) 30)).alloc (.cells (credC c gv) 33)) :=
  ⟨gr_alloc (gr_alloc (Below.refl _ _) _) _, (BlkIs.made _ _ _).alloc _, BlkIs.made_at _ _ _ _ _ (by simp) rfl⟩
theorem GoSt.ks {w : World} {B : Nat} {m : Mt} {va vd vx : Value} {c : Cr} {gv : Value} {W : World} (h : GoSt w B m va vd vx c gv W) : W.cell? ⟨B, 0, none⟩ = some (.int .i64 m.mode) ∧ W.cell? ⟨B, 1, none⟩ = some (.int .i64 m.uid) ∧ W.cell? ⟨B, 2, none⟩ = some (.int .i64 m.gid) ∧ W.cell? ⟨B, 3, none⟩ = some (.int .i64 m.sec) ∧ W.cell? ⟨B, 4, none⟩ = some (.int .i64 m.nano) ∧ W.cell? ⟨B, 5, none⟩ = some (va) ∧ W.cell? ⟨B, 6, none⟩ = some (vd) ∧ W.cell? ⟨B, 7, none⟩ = some (vx) ∧ W.cell? ⟨B, 8, none⟩ = some (.int .i64 m.cap.v) ∧ W.cell? ⟨B, 9, none⟩ = some (.int .u64 (m.cap.p : Int)) ∧ W.cell? ⟨B, 10, none⟩ = some (.int .u64 (m.cap.i : Int)) ∧ W.cell? ⟨B, 11, none⟩ = some (.bool m.cap.e) ∧ W.cell? ⟨B, 12, none⟩ = some (.int .i64 m.cap.r) ∧ W.cell? ⟨B, 13, none⟩ = some (.int .i64 m.flags) :=
  ⟨h.m.cell_some 0 _ rfl, h.m.cell_some 1 _ rfl, h.m.cell_some 2 _ rfl, h.m.cell_some 3 _ rfl, h.m.cell_some 4 _ rfl, h.m.cell_some 5 _ rfl, h.m.cell_some 6 _ rfl, h.m.cell_some 7 _ rfl, h.m.cell_some 8 _ rfl, h.m.cell_some 9 _ rfl, h.m.cell_some 10 _ rfl, h.m.cell_some 11 _ rfl, h.m.cell_some 12 _ rfl, h.m.cell_some 13 _ rfl⟩
theorem GoSt.cs {w : World} {B : Nat} {m : Mt} {va vd vx : Value} {c : Cr} {gv : Value} {W : World} (h : GoSt w B m va vd vx c gv W) : W.cell? ⟨B + 1, 0, none⟩ = some (.int .i64 c.uid) ∧ W.cell? ⟨B + 1, 1, none⟩ = some (.int .i64 c.gid) ∧ W.cell? ⟨B + 1, 2, none⟩ = some (gv) ∧ W.cell? ⟨B + 1, 3, none⟩ = some (.int .i64 c.powers) :=
  ⟨h.c.cell_some 0 _ rfl, h.c.cell_some 1 _ rfl, h.c.cell_some 2 _ rfl, h.c.cell_some 3 _ rfl⟩
theorem rest_user {l : List Ace} {m : Mt} {c : Cr} {w : Nat} {a : Ace} (h : userM l c.uid = some a) : restM l m c w = gr (a.2.2.toNat &&& maskM l) w := by
  unfold restM
  rw [h, gr_and]
theorem user_last {l : List Ace} {u : Int} {k : Nat} (h : l.length ≤ k) (e : userM l u = userM (l.drop k) u) : userM l u = none := by rw [e, user_end h]
theorem user_hit {l : List Ace} {u : Int} {k : Nat} (h : k < l.length) (e : userM l u = userM (l.drop k) u) (h1 : l[k].1 = 2) (h2 : l[k].2.1 = u) : userM l u = some l[k] := by
  rw [e, user_drop h, if_pos ⟨h1, h2⟩]
theorem user_miss {l : List Ace} {u : Int} {k : Nat} (h : k < l.length) (e : userM l u = userM (l.drop k) u) (h1 : ¬ (l[k].1 = 2 ∧ l[k].2.1 = u)) : userM l u = userM (l.drop (k + 1)) u := by
  rw [e, user_drop h, if_neg h1]
attribute [local irreducible] Row At
set_option maxHeartbeats 6400000 in
set_option maxRecDepth 100000 in
theorem granted_any (m : Mt) (va vd vx : Value) (c : Cr) (gv : Value) (n : Nat) (w : World) (h : RightAt m va vd vx w) (hc : CredAt c gv w) (hn : n < 8) :
    Calls Try.prog 27 #[.agg (metaC m va vd vx), .agg (credC c gv), .int .i64 (n : Int)] w fun e w' =>
      e = .returned (.bool (if m.uid = c.uid then gr (permM (listM m) 1) n else restM (listM m) m c n)) ∧ Below w.heap.size w w' := by
  have HL := Lib.hid (fun W (hb : Below w.heap.size w W) => goList_any m va vd vx W (h.acl.call hb) h.len h.md)
  have hG := LGo.of h.ok
  obtain ⟨L, hLe⟩ : ∃ l, listM m = l := ⟨_, rfl⟩
  rw [hLe] at HL hG ⊢
  have hlen : L.length ≤ 32 := hG.ok.len
  have HP := Lib.hid (fun (v : Value) (t : Int) (ht : has L t = true) W (hat : At aceE v L W) => goPerm_any v L t W hat (by omega) ht)
  have HM := Lib.hid (fun (v : Value) W (hat : At aceE v L W) => goMasked_any v L W hat (by omega) hG.ok)
  have HO := Lib.hid (fun (v : Value) W (hb : Below w.heap.size w W) (hat : At aceE v L W) => ofGroups_any v L m va vd vx c gv W hat (by omega) hG (hc.call hb))
  have HR := Lib.hid (fun p (hp : p < 8) W => grants_any p n hp hn W)
  have HA := Lib.hid (fun (v : Value) (l : List Int) (k : Nat) W (hat : At intE v l W) (hl : l.length ≤ 1000000) (hok : ∀ p ∈ l, 0 ≤ p ∧ p ≤ 7) (hk : k < 8) => anyGrants_any v l k n W hat hl hok hk hn)
  have HG := Lib.hid hG
  have p1 := hG.ok.nat hG.ok.own
  have p6 := hG.ok.nat hG.ok.oth
  have hst := GoSt.made w m va vd vx c gv
  obtain ⟨RES, hRES⟩ : ∃ r, (if m.uid = c.uid then gr (permM L 1) n else restM L m c n) = r := ⟨_, rfl⟩
  rw [hRES]
  clear h hc hLe hG
  unfold metaC at HL
  unfold metaC credC at HO hst ⊢
  obtain ⟨B, hB⟩ : ∃ B, w.heap.size = B := ⟨_, rfl⟩
  rw [hB] at hst
  obtain ⟨W0, hW0⟩ : ∃ W, ((w.alloc (.cells #[.int .i64 m.mode, .int .i64 m.uid, .int .i64 m.gid, .int .i64 m.sec, .int .i64 m.nano, va, vd, vx, .int .i64 m.cap.v, .int .u64 (m.cap.p : Int), .int .u64 (m.cap.i : Int), .bool m.cap.e, .int .i64 m.cap.r, .int .i64 m.flags] 30)).alloc (.cells #[.int .i64 c.uid, .int .i64 c.gid, gv, .int .i64 c.powers] 33)) = W := ⟨_, rfl⟩
  rw [hW0] at hst
  have hbl := hst.below
  obtain ⟨k0, k1, k2, k3, k4, k5, k6, k7, k8, k9, k10, k11, k12, k13⟩ := hst.ks
  go_enter Try.func27, Try.ntmps27
  go_upto_if 17 with (first | (go_at_call 33; refine (HL.out _ hbl).mono ?_; rintro e w1 ⟨⟨v1, rfl, hat⟩, hb1⟩; replace hst := hst.call hb1; clear k0 k1 k2 k3 k4 k5 k6 k7 k8 k9 k10 k11 k12 k13; have k1 := hst.ks.2.1; have c0 := hst.cs.1))
  clear hb1 hbl hW0 HL k1 c0
  replace hst : GoSt w B m va vd vx c gv w1 := hst
  by_cases hu : m.uid = c.uid
  · rw [if_pos hu] at hRES
    have eu : (m.uid == c.uid) = true := beq_iff_eq.2 hu
    have HP1 := Lib.hid (HP.out v1 1 HG.out.ok.own)
    rw [p1.1] at HP1
    have q1 := p1.2
    generalize permM L 1 = P1 at *
    clear hu p1 p6
    go_wp2_with fail
    refine (HP1.out _ hat).mono ?_
    rintro e w2 ⟨rfl, hb2⟩
    go_wp2_with fail
    refine (HR.out _ q1 _).mono ?_
    rintro e w3 ⟨rfl, hb3⟩
    go_wp2_with fail
    go_ret
    exact ⟨by rw [← hRES]; rfl, gr_call (gr_call hst.below hb2) hb3⟩
  · rw [if_neg hu] at hRES
    have eu : (m.uid == c.uid) = false := beq_eq_false_iff_ne.2 hu
    have HP5 := Lib.hid (fun ht => HP.out v1 5 ht)
    have HP6 := Lib.hid (HP.out v1 6 HG.out.ok.oth)
    rw [p6.1] at HP6
    have q6 := p6.2
    have Hrest := Lib.hid (fun hn => rest_go HG.out m c n hn)
    have Huser := Lib.hid (fun a ha => rest_user (l := L) (m := m) (c := c) (w := n) (a := a) ha)
    rw [hRES] at Hrest Huser
    obtain ⟨z, hz⟩ : ∃ z, L.length = z := ⟨_, rfl⟩
    obtain ⟨p, cap, rfl, hcap, hcell⟩ := ace_look hat
    rw [hz] at hlen hcap hat HP5 HP6 ⊢
    have Hcell := Lib.hid hcell
    have Hz := Lib.hid hz
    have Hu := Lib.hid (show userM L c.uid = userM (L.drop 0) c.uid by rw [List.drop_zero])
    clear hu p1 p6 HP hRES hcell hz
    go_wp2_with fail
    go_loopw [24] (fun iv wr => ∃ k : Nat, iv = .int .i64 (k : Int) ∧ k ≤ z ∧ Below w1.heap.size w1 wr ∧ Hid (userM L c.uid = userM (L.drop k) c.uid)) (fun iv _ => z - (intOf iv).toNat)
    case atStart => exact ⟨0, rfl, by omega, Below.refl _ _, Hu⟩
    case round =>
      clear Hu
      obtain ⟨k, rfl, hk, hbl, Hu⟩ := hrel
      rename World => wr
      have hstr := hst.call hbl
      by_cases hlt : k < z
      · have hlt' : decide ((k : Int) < (z : Int)) = true := decide_eq_true (by omega)
        have hlt2 : decide (k < z) = true := decide_eq_true hlt
        have hk' : k < L.length := by rw [Hz.out]; exact hlt
        obtain ⟨b, off, rfl, hgb, c0, c1, c2⟩ := Hcell.out k hk'
        replace c0 := cell_kept hbl c0
        replace c1 := cell_kept hbl c1
        replace c2 := cell_kept hbl c2
        have y0 := hstr.cs.1
        have hne : B + 1 ≠ wr.heap.size := Nat.ne_of_lt hstr.c.size
        have HH := Lib.hid (fun h1 h2 => user_hit hk' Hu.out h1 h2)
        have HM2 := Lib.hid (fun h1 => user_miss hk' Hu.out h1)
        have hpm := HG.out.ok.perm L[k] (List.getElem_mem hk')
        generalize L[k] = a at *
        obtain ⟨t, d, q⟩ := a
        simp only at c0 c1 c2 hpm HH HM2
        by_cases h2 : t = 2
        · subst h2
          have x0 := cell_kept (gr_alloc (Below.refl wr.heap.size wr) (.cells #[.int .i64 2, .int .i64 d, .int .i64 q] 51)) y0
          by_cases hd : d = c.uid
          · have ed : (d == c.uid) = true := beq_iff_eq.2 hd
            have hus := HH.out rfl hd
            have h5 := HG.out.user hus
            have hm5 := mask_of HG.out.ok h5
            have hmk8 := HG.out.ok.mask.2
            replace HP5 := Lib.hid (HP5.out h5)
            rw [hm5] at HP5
            have HE := Lib.hid (Huser.out _ hus)
            simp only at HE
            obtain ⟨q, rfl⟩ : ∃ x : Nat, q = (x : Int) := ⟨q.toNat, by omega⟩
            have hq8 : q < 8 := by omega
            rw [Int.toNat_natCast] at HE
            generalize maskM L = MK at *
            clear HH HM2 hus h5 hm5 hpm Huser Hrest Hu hd HM HO HA HP6
            have hbD : Below w1.heap.size w1 (wr.alloc (.cells #[.int .i64 2, .int .i64 d, .int .i64 (q : Int)] 51)) := gr_alloc hbl _
            have d2 : (wr.alloc (.cells #[.int .i64 2, .int .i64 d, .int .i64 (q : Int)] 51)).cell? ⟨wr.heap.size, 2, none⟩ = some (.int .i64 (q : Int)) := by simp [go_sem]
            go_upto_region 8 with fail
            obtain ⟨D, hD⟩ : ∃ D, wr.heap.size = D := ⟨_, rfl⟩
            try simp only [hD]
            rw [hD] at d2
            generalize wr.alloc (.cells #[.int .i64 2, .int .i64 d, .int .i64 (q : Int)] 51) = wD at *
            refine region_oneUL (S := fun W => Below wD.heap.size wD W) 7
              [(fun W v => v = .pointer (some ⟨D, 2, none⟩)),
              (fun W v => v = .int .i64 (q : Int)),
              (fun W v => v = .slice (some ⟨b, off, none⟩) z cap),
              (fun W v => v = .int .i64 (MK : Int)),
              (fun W v => v = .int .i64 ((q &&& MK : Nat) : Int)),
              (fun W v => v = .int .i64 (n : Int)),
              (fun W v => v = .bool (gr (q &&& MK) n))] (by rfl) (by kernel_rfl) (by kernel_rfl) (by kernel_rfl) (by kernel_rfl) (by rfl) (by kernel_rfl) ?hS ?hp ?hs ?he
            case hS => exact gr_drew (Below.refl _ _)
            case hp => repeat' (first | exact trivial | refine ⟨fun _ _ _ _ h => h, ?_⟩)
            case hs =>
              simp only [List.take_succ_cons, List.take_zero]
              refine ⟨?_, ?_, ?_, ?_, ?_, ?_, ?_, trivial⟩
              · refine .inl ⟨met_none rfl, ?_⟩
                intro a W K hS hd hD hf hK
                have e9 : a.tmps.getD 9 undef = .pointer (some ⟨D, 0, none⟩) := hf 9 (by kernel_rfl)
                clear hd hf hD
                go_simp
                exact hK _ _ (Below.refl _ _) hS rfl (fun h => absurd h (by decide))
              · refine .inl ⟨met_none rfl, ?_⟩
                intro a W K hS hd hD hf hK
                have e38 : a.tmps.getD 38 undef = .pointer (some ⟨D, 2, none⟩) := hd ⟨0, .data⟩ (by simp) rfl
                have z0 := cell_kept hS d2
                clear hd hf hD
                go_simp
                exact hK _ _ (Below.refl _ _) hS rfl (fun h => absurd h (by decide))
              · refine .inl ⟨met_none rfl, ?_⟩
                intro a W K hS hd hD hf hK
                have e7 : a.tmps.getD 7 undef = .slice (some ⟨b, off, none⟩) z cap := hf 7 (by kernel_rfl)
                clear hd hf hD
                go_simp
                exact hK _ _ (Below.refl _ _) hS rfl (fun h => absurd h (by decide))
              · refine .inl ⟨met_none rfl, ?_⟩
                intro a W K hS hd hD hf hK
                have e40 : a.tmps.getD 40 undef = .slice (some ⟨b, off, none⟩) z cap := hd ⟨2, .data⟩ (by simp) rfl
                clear hd hf hD
                go_simp
                go_at_call 40
                refine (HP5.out _ (hat.call (gr_call hbD hS))).mono ?_
                rintro e w9 ⟨rfl, hb⟩
                exact hK _ _ hb (gr_call hS hb) rfl (fun h => absurd h (by decide))
              · refine .inl ⟨met_none rfl, ?_⟩
                intro a W K hS hd hD hf hK
                have e39 : a.tmps.getD 39 undef = .int .i64 (q : Int) := hd ⟨1, .data⟩ (by simp) rfl
                have e41 : a.tmps.getD 41 undef = .int .i64 (MK : Int) := hd ⟨3, .data⟩ (by simp) rfl
                have a8 := and8 q MK hq8 hmk8
                clear hd hf hD
                go_simp
                exact hK _ _ (Below.refl _ _) hS rfl (fun h => absurd h (by decide))
              · refine .inl ⟨met_none rfl, ?_⟩
                intro a W K hS hd hD hf hK
                have e2 : a.tmps.getD 2 undef = .int .i64 (n : Int) := hf 2 (by kernel_rfl)
                clear hd hf hD
                go_simp
                exact hK _ _ (Below.refl _ _) hS rfl (fun h => absurd h (by decide))
              · refine .inl ⟨met_none rfl, ?_⟩
                intro a W K hS hd hD hf hK
                have e42 : a.tmps.getD 42 undef = .int .i64 ((q &&& MK : Nat) : Int) := hd ⟨4, .data⟩ (by simp) rfl
                have e43 : a.tmps.getD 43 undef = .int .i64 (n : Int) := hd ⟨5, .data⟩ (by simp) rfl
                clear hd hf hD
                go_simp
                go_at_call 39
                refine (HR.out _ (and_lt8 MK hq8) _).mono ?_
                rintro e w9 ⟨rfl, hb⟩
                exact hK _ _ hb (gr_call hS hb) rfl (fun h => absurd h (by decide))
            case he =>
              intro vals w6 K hS6 hV hK
              have e6 := hV 6 (by omega)
              clear hV
              simp only [List.getD_cons_succ, List.getD_cons_zero] at e6
              refine Later.mk ?_
              simp only [List.append_eq, List.cons_append, List.nil_append, setN, Nat.reduceAdd, List.setIfInBounds_toArray, List.set_cons_succ, List.set_cons_zero]
              rw [show vals 6 = _ from e6]
              clear e6
              go_simp
              refine hK _ _ ?_
              clear hK
              go_wp2_with fail
              go_ret
              exact ⟨by rw [HE.out]; rfl, (gr_call hst.below hbD).trans (hS6.mono (by have := (gr_call hst.below hbD).size; omega))⟩
          · have ed : (d == c.uid) = false := beq_eq_false_iff_ne.2 hd
            have hus := HM2.out (fun h => hd h.2)
            clear HH HM2 Hu hd
            go_wp2_with fail
            go_roundw
            case rel => exact ⟨k + 1, rfl, by omega, gr_alloc hbl _, Lib.hid hus⟩
            case measure => simp only [intOf]; omega
        · have e2 : (t == 2) = false := beq_eq_false_iff_ne.2 h2
          have hus := HM2.out (fun h => h2 h.1)
          clear HH HM2 Hu h2
          go_wp2_with fail
          go_roundw
          case rel => exact ⟨k + 1, rfl, by omega, gr_alloc hbl _, Lib.hid hus⟩
          case measure => simp only [intOf]; omega
      · have hlt' : decide ((k : Int) < (z : Int)) = false := decide_eq_false (by omega)
        have hlt2 : decide (k < z) = false := decide_eq_false hlt
        have HE := Lib.hid (Hrest.out (user_last (by rw [Hz.out]; omega) Hu.out))
        have hblw := hstr.below
        obtain ⟨k0, k1, k2, k3, k4, k5, k6, k7, k8, k9, k10, k11, k12, k13⟩ := hstr.ks
        obtain ⟨y0, y1, y2, y3⟩ := hstr.cs
        have hat2 := hat.call hbl
        clear Hrest Huser Hu HP5
        go_wp2_with fail
        refine (HO.out _ _ hblw hat2).mono ?_
        rintro e w4 ⟨⟨u, rfl, hpg⟩, hb4⟩
        obtain ⟨pp, pc, rfl, hpc, _⟩ := int_look hpg
        have hpl := parts_len (l := L) (m := m) (c := c)
        have hpr := parts_rights HG.out (m := m) (c := c)
        rw [Hz.out] at hpl
        generalize partsG L m c = PG at *
        obtain ⟨np, hnp⟩ : ∃ x, PG.length = x := ⟨_, rfl⟩
        rw [hnp] at hpl hpc hpg HE ⊢
        replace hblw := gr_call hblw hb4
        replace hat2 := hat2.call hb4
        clear hb4 k0 k1 k2 k3 k4 k5 k6 k7 k8 k9 k10 k11 k12 k13 y0 y1 y2 y3
        by_cases hp : 0 < np
        · have e1 : decide ((0 : Int) < (np : Int)) = true := decide_eq_true (by omega)
          have e2 : decide (0 < np) = true := decide_eq_true hp
          have hmk8 := HG.out.ok.mask.2
          rw [e2, if_pos rfl] at HE
          go_wp2_with fail
          refine (HM.out _ _ hat2).mono ?_
          rintro e w5 ⟨rfl, hb5⟩
          go_wp2_with fail
          refine (HA.out _ PG _ _ (hpg.call hb5) (by rw [hnp]; omega) hpr hmk8).mono ?_
          rintro e w6 ⟨rfl, hb6⟩
          go_wp2_with fail
          go_ret
          exact ⟨by rw [HE.out]; rfl, gr_call (gr_call hblw hb5) hb6⟩
        · have e1 : decide ((0 : Int) < (np : Int)) = false := decide_eq_false (by omega)
          have e2 : decide (0 < np) = false := decide_eq_false hp
          rw [e2, if_neg (by decide)] at HE
          go_wp2_with fail
          refine (HP6.out _ hat2).mono ?_
          rintro e w5 ⟨rfl, hb5⟩
          go_wp2_with fail
          refine (HR.out _ q6 _).mono ?_
          rintro e w6 ⟨rfl, hb6⟩
          go_wp2_with fail
          go_ret
          exact ⟨by rw [HE.out]; rfl, gr_call (gr_call hblw hb5) hb6⟩
end Go.Proofs.Ytpfidbcnefnhcaa

/- Walks over package right: Can, a panic that is recovered. -/
namespace Go.Proofs.Ytpfidbcnefnhcaa
open Go.RowKit
open MetaM RightM AclM AclW
set_option linter.unusedVariables false
attribute [local irreducible] Row At
theorem canCatch_idle (p : Addr) (w : World) :
    CallsD Try.prog 26 #[.pointer (some p)] .returning w fun e u' w' => e = .returned (.tuple #[]) ∧ u' = .returning ∧ w' = w := by
  refine callsD_of_wpS Try.func26 rfl fun c₀ cs hu => ?_
  apply wpS_seq
  apply wpS_region
  simp [wpOpsS, go_sem, recoverD, hu, Try.ntmps26, Exit.thenS]
  refine wpS_cond (t := false) (by simp [Act.eval, Array.replicate]) ?_
  simp only [Bool.false_eq_true, if_false]
  refine wpS_of_wp (wp_skip ?_)
  cases c₀
  simp_all [bodyPostS, results, Try.results26]
def canW (w : World) (m : Mt) (va vd vx : Value) (c : Cr) (gv : Value) : World :=
  ((w.alloc (.cells #[.int .i64 m.mode, .int .i64 m.uid, .int .i64 m.gid, .int .i64 m.sec, .int .i64 m.nano, va, vd, vx, .int .i64 m.cap.v, .int .u64 (m.cap.p : Int), .int .u64 (m.cap.i : Int), .bool m.cap.e, .int .i64 m.cap.r, .int .i64 m.flags] 30)).alloc (.cells #[.int .i64 c.uid, .int .i64 c.gid, gv, .int .i64 c.powers] 33)).alloc (.cells #[.bool false] 4)
set_option maxHeartbeats 6400000 in
set_option maxRecDepth 100000 in
theorem can_any (m : Mt) (va vd vx : Value) (c : Cr) (gv : Value) (want : Int) (w : World) (h : RightAt m va vd vx w) (hc : CredAt c gv w) :
    Calls Try.prog 14 #[.agg (metaC m va vd vx), .agg (credC c gv), .int .i64 want] w fun e w' => e = .returned (.bool (canM m c want)) ∧ Below w.heap.size w w' := by
  have hmf : ∀ (fn : Fn) (first cap : Array Value) (w : World), (Instr.makeFunc fn first cap).run Try.prog w = .ok (.func fn first cap) w := fun _ _ _ _ => rfl
  obtain ⟨B, hB⟩ : ∃ B, w.heap.size = B := ⟨_, rfl⟩
  obtain ⟨W, hW⟩ : ∃ W, canW w m va vd vx c gv = W := ⟨_, rfl⟩
  have hst : GoSt w B m va vd vx c gv W := by
    rw [← hW, ← hB]
    exact (GoSt.made w m va vd vx c gv).call (gr_alloc (Below.refl _ _) _)
  have hres : BlkIs W (B + 2) 4 #[.bool false] := by
    rw [← hW, ← hB]
    exact BlkIs.made_at _ _ _ _ _ (by simp) rfl
  unfold canW at hW
  have r0 := hres.cell_some 0 _ rfl
  have f0 := hres.free 0
  by_cases h0 : want < 0 ∨ 7 < want
  · rw [can_out m c h0]
    unfold metaC credC
    clear h hc
    have hX : Below w.heap.size w (W.setCell ⟨B + 2, 0, none⟩ (.bool false)) := gr_set hst.below (p := ⟨B + 2, 0, none⟩) (by show w.heap.size ≤ B + 2; omega) _
    have q0 : (W.setCell ⟨B + 2, 0, none⟩ (.bool false)).cell? ⟨B + 2, 0, none⟩ = some (.bool false) := (hres.put 0 (.bool false)).cell_some 0 _ rfl
    rcases h0 with h0 | h0
    · have e1 : decide (want < 0) = true := decide_eq_true h0
      go_enter_defers Try.func14, Try.ntmps14
      go_wp2_with fail
      simp [bodyPostD, Leaves, settle, results, Try.results14, go_sem, q0]
      exact hX
    · have e1 : decide (want < 0) = false := decide_eq_false (by omega)
      have e2 : decide (7 < want) = true := decide_eq_true h0
      go_enter_defers Try.func14, Try.ntmps14
      go_wp2_with fail
      simp [bodyPostD, Leaves, settle, results, Try.results14, go_sem, q0]
      exact hX
  obtain ⟨n, rfl⟩ : ∃ n : Nat, want = (n : Int) := ⟨want.toNat, by omega⟩
  have hn : n < 8 := by omega
  have d0 : decide ((n : Int) < 0) = false := decide_eq_false (by omega)
  have d7 : decide ((7 : Int) < (n : Int)) = false := decide_eq_false (by omega)
  have d8 : decide (7 < n) = false := decide_eq_false (by omega)
  clear h0
  rw [can_nat m c hn]
  have HH := Lib.hid (fun W => gohas_any c gv 2 W)
  rw [has_all c] at HH
  obtain ⟨y0, y1, y2, y3⟩ := hst.cs
  by_cases ha : hasAll c = true
  · rw [if_pos ha]
    rw [ha] at HH
    unfold credC at HH ⊢
    unfold metaC
    clear h hc ha
    go_enter_defers Try.func14, Try.ntmps14
    go_wp2_with fail
    refine (HH.out _).mono ?_
    rintro e w1 ⟨rfl, hb1⟩
    have hr1 := hres.kept hb1 hres.size
    have r1 := hr1.cell_some 0 _ rfl
    have f1 := hr1.free 0
    have hbl := gr_call hst.below hb1
    have hX : Below w.heap.size w (w1.setCell ⟨B + 2, 0, none⟩ (.bool true)) := gr_set hbl (p := ⟨B + 2, 0, none⟩) (by show w.heap.size ≤ B + 2; omega) _
    have q0 : (w1.setCell ⟨B + 2, 0, none⟩ (.bool true)).cell? ⟨B + 2, 0, none⟩ = some (.bool true) := (hr1.put 0 (.bool true)).cell_some 0 _ rfl
    clear r0 f0
    go_wp2_with fail
    simp [bodyPostD, Leaves, settle, results, Try.results14, go_sem, q0]
    exact hX
  rw [if_neg ha]
  rw [Bool.eq_false_iff.2 ha] at HH
  have HT := Lib.hid (fun W (hb : Below w.heap.size w W) => granted_any m va vd vx c gv n W (h.call hb) (hc.call hb) hn)
  generalize (if m.uid = c.uid then gr (permM (listM m) 1) n else restM (listM m) m c n) = RES at *
  clear h hc ha
  unfold credC at HH
  unfold metaC credC at HT ⊢
  go_enter_defers Try.func14, Try.ntmps14
  go_wp2_with fail
  refine (HH.out _).mono ?_
  rintro e w1 ⟨rfl, hb1⟩
  replace hst := hst.call hb1
  have hr1 := hres.kept hb1 hres.size
  have r1 := hr1.cell_some 0 _ rfl
  have f1 := hr1.free 0
  have hbl := hst.below
  obtain ⟨k0, k1, k2, k3, k4, k5, k6, k7, k8, k9, k10, k11, k12, k13⟩ := hst.ks
  obtain ⟨y0, y1, y2, y3⟩ := hst.cs
  clear r0 f0 hb1
  go_wp2_with fail
  refine (HT.out _ hbl).mono ?_
  rintro e w2 ⟨rfl, hb2⟩
  have hr2 := hr1.kept hb2 hr1.size
  have r2 := hr2.cell_some 0 _ rfl
  have f2 := hr2.free 0
  replace hbl := gr_call hbl hb2
  have hX : Below w.heap.size w (w2.setCell ⟨B + 2, 0, none⟩ (.bool RES)) := gr_set hbl (p := ⟨B + 2, 0, none⟩) (by show w.heap.size ≤ B + 2; omega) _
  have q0 : (w2.setCell ⟨B + 2, 0, none⟩ (.bool RES)).cell? ⟨B + 2, 0, none⟩ = some (.bool RES) := (hr2.put 0 (.bool RES)).cell_some 0 _ rfl
  clear k0 k1 k2 k3 k4 k5 k6 k7 k8 k9 k10 k11 k12 k13 y0 y1 y2 y3 r1 f1 hb2
  go_wp2_with fail
  refine leaves_cons (f := 26) (args := #[.pointer (some ⟨B + 2, 0, none⟩)]) (by simp) (by simp [go_sem]) ?_
  refine (canCatch_idle ⟨B + 2, 0, none⟩ _).mono ?_
  rintro e u' w'' ⟨rfl, rfl, rfl⟩
  simp [Leaves, settle, results, Try.results14, go_sem, q0]
  exact hX
end Go.Proofs.Ytpfidbcnefnhcaa

/- Who may what: the program's own answers (in_any, owner_any, less_any, can_any stand in RgSm, RgLess, RgTop). -/
