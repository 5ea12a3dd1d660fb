/- The document's answer: what records say. -/
import Derived.Test.YtobfbjfajdnhaaaXatAdd
import Derived.Test.YtobfbjfajdnhaaaXatIsX
import Derived.Test.YtobfbjfajdnhaaaXatMath2
import Derived.Test.YtobfbjfajdnhaaaRegionR
import Derived.Test.YtobfbjfajdnhaaaLater
import Derived.Test.YtobfbjfajdnhaaaEscaRefGet
import Derived.Test.YtobfbjfajdnhaaaSixRefGet
namespace Go.Proofs.Ytobfbjfajdnhaaa
open Go.RowKit
open XatM
set_option linter.unusedVariables false

theorem build_xat (a b : ByteArray) (w : World) : (Instr.build 42 #[(0, .string a), (1, .string b)]).run Try.prog w = .ok (.agg #[.string a, .string b]) w :=
  run_build w _ _ _ (by kernel_rfl)
theorem build_err (w : World) : (Instr.build 32 #[(1, .int .i64 4)]).run Try.prog w = .ok (.agg #[.slice none 0 0, .int .i64 4]) w :=
  run_build w _ _ _ (by kernel_rfl)
theorem build_ok (p : Option Addr) (n c : Nat) (w : World) : (Instr.build 32 #[(0, .slice p n c)]).run Try.prog w = .ok (.agg #[.slice p n c, .int .i64 0]) w :=
  run_build w _ _ _ (by kernel_rfl)
theorem fresh_ne {W : World} {u : Value} {n : Nat} {t : TypeId} {cs : Array Value} (h : ∃ g, u = .pointer (some ⟨g, 0, none⟩) ∧ n ≤ g ∧ BlkIs W g t cs) : (Value.pointer (some ⟨W.heap.size, 0, none⟩)) ≠ u := by
  obtain ⟨g, rfl, _, hb⟩ := h
  intro e
  have := hb.size
  injection e with e
  injection e with e
  injection e with e
  omega
theorem put_two {W : World} {B h : Nat} {w0 : World} {t : TypeId} {x y : Value} (hT : BlkIs W h t #[x, y]) (hB : Below B w0 W) (hh : B ≤ h) (a b : Value) :
    BlkIs ((W.setCell ⟨h, 0, none⟩ a).setCell ⟨h, 1, none⟩ b) h t #[a, b] ∧ Below B w0 ((W.setCell ⟨h, 0, none⟩ a).setCell ⟨h, 1, none⟩ b) := by
  refine ⟨?_, (hB.setCell (p := ⟨h, 0, none⟩) hh a).setCell (p := ⟨h, 1, none⟩) hh b⟩
  have k := (hT.put 0 a).put 1 b
  simp only [List.setIfInBounds_toArray, List.set_cons_zero, List.set_cons_succ] at k
  exact k
theorem esc_said (o : Option (List UInt8)) : ∃ (E : ByteArray) (y : Bool), EscW.escSaid o = .agg #[.string E, .bool y] ∧ (y = true → o = some E.data.toList) ∧ (y = false → o = none) := by
  rcases o with _ | l
  · exact ⟨_, false, rfl, (fun h => by cases h), fun _ => rfl⟩
  · exact ⟨_, true, rfl, (fun _ => rfl), (fun h => by cases h)⟩
theorem six_said (o : Option (List UInt8)) : ∃ (E : ByteArray) (y : Bool), SixW.sixSaid o = .agg #[.string E, .bool y] ∧ (y = true → o = some E.data.toList) ∧ (y = false → o = none) := by
  rcases o with _ | l
  · exact ⟨_, false, rfl, (fun h => by cases h), fun _ => rfl⟩
  · exact ⟨_, true, rfl, (fun _ => rfl), (fun h => by cases h)⟩
def checkL (o : Option (List Xa)) : Option (List Xa) := match o with
  | some l => if mayL l then some l else none
  | none => none
/-- What is handed back. -/
def fromEnd (B : Nat) (o : Option (List Xa)) (e : Ending) (w' : World) : Prop := match o with
  | some l => ∃ v, e = .returned (.agg #[v, .int .i64 0]) ∧ Row xatE B v l w'
  | none => e = .returned (.agg #[.slice none 0 0, .int .i64 4])
theorem from_drop {acc rs : List Xa} {i : Nat} (h : i < rs.length) : fromGo acc (rs.drop i) = fromGo acc (rs[i] :: rs.drop (i + 1)) := by rw [List.drop_eq_getElem_cons h]
theorem isX_len {k : List UInt8} (h : isX k = true) : 13 ≤ k.length ∧ (k.head? = some 76 → 17 ≤ k.length) := by
  unfold isX at h
  rw [Bool.or_eq_true, Bool.and_eq_true, Bool.and_eq_true, decide_eq_true_eq, decide_eq_true_eq, decide_eq_true_eq, decide_eq_true_eq] at h
  rcases h with ⟨h1, h2⟩ | ⟨h1, _⟩
  · refine ⟨h1, fun hh => ?_⟩
    rcases k with _ | ⟨c, k⟩
    · cases hh
    · obtain rfl := Option.some.inj hh
      have := congrArg List.head? h2
      simp [sK] at this
  · exact ⟨by omega, fun _ => h1⟩
attribute [local irreducible] Row At

set_option maxHeartbeats 12800000 in
set_option maxRecDepth 100000 in
theorem refFrom_any (v : Value) (rs : List Xa) (w : World) (hatr : At recE v rs w) (hlr : rs.length ≤ 500) (hszr : ∀ r ∈ rs, r.1.length ≤ 20000 ∧ r.2.length ≤ 20000) :
    Calls Try.prog 10 #[v] w fun e w' => fromEnd w.heap.size (fromL rs) e w' ∧ Below w.heap.size w w' := by
  obtain ⟨zr, hzr⟩ : ∃ z, rs.length = z := ⟨_, rfl⟩
  obtain ⟨pr, cap, rfl, hcap, hcell⟩ := two_look rec_two hatr
  obtain ⟨o2, ho2⟩ : ∃ o, fromGo [] rs = o := ⟨_, rfl⟩
  rw [show fromL rs = checkL o2 by rw [← ho2]; rfl]
  have HO2 := Lib.hid ho2.symm
  rw [hzr] at hlr hcap hatr ⊢
  have Hcell := Lib.hid hcell
  have Hzr := Lib.hid hzr
  have Hszr := Lib.hid hszr
  have HI := Lib.hid (fun S w => isX_any S w)
  have HG1 := Lib.hid (fun S h w => EscW.refGet_any S h w)
  have HG2 := Lib.hid (fun S h w => SixW.refGet_any S h w)
  have HM := Lib.hid (fun v l w h1 h2 => refMayX_any v l w h1 h2)
  have hbe := build_err
  have hbo := build_ok
  obtain ⟨bR, hbR⟩ : ∃ b, w.heap.size = b := ⟨_, rfl⟩
  have hres0 : BlkIs (w.alloc (.cells #[.slice none 0 0, .int .i64 0] 32)) bR 32 #[.slice none 0 0, .int .i64 0] := by rw [← hbR]; exact BlkIs.made _ _ _
  have hx0 : Below w.heap.size w (w.alloc (.cells #[.slice none 0 0, .int .i64 0] 32)) := by (repeat' (first | exact Below.refl _ _ | assumption | refine gr_drew ?_ | refine gr_drewN ?_ _ | refine gr_alloc ?_ _ | refine gr_set ?_ ?_ _ | refine gr_call ?_ (by assumption)) <;> (try (simp; done)) <;> (try (simp; omega)) <;> (try omega))
  clear hcell hzr ho2 hszr hatr
  go_enter Try.func10, Try.ntmps10
  go_wp2_with fail
  try simp only [hbR]
  go_loopw [3, 4] (fun lv iv wr => ∃ (i : Nat) (acc : List Xa), iv = .int .i64 (i : Int) ∧ i ≤ zr ∧ Row xatE (bR + 1) lv acc wr ∧ Below w.heap.size w wr ∧ BlkIs wr bR 32 #[.slice none 0 0, .int .i64 0] ∧ acc.length ≤ i ∧ Hid (o2 = fromGo acc (rs.drop i))) (fun _ iv _ => zr - (intOf iv).toNat)
  case atStart => exact ⟨0, [], rfl, by omega, Row.nil _ _, hx0, hres0, by simp, Lib.hid HO2.out⟩
  case round =>
    clear hx0 hres0
    obtain ⟨i, l, rfl, hi, hR, hbl, hres, hacc, HR⟩ := hrel
    rename World => wr
    have hbR1 : bR + 1 ≤ wr.heap.size := hres.size
    obtain ⟨p, cp, hsh, _⟩ := hR.at.shape
    obtain ⟨z, hz⟩ : ∃ z, l.length = z := ⟨_, rfl⟩
    rw [hz] at hsh hacc
    have Hz := Lib.hid hz
    clear hz
    subst hsh
    by_cases hlt : i < zr
    · have hlt' : decide ((i : Int) < (zr : Int)) = true := decide_eq_true (by omega)
      have hlt2 : decide (i < zr) = true := decide_eq_true hlt
      have e3 : (i : Int) < (zr : Int) := by omega
      have hi' : i < rs.length := by rw [Hzr.out]; exact hlt
      obtain ⟨g, off, rfl, hg, c0, c1⟩ := Hcell.out i hi'
      replace c0 := cell_kept hbl c0
      replace c1 := cell_kept hbl c1
      have hsz := Hszr.out rs[i] (List.getElem_mem hi')
      have HF : Hid (o2 = fromGo l (rs[i] :: rs.drop (i + 1))) := Lib.hid (by rw [← from_drop hi']; exact HR.out)
      obtain ⟨r, hr⟩ : ∃ r, rs[i] = r := ⟨_, rfl⟩
      rw [hr] at c0 c1 hsz HF
      clear HR hr hi'
      obtain ⟨KB, hKB⟩ : ∃ K, strOf r.1 = K := ⟨_, rfl⟩
      obtain ⟨VB, hVB⟩ : ∃ K, strOf r.2 = K := ⟨_, rfl⟩
      have hKl : KB.data.toList = r.1 := by rw [← hKB, strOf_list]
      have hVl : VB.data.toList = r.2 := by rw [← hVB, strOf_list]
      have hKs : KB.size ≤ 20000 := by rw [← len_list, hKl]; exact hsz.1
      have hVs : VB.size ≤ 20000 := by rw [← len_list, hVl]; exact hsz.2
      rw [hKB] at c0
      rw [hVB] at c1
      have hi1 := Lib.hid (HI.out KB)
      rw [hKl] at hi1
      clear hKB hVB hsz
      rcases hx : isX r.1 with _ | _
      · rw [hx] at hi1
        have HN : Hid (o2 = fromGo l (rs.drop (i + 1))) := Lib.hid (by rw [HF.out, from_cons_none (by unfold recX; rw [hx]; rfl)])
        clear hx HF hKl hVl
        go_wp2_with fail
        refine (hi1.out _).mono ?_
        rintro e w2 ⟨rfl, rfl⟩
        go_wp2_with fail
        go_roundw
        case rel => exact ⟨i + 1, l, rfl, by omega, hR, hbl, hres, by rw [Hz.out]; omega, HN⟩
        case measure => simp only [intOf]; omega
      rw [hx] at hi1
      obtain ⟨h13, h17⟩ := isX_len hx
      obtain ⟨K13, hK13, _, hs13⟩ := slice_off KB 13 (by rw [← len_list, hKl]; exact h13)
      replace hs13 : ∀ W, (Instr.slice 9 (.string KB) (some (.int .i64 13)) none none).run Try.prog W = .ok (.string K13) W := hs13
      obtain ⟨c, hc, hidx⟩ := idxAt (P := Try.prog) Try.underlying9 KB 0 (by rw [← len_list, hKl]; omega)
      rw [hKl] at hK13 hc
      have hhd : r.1.head? = some c := by rw [List.head?_eq_getElem?]; exact hc
      replace hidx : ∀ W, (Instr.index 9 (.string KB) (.int .i64 0)).run Try.prog W = .ok (.int .u8 (c.toNat : Int)) W := hidx
      have Hstep := Lib.hid (fun (a : Xa) k hk h hlt => put_step (l := l) (a := a) (k := k) hk h hlt)
      have Hend := Lib.hid (fun (a : Xa) k hk h => put_end (l := l) (a := a) (k := k) hk h)
      have Hsame := Lib.hid (fun (a : Xa) k hk h he => put_same (l := l) (a := a) (k := k) hk h he)
      have Hmore := Lib.hid (fun (a : Xa) k hk h h1 h2 => put_more (l := l) (a := a) (k := k) hk h h1 h2)
      clear hc
      go_wp2_with fail
      refine (hi1.out _).mono ?_
      rintro e wr ⟨rfl, rfl⟩
      clear hi1
      go_wp2_with fail
      refine region_lastqgL (S := fun W => Below wr.heap.size wr W) 13
        [(fun W v => v = .slice (some ⟨g, off, none⟩) zr cap),
     (fun W v => v = .int .i64 (i : Nat)),
     (fun W v => v = .pointer (some ⟨g, off + i * 2, none⟩)),
     (fun W v => v = .pointer (some ⟨g, off + i * 2, none⟩)),
     (fun W v => v = .string KB),
     (fun W v => v = .string K13),
     (fun W v => v = .slice (some ⟨g, off, none⟩) zr cap),
     (fun W v => v = .int .i64 (i : Nat)),
     (fun W v => v = .pointer (some ⟨g, off + i * 2, none⟩)),
     (fun W v => v = .pointer (some ⟨g, off + i * 2 + 1, none⟩)),
     (fun W v => v = .string VB),
     (fun W v => v = .agg #[.string K13, .string VB]),
     (fun W v => ∃ h, v = .pointer (some ⟨h, 0, none⟩) ∧ wr.heap.size ≤ h ∧ BlkIs W h 42 #[.string ⟨#[]⟩, .string ⟨#[]⟩])] (by rfl) (by kernel_rfl) (by kernel_rfl) (by kernel_rfl) (by kernel_rfl) (by rfl) (by kernel_rfl) ?hS ?hp ?hs ?he
      case hS => exact gr_drew (Below.refl _ _)
      case hp => repeat' (first | exact trivial | refine ⟨fun _ _ _ _ h => h, ?_⟩ | refine ⟨fun _ _ _ hb ⟨g, h1, h2, h3⟩ => ⟨g, h1, h2, h3.kept hb h3.size⟩, ?_⟩)
      case hs =>
        simp only [List.take_succ_cons, List.take_zero]
        have C0 := c0
        have C1 := c1
        refine ⟨?_, ?_, ?_, ?_, ?_, ?_, ?_, ?_, ?_, ?_, ?_, ?_, ?_, trivial⟩
        · refine ⟨met_none rfl, ?_⟩
          intro a W K hS hd hf hK
          have e0 : a.tmps.getD 0 undef = .slice (some ⟨g, off, none⟩) zr cap := hf 0 (by kernel_rfl)
          clear hd hf
          go_simp
          exact hK _ _ (Below.refl _ _) hS rfl
        · refine ⟨met_none rfl, ?_⟩
          intro a W K hS hd hf hK
          have e4 : a.tmps.getD 4 undef = .int .i64 (i : Nat) := hf 4 (by kernel_rfl)
          clear hd hf
          go_simp
          exact hK _ _ (Below.refl _ _) hS rfl
        · refine ⟨met_none rfl, ?_⟩
          intro a W K hS hd hf hK
          have e23 : a.tmps.getD 23 undef = .slice (some ⟨g, off, none⟩) zr cap := hd ⟨0, .data⟩ (by simp) rfl
          have e24 : a.tmps.getD 24 undef = .int .i64 (i : Nat) := hd ⟨1, .data⟩ (by simp) rfl
          clear hd hf
          go_simp
          exact hK _ _ (Below.refl _ _) hS rfl
        · refine ⟨met_none rfl, ?_⟩
          intro a W K hS hd hf hK
          have e25 : a.tmps.getD 25 undef = .pointer (some ⟨g, off + i * 2, none⟩) := hd ⟨2, .data⟩ (by simp) rfl
          clear hd hf
          go_simp
          exact hK _ _ (Below.refl _ _) hS rfl
        · refine ⟨met_none rfl, ?_⟩
          intro a W K hS hd hf hK
          have e26 : a.tmps.getD 26 undef = .pointer (some ⟨g, off + i * 2, none⟩) := hd ⟨3, .data⟩ (by simp) rfl
          have c0 := cell_kept hS C0
          clear hd hf
          go_simp
          exact hK _ _ (Below.refl _ _) hS rfl
        · refine ⟨met_none rfl, ?_⟩
          intro a W K hS hd hf hK
          have e27 : a.tmps.getD 27 undef = .string KB := hd ⟨4, .data⟩ (by simp) rfl
          clear hd hf
          go_simp
          exact hK _ _ (Below.refl _ _) hS rfl
        · refine ⟨met_none rfl, ?_⟩
          intro a W K hS hd hf hK
          have e0 : a.tmps.getD 0 undef = .slice (some ⟨g, off, none⟩) zr cap := hf 0 (by kernel_rfl)
          clear hd hf
          go_simp
          exact hK _ _ (Below.refl _ _) hS rfl
        · refine ⟨met_none rfl, ?_⟩
          intro a W K hS hd hf hK
          have e4 : a.tmps.getD 4 undef = .int .i64 (i : Nat) := hf 4 (by kernel_rfl)
          clear hd hf
          go_simp
          exact hK _ _ (Below.refl _ _) hS rfl
        · refine ⟨met_none rfl, ?_⟩
          intro a W K hS hd hf hK
          have e29 : a.tmps.getD 29 undef = .slice (some ⟨g, off, none⟩) zr cap := hd ⟨6, .data⟩ (by simp) rfl
          have e30 : a.tmps.getD 30 undef = .int .i64 (i : Nat) := hd ⟨7, .data⟩ (by simp) rfl
          clear hd hf
          go_simp
          exact hK _ _ (Below.refl _ _) hS rfl
        · refine ⟨met_none rfl, ?_⟩
          intro a W K hS hd hf hK
          have e31 : a.tmps.getD 31 undef = .pointer (some ⟨g, off + i * 2, none⟩) := hd ⟨8, .data⟩ (by simp) rfl
          clear hd hf
          go_simp
          exact hK _ _ (Below.refl _ _) hS rfl
        · refine ⟨met_none rfl, ?_⟩
          intro a W K hS hd hf hK
          have e32 : a.tmps.getD 32 undef = .pointer (some ⟨g, off + i * 2 + 1, none⟩) := hd ⟨9, .data⟩ (by simp) rfl
          have c0 := cell_kept hS C1
          clear hd hf
          go_simp
          exact hK _ _ (Below.refl _ _) hS rfl
        · refine ⟨met_none rfl, ?_⟩
          intro a W K hS hd hf hK
          have e28 : a.tmps.getD 28 undef = .string K13 := hd ⟨5, .data⟩ (by simp) rfl
          have e33 : a.tmps.getD 33 undef = .string VB := hd ⟨10, .data⟩ (by simp) rfl
          have f1 := e28
          rw [Array.getD_eq_getD_getElem?] at f1
          have f2 := e33
          rw [Array.getD_eq_getD_getElem?] at f2
          have hbd := build_xat K13 VB
          clear hd hf
          go_simp
          exact hK _ _ (Below.refl _ _) hS rfl
        · refine ⟨met_none rfl, ?_⟩
          intro a W K hS hd hf hK
          clear hd hf
          go_simp
          exact hK _ _ ((Below.refl _ _).alloc (Nat.le_refl _) _) (gr_alloc hS _) ⟨_, rfl, hS.size, BlkIs.made _ _ _⟩
      case he =>
        intro vals w6 K hS6 hV hK
        have e34 := hV 11 (by omega)
        have e5 := hV 12 (by omega)
        clear hV
        simp only [List.getD_cons_succ, List.getD_cons_zero] at e34 e5
        obtain ⟨bx, e5, hbx, hblk⟩ := e5
        refine Later.mk ?_
        simp only [List.append_eq, List.cons_append, List.nil_append, setN, Nat.reduceAdd, List.setIfInBounds_toArray, List.set_cons_succ, List.set_cons_zero]
        rw [e34, e5]
        clear e34 e5
        have k0 := hblk.cell_some 0 _ rfl
        have f0 := hblk.free 0
        have k1 := hblk.cell_some 1 _ rfl
        have f1 := hblk.free 1
        go_simp
        obtain ⟨hblk3, hS3⟩ := put_two hblk hS6 hbx (.string K13) (.string VB)
        obtain ⟨w3, hw3⟩ : ∃ w3, (w6.setCell ⟨bx, 0, none⟩ (.string K13)).setCell ⟨bx, 1, none⟩ (.string VB) = w3 := ⟨_, rfl⟩
        rw [hw3] at hblk3 hS3 ⊢
        clear hw3 hblk hS6 k0 f0 k1 f1
        replace c0 := cell_kept hS3 c0
        replace c1 := cell_kept hS3 c1
        have hnox : (Value.slice p z cp).ownBlock ≠ some bx := by
          intro e
          have := (hR.lt _ e).2
          omega
        have hbxw : w.heap.size ≤ bx := Nat.le_trans hbl.size hbx
        replace hR := hR.call hS3
        replace hres := hres.kept hS3 hres.size
        replace hbl := gr_call hbl hS3
        have hbR1 : bR + 1 ≤ w3.heap.size := hres.size
        refine hK _ _ ?_
        clear hK K hbx hS3
        by_cases hL : c = 76
        case neg =>
          have hs : ((c.toNat : Int) == 76) = false := by
            rw [beq_eq_false_iff_ne]; intro h; exact hL (UInt8.toNat_inj.1 (by have : (76 : UInt8).toNat = 76 := rfl; omega))
          have HG : Hid (o2 = fromGo (putX l (K13.data.toList, VB.data.toList)) (rs.drop (i + 1))) := Lib.hid (by
            rw [HF.out, from_cons_some (x := (K13.data.toList, VB.data.toList)) (by
              unfold recX
              rw [hx, if_pos rfl, hhd, if_neg (fun e => hL (Option.some.inj e)), hK13, hVl])])
          have b0 := hblk3.cell_some 0 _ rfl
          have b1 := hblk3.cell_some 1 _ rfl
          clear hblk3 HF hL hK13 hhd hx h13 h17
          go_wp2_with fail
          clear hs hidx hs13 hKl hVl hKs hVs c0 c1
          replace Hstep := Lib.hid (Hstep.out (K13.data.toList, VB.data.toList))
          replace Hend := Lib.hid (Hend.out (K13.data.toList, VB.data.toList))
          replace Hsame := Lib.hid (Hsame.out (K13.data.toList, VB.data.toList))
          replace Hmore := Lib.hid (Hmore.out (K13.data.toList, VB.data.toList))
          obtain ⟨N, rfl⟩ : ∃ N : ByteArray, N = K13 := ⟨_, rfl⟩
          obtain ⟨V, rfl⟩ : ∃ N : ByteArray, N = VB := ⟨_, rfl⟩
          obtain ⟨wx, rfl⟩ : ∃ N : World, N = w3 := ⟨_, rfl⟩
          have hblx := hbl
          clear hbl
          have H0 : Hid (putX l (N.data.toList, V.data.toList) = l.take 0 ++ putX (l.drop 0) (N.data.toList, V.data.toList)) := Lib.hid (by simp)
          obtain ⟨L, hL⟩ : ∃ L, putX l (N.data.toList, V.data.toList) = L := ⟨_, rfl⟩
          rw [hL] at Hstep Hend Hsame Hmore H0 HG
          have HLl : Hid (L.length ≤ z + 1) := Lib.hid (by rw [← hL, ← Hz.out]; exact (put_len _ _).2)
          clear hL
          have hat := hR.at
          have Hcl : Hid (∀ j (h : j < l.length), ∃ g off, p = some ⟨g, off, none⟩ ∧ g < wx.heap.size ∧ TwoAt wx g (off + j * 2) l[j]) := Lib.hid (by
            obtain ⟨p', cap', e1, _, h⟩ := two_look xat_two hat
            cases e1
            exact h)
          clear hR
          go_wp2_with fail
          go_loopw [8] (fun kv w9 => ∃ k : Nat, kv = .int .i64 (k : Int) ∧ k ≤ z ∧ Below wx.heap.size wx w9 ∧ Hid (L = l.take k ++ putX (l.drop k) (N.data.toList, V.data.toList))) (fun kv _ => z - (intOf kv).toNat)
          case atStart => exact ⟨0, rfl, by omega, Below.refl _ _, H0⟩
          case round =>
            clear H0
            obtain ⟨k, rfl, hk, hbx9, HR⟩ := hrel
            rename World => wr
            replace b0 := cell_kept hbx9 b0
            replace b1 := cell_kept hbx9 b1
            have hres := hres.kept hbx9 hres.size
            have hlw := hat.call hbx9
            have hbl := gr_call hblx hbx9
            clear hblx
            by_cases hltk : k < z
            · have hltk' : decide ((k : Int) < (z : Int)) = true := decide_eq_true (by omega)
              have hltk2 : decide (k < z) = true := decide_eq_true hltk
              have hk' : k < l.length := by rw [Hz.out]; exact hltk
              obtain ⟨gl, offl, rfl, hgl, c0, c1⟩ := Hcl.out k hk'
              replace c0 := cell_kept hbx9 c0
              clear c1
              obtain ⟨Y, hY⟩ : ∃ Y, strOf l[k].1 = Y := ⟨_, rfl⟩
              have hYl : Y.data.toList = l[k].1 := by rw [← hY, strOf_list]
              have hcm := less_str Y N
              rw [hYl] at hcm
              rw [hY] at c0
              by_cases hid : l[k].1 < N.data.toList
              · have HN := Lib.hid (Hstep.out k hk' HR.out hid)
                rw [decide_eq_true hid] at hcm
                clear HR hY hYl hid
                go_wp2_with fail
                go_quiet (fail)
                go_wp2_with fail
                go_roundw
                case rel => exact ⟨k + 1, rfl, by omega, by (repeat' (first | exact Below.refl _ _ | assumption | refine gr_drew ?_ | refine gr_drewN ?_ _ | refine gr_alloc ?_ _ | refine gr_set ?_ ?_ _ | refine gr_call ?_ (by assumption)) <;> (try (simp; done)) <;> (try (simp; omega)) <;> (try omega)), HN⟩
                case measure => simp only [intOf]; omega
              · rw [decide_eq_false hid] at hcm
                obtain ⟨sv, hsv, hsat, _⟩ := slice_from hlw (k := k) (by omega)
                obtain ⟨tv, htv, htat, _⟩ := slice_upto hlw (k := k) (by omega)
                have HSm := Lib.hid (fun e => Hsame.out k hk' HR.out e)
                have HMo := Lib.hid (fun e => Hmore.out k hk' HR.out hid e)
                have hl0 : l.drop k ≠ [] := by
                  intro e
                  have := congrArg List.length e
                  rw [List.length_drop, List.length_nil] at this
                  omega
                have heq : (Y.toList == N.toList) = decide (l[k].1 = N.data.toList) := by rw [str_beq, hYl]
                clear HR Hcl hYl hid hbx9 hat
                go_wp2_with fail
                go_quiet (fail)
                rename_i nq
                have hqb : Below wr.heap.size wr (wr.drewN nq) := gr_drewN (Below.refl _ _) nq
                generalize wr.drewN nq = wq at *
                replace hlw := hlw.call hqb
                replace b0 := cell_kept hqb b0
                replace b1 := cell_kept hqb b1
                try replace hres := hres.kept hqb hres.size
                have hbq := gr_call hbl hqb
                have hrow0 := row_new wq.heap.size wq.heap.size wq rfl (Nat.le_refl _)
                have hat0 := hsat _ (hlw.alloc (.cells #[] 42))
                have hl1 : ([] : List Xa).length + (l.drop k).length ≤ 1000000 := by simp; have := Hz.out; omega
                have hsz2 : wq.heap.size ≤ (wq.alloc (.cells #[] 42)).heap.size := by simp
                clear hbl hqb
                go_wp2_with (at_builtin; refine wp_append_at xatE rfl _ _ rfl wq.heap.size _ sv [] (l.drop k) (wq.alloc (.cells #[] 42)) rfl (by exact hrow0) (by rfl) (by exact hat0) hl1 hsz2 ?_)
                intro v6 w6 hR6 hb6 _ _
                have hb6' : Below wq.heap.size wq w6 := (gr_alloc (Below.refl _ _) _).trans hb6
                replace b0 := cell_kept hb6' b0
                replace b1 := cell_kept hb6' b1
                have hbl6 : Below w.heap.size w w6 := gr_call hbq hb6'
                have hl6 := hlw.call hb6'
                try have hres6 := hres.kept hb6' hres.size
                clear hb6 hb6' hrow0 hat0 hl1 hsz2 hlw hbq
                have hat6 := hR6.at
                clear hR6
                obtain ⟨g6, off6, cap6, rfl, hcap6, hg6, hcell6⟩ := two_open xat_two hat6 hl0
                obtain ⟨y, hy⟩ : ∃ y, (l.drop k).length = y := ⟨_, rfl⟩
                have hy0 : 0 < y := by rw [← hy]; exact List.length_pos_iff.2 hl0
                have hc6 : w6.cell? ⟨g6, off6, none⟩ = some (.string Y) := by
                  have h := (hcell6 0 (by rw [hy]; exact hy0)).1
                  rw [List.getElem_drop] at h
                  rw [← hY]
                  simpa using h
                rw [hy] at hat6 hcap6 ⊢
                have hy1 : decide ((0 : Int) < (y : Int)) = true := decide_eq_true (by omega)
                have hy2 : decide (0 < y) = true := decide_eq_true hy0
                clear hcell6 hY
                by_cases he : l[k].1 = N.data.toList
                · have HE := Lib.hid (HSm.out he)
                  rw [decide_eq_true he] at heq
                  obtain ⟨rv, hrv, hrvat, _⟩ := slice_from (k := 1) (by rw [← hy] at hat6; exact hat6) (by rw [hy]; exact hy0)
                  rw [hy] at hrv hrvat
                  have hrv1 : ∀ W, (Instr.sliceAt 22 (.slice (some ⟨g6, off6, none⟩) y cap6) (some (.int .i64 1)) none none).run Try.prog W = .ok rv W := hrv
                  clear HSm HMo hrv he hltk hcm
                  go_wp2_with fail
                  go_quiet (fail)
                  rename_i nq
                  have hqb : Below w6.heap.size w6 (w6.drewN nq) := gr_drewN (Below.refl _ _) nq
                  go_wp2_with fail
                  generalize w6.drewN nq = W at *
                  replace b0 := cell_kept hqb b0
                  replace b1 := cell_kept hqb b1
                  replace hl6 := hl6.call hqb
                  replace hat6 := hat6.call hqb
                  replace hbl6 := gr_call hbl6 hqb
                  have hres6 := hres6.kept hqb hres6.size
                  replace hat6 := hrvat _ hat6
                  clear hqb hc6 hrvat heq
                  have hzz := Hz.out
                  clear hsv hsat
                  have hlA : ([] : List Xa).length + (l.take k).length ≤ 1000000 := by simp; omega
                  have hlB : (l.take k).length + [((N.data.toList, V.data.toList) : Xa)].length ≤ 1000000 := by simp; omega
                  have hlC : (l.take k ++ [((N.data.toList, V.data.toList) : Xa)]).length + ((l.drop k).drop 1).length ≤ 1000000 := by simp; omega
                  have hbW : Below W.heap.size W W.drew := gr_drew (Below.refl _ _)
                  go_region_held3 (fun w' => Below W.heap.size W w' ∧ w'.cell? ⟨bx, 0, none⟩ = some (.string N) ∧ w'.cell? ⟨bx, 1, none⟩ = some (.string V))
                    (first | (go_keep; done) | (go_split_ands; (repeat' apply And.intro) <;> (first | assumption | exact Amb.on (by assumption) hb1 | exact gr_call (by assumption) hb1 | exact cell_kept hb1 (by assumption) | exact free_kept hb1 (by assumption) (by assumption) | (show Below _ _ _; (repeat' (first | exact Below.refl _ _ | assumption | refine gr_drew ?_ | refine gr_drewN ?_ _ | refine gr_alloc ?_ _ | refine gr_set ?_ ?_ _ | refine gr_call ?_ (by assumption)) <;> (try (simp; done)) <;> (try (simp; omega)) <;> (try omega)); done) | (go_keep; done) | (simp [go_sem, *]; done))))
                    (first
                      | (refine step_append_at xatE rfl _ _ rfl W.heap.size v9 rv (l.take k ++ [(N.data.toList, V.data.toList)]) ((l.drop k).drop 1) ?_ ?_ ?_ ?_ hlC ?_ ?_
                         · rfl
                         · repeat' (first | exact hR9 | refine Row.drew ?_ | refine Row.alloc ?_ _)
                         · rfl
                         · exact hat6.call (by (repeat' (first | exact Below.refl _ _ | assumption | refine gr_drew ?_ | refine gr_drewN ?_ _ | refine gr_alloc ?_ _ | refine gr_set ?_ ?_ _ | refine gr_call ?_ (by assumption)) <;> (try (simp; done)) <;> (try (simp; omega)) <;> (try omega)))
                         · (try simp) <;> (try omega)
                         intro v10 w10 hR10 hb10 hg10 ho10
                         have hbW10 : Below W.heap.size W w10 := Below.trans (by (repeat' (first | exact Below.refl _ _ | assumption | refine gr_drew ?_ | refine gr_drewN ?_ _ | refine gr_alloc ?_ _ | refine gr_set ?_ ?_ _ | refine gr_call ?_ (by assumption)) <;> (try (simp; done)) <;> (try (simp; omega)) <;> (try omega))) hb10
                         have c0 := cell_kept hbW10 b0
                         have c1 := cell_kept hbW10 b1)
                      | (refine step_append_at xatE rfl _ _ rfl W.heap.size v8 (.slice (some ⟨w8.heap.size, 0, none⟩) 1 1) (l.take k) [(N.data.toList, V.data.toList)] ?_ ?_ ?_ ?_ hlB ?_ ?_
                         · rfl
                         · repeat' (first | exact hR8 | refine Row.drew ?_ | refine Row.alloc ?_ _)
                         · rfl
                         · repeat' (first | (refine at_one _ _ _ _ ?_; simp; done) | refine At.drew ?_ | refine At.alloc ?_ _)
                         · (try simp) <;> (try omega)
                         intro v9 w9 hR9 hb9 hg9 ho9
                         have hbW9 : Below W.heap.size W w9 := Below.trans (by (repeat' (first | exact Below.refl _ _ | assumption | refine gr_drew ?_ | refine gr_drewN ?_ _ | refine gr_alloc ?_ _ | refine gr_set ?_ ?_ _ | refine gr_call ?_ (by assumption)) <;> (try (simp; done)) <;> (try (simp; omega)) <;> (try omega))) hb9
                         have hs9 := hbW9.size
                         have c0 := cell_kept hbW9 b0
                         have c1 := cell_kept hbW9 b1)
                      | (refine step_append_at xatE rfl _ _ rfl W.heap.size v8 (.slice (some ⟨W.heap.size, 0, none⟩) 1 1) (l.take k) [(N.data.toList, V.data.toList)] ?_ ?_ ?_ ?_ hlB ?_ ?_
                         · rfl
                         · repeat' (first | exact hR8 | refine Row.drew ?_ | refine Row.alloc ?_ _)
                         · rfl
                         · repeat' (first | exact ho | refine At.drew ?_ | refine At.alloc ?_ _)
                         · (try simp) <;> (try omega)
                         intro v9 w9 hR9 hb9 hg9 ho9
                         have hbW9 : Below W.heap.size W w9 := Below.trans (by (repeat' (first | exact Below.refl _ _ | assumption | refine gr_drew ?_ | refine gr_drewN ?_ _ | refine gr_alloc ?_ _ | refine gr_set ?_ ?_ _ | refine gr_call ?_ (by assumption)) <;> (try (simp; done)) <;> (try (simp; omega)) <;> (try omega))) hb9
                         have hs9 := hbW9.size
                         have c0 := cell_kept hbW9 b0
                         have c1 := cell_kept hbW9 b1)
                      | (refine step_append_at xatE rfl _ _ rfl W.heap.size v8 (.slice (some ⟨W.heap.size + 1, 0, none⟩) 1 1) (l.take k) [(N.data.toList, V.data.toList)] ?_ ?_ ?_ ?_ hlB ?_ ?_
                         · rfl
                         · repeat' (first | exact hR8 | refine Row.drew ?_ | refine Row.alloc ?_ _)
                         · rfl
                         · repeat' (first | exact ho | refine At.drew ?_ | refine At.alloc ?_ _)
                         · (try simp) <;> (try omega)
                         intro v9 w9 hR9 hb9 hg9 ho9
                         have hbW9 : Below W.heap.size W w9 := Below.trans (by (repeat' (first | exact Below.refl _ _ | assumption | refine gr_drew ?_ | refine gr_drewN ?_ _ | refine gr_alloc ?_ _ | refine gr_set ?_ ?_ _ | refine gr_call ?_ (by assumption)) <;> (try (simp; done)) <;> (try (simp; omega)) <;> (try omega))) hb9
                         have hs9 := hbW9.size
                         have c0 := cell_kept hbW9 b0
                         have c1 := cell_kept hbW9 b1)
                      | (refine step_append_at xatE rfl _ _ rfl W.heap.size (.slice (some ⟨W.heap.size, 0, none⟩) 0 0) tv [] (l.take k) ?_ ?_ ?_ (htat _ ?_) hlA ?_ ?_
                         · rfl
                         · repeat' (first | (refine row_new _ _ _ ?_ ?_ <;> (try simp) <;> (try omega); done) | refine Row.drew ?_ | refine Row.alloc ?_ _)
                         · rfl
                         · exact hl6.call (by (repeat' (first | exact Below.refl _ _ | assumption | refine gr_drew ?_ | refine gr_drewN ?_ _ | refine gr_alloc ?_ _ | refine gr_set ?_ ?_ _ | refine gr_call ?_ (by assumption)) <;> (try (simp; done)) <;> (try (simp; omega)) <;> (try omega)))
                         · (try simp) <;> (try omega)
                         intro v8 w8 hR8 hb8 hg8 ho8
                         rw [List.nil_append] at hR8
                         have hbW8 : Below W.heap.size W w8 := Below.trans (by (repeat' (first | exact Below.refl _ _ | assumption | refine gr_drew ?_ | refine gr_drewN ?_ _ | refine gr_alloc ?_ _ | refine gr_set ?_ ?_ _ | refine gr_call ?_ (by assumption)) <;> (try (simp; done)) <;> (try (simp; omega)) <;> (try omega))) hb8
                         have hs8 := hbW8.size
                         have c0 := cell_kept hbW8 b0
                         have c1 := cell_kept hbW8 b1
                         first
                           | (have ho : At xatE (.slice (some ⟨W.heap.size, 0, none⟩) 1 1) [(N.data.toList, V.data.toList)] w8 := by
                                refine At.grown ?_ hg8 (by intro j hj; simp [Value.ownBlock] at hj ⊢; omega)
                                repeat' (first | (refine at_one _ _ _ _ ?_; simp; done) | refine At.drew ?_ | refine At.alloc ?_ _))
                           | (have ho : At xatE (.slice (some ⟨W.heap.size + 1, 0, none⟩) 1 1) [(N.data.toList, V.data.toList)] w8 := by
                                refine At.grown ?_ hg8 (by intro j hj; simp [Value.ownBlock] at hj ⊢; omega)
                                repeat' (first | (refine at_one _ _ _ _ ?_; simp; done) | refine At.drew ?_ | refine At.alloc ?_ _))
                           | skip)
                      | (refine step_append_at xatE rfl _ _ rfl W.heap.size (.slice (some ⟨W.heap.size + 1, 0, none⟩) 0 0) tv [] (l.take k) ?_ ?_ ?_ (htat _ ?_) hlA ?_ ?_
                         · rfl
                         · repeat' (first | (refine row_new _ _ _ ?_ ?_ <;> (try simp) <;> (try omega); done) | refine Row.drew ?_ | refine Row.alloc ?_ _)
                         · rfl
                         · exact hl6.call (by (repeat' (first | exact Below.refl _ _ | assumption | refine gr_drew ?_ | refine gr_drewN ?_ _ | refine gr_alloc ?_ _ | refine gr_set ?_ ?_ _ | refine gr_call ?_ (by assumption)) <;> (try (simp; done)) <;> (try (simp; omega)) <;> (try omega)))
                         · (try simp) <;> (try omega)
                         intro v8 w8 hR8 hb8 hg8 ho8
                         rw [List.nil_append] at hR8
                         have hbW8 : Below W.heap.size W w8 := Below.trans (by (repeat' (first | exact Below.refl _ _ | assumption | refine gr_drew ?_ | refine gr_drewN ?_ _ | refine gr_alloc ?_ _ | refine gr_set ?_ ?_ _ | refine gr_call ?_ (by assumption)) <;> (try (simp; done)) <;> (try (simp; omega)) <;> (try omega))) hb8
                         have hs8 := hbW8.size
                         have c0 := cell_kept hbW8 b0
                         have c1 := cell_kept hbW8 b1
                         first
                           | (have ho : At xatE (.slice (some ⟨W.heap.size, 0, none⟩) 1 1) [(N.data.toList, V.data.toList)] w8 := by
                                refine At.grown ?_ hg8 (by intro j hj; simp [Value.ownBlock] at hj ⊢; omega)
                                repeat' (first | (refine at_one _ _ _ _ ?_; simp; done) | refine At.drew ?_ | refine At.alloc ?_ _))
                           | (have ho : At xatE (.slice (some ⟨W.heap.size + 1, 0, none⟩) 1 1) [(N.data.toList, V.data.toList)] w8 := by
                                refine At.grown ?_ hg8 (by intro j hj; simp [Value.ownBlock] at hj ⊢; omega)
                                repeat' (first | (refine at_one _ _ _ _ ?_; simp; done) | refine At.drew ?_ | refine At.alloc ?_ _))
                           | skip))
                  all_goals
                    go_wp2_with fail
                    go_roundw
                    case rel => exact ⟨i + 1, L, rfl, by omega, by rw [HE.out]; exact hR10.mono (Nat.le_trans hres6.size (Nat.le_refl _)), hbl6.trans (hbW10.mono hbl6.size), hres6.kept hbW10 hres6.size, by have := HLl.out; omega, HG⟩
                    case measure => simp only [intOf]; omega
                · have HE := Lib.hid (HMo.out he)
                  rw [decide_eq_false he] at heq
                  clear HSm HMo he hltk hcm
                  go_wp2_with fail
                  go_quiet (fail)
                  rename_i nq
                  have hqb : Below w6.heap.size w6 (w6.drewN nq) := gr_drewN (Below.refl _ _) nq
                  go_wp2_with fail
                  generalize w6.drewN nq = W at *
                  replace b0 := cell_kept hqb b0
                  replace b1 := cell_kept hqb b1
                  replace hl6 := hl6.call hqb
                  replace hat6 := hat6.call hqb
                  replace hbl6 := gr_call hbl6 hqb
                  have hres6 := hres6.kept hqb hres6.size
                  clear hqb hc6 heq
                  generalize (Value.slice (some ⟨g6, off6, none⟩) y cap6) = rv at *
                  have hzz := Hz.out
                  clear hsv hsat
                  have hlA : ([] : List Xa).length + (l.take k).length ≤ 1000000 := by simp; omega
                  have hlB : (l.take k).length + [((N.data.toList, V.data.toList) : Xa)].length ≤ 1000000 := by simp; omega
                  have hlC : (l.take k ++ [((N.data.toList, V.data.toList) : Xa)]).length + (l.drop k).length ≤ 1000000 := by simp; omega
                  have hbW : Below W.heap.size W W.drew := gr_drew (Below.refl _ _)
                  go_region_held3 (fun w' => Below W.heap.size W w' ∧ w'.cell? ⟨bx, 0, none⟩ = some (.string N) ∧ w'.cell? ⟨bx, 1, none⟩ = some (.string V))
                    (first | (go_keep; done) | (go_split_ands; (repeat' apply And.intro) <;> (first | assumption | exact Amb.on (by assumption) hb1 | exact gr_call (by assumption) hb1 | exact cell_kept hb1 (by assumption) | exact free_kept hb1 (by assumption) (by assumption) | (show Below _ _ _; (repeat' (first | exact Below.refl _ _ | assumption | refine gr_drew ?_ | refine gr_drewN ?_ _ | refine gr_alloc ?_ _ | refine gr_set ?_ ?_ _ | refine gr_call ?_ (by assumption)) <;> (try (simp; done)) <;> (try (simp; omega)) <;> (try omega)); done) | (go_keep; done) | (simp [go_sem, *]; done))))
                    (first
                      | (refine step_append_at xatE rfl _ _ rfl W.heap.size v9 rv (l.take k ++ [(N.data.toList, V.data.toList)]) (l.drop k) ?_ ?_ ?_ ?_ hlC ?_ ?_
                         · rfl
                         · repeat' (first | exact hR9 | refine Row.drew ?_ | refine Row.alloc ?_ _)
                         · rfl
                         · exact hat6.call (by (repeat' (first | exact Below.refl _ _ | assumption | refine gr_drew ?_ | refine gr_drewN ?_ _ | refine gr_alloc ?_ _ | refine gr_set ?_ ?_ _ | refine gr_call ?_ (by assumption)) <;> (try (simp; done)) <;> (try (simp; omega)) <;> (try omega)))
                         · (try simp) <;> (try omega)
                         intro v10 w10 hR10 hb10 hg10 ho10
                         have hbW10 : Below W.heap.size W w10 := Below.trans (by (repeat' (first | exact Below.refl _ _ | assumption | refine gr_drew ?_ | refine gr_drewN ?_ _ | refine gr_alloc ?_ _ | refine gr_set ?_ ?_ _ | refine gr_call ?_ (by assumption)) <;> (try (simp; done)) <;> (try (simp; omega)) <;> (try omega))) hb10
                         have c0 := cell_kept hbW10 b0
                         have c1 := cell_kept hbW10 b1)
                      | (refine step_append_at xatE rfl _ _ rfl W.heap.size v8 (.slice (some ⟨w8.heap.size, 0, none⟩) 1 1) (l.take k) [(N.data.toList, V.data.toList)] ?_ ?_ ?_ ?_ hlB ?_ ?_
                         · rfl
                         · repeat' (first | exact hR8 | refine Row.drew ?_ | refine Row.alloc ?_ _)
                         · rfl
                         · repeat' (first | (refine at_one _ _ _ _ ?_; simp; done) | refine At.drew ?_ | refine At.alloc ?_ _)
                         · (try simp) <;> (try omega)
                         intro v9 w9 hR9 hb9 hg9 ho9
                         have hbW9 : Below W.heap.size W w9 := Below.trans (by (repeat' (first | exact Below.refl _ _ | assumption | refine gr_drew ?_ | refine gr_drewN ?_ _ | refine gr_alloc ?_ _ | refine gr_set ?_ ?_ _ | refine gr_call ?_ (by assumption)) <;> (try (simp; done)) <;> (try (simp; omega)) <;> (try omega))) hb9
                         have hs9 := hbW9.size
                         have c0 := cell_kept hbW9 b0
                         have c1 := cell_kept hbW9 b1)
                      | (refine step_append_at xatE rfl _ _ rfl W.heap.size v8 (.slice (some ⟨W.heap.size, 0, none⟩) 1 1) (l.take k) [(N.data.toList, V.data.toList)] ?_ ?_ ?_ ?_ hlB ?_ ?_
                         · rfl
                         · repeat' (first | exact hR8 | refine Row.drew ?_ | refine Row.alloc ?_ _)
                         · rfl
                         · repeat' (first | exact ho | refine At.drew ?_ | refine At.alloc ?_ _)
                         · (try simp) <;> (try omega)
                         intro v9 w9 hR9 hb9 hg9 ho9
                         have hbW9 : Below W.heap.size W w9 := Below.trans (by (repeat' (first | exact Below.refl _ _ | assumption | refine gr_drew ?_ | refine gr_drewN ?_ _ | refine gr_alloc ?_ _ | refine gr_set ?_ ?_ _ | refine gr_call ?_ (by assumption)) <;> (try (simp; done)) <;> (try (simp; omega)) <;> (try omega))) hb9
                         have hs9 := hbW9.size
                         have c0 := cell_kept hbW9 b0
                         have c1 := cell_kept hbW9 b1)
                      | (refine step_append_at xatE rfl _ _ rfl W.heap.size v8 (.slice (some ⟨W.heap.size + 1, 0, none⟩) 1 1) (l.take k) [(N.data.toList, V.data.toList)] ?_ ?_ ?_ ?_ hlB ?_ ?_
                         · rfl
                         · repeat' (first | exact hR8 | refine Row.drew ?_ | refine Row.alloc ?_ _)
                         · rfl
                         · repeat' (first | exact ho | refine At.drew ?_ | refine At.alloc ?_ _)
                         · (try simp) <;> (try omega)
                         intro v9 w9 hR9 hb9 hg9 ho9
                         have hbW9 : Below W.heap.size W w9 := Below.trans (by (repeat' (first | exact Below.refl _ _ | assumption | refine gr_drew ?_ | refine gr_drewN ?_ _ | refine gr_alloc ?_ _ | refine gr_set ?_ ?_ _ | refine gr_call ?_ (by assumption)) <;> (try (simp; done)) <;> (try (simp; omega)) <;> (try omega))) hb9
                         have hs9 := hbW9.size
                         have c0 := cell_kept hbW9 b0
                         have c1 := cell_kept hbW9 b1)
                      | (refine step_append_at xatE rfl _ _ rfl W.heap.size (.slice (some ⟨W.heap.size, 0, none⟩) 0 0) tv [] (l.take k) ?_ ?_ ?_ (htat _ ?_) hlA ?_ ?_
                         · rfl
                         · repeat' (first | (refine row_new _ _ _ ?_ ?_ <;> (try simp) <;> (try omega); done) | refine Row.drew ?_ | refine Row.alloc ?_ _)
                         · rfl
                         · exact hl6.call (by (repeat' (first | exact Below.refl _ _ | assumption | refine gr_drew ?_ | refine gr_drewN ?_ _ | refine gr_alloc ?_ _ | refine gr_set ?_ ?_ _ | refine gr_call ?_ (by assumption)) <;> (try (simp; done)) <;> (try (simp; omega)) <;> (try omega)))
                         · (try simp) <;> (try omega)
                         intro v8 w8 hR8 hb8 hg8 ho8
                         rw [List.nil_append] at hR8
                         have hbW8 : Below W.heap.size W w8 := Below.trans (by (repeat' (first | exact Below.refl _ _ | assumption | refine gr_drew ?_ | refine gr_drewN ?_ _ | refine gr_alloc ?_ _ | refine gr_set ?_ ?_ _ | refine gr_call ?_ (by assumption)) <;> (try (simp; done)) <;> (try (simp; omega)) <;> (try omega))) hb8
                         have hs8 := hbW8.size
                         have c0 := cell_kept hbW8 b0
                         have c1 := cell_kept hbW8 b1
                         first
                           | (have ho : At xatE (.slice (some ⟨W.heap.size, 0, none⟩) 1 1) [(N.data.toList, V.data.toList)] w8 := by
                                refine At.grown ?_ hg8 (by intro j hj; simp [Value.ownBlock] at hj ⊢; omega)
                                repeat' (first | (refine at_one _ _ _ _ ?_; simp; done) | refine At.drew ?_ | refine At.alloc ?_ _))
                           | (have ho : At xatE (.slice (some ⟨W.heap.size + 1, 0, none⟩) 1 1) [(N.data.toList, V.data.toList)] w8 := by
                                refine At.grown ?_ hg8 (by intro j hj; simp [Value.ownBlock] at hj ⊢; omega)
                                repeat' (first | (refine at_one _ _ _ _ ?_; simp; done) | refine At.drew ?_ | refine At.alloc ?_ _))
                           | skip)
                      | (refine step_append_at xatE rfl _ _ rfl W.heap.size (.slice (some ⟨W.heap.size + 1, 0, none⟩) 0 0) tv [] (l.take k) ?_ ?_ ?_ (htat _ ?_) hlA ?_ ?_
                         · rfl
                         · repeat' (first | (refine row_new _ _ _ ?_ ?_ <;> (try simp) <;> (try omega); done) | refine Row.drew ?_ | refine Row.alloc ?_ _)
                         · rfl
                         · exact hl6.call (by (repeat' (first | exact Below.refl _ _ | assumption | refine gr_drew ?_ | refine gr_drewN ?_ _ | refine gr_alloc ?_ _ | refine gr_set ?_ ?_ _ | refine gr_call ?_ (by assumption)) <;> (try (simp; done)) <;> (try (simp; omega)) <;> (try omega)))
                         · (try simp) <;> (try omega)
                         intro v8 w8 hR8 hb8 hg8 ho8
                         rw [List.nil_append] at hR8
                         have hbW8 : Below W.heap.size W w8 := Below.trans (by (repeat' (first | exact Below.refl _ _ | assumption | refine gr_drew ?_ | refine gr_drewN ?_ _ | refine gr_alloc ?_ _ | refine gr_set ?_ ?_ _ | refine gr_call ?_ (by assumption)) <;> (try (simp; done)) <;> (try (simp; omega)) <;> (try omega))) hb8
                         have hs8 := hbW8.size
                         have c0 := cell_kept hbW8 b0
                         have c1 := cell_kept hbW8 b1
                         first
                           | (have ho : At xatE (.slice (some ⟨W.heap.size, 0, none⟩) 1 1) [(N.data.toList, V.data.toList)] w8 := by
                                refine At.grown ?_ hg8 (by intro j hj; simp [Value.ownBlock] at hj ⊢; omega)
                                repeat' (first | (refine at_one _ _ _ _ ?_; simp; done) | refine At.drew ?_ | refine At.alloc ?_ _))
                           | (have ho : At xatE (.slice (some ⟨W.heap.size + 1, 0, none⟩) 1 1) [(N.data.toList, V.data.toList)] w8 := by
                                refine At.grown ?_ hg8 (by intro j hj; simp [Value.ownBlock] at hj ⊢; omega)
                                repeat' (first | (refine at_one _ _ _ _ ?_; simp; done) | refine At.drew ?_ | refine At.alloc ?_ _))
                           | skip))
                  all_goals
                    go_wp2_with fail
                    go_roundw
                    case rel => exact ⟨i + 1, L, rfl, by omega, by rw [HE.out]; exact hR10.mono (Nat.le_trans hres6.size (Nat.le_refl _)), hbl6.trans (hbW10.mono hbl6.size), hres6.kept hbW10 hres6.size, by have := HLl.out; omega, HG⟩
                    case measure => simp only [intOf]; omega
            · have hltk' : decide ((k : Int) < (z : Int)) = false := decide_eq_false (by omega)
              have hltk2 : decide (k < z) = false := decide_eq_false hltk
              have HE := Lib.hid (Hend.out k (by rw [Hz.out]; omega) HR.out)
              have hkz : k = z := by omega
              subst hkz
              obtain ⟨sv, hsv, hsat, _⟩ := slice_from hlw (k := k) (by rw [Hz.out]; omega)
              obtain ⟨tv, htv, htat, _⟩ := slice_upto hlw (k := k) (by rw [Hz.out]; omega)
              clear HR hltk Hcl hbx9 hat
              go_wp2_with fail
              go_quiet (fail)
              rename_i nq
              have hqb : Below wr.heap.size wr (wr.drewN nq) := gr_drewN (Below.refl _ _) nq
              generalize wr.drewN nq = wq at *
              replace hlw := hlw.call hqb
              replace b0 := cell_kept hqb b0
              replace b1 := cell_kept hqb b1
              try replace hres := hres.kept hqb hres.size
              have hbq := gr_call hbl hqb
              have hrow0 := row_new wq.heap.size wq.heap.size wq rfl (Nat.le_refl _)
              have hat0 := hsat _ (hlw.alloc (.cells #[] 42))
              have hl1 : ([] : List Xa).length + (l.drop k).length ≤ 1000000 := by simp; have := Hz.out; omega
              have hsz2 : wq.heap.size ≤ (wq.alloc (.cells #[] 42)).heap.size := by simp
              clear hbl hqb
              go_wp2_with (at_builtin; refine wp_append_at xatE rfl _ _ rfl wq.heap.size _ sv [] (l.drop k) (wq.alloc (.cells #[] 42)) rfl (by exact hrow0) (by rfl) (by exact hat0) hl1 hsz2 ?_)
              intro v6 w6 hR6 hb6 _ _
              have hb6' : Below wq.heap.size wq w6 := (gr_alloc (Below.refl _ _) _).trans hb6
              replace b0 := cell_kept hb6' b0
              replace b1 := cell_kept hb6' b1
              have hbl6 : Below w.heap.size w w6 := gr_call hbq hb6'
              have hl6 := hlw.call hb6'
              try have hres6 := hres.kept hb6' hres.size
              clear hb6 hb6' hrow0 hat0 hl1 hsz2 hlw hbq
              clear hltk'
              rw [List.drop_eq_nil_of_le (by rw [Hz.out]; exact Nat.le_refl _)] at hR6
              obtain ⟨p6, cap6, rfl, _⟩ := hR6.at.shape
              have hat6 := hR6.at
              simp only [List.length_nil] at hat6 ⊢
              clear hR6
              go_wp2_with fail
              go_quiet (fail)
              rename_i nq
              have hqb : Below w6.heap.size w6 (w6.drewN nq) := gr_drewN (Below.refl _ _) nq
              go_wp2_with fail
              generalize w6.drewN nq = W at *
              replace b0 := cell_kept hqb b0
              replace b1 := cell_kept hqb b1
              replace hl6 := hl6.call hqb
              replace hat6 := hat6.call hqb
              replace hbl6 := gr_call hbl6 hqb
              have hres6 := hres6.kept hqb hres6.size
              generalize (Value.slice p6 0 cap6) = rv at *
              clear hqb hsv hsat
              have hlA : ([] : List Xa).length + (l.take k).length ≤ 1000000 := by simp; omega
              have hlB : (l.take k).length + [((N.data.toList, V.data.toList) : Xa)].length ≤ 1000000 := by simp; omega
              have hlC : (l.take k ++ [((N.data.toList, V.data.toList) : Xa)]).length + ([] : List Xa).length ≤ 1000000 := by simp; omega
              have hbW : Below W.heap.size W W.drew := gr_drew (Below.refl _ _)
              go_region_held3 (fun w' => Below W.heap.size W w' ∧ w'.cell? ⟨bx, 0, none⟩ = some (.string N) ∧ w'.cell? ⟨bx, 1, none⟩ = some (.string V))
                (first | (go_keep; done) | (go_split_ands; (repeat' apply And.intro) <;> (first | assumption | exact Amb.on (by assumption) hb1 | exact gr_call (by assumption) hb1 | exact cell_kept hb1 (by assumption) | exact free_kept hb1 (by assumption) (by assumption) | (show Below _ _ _; (repeat' (first | exact Below.refl _ _ | assumption | refine gr_drew ?_ | refine gr_drewN ?_ _ | refine gr_alloc ?_ _ | refine gr_set ?_ ?_ _ | refine gr_call ?_ (by assumption)) <;> (try (simp; done)) <;> (try (simp; omega)) <;> (try omega)); done) | (go_keep; done) | (simp [go_sem, *]; done))))
                (first
                  | (refine step_append_at xatE rfl _ _ rfl W.heap.size v9 rv (l.take k ++ [(N.data.toList, V.data.toList)]) ([] : List Xa) ?_ ?_ ?_ ?_ hlC ?_ ?_
                     · rfl
                     · repeat' (first | exact hR9 | refine Row.drew ?_ | refine Row.alloc ?_ _)
                     · rfl
                     · exact hat6.call (by (repeat' (first | exact Below.refl _ _ | assumption | refine gr_drew ?_ | refine gr_drewN ?_ _ | refine gr_alloc ?_ _ | refine gr_set ?_ ?_ _ | refine gr_call ?_ (by assumption)) <;> (try (simp; done)) <;> (try (simp; omega)) <;> (try omega)))
                     · (try simp) <;> (try omega)
                     intro v10 w10 hR10 hb10 hg10 ho10
                     have hbW10 : Below W.heap.size W w10 := Below.trans (by (repeat' (first | exact Below.refl _ _ | assumption | refine gr_drew ?_ | refine gr_drewN ?_ _ | refine gr_alloc ?_ _ | refine gr_set ?_ ?_ _ | refine gr_call ?_ (by assumption)) <;> (try (simp; done)) <;> (try (simp; omega)) <;> (try omega))) hb10
                     have c0 := cell_kept hbW10 b0
                     have c1 := cell_kept hbW10 b1)
                  | (refine step_append_at xatE rfl _ _ rfl W.heap.size v8 (.slice (some ⟨w8.heap.size, 0, none⟩) 1 1) (l.take k) [(N.data.toList, V.data.toList)] ?_ ?_ ?_ ?_ hlB ?_ ?_
                     · rfl
                     · repeat' (first | exact hR8 | refine Row.drew ?_ | refine Row.alloc ?_ _)
                     · rfl
                     · repeat' (first | (refine at_one _ _ _ _ ?_; simp; done) | refine At.drew ?_ | refine At.alloc ?_ _)
                     · (try simp) <;> (try omega)
                     intro v9 w9 hR9 hb9 hg9 ho9
                     have hbW9 : Below W.heap.size W w9 := Below.trans (by (repeat' (first | exact Below.refl _ _ | assumption | refine gr_drew ?_ | refine gr_drewN ?_ _ | refine gr_alloc ?_ _ | refine gr_set ?_ ?_ _ | refine gr_call ?_ (by assumption)) <;> (try (simp; done)) <;> (try (simp; omega)) <;> (try omega))) hb9
                     have hs9 := hbW9.size
                     have c0 := cell_kept hbW9 b0
                     have c1 := cell_kept hbW9 b1)
                  | (refine step_append_at xatE rfl _ _ rfl W.heap.size v8 (.slice (some ⟨W.heap.size, 0, none⟩) 1 1) (l.take k) [(N.data.toList, V.data.toList)] ?_ ?_ ?_ ?_ hlB ?_ ?_
                     · rfl
                     · repeat' (first | exact hR8 | refine Row.drew ?_ | refine Row.alloc ?_ _)
                     · rfl
                     · repeat' (first | exact ho | refine At.drew ?_ | refine At.alloc ?_ _)
                     · (try simp) <;> (try omega)
                     intro v9 w9 hR9 hb9 hg9 ho9
                     have hbW9 : Below W.heap.size W w9 := Below.trans (by (repeat' (first | exact Below.refl _ _ | assumption | refine gr_drew ?_ | refine gr_drewN ?_ _ | refine gr_alloc ?_ _ | refine gr_set ?_ ?_ _ | refine gr_call ?_ (by assumption)) <;> (try (simp; done)) <;> (try (simp; omega)) <;> (try omega))) hb9
                     have hs9 := hbW9.size
                     have c0 := cell_kept hbW9 b0
                     have c1 := cell_kept hbW9 b1)
                  | (refine step_append_at xatE rfl _ _ rfl W.heap.size v8 (.slice (some ⟨W.heap.size + 1, 0, none⟩) 1 1) (l.take k) [(N.data.toList, V.data.toList)] ?_ ?_ ?_ ?_ hlB ?_ ?_
                     · rfl
                     · repeat' (first | exact hR8 | refine Row.drew ?_ | refine Row.alloc ?_ _)
                     · rfl
                     · repeat' (first | exact ho | refine At.drew ?_ | refine At.alloc ?_ _)
                     · (try simp) <;> (try omega)
                     intro v9 w9 hR9 hb9 hg9 ho9
                     have hbW9 : Below W.heap.size W w9 := Below.trans (by (repeat' (first | exact Below.refl _ _ | assumption | refine gr_drew ?_ | refine gr_drewN ?_ _ | refine gr_alloc ?_ _ | refine gr_set ?_ ?_ _ | refine gr_call ?_ (by assumption)) <;> (try (simp; done)) <;> (try (simp; omega)) <;> (try omega))) hb9
                     have hs9 := hbW9.size
                     have c0 := cell_kept hbW9 b0
                     have c1 := cell_kept hbW9 b1)
                  | (refine step_append_at xatE rfl _ _ rfl W.heap.size (.slice (some ⟨W.heap.size, 0, none⟩) 0 0) tv [] (l.take k) ?_ ?_ ?_ (htat _ ?_) hlA ?_ ?_
                     · rfl
                     · repeat' (first | (refine row_new _ _ _ ?_ ?_ <;> (try simp) <;> (try omega); done) | refine Row.drew ?_ | refine Row.alloc ?_ _)
                     · rfl
                     · exact hl6.call (by (repeat' (first | exact Below.refl _ _ | assumption | refine gr_drew ?_ | refine gr_drewN ?_ _ | refine gr_alloc ?_ _ | refine gr_set ?_ ?_ _ | refine gr_call ?_ (by assumption)) <;> (try (simp; done)) <;> (try (simp; omega)) <;> (try omega)))
                     · (try simp) <;> (try omega)
                     intro v8 w8 hR8 hb8 hg8 ho8
                     rw [List.nil_append] at hR8
                     have hbW8 : Below W.heap.size W w8 := Below.trans (by (repeat' (first | exact Below.refl _ _ | assumption | refine gr_drew ?_ | refine gr_drewN ?_ _ | refine gr_alloc ?_ _ | refine gr_set ?_ ?_ _ | refine gr_call ?_ (by assumption)) <;> (try (simp; done)) <;> (try (simp; omega)) <;> (try omega))) hb8
                     have hs8 := hbW8.size
                     have c0 := cell_kept hbW8 b0
                     have c1 := cell_kept hbW8 b1
                     first
                       | (have ho : At xatE (.slice (some ⟨W.heap.size, 0, none⟩) 1 1) [(N.data.toList, V.data.toList)] w8 := by
                            refine At.grown ?_ hg8 (by intro j hj; simp [Value.ownBlock] at hj ⊢; omega)
                            repeat' (first | (refine at_one _ _ _ _ ?_; simp; done) | refine At.drew ?_ | refine At.alloc ?_ _))
                       | (have ho : At xatE (.slice (some ⟨W.heap.size + 1, 0, none⟩) 1 1) [(N.data.toList, V.data.toList)] w8 := by
                            refine At.grown ?_ hg8 (by intro j hj; simp [Value.ownBlock] at hj ⊢; omega)
                            repeat' (first | (refine at_one _ _ _ _ ?_; simp; done) | refine At.drew ?_ | refine At.alloc ?_ _))
                       | skip)
                  | (refine step_append_at xatE rfl _ _ rfl W.heap.size (.slice (some ⟨W.heap.size + 1, 0, none⟩) 0 0) tv [] (l.take k) ?_ ?_ ?_ (htat _ ?_) hlA ?_ ?_
                     · rfl
                     · repeat' (first | (refine row_new _ _ _ ?_ ?_ <;> (try simp) <;> (try omega); done) | refine Row.drew ?_ | refine Row.alloc ?_ _)
                     · rfl
                     · exact hl6.call (by (repeat' (first | exact Below.refl _ _ | assumption | refine gr_drew ?_ | refine gr_drewN ?_ _ | refine gr_alloc ?_ _ | refine gr_set ?_ ?_ _ | refine gr_call ?_ (by assumption)) <;> (try (simp; done)) <;> (try (simp; omega)) <;> (try omega)))
                     · (try simp) <;> (try omega)
                     intro v8 w8 hR8 hb8 hg8 ho8
                     rw [List.nil_append] at hR8
                     have hbW8 : Below W.heap.size W w8 := Below.trans (by (repeat' (first | exact Below.refl _ _ | assumption | refine gr_drew ?_ | refine gr_drewN ?_ _ | refine gr_alloc ?_ _ | refine gr_set ?_ ?_ _ | refine gr_call ?_ (by assumption)) <;> (try (simp; done)) <;> (try (simp; omega)) <;> (try omega))) hb8
                     have hs8 := hbW8.size
                     have c0 := cell_kept hbW8 b0
                     have c1 := cell_kept hbW8 b1
                     first
                       | (have ho : At xatE (.slice (some ⟨W.heap.size, 0, none⟩) 1 1) [(N.data.toList, V.data.toList)] w8 := by
                            refine At.grown ?_ hg8 (by intro j hj; simp [Value.ownBlock] at hj ⊢; omega)
                            repeat' (first | (refine at_one _ _ _ _ ?_; simp; done) | refine At.drew ?_ | refine At.alloc ?_ _))
                       | (have ho : At xatE (.slice (some ⟨W.heap.size + 1, 0, none⟩) 1 1) [(N.data.toList, V.data.toList)] w8 := by
                            refine At.grown ?_ hg8 (by intro j hj; simp [Value.ownBlock] at hj ⊢; omega)
                            repeat' (first | (refine at_one _ _ _ _ ?_; simp; done) | refine At.drew ?_ | refine At.alloc ?_ _))
                       | skip))
              all_goals
                go_wp2_with fail
                go_roundw
                case rel => exact ⟨i + 1, L, rfl, by omega, by rw [HE.out]; exact hR10.mono (Nat.le_trans hres6.size (Nat.le_refl _)), hbl6.trans (hbW10.mono hbl6.size), hres6.kept hbW10 hres6.size, by have := HLl.out; omega, HG⟩
                case measure => simp only [intOf]; omega
        have hs : ((c.toNat : Int) == 76) = true := by rw [hL]; rfl
        obtain ⟨K17, hK17, hK17s, hs17⟩ := slice_off KB 17 (by rw [← len_list, hKl]; exact h17 (by rw [hhd, hL]))
        replace hs17 : ∀ W, (Instr.slice 9 (.string KB) (some (.int .i64 17)) none none).run Try.prog W = .ok (.string K17) W := hs17
        rw [hKl] at hK17
        have hE1 := Lib.hid (HG1.out K17 (by omega))
        have hE2 := Lib.hid (HG2.out VB hVs)
        obtain ⟨E1, y1, hq1, hy1, hn1⟩ := esc_said (EscM.get K17.data.toList)
        obtain ⟨E2, y2, hq2, hy2, hn2⟩ := six_said (SixM.get VB.data.toList)
        rw [hq1] at hE1
        rw [hq2] at hE2
        rw [hK17] at hy1 hn1
        rw [hVl] at hy2 hn2
        have hrec : recX r = (match EscM.get (r.1.drop 17), SixM.get r.2 with
            | some n, some v => some (some (n, v))
            | _, _ => some none) := by
          unfold recX
          rw [hx, if_pos rfl, hhd, if_pos (congrArg some hL)]
          rfl
        have HBad : Hid (y1 = false ∨ y2 = false → o2 = none) := Lib.hid (fun h => by
          rw [HF.out, from_cons_bad]
          rw [hrec]
          rcases h with h | h
          · rw [hn1 h]
          · rw [hn2 h]; cases EscM.get (r.1.drop 17) <;> rfl)
        have HGood : Hid (y1 = true → y2 = true → o2 = fromGo (putX l (E1.data.toList, E2.data.toList)) (rs.drop (i + 1))) := Lib.hid (fun h1 h2 => by
          rw [HF.out, from_cons_some (x := (E1.data.toList, E2.data.toList)) (by rw [hrec, hy1 h1, hy2 h2])])
        clear hL HF hK13 hhd hx h13 h17 hKl hVl hKs hVs hK17 hK17s hq1 hq2 hy1 hn1 hy2 hn2 hrec
        go_wp2_with fail
        refine region_twoRL (S := fun W => Below w3.heap.size w3 W) 15 (fun i => i == 13 || i == 14)
          [(fun W v => v = .slice (some ⟨g, off, none⟩) zr cap),
     (fun W v => v = .int .i64 (i : Nat)),
     (fun W v => v = .pointer (some ⟨g, off + i * 2, none⟩)),
     (fun W v => v = .pointer (some ⟨g, off + i * 2, none⟩)),
     (fun W v => v = .string KB),
     (fun W v => v = .string K17),
     (fun W v => v = .agg #[.string E1, .bool y1]),
     (fun W v => v = .slice (some ⟨g, off, none⟩) zr cap),
     (fun W v => v = .int .i64 (i : Nat)),
     (fun W v => v = .pointer (some ⟨g, off + i * 2, none⟩)),
     (fun W v => v = .pointer (some ⟨g, off + i * 2 + 1, none⟩)),
     (fun W v => v = .string VB),
     (fun W v => v = .agg #[.string E2, .bool y2]),
     (fun W v => ∃ h, v = .pointer (some ⟨h, 0, none⟩) ∧ w3.heap.size ≤ h ∧ BlkIs W h 50 #[.string ⟨#[]⟩, .bool false]),
     (fun W v => ∃ h, v = .pointer (some ⟨h, 0, none⟩) ∧ w3.heap.size ≤ h ∧ BlkIs W h 50 #[.string ⟨#[]⟩, .bool false])] (by rfl) (by kernel_rfl) (by kernel_rfl) (by kernel_rfl) (by kernel_rfl) (by rfl) (by rfl) (by kernel_rfl) (by kernel_rfl) (by kernel_rfl) ?hS ?hp ?hs ?he
        case hS => exact gr_drew (Below.refl _ _)
        case hp => repeat' (first | exact trivial | refine ⟨fun _ _ _ _ h => h, ?_⟩ | refine ⟨fun _ _ _ hb ⟨g, h1, h2, h3⟩ => ⟨g, h1, h2, h3.kept hb h3.size⟩, ?_⟩)
        case hs =>
          simp only [List.take_succ_cons, List.take_zero]
          have C0 := c0
          have C1 := c1
          refine ⟨?_, ?_, ?_, ?_, ?_, ?_, ?_, ?_, ?_, ?_, ?_, ?_, ?_, ?_, ?_, trivial⟩
          · refine ⟨met_none rfl, ?_⟩
            intro a W K hS hd hf hK
            have e0 : a.tmps.getD 0 undef = .slice (some ⟨g, off, none⟩) zr cap := hf 0 (by kernel_rfl)
            clear hd hf
            go_simp
            exact hK _ _ (Below.refl _ _) hS rfl (fun h => absurd h (by decide))
          · refine ⟨met_none rfl, ?_⟩
            intro a W K hS hd hf hK
            have e4 : a.tmps.getD 4 undef = .int .i64 (i : Nat) := hf 4 (by kernel_rfl)
            clear hd hf
            go_simp
            exact hK _ _ (Below.refl _ _) hS rfl (fun h => absurd h (by decide))
          · refine ⟨met_none rfl, ?_⟩
            intro a W K hS hd hf hK
            have e42 : a.tmps.getD 42 undef = .slice (some ⟨g, off, none⟩) zr cap := hd ⟨0, .data⟩ (by simp) rfl
            have e43 : a.tmps.getD 43 undef = .int .i64 (i : Nat) := hd ⟨1, .data⟩ (by simp) rfl
            clear hd hf
            go_simp
            exact hK _ _ (Below.refl _ _) hS rfl (fun h => absurd h (by decide))
          · refine ⟨met_none rfl, ?_⟩
            intro a W K hS hd hf hK
            have e44 : a.tmps.getD 44 undef = .pointer (some ⟨g, off + i * 2, none⟩) := hd ⟨2, .data⟩ (by simp) rfl
            clear hd hf
            go_simp
            exact hK _ _ (Below.refl _ _) hS rfl (fun h => absurd h (by decide))
          · refine ⟨met_none rfl, ?_⟩
            intro a W K hS hd hf hK
            have e45 : a.tmps.getD 45 undef = .pointer (some ⟨g, off + i * 2, none⟩) := hd ⟨3, .data⟩ (by simp) rfl
            have c0 := cell_kept hS C0
            clear hd hf
            go_simp
            exact hK _ _ (Below.refl _ _) hS rfl (fun h => absurd h (by decide))
          · refine ⟨met_none rfl, ?_⟩
            intro a W K hS hd hf hK
            have e46 : a.tmps.getD 46 undef = .string KB := hd ⟨4, .data⟩ (by simp) rfl
            clear hd hf
            go_simp
            exact hK _ _ (Below.refl _ _) hS rfl (fun h => absurd h (by decide))
          · refine ⟨met_none rfl, ?_⟩
            intro a W K hS hd hf hK
            have e47 : a.tmps.getD 47 undef = .string K17 := hd ⟨5, .data⟩ (by simp) rfl
            clear hd hf
            go_simp
            go_at_call 24
            refine (hE1.out _).mono ?_
            rintro e w1 ⟨rfl, hb⟩
            exact hK _ _ hb (gr_call hS hb) rfl (fun h => absurd h (by decide))
          · refine ⟨met_none rfl, ?_⟩
            intro a W K hS hd hf hK
            have e0 : a.tmps.getD 0 undef = .slice (some ⟨g, off, none⟩) zr cap := hf 0 (by kernel_rfl)
            clear hd hf
            go_simp
            exact hK _ _ (Below.refl _ _) hS rfl (fun h => absurd h (by decide))
          · refine ⟨met_none rfl, ?_⟩
            intro a W K hS hd hf hK
            have e4 : a.tmps.getD 4 undef = .int .i64 (i : Nat) := hf 4 (by kernel_rfl)
            clear hd hf
            go_simp
            exact hK _ _ (Below.refl _ _) hS rfl (fun h => absurd h (by decide))
          · refine ⟨met_none rfl, ?_⟩
            intro a W K hS hd hf hK
            have e49 : a.tmps.getD 49 undef = .slice (some ⟨g, off, none⟩) zr cap := hd ⟨7, .data⟩ (by simp) rfl
            have e50 : a.tmps.getD 50 undef = .int .i64 (i : Nat) := hd ⟨8, .data⟩ (by simp) rfl
            clear hd hf
            go_simp
            exact hK _ _ (Below.refl _ _) hS rfl (fun h => absurd h (by decide))
          · refine ⟨met_none rfl, ?_⟩
            intro a W K hS hd hf hK
            have e51 : a.tmps.getD 51 undef = .pointer (some ⟨g, off + i * 2, none⟩) := hd ⟨9, .data⟩ (by simp) rfl
            clear hd hf
            go_simp
            exact hK _ _ (Below.refl _ _) hS rfl (fun h => absurd h (by decide))
          · refine ⟨met_none rfl, ?_⟩
            intro a W K hS hd hf hK
            have e52 : a.tmps.getD 52 undef = .pointer (some ⟨g, off + i * 2 + 1, none⟩) := hd ⟨10, .data⟩ (by simp) rfl
            have c0 := cell_kept hS C1
            clear hd hf
            go_simp
            exact hK _ _ (Below.refl _ _) hS rfl (fun h => absurd h (by decide))
          · refine ⟨met_none rfl, ?_⟩
            intro a W K hS hd hf hK
            have e53 : a.tmps.getD 53 undef = .string VB := hd ⟨11, .data⟩ (by simp) rfl
            clear hd hf
            go_simp
            go_at_call 25
            refine (hE2.out _).mono ?_
            rintro e w1 ⟨rfl, hb⟩
            exact hK _ _ hb (gr_call hS hb) rfl (fun h => absurd h (by decide))
          · refine ⟨met_none rfl, ?_⟩
            intro a W K hS hd hf hK
            clear hd hf
            go_simp
            exact hK _ _ ((Below.refl _ _).alloc (Nat.le_refl _) _) (gr_alloc hS _) ⟨_, rfl, hS.size, BlkIs.made _ _ _⟩ (fun _ j u hj hA hv => by
              have hj7 : j = 14 := by simp at hA; omega
              subst hj7
              exact fresh_ne hv)
          · refine ⟨met_none rfl, ?_⟩
            intro a W K hS hd hf hK
            clear hd hf
            go_simp
            exact hK _ _ ((Below.refl _ _).alloc (Nat.le_refl _) _) (gr_alloc hS _) ⟨_, rfl, hS.size, BlkIs.made _ _ _⟩ (fun _ j u hj hA hv => by
              have hj7 : j = 13 := by simp at hA; omega
              subst hj7
              exact fresh_ne hv)
        case he =>
          intro vals w4 K hS4 hV hD hK
          have e48 := hV 6 (by omega)
          have e54 := hV 12 (by omega)
          have e6 := hV 13 (by omega)
          have e7 := hV 14 (by omega)
          clear hV
          simp only [List.getD_cons_succ, List.getD_cons_zero] at e48 e54 e6 e7
          obtain ⟨g1, e6, hg1, hk1⟩ := e6
          obtain ⟨g2, e7, hg2, hk2⟩ := e7
          have hne : g1 ≠ g2 := by
            intro e
            have := hD 13 14 (by omega) (by omega) (by decide) (by decide) (by decide)
            rw [e6, e7, e] at this
            exact this rfl
          clear hD
          refine Later.mk ?_
          simp only [setN, Nat.reduceAdd, List.setIfInBounds_toArray, List.set_cons_succ, List.set_cons_zero]
          rw [e48, e54, e6, e7]
          clear e48 e54 e6 e7
          have q1 := hk1.cell_some 0 _ rfl
          have q2 := hk1.cell_some 1 _ rfl
          have f1 := hk1.free 0
          have f2 := hk1.free 1
          go_simp
          obtain ⟨k1, hB4⟩ := put_two hk1 hS4 hg1 (.string E1) (.bool y1)
          have k2 := (hk2.other (p := ⟨g1, 0, none⟩) (fun e => hne e.symm) (.string E1)).other (p := ⟨g1, 1, none⟩) (fun e => hne e.symm) (.bool y1)
          obtain ⟨w5, hw5⟩ : ∃ w5, (w4.setCell ⟨g1, 0, none⟩ (.string E1)).setCell ⟨g1, 1, none⟩ (.bool y1) = w5 := ⟨_, rfl⟩
          rw [hw5] at k1 k2 hB4 ⊢
          clear hw5 hk1 hk2 hS4 q1 q2 f1 f2
          refine hK _ _ ?_
          clear hK K
          intro K hK
          have q1 := k2.cell_some 0 _ rfl
          have q2 := k2.cell_some 1 _ rfl
          have f1 := k2.free 0
          have f2 := k2.free 1
          go_simp
          obtain ⟨l2, hB5⟩ := put_two k2 hB4 hg2 (.string E2) (.bool y2)
          have l1 := (k1.other (p := ⟨g2, 0, none⟩) hne (.string E2)).other (p := ⟨g2, 1, none⟩) hne (.bool y2)
          obtain ⟨w6, hw6⟩ : ∃ w6, (w5.setCell ⟨g2, 0, none⟩ (.string E2)).setCell ⟨g2, 1, none⟩ (.bool y2) = w6 := ⟨_, rfl⟩
          rw [hw6] at l1 l2 hB5 ⊢
          clear hw6 k1 k2 hB4 q1 q2 f1 f2 hne hg1 hg2
          refine hK _ _ ?_
          clear hK K
          have hblk6 := hblk3.kept hB5 hblk3.size
          replace hR := hR.call hB5
          replace hres := hres.kept hB5 hres.size
          replace hbl := gr_call hbl hB5
          have hbR6 : bR + 1 ≤ w6.heap.size := hres.size
          have hown : (Value.slice p z cp).ownBlock ≠ some bx := hnox
          have hbxR : bR ≠ bx := by
            intro e
            subst e
            have h5 := hres
            unfold BlkIs at h5 hblk6
            rw [h5] at hblk6
            simp at hblk6
          have x1 := l1.cell_some 0 _ rfl
          have x2 := l1.cell_some 1 _ rfl
          have x3 := l2.cell_some 0 _ rfl
          have x4 := l2.cell_some 1 _ rfl
          clear hblk3 hB5 l1 l2 c0 c1 hE1 hE2
          by_cases hyy : y1 = true ∧ y2 = true
          case neg =>
            have HE := Lib.hid (HBad.out (by
              cases y1
              · exact .inl rfl
              · cases y2
                · exact .inr rfl
                · exact absurd ⟨rfl, rfl⟩ hyy))
            have u0 := hres.cell_some 0 _ rfl
            have u1 := hres.cell_some 1 _ rfl
            have v0 := hres.free 0
            have v1 := hres.free 1
            have hpt := put_two hres hbl (by rw [hbR]; exact Nat.le_refl _) (.slice none 0 0) (.int .i64 4)
            clear HBad HGood hR hblk6 hbxR
            rcases y1 with _ | _
            · clear hyy
              go_wp2_with fail
              exact bodyPost_ret (v := .agg #[.slice none 0 0, .int .i64 4]) (by simp [results, Try.results10, go_sem, *]) rfl ⟨by rw [HE.out]; exact rfl, hpt.2⟩
            · rcases y2 with _ | _
              · clear hyy
                go_wp2_with fail
                exact bodyPost_ret (v := .agg #[.slice none 0 0, .int .i64 4]) (by simp [results, Try.results10, go_sem, *]) rfl ⟨by rw [HE.out]; exact rfl, hpt.2⟩
              · exact absurd ⟨rfl, rfl⟩ hyy
          obtain ⟨rfl, rfl⟩ := hyy
          have HG := Lib.hid (HGood.out rfl rfl)
          clear HBad HGood
          have k0 := hblk6.cell_some 0 _ rfl
          have f0 := hblk6.free 0
          have k1 := hblk6.cell_some 1 _ rfl
          have f1 := hblk6.free 1
          obtain ⟨hblk7, hbl7⟩ := put_two hblk6 hbl hbxw (.string E1) (.string E2)
          have hres7 := (hres.other (p := ⟨bx, 0, none⟩) hbxR (.string E1)).other (p := ⟨bx, 1, none⟩) hbxR (.string E2)
          have hbx1 : bR + 1 ≤ bx := by
            have : w.heap.size ≤ bx := hbxw
            rw [hbR] at this
            omega
          have hR7 := (hR.other (a := ⟨bx, 0, none⟩) hown (.string E1)).other (a := ⟨bx, 1, none⟩) hown (.string E2)
          go_wp2_with fail
          obtain ⟨wx, hwx⟩ : ∃ W, (w6.setCell ⟨bx, 0, none⟩ (.string E1)).setCell ⟨bx, 1, none⟩ (.string E2) = W := ⟨_, rfl⟩
          rw [hwx] at hblk7 hbl7 hres7 hR7 ⊢
          clear hwx hblk6 hbl hres hR k0 f0 k1 f1 x1 x2 x3 x4 hown hnox hbxR hbx1 hbR6 hbR1 hbxw hidx hs hs13 hs17
          have b0 := hblk7.cell_some 0 _ rfl
          have b1 := hblk7.cell_some 1 _ rfl
          clear hblk7
          obtain ⟨N, rfl⟩ : ∃ N : ByteArray, N = E1 := ⟨_, rfl⟩
          obtain ⟨V, rfl⟩ : ∃ N : ByteArray, N = E2 := ⟨_, rfl⟩
          have hblx := hbl7
          have hres := hres7
          have hat := hR7.at
          clear hbl7 hres7 hR7
          replace Hstep := Lib.hid (Hstep.out (N.data.toList, V.data.toList))
          replace Hend := Lib.hid (Hend.out (N.data.toList, V.data.toList))
          replace Hsame := Lib.hid (Hsame.out (N.data.toList, V.data.toList))
          replace Hmore := Lib.hid (Hmore.out (N.data.toList, V.data.toList))
          have H0 : Hid (putX l (N.data.toList, V.data.toList) = l.take 0 ++ putX (l.drop 0) (N.data.toList, V.data.toList)) := Lib.hid (by simp)
          obtain ⟨L, hL⟩ : ∃ L, putX l (N.data.toList, V.data.toList) = L := ⟨_, rfl⟩
          rw [hL] at Hstep Hend Hsame Hmore H0 HG
          have HLl : Hid (L.length ≤ z + 1) := Lib.hid (by rw [← hL, ← Hz.out]; exact (put_len _ _).2)
          clear hL
          have Hcl : Hid (∀ j (h : j < l.length), ∃ g off, p = some ⟨g, off, none⟩ ∧ g < wx.heap.size ∧ TwoAt wx g (off + j * 2) l[j]) := Lib.hid (by
            obtain ⟨p', cap', e1, _, h⟩ := two_look xat_two hat
            cases e1
            exact h)
          go_wp2_with fail
          go_loopw [8] (fun kv w9 => ∃ k : Nat, kv = .int .i64 (k : Int) ∧ k ≤ z ∧ Below wx.heap.size wx w9 ∧ Hid (L = l.take k ++ putX (l.drop k) (N.data.toList, V.data.toList))) (fun kv _ => z - (intOf kv).toNat)
          case atStart => exact ⟨0, rfl, by omega, Below.refl _ _, H0⟩
          case round =>
            clear H0
            obtain ⟨k, rfl, hk, hbx9, HR⟩ := hrel
            rename World => wr
            replace b0 := cell_kept hbx9 b0
            replace b1 := cell_kept hbx9 b1
            have hres := hres.kept hbx9 hres.size
            have hlw := hat.call hbx9
            have hbl := gr_call hblx hbx9
            clear hblx
            by_cases hltk : k < z
            · have hltk' : decide ((k : Int) < (z : Int)) = true := decide_eq_true (by omega)
              have hltk2 : decide (k < z) = true := decide_eq_true hltk
              have hk' : k < l.length := by rw [Hz.out]; exact hltk
              obtain ⟨gl, offl, rfl, hgl, c0, c1⟩ := Hcl.out k hk'
              replace c0 := cell_kept hbx9 c0
              clear c1
              obtain ⟨Y, hY⟩ : ∃ Y, strOf l[k].1 = Y := ⟨_, rfl⟩
              have hYl : Y.data.toList = l[k].1 := by rw [← hY, strOf_list]
              have hcm := less_str Y N
              rw [hYl] at hcm
              rw [hY] at c0
              by_cases hid : l[k].1 < N.data.toList
              · have HN := Lib.hid (Hstep.out k hk' HR.out hid)
                rw [decide_eq_true hid] at hcm
                clear HR hY hYl hid
                go_wp2_with fail
                go_quiet (fail)
                go_wp2_with fail
                go_roundw
                case rel => exact ⟨k + 1, rfl, by omega, by (repeat' (first | exact Below.refl _ _ | assumption | refine gr_drew ?_ | refine gr_drewN ?_ _ | refine gr_alloc ?_ _ | refine gr_set ?_ ?_ _ | refine gr_call ?_ (by assumption)) <;> (try (simp; done)) <;> (try (simp; omega)) <;> (try omega)), HN⟩
                case measure => simp only [intOf]; omega
              · rw [decide_eq_false hid] at hcm
                obtain ⟨sv, hsv, hsat, _⟩ := slice_from hlw (k := k) (by omega)
                obtain ⟨tv, htv, htat, _⟩ := slice_upto hlw (k := k) (by omega)
                have HSm := Lib.hid (fun e => Hsame.out k hk' HR.out e)
                have HMo := Lib.hid (fun e => Hmore.out k hk' HR.out hid e)
                have hl0 : l.drop k ≠ [] := by
                  intro e
                  have := congrArg List.length e
                  rw [List.length_drop, List.length_nil] at this
                  omega
                have heq : (Y.toList == N.toList) = decide (l[k].1 = N.data.toList) := by rw [str_beq, hYl]
                clear HR Hcl hYl hid hbx9 hat
                go_wp2_with fail
                go_quiet (fail)
                rename_i nq
                have hqb : Below wr.heap.size wr (wr.drewN nq) := gr_drewN (Below.refl _ _) nq
                generalize wr.drewN nq = wq at *
                replace hlw := hlw.call hqb
                replace b0 := cell_kept hqb b0
                replace b1 := cell_kept hqb b1
                try replace hres := hres.kept hqb hres.size
                have hbq := gr_call hbl hqb
                have hrow0 := row_new wq.heap.size wq.heap.size wq rfl (Nat.le_refl _)
                have hat0 := hsat _ (hlw.alloc (.cells #[] 42))
                have hl1 : ([] : List Xa).length + (l.drop k).length ≤ 1000000 := by simp; have := Hz.out; omega
                have hsz2 : wq.heap.size ≤ (wq.alloc (.cells #[] 42)).heap.size := by simp
                clear hbl hqb
                go_wp2_with (at_builtin; refine wp_append_at xatE rfl _ _ rfl wq.heap.size _ sv [] (l.drop k) (wq.alloc (.cells #[] 42)) rfl (by exact hrow0) (by rfl) (by exact hat0) hl1 hsz2 ?_)
                intro v6 w6 hR6 hb6 _ _
                have hb6' : Below wq.heap.size wq w6 := (gr_alloc (Below.refl _ _) _).trans hb6
                replace b0 := cell_kept hb6' b0
                replace b1 := cell_kept hb6' b1
                have hbl6 : Below w.heap.size w w6 := gr_call hbq hb6'
                have hl6 := hlw.call hb6'
                try have hres6 := hres.kept hb6' hres.size
                clear hb6 hb6' hrow0 hat0 hl1 hsz2 hlw hbq
                have hat6 := hR6.at
                clear hR6
                obtain ⟨g6, off6, cap6, rfl, hcap6, hg6, hcell6⟩ := two_open xat_two hat6 hl0
                obtain ⟨y, hy⟩ : ∃ y, (l.drop k).length = y := ⟨_, rfl⟩
                have hy0 : 0 < y := by rw [← hy]; exact List.length_pos_iff.2 hl0
                have hc6 : w6.cell? ⟨g6, off6, none⟩ = some (.string Y) := by
                  have h := (hcell6 0 (by rw [hy]; exact hy0)).1
                  rw [List.getElem_drop] at h
                  rw [← hY]
                  simpa using h
                rw [hy] at hat6 hcap6 ⊢
                have hy1 : decide ((0 : Int) < (y : Int)) = true := decide_eq_true (by omega)
                have hy2 : decide (0 < y) = true := decide_eq_true hy0
                clear hcell6 hY
                by_cases he : l[k].1 = N.data.toList
                · have HE := Lib.hid (HSm.out he)
                  rw [decide_eq_true he] at heq
                  obtain ⟨rv, hrv, hrvat, _⟩ := slice_from (k := 1) (by rw [← hy] at hat6; exact hat6) (by rw [hy]; exact hy0)
                  rw [hy] at hrv hrvat
                  have hrv1 : ∀ W, (Instr.sliceAt 22 (.slice (some ⟨g6, off6, none⟩) y cap6) (some (.int .i64 1)) none none).run Try.prog W = .ok rv W := hrv
                  clear HSm HMo hrv he hltk hcm
                  go_wp2_with fail
                  go_quiet (fail)
                  rename_i nq
                  have hqb : Below w6.heap.size w6 (w6.drewN nq) := gr_drewN (Below.refl _ _) nq
                  go_wp2_with fail
                  generalize w6.drewN nq = W at *
                  replace b0 := cell_kept hqb b0
                  replace b1 := cell_kept hqb b1
                  replace hl6 := hl6.call hqb
                  replace hat6 := hat6.call hqb
                  replace hbl6 := gr_call hbl6 hqb
                  have hres6 := hres6.kept hqb hres6.size
                  replace hat6 := hrvat _ hat6
                  clear hqb hc6 hrvat heq
                  have hzz := Hz.out
                  clear hsv hsat
                  have hlA : ([] : List Xa).length + (l.take k).length ≤ 1000000 := by simp; omega
                  have hlB : (l.take k).length + [((N.data.toList, V.data.toList) : Xa)].length ≤ 1000000 := by simp; omega
                  have hlC : (l.take k ++ [((N.data.toList, V.data.toList) : Xa)]).length + ((l.drop k).drop 1).length ≤ 1000000 := by simp; omega
                  have hbW : Below W.heap.size W W.drew := gr_drew (Below.refl _ _)
                  go_region_held3 (fun w' => Below W.heap.size W w' ∧ w'.cell? ⟨bx, 0, none⟩ = some (.string N) ∧ w'.cell? ⟨bx, 1, none⟩ = some (.string V))
                    (first | (go_keep; done) | (go_split_ands; (repeat' apply And.intro) <;> (first | assumption | exact Amb.on (by assumption) hb1 | exact gr_call (by assumption) hb1 | exact cell_kept hb1 (by assumption) | exact free_kept hb1 (by assumption) (by assumption) | (show Below _ _ _; (repeat' (first | exact Below.refl _ _ | assumption | refine gr_drew ?_ | refine gr_drewN ?_ _ | refine gr_alloc ?_ _ | refine gr_set ?_ ?_ _ | refine gr_call ?_ (by assumption)) <;> (try (simp; done)) <;> (try (simp; omega)) <;> (try omega)); done) | (go_keep; done) | (simp [go_sem, *]; done))))
                    (first
                      | (refine step_append_at xatE rfl _ _ rfl W.heap.size v9 rv (l.take k ++ [(N.data.toList, V.data.toList)]) ((l.drop k).drop 1) ?_ ?_ ?_ ?_ hlC ?_ ?_
                         · rfl
                         · repeat' (first | exact hR9 | refine Row.drew ?_ | refine Row.alloc ?_ _)
                         · rfl
                         · exact hat6.call (by (repeat' (first | exact Below.refl _ _ | assumption | refine gr_drew ?_ | refine gr_drewN ?_ _ | refine gr_alloc ?_ _ | refine gr_set ?_ ?_ _ | refine gr_call ?_ (by assumption)) <;> (try (simp; done)) <;> (try (simp; omega)) <;> (try omega)))
                         · (try simp) <;> (try omega)
                         intro v10 w10 hR10 hb10 hg10 ho10
                         have hbW10 : Below W.heap.size W w10 := Below.trans (by (repeat' (first | exact Below.refl _ _ | assumption | refine gr_drew ?_ | refine gr_drewN ?_ _ | refine gr_alloc ?_ _ | refine gr_set ?_ ?_ _ | refine gr_call ?_ (by assumption)) <;> (try (simp; done)) <;> (try (simp; omega)) <;> (try omega))) hb10
                         have c0 := cell_kept hbW10 b0
                         have c1 := cell_kept hbW10 b1)
                      | (refine step_append_at xatE rfl _ _ rfl W.heap.size v8 (.slice (some ⟨w8.heap.size, 0, none⟩) 1 1) (l.take k) [(N.data.toList, V.data.toList)] ?_ ?_ ?_ ?_ hlB ?_ ?_
                         · rfl
                         · repeat' (first | exact hR8 | refine Row.drew ?_ | refine Row.alloc ?_ _)
                         · rfl
                         · repeat' (first | (refine at_one _ _ _ _ ?_; simp; done) | refine At.drew ?_ | refine At.alloc ?_ _)
                         · (try simp) <;> (try omega)
                         intro v9 w9 hR9 hb9 hg9 ho9
                         have hbW9 : Below W.heap.size W w9 := Below.trans (by (repeat' (first | exact Below.refl _ _ | assumption | refine gr_drew ?_ | refine gr_drewN ?_ _ | refine gr_alloc ?_ _ | refine gr_set ?_ ?_ _ | refine gr_call ?_ (by assumption)) <;> (try (simp; done)) <;> (try (simp; omega)) <;> (try omega))) hb9
                         have hs9 := hbW9.size
                         have c0 := cell_kept hbW9 b0
                         have c1 := cell_kept hbW9 b1)
                      | (refine step_append_at xatE rfl _ _ rfl W.heap.size v8 (.slice (some ⟨W.heap.size, 0, none⟩) 1 1) (l.take k) [(N.data.toList, V.data.toList)] ?_ ?_ ?_ ?_ hlB ?_ ?_
                         · rfl
                         · repeat' (first | exact hR8 | refine Row.drew ?_ | refine Row.alloc ?_ _)
                         · rfl
                         · repeat' (first | exact ho | refine At.drew ?_ | refine At.alloc ?_ _)
                         · (try simp) <;> (try omega)
                         intro v9 w9 hR9 hb9 hg9 ho9
                         have hbW9 : Below W.heap.size W w9 := Below.trans (by (repeat' (first | exact Below.refl _ _ | assumption | refine gr_drew ?_ | refine gr_drewN ?_ _ | refine gr_alloc ?_ _ | refine gr_set ?_ ?_ _ | refine gr_call ?_ (by assumption)) <;> (try (simp; done)) <;> (try (simp; omega)) <;> (try omega))) hb9
                         have hs9 := hbW9.size
                         have c0 := cell_kept hbW9 b0
                         have c1 := cell_kept hbW9 b1)
                      | (refine step_append_at xatE rfl _ _ rfl W.heap.size v8 (.slice (some ⟨W.heap.size + 1, 0, none⟩) 1 1) (l.take k) [(N.data.toList, V.data.toList)] ?_ ?_ ?_ ?_ hlB ?_ ?_
                         · rfl
                         · repeat' (first | exact hR8 | refine Row.drew ?_ | refine Row.alloc ?_ _)
                         · rfl
                         · repeat' (first | exact ho | refine At.drew ?_ | refine At.alloc ?_ _)
                         · (try simp) <;> (try omega)
                         intro v9 w9 hR9 hb9 hg9 ho9
                         have hbW9 : Below W.heap.size W w9 := Below.trans (by (repeat' (first | exact Below.refl _ _ | assumption | refine gr_drew ?_ | refine gr_drewN ?_ _ | refine gr_alloc ?_ _ | refine gr_set ?_ ?_ _ | refine gr_call ?_ (by assumption)) <;> (try (simp; done)) <;> (try (simp; omega)) <;> (try omega))) hb9
                         have hs9 := hbW9.size
                         have c0 := cell_kept hbW9 b0
                         have c1 := cell_kept hbW9 b1)
                      | (refine step_append_at xatE rfl _ _ rfl W.heap.size (.slice (some ⟨W.heap.size, 0, none⟩) 0 0) tv [] (l.take k) ?_ ?_ ?_ (htat _ ?_) hlA ?_ ?_
                         · rfl
                         · repeat' (first | (refine row_new _ _ _ ?_ ?_ <;> (try simp) <;> (try omega); done) | refine Row.drew ?_ | refine Row.alloc ?_ _)
                         · rfl
                         · exact hl6.call (by (repeat' (first | exact Below.refl _ _ | assumption | refine gr_drew ?_ | refine gr_drewN ?_ _ | refine gr_alloc ?_ _ | refine gr_set ?_ ?_ _ | refine gr_call ?_ (by assumption)) <;> (try (simp; done)) <;> (try (simp; omega)) <;> (try omega)))
                         · (try simp) <;> (try omega)
                         intro v8 w8 hR8 hb8 hg8 ho8
                         rw [List.nil_append] at hR8
                         have hbW8 : Below W.heap.size W w8 := Below.trans (by (repeat' (first | exact Below.refl _ _ | assumption | refine gr_drew ?_ | refine gr_drewN ?_ _ | refine gr_alloc ?_ _ | refine gr_set ?_ ?_ _ | refine gr_call ?_ (by assumption)) <;> (try (simp; done)) <;> (try (simp; omega)) <;> (try omega))) hb8
                         have hs8 := hbW8.size
                         have c0 := cell_kept hbW8 b0
                         have c1 := cell_kept hbW8 b1
                         first
                           | (have ho : At xatE (.slice (some ⟨W.heap.size, 0, none⟩) 1 1) [(N.data.toList, V.data.toList)] w8 := by
                                refine At.grown ?_ hg8 (by intro j hj; simp [Value.ownBlock] at hj ⊢; omega)
                                repeat' (first | (refine at_one _ _ _ _ ?_; simp; done) | refine At.drew ?_ | refine At.alloc ?_ _))
                           | (have ho : At xatE (.slice (some ⟨W.heap.size + 1, 0, none⟩) 1 1) [(N.data.toList, V.data.toList)] w8 := by
                                refine At.grown ?_ hg8 (by intro j hj; simp [Value.ownBlock] at hj ⊢; omega)
                                repeat' (first | (refine at_one _ _ _ _ ?_; simp; done) | refine At.drew ?_ | refine At.alloc ?_ _))
                           | skip)
                      | (refine step_append_at xatE rfl _ _ rfl W.heap.size (.slice (some ⟨W.heap.size + 1, 0, none⟩) 0 0) tv [] (l.take k) ?_ ?_ ?_ (htat _ ?_) hlA ?_ ?_
                         · rfl
                         · repeat' (first | (refine row_new _ _ _ ?_ ?_ <;> (try simp) <;> (try omega); done) | refine Row.drew ?_ | refine Row.alloc ?_ _)
                         · rfl
                         · exact hl6.call (by (repeat' (first | exact Below.refl _ _ | assumption | refine gr_drew ?_ | refine gr_drewN ?_ _ | refine gr_alloc ?_ _ | refine gr_set ?_ ?_ _ | refine gr_call ?_ (by assumption)) <;> (try (simp; done)) <;> (try (simp; omega)) <;> (try omega)))
                         · (try simp) <;> (try omega)
                         intro v8 w8 hR8 hb8 hg8 ho8
                         rw [List.nil_append] at hR8
                         have hbW8 : Below W.heap.size W w8 := Below.trans (by (repeat' (first | exact Below.refl _ _ | assumption | refine gr_drew ?_ | refine gr_drewN ?_ _ | refine gr_alloc ?_ _ | refine gr_set ?_ ?_ _ | refine gr_call ?_ (by assumption)) <;> (try (simp; done)) <;> (try (simp; omega)) <;> (try omega))) hb8
                         have hs8 := hbW8.size
                         have c0 := cell_kept hbW8 b0
                         have c1 := cell_kept hbW8 b1
                         first
                           | (have ho : At xatE (.slice (some ⟨W.heap.size, 0, none⟩) 1 1) [(N.data.toList, V.data.toList)] w8 := by
                                refine At.grown ?_ hg8 (by intro j hj; simp [Value.ownBlock] at hj ⊢; omega)
                                repeat' (first | (refine at_one _ _ _ _ ?_; simp; done) | refine At.drew ?_ | refine At.alloc ?_ _))
                           | (have ho : At xatE (.slice (some ⟨W.heap.size + 1, 0, none⟩) 1 1) [(N.data.toList, V.data.toList)] w8 := by
                                refine At.grown ?_ hg8 (by intro j hj; simp [Value.ownBlock] at hj ⊢; omega)
                                repeat' (first | (refine at_one _ _ _ _ ?_; simp; done) | refine At.drew ?_ | refine At.alloc ?_ _))
                           | skip))
                  all_goals
                    go_wp2_with fail
                    go_roundw
                    case rel => exact ⟨i + 1, L, rfl, by omega, by rw [HE.out]; exact hR10.mono (Nat.le_trans hres6.size (Nat.le_refl _)), hbl6.trans (hbW10.mono hbl6.size), hres6.kept hbW10 hres6.size, by have := HLl.out; omega, HG⟩
                    case measure => simp only [intOf]; omega
                · have HE := Lib.hid (HMo.out he)
                  rw [decide_eq_false he] at heq
                  clear HSm HMo he hltk hcm
                  go_wp2_with fail
                  go_quiet (fail)
                  rename_i nq
                  have hqb : Below w6.heap.size w6 (w6.drewN nq) := gr_drewN (Below.refl _ _) nq
                  go_wp2_with fail
                  generalize w6.drewN nq = W at *
                  replace b0 := cell_kept hqb b0
                  replace b1 := cell_kept hqb b1
                  replace hl6 := hl6.call hqb
                  replace hat6 := hat6.call hqb
                  replace hbl6 := gr_call hbl6 hqb
                  have hres6 := hres6.kept hqb hres6.size
                  clear hqb hc6 heq
                  generalize (Value.slice (some ⟨g6, off6, none⟩) y cap6) = rv at *
                  have hzz := Hz.out
                  clear hsv hsat
                  have hlA : ([] : List Xa).length + (l.take k).length ≤ 1000000 := by simp; omega
                  have hlB : (l.take k).length + [((N.data.toList, V.data.toList) : Xa)].length ≤ 1000000 := by simp; omega
                  have hlC : (l.take k ++ [((N.data.toList, V.data.toList) : Xa)]).length + (l.drop k).length ≤ 1000000 := by simp; omega
                  have hbW : Below W.heap.size W W.drew := gr_drew (Below.refl _ _)
                  go_region_held3 (fun w' => Below W.heap.size W w' ∧ w'.cell? ⟨bx, 0, none⟩ = some (.string N) ∧ w'.cell? ⟨bx, 1, none⟩ = some (.string V))
                    (first | (go_keep; done) | (go_split_ands; (repeat' apply And.intro) <;> (first | assumption | exact Amb.on (by assumption) hb1 | exact gr_call (by assumption) hb1 | exact cell_kept hb1 (by assumption) | exact free_kept hb1 (by assumption) (by assumption) | (show Below _ _ _; (repeat' (first | exact Below.refl _ _ | assumption | refine gr_drew ?_ | refine gr_drewN ?_ _ | refine gr_alloc ?_ _ | refine gr_set ?_ ?_ _ | refine gr_call ?_ (by assumption)) <;> (try (simp; done)) <;> (try (simp; omega)) <;> (try omega)); done) | (go_keep; done) | (simp [go_sem, *]; done))))
                    (first
                      | (refine step_append_at xatE rfl _ _ rfl W.heap.size v9 rv (l.take k ++ [(N.data.toList, V.data.toList)]) (l.drop k) ?_ ?_ ?_ ?_ hlC ?_ ?_
                         · rfl
                         · repeat' (first | exact hR9 | refine Row.drew ?_ | refine Row.alloc ?_ _)
                         · rfl
                         · exact hat6.call (by (repeat' (first | exact Below.refl _ _ | assumption | refine gr_drew ?_ | refine gr_drewN ?_ _ | refine gr_alloc ?_ _ | refine gr_set ?_ ?_ _ | refine gr_call ?_ (by assumption)) <;> (try (simp; done)) <;> (try (simp; omega)) <;> (try omega)))
                         · (try simp) <;> (try omega)
                         intro v10 w10 hR10 hb10 hg10 ho10
                         have hbW10 : Below W.heap.size W w10 := Below.trans (by (repeat' (first | exact Below.refl _ _ | assumption | refine gr_drew ?_ | refine gr_drewN ?_ _ | refine gr_alloc ?_ _ | refine gr_set ?_ ?_ _ | refine gr_call ?_ (by assumption)) <;> (try (simp; done)) <;> (try (simp; omega)) <;> (try omega))) hb10
                         have c0 := cell_kept hbW10 b0
                         have c1 := cell_kept hbW10 b1)
                      | (refine step_append_at xatE rfl _ _ rfl W.heap.size v8 (.slice (some ⟨w8.heap.size, 0, none⟩) 1 1) (l.take k) [(N.data.toList, V.data.toList)] ?_ ?_ ?_ ?_ hlB ?_ ?_
                         · rfl
                         · repeat' (first | exact hR8 | refine Row.drew ?_ | refine Row.alloc ?_ _)
                         · rfl
                         · repeat' (first | (refine at_one _ _ _ _ ?_; simp; done) | refine At.drew ?_ | refine At.alloc ?_ _)
                         · (try simp) <;> (try omega)
                         intro v9 w9 hR9 hb9 hg9 ho9
                         have hbW9 : Below W.heap.size W w9 := Below.trans (by (repeat' (first | exact Below.refl _ _ | assumption | refine gr_drew ?_ | refine gr_drewN ?_ _ | refine gr_alloc ?_ _ | refine gr_set ?_ ?_ _ | refine gr_call ?_ (by assumption)) <;> (try (simp; done)) <;> (try (simp; omega)) <;> (try omega))) hb9
                         have hs9 := hbW9.size
                         have c0 := cell_kept hbW9 b0
                         have c1 := cell_kept hbW9 b1)
                      | (refine step_append_at xatE rfl _ _ rfl W.heap.size v8 (.slice (some ⟨W.heap.size, 0, none⟩) 1 1) (l.take k) [(N.data.toList, V.data.toList)] ?_ ?_ ?_ ?_ hlB ?_ ?_
                         · rfl
                         · repeat' (first | exact hR8 | refine Row.drew ?_ | refine Row.alloc ?_ _)
                         · rfl
                         · repeat' (first | exact ho | refine At.drew ?_ | refine At.alloc ?_ _)
                         · (try simp) <;> (try omega)
                         intro v9 w9 hR9 hb9 hg9 ho9
                         have hbW9 : Below W.heap.size W w9 := Below.trans (by (repeat' (first | exact Below.refl _ _ | assumption | refine gr_drew ?_ | refine gr_drewN ?_ _ | refine gr_alloc ?_ _ | refine gr_set ?_ ?_ _ | refine gr_call ?_ (by assumption)) <;> (try (simp; done)) <;> (try (simp; omega)) <;> (try omega))) hb9
                         have hs9 := hbW9.size
                         have c0 := cell_kept hbW9 b0
                         have c1 := cell_kept hbW9 b1)
                      | (refine step_append_at xatE rfl _ _ rfl W.heap.size v8 (.slice (some ⟨W.heap.size + 1, 0, none⟩) 1 1) (l.take k) [(N.data.toList, V.data.toList)] ?_ ?_ ?_ ?_ hlB ?_ ?_
                         · rfl
                         · repeat' (first | exact hR8 | refine Row.drew ?_ | refine Row.alloc ?_ _)
                         · rfl
                         · repeat' (first | exact ho | refine At.drew ?_ | refine At.alloc ?_ _)
                         · (try simp) <;> (try omega)
                         intro v9 w9 hR9 hb9 hg9 ho9
                         have hbW9 : Below W.heap.size W w9 := Below.trans (by (repeat' (first | exact Below.refl _ _ | assumption | refine gr_drew ?_ | refine gr_drewN ?_ _ | refine gr_alloc ?_ _ | refine gr_set ?_ ?_ _ | refine gr_call ?_ (by assumption)) <;> (try (simp; done)) <;> (try (simp; omega)) <;> (try omega))) hb9
                         have hs9 := hbW9.size
                         have c0 := cell_kept hbW9 b0
                         have c1 := cell_kept hbW9 b1)
                      | (refine step_append_at xatE rfl _ _ rfl W.heap.size (.slice (some ⟨W.heap.size, 0, none⟩) 0 0) tv [] (l.take k) ?_ ?_ ?_ (htat _ ?_) hlA ?_ ?_
                         · rfl
                         · repeat' (first | (refine row_new _ _ _ ?_ ?_ <;> (try simp) <;> (try omega); done) | refine Row.drew ?_ | refine Row.alloc ?_ _)
                         · rfl
                         · exact hl6.call (by (repeat' (first | exact Below.refl _ _ | assumption | refine gr_drew ?_ | refine gr_drewN ?_ _ | refine gr_alloc ?_ _ | refine gr_set ?_ ?_ _ | refine gr_call ?_ (by assumption)) <;> (try (simp; done)) <;> (try (simp; omega)) <;> (try omega)))
                         · (try simp) <;> (try omega)
                         intro v8 w8 hR8 hb8 hg8 ho8
                         rw [List.nil_append] at hR8
                         have hbW8 : Below W.heap.size W w8 := Below.trans (by (repeat' (first | exact Below.refl _ _ | assumption | refine gr_drew ?_ | refine gr_drewN ?_ _ | refine gr_alloc ?_ _ | refine gr_set ?_ ?_ _ | refine gr_call ?_ (by assumption)) <;> (try (simp; done)) <;> (try (simp; omega)) <;> (try omega))) hb8
                         have hs8 := hbW8.size
                         have c0 := cell_kept hbW8 b0
                         have c1 := cell_kept hbW8 b1
                         first
                           | (have ho : At xatE (.slice (some ⟨W.heap.size, 0, none⟩) 1 1) [(N.data.toList, V.data.toList)] w8 := by
                                refine At.grown ?_ hg8 (by intro j hj; simp [Value.ownBlock] at hj ⊢; omega)
                                repeat' (first | (refine at_one _ _ _ _ ?_; simp; done) | refine At.drew ?_ | refine At.alloc ?_ _))
                           | (have ho : At xatE (.slice (some ⟨W.heap.size + 1, 0, none⟩) 1 1) [(N.data.toList, V.data.toList)] w8 := by
                                refine At.grown ?_ hg8 (by intro j hj; simp [Value.ownBlock] at hj ⊢; omega)
                                repeat' (first | (refine at_one _ _ _ _ ?_; simp; done) | refine At.drew ?_ | refine At.alloc ?_ _))
                           | skip)
                      | (refine step_append_at xatE rfl _ _ rfl W.heap.size (.slice (some ⟨W.heap.size + 1, 0, none⟩) 0 0) tv [] (l.take k) ?_ ?_ ?_ (htat _ ?_) hlA ?_ ?_
                         · rfl
                         · repeat' (first | (refine row_new _ _ _ ?_ ?_ <;> (try simp) <;> (try omega); done) | refine Row.drew ?_ | refine Row.alloc ?_ _)
                         · rfl
                         · exact hl6.call (by (repeat' (first | exact Below.refl _ _ | assumption | refine gr_drew ?_ | refine gr_drewN ?_ _ | refine gr_alloc ?_ _ | refine gr_set ?_ ?_ _ | refine gr_call ?_ (by assumption)) <;> (try (simp; done)) <;> (try (simp; omega)) <;> (try omega)))
                         · (try simp) <;> (try omega)
                         intro v8 w8 hR8 hb8 hg8 ho8
                         rw [List.nil_append] at hR8
                         have hbW8 : Below W.heap.size W w8 := Below.trans (by (repeat' (first | exact Below.refl _ _ | assumption | refine gr_drew ?_ | refine gr_drewN ?_ _ | refine gr_alloc ?_ _ | refine gr_set ?_ ?_ _ | refine gr_call ?_ (by assumption)) <;> (try (simp; done)) <;> (try (simp; omega)) <;> (try omega))) hb8
                         have hs8 := hbW8.size
                         have c0 := cell_kept hbW8 b0
                         have c1 := cell_kept hbW8 b1
                         first
                           | (have ho : At xatE (.slice (some ⟨W.heap.size, 0, none⟩) 1 1) [(N.data.toList, V.data.toList)] w8 := by
                                refine At.grown ?_ hg8 (by intro j hj; simp [Value.ownBlock] at hj ⊢; omega)
                                repeat' (first | (refine at_one _ _ _ _ ?_; simp; done) | refine At.drew ?_ | refine At.alloc ?_ _))
                           | (have ho : At xatE (.slice (some ⟨W.heap.size + 1, 0, none⟩) 1 1) [(N.data.toList, V.data.toList)] w8 := by
                                refine At.grown ?_ hg8 (by intro j hj; simp [Value.ownBlock] at hj ⊢; omega)
                                repeat' (first | (refine at_one _ _ _ _ ?_; simp; done) | refine At.drew ?_ | refine At.alloc ?_ _))
                           | skip))
                  all_goals
                    go_wp2_with fail
                    go_roundw
                    case rel => exact ⟨i + 1, L, rfl, by omega, by rw [HE.out]; exact hR10.mono (Nat.le_trans hres6.size (Nat.le_refl _)), hbl6.trans (hbW10.mono hbl6.size), hres6.kept hbW10 hres6.size, by have := HLl.out; omega, HG⟩
                    case measure => simp only [intOf]; omega
            · have hltk' : decide ((k : Int) < (z : Int)) = false := decide_eq_false (by omega)
              have hltk2 : decide (k < z) = false := decide_eq_false hltk
              have HE := Lib.hid (Hend.out k (by rw [Hz.out]; omega) HR.out)
              have hkz : k = z := by omega
              subst hkz
              obtain ⟨sv, hsv, hsat, _⟩ := slice_from hlw (k := k) (by rw [Hz.out]; omega)
              obtain ⟨tv, htv, htat, _⟩ := slice_upto hlw (k := k) (by rw [Hz.out]; omega)
              clear HR hltk Hcl hbx9 hat
              go_wp2_with fail
              go_quiet (fail)
              rename_i nq
              have hqb : Below wr.heap.size wr (wr.drewN nq) := gr_drewN (Below.refl _ _) nq
              generalize wr.drewN nq = wq at *
              replace hlw := hlw.call hqb
              replace b0 := cell_kept hqb b0
              replace b1 := cell_kept hqb b1
              try replace hres := hres.kept hqb hres.size
              have hbq := gr_call hbl hqb
              have hrow0 := row_new wq.heap.size wq.heap.size wq rfl (Nat.le_refl _)
              have hat0 := hsat _ (hlw.alloc (.cells #[] 42))
              have hl1 : ([] : List Xa).length + (l.drop k).length ≤ 1000000 := by simp; have := Hz.out; omega
              have hsz2 : wq.heap.size ≤ (wq.alloc (.cells #[] 42)).heap.size := by simp
              clear hbl hqb
              go_wp2_with (at_builtin; refine wp_append_at xatE rfl _ _ rfl wq.heap.size _ sv [] (l.drop k) (wq.alloc (.cells #[] 42)) rfl (by exact hrow0) (by rfl) (by exact hat0) hl1 hsz2 ?_)
              intro v6 w6 hR6 hb6 _ _
              have hb6' : Below wq.heap.size wq w6 := (gr_alloc (Below.refl _ _) _).trans hb6
              replace b0 := cell_kept hb6' b0
              replace b1 := cell_kept hb6' b1
              have hbl6 : Below w.heap.size w w6 := gr_call hbq hb6'
              have hl6 := hlw.call hb6'
              try have hres6 := hres.kept hb6' hres.size
              clear hb6 hb6' hrow0 hat0 hl1 hsz2 hlw hbq
              clear hltk'
              rw [List.drop_eq_nil_of_le (by rw [Hz.out]; exact Nat.le_refl _)] at hR6
              obtain ⟨p6, cap6, rfl, _⟩ := hR6.at.shape
              have hat6 := hR6.at
              simp only [List.length_nil] at hat6 ⊢
              clear hR6
              go_wp2_with fail
              go_quiet (fail)
              rename_i nq
              have hqb : Below w6.heap.size w6 (w6.drewN nq) := gr_drewN (Below.refl _ _) nq
              go_wp2_with fail
              generalize w6.drewN nq = W at *
              replace b0 := cell_kept hqb b0
              replace b1 := cell_kept hqb b1
              replace hl6 := hl6.call hqb
              replace hat6 := hat6.call hqb
              replace hbl6 := gr_call hbl6 hqb
              have hres6 := hres6.kept hqb hres6.size
              generalize (Value.slice p6 0 cap6) = rv at *
              clear hqb hsv hsat
              have hlA : ([] : List Xa).length + (l.take k).length ≤ 1000000 := by simp; omega
              have hlB : (l.take k).length + [((N.data.toList, V.data.toList) : Xa)].length ≤ 1000000 := by simp; omega
              have hlC : (l.take k ++ [((N.data.toList, V.data.toList) : Xa)]).length + ([] : List Xa).length ≤ 1000000 := by simp; omega
              have hbW : Below W.heap.size W W.drew := gr_drew (Below.refl _ _)
              go_region_held3 (fun w' => Below W.heap.size W w' ∧ w'.cell? ⟨bx, 0, none⟩ = some (.string N) ∧ w'.cell? ⟨bx, 1, none⟩ = some (.string V))
                (first | (go_keep; done) | (go_split_ands; (repeat' apply And.intro) <;> (first | assumption | exact Amb.on (by assumption) hb1 | exact gr_call (by assumption) hb1 | exact cell_kept hb1 (by assumption) | exact free_kept hb1 (by assumption) (by assumption) | (show Below _ _ _; (repeat' (first | exact Below.refl _ _ | assumption | refine gr_drew ?_ | refine gr_drewN ?_ _ | refine gr_alloc ?_ _ | refine gr_set ?_ ?_ _ | refine gr_call ?_ (by assumption)) <;> (try (simp; done)) <;> (try (simp; omega)) <;> (try omega)); done) | (go_keep; done) | (simp [go_sem, *]; done))))
                (first
                  | (refine step_append_at xatE rfl _ _ rfl W.heap.size v9 rv (l.take k ++ [(N.data.toList, V.data.toList)]) ([] : List Xa) ?_ ?_ ?_ ?_ hlC ?_ ?_
                     · rfl
                     · repeat' (first | exact hR9 | refine Row.drew ?_ | refine Row.alloc ?_ _)
                     · rfl
                     · exact hat6.call (by (repeat' (first | exact Below.refl _ _ | assumption | refine gr_drew ?_ | refine gr_drewN ?_ _ | refine gr_alloc ?_ _ | refine gr_set ?_ ?_ _ | refine gr_call ?_ (by assumption)) <;> (try (simp; done)) <;> (try (simp; omega)) <;> (try omega)))
                     · (try simp) <;> (try omega)
                     intro v10 w10 hR10 hb10 hg10 ho10
                     have hbW10 : Below W.heap.size W w10 := Below.trans (by (repeat' (first | exact Below.refl _ _ | assumption | refine gr_drew ?_ | refine gr_drewN ?_ _ | refine gr_alloc ?_ _ | refine gr_set ?_ ?_ _ | refine gr_call ?_ (by assumption)) <;> (try (simp; done)) <;> (try (simp; omega)) <;> (try omega))) hb10
                     have c0 := cell_kept hbW10 b0
                     have c1 := cell_kept hbW10 b1)
                  | (refine step_append_at xatE rfl _ _ rfl W.heap.size v8 (.slice (some ⟨w8.heap.size, 0, none⟩) 1 1) (l.take k) [(N.data.toList, V.data.toList)] ?_ ?_ ?_ ?_ hlB ?_ ?_
                     · rfl
                     · repeat' (first | exact hR8 | refine Row.drew ?_ | refine Row.alloc ?_ _)
                     · rfl
                     · repeat' (first | (refine at_one _ _ _ _ ?_; simp; done) | refine At.drew ?_ | refine At.alloc ?_ _)
                     · (try simp) <;> (try omega)
                     intro v9 w9 hR9 hb9 hg9 ho9
                     have hbW9 : Below W.heap.size W w9 := Below.trans (by (repeat' (first | exact Below.refl _ _ | assumption | refine gr_drew ?_ | refine gr_drewN ?_ _ | refine gr_alloc ?_ _ | refine gr_set ?_ ?_ _ | refine gr_call ?_ (by assumption)) <;> (try (simp; done)) <;> (try (simp; omega)) <;> (try omega))) hb9
                     have hs9 := hbW9.size
                     have c0 := cell_kept hbW9 b0
                     have c1 := cell_kept hbW9 b1)
                  | (refine step_append_at xatE rfl _ _ rfl W.heap.size v8 (.slice (some ⟨W.heap.size, 0, none⟩) 1 1) (l.take k) [(N.data.toList, V.data.toList)] ?_ ?_ ?_ ?_ hlB ?_ ?_
                     · rfl
                     · repeat' (first | exact hR8 | refine Row.drew ?_ | refine Row.alloc ?_ _)
                     · rfl
                     · repeat' (first | exact ho | refine At.drew ?_ | refine At.alloc ?_ _)
                     · (try simp) <;> (try omega)
                     intro v9 w9 hR9 hb9 hg9 ho9
                     have hbW9 : Below W.heap.size W w9 := Below.trans (by (repeat' (first | exact Below.refl _ _ | assumption | refine gr_drew ?_ | refine gr_drewN ?_ _ | refine gr_alloc ?_ _ | refine gr_set ?_ ?_ _ | refine gr_call ?_ (by assumption)) <;> (try (simp; done)) <;> (try (simp; omega)) <;> (try omega))) hb9
                     have hs9 := hbW9.size
                     have c0 := cell_kept hbW9 b0
                     have c1 := cell_kept hbW9 b1)
                  | (refine step_append_at xatE rfl _ _ rfl W.heap.size v8 (.slice (some ⟨W.heap.size + 1, 0, none⟩) 1 1) (l.take k) [(N.data.toList, V.data.toList)] ?_ ?_ ?_ ?_ hlB ?_ ?_
                     · rfl
                     · repeat' (first | exact hR8 | refine Row.drew ?_ | refine Row.alloc ?_ _)
                     · rfl
                     · repeat' (first | exact ho | refine At.drew ?_ | refine At.alloc ?_ _)
                     · (try simp) <;> (try omega)
                     intro v9 w9 hR9 hb9 hg9 ho9
                     have hbW9 : Below W.heap.size W w9 := Below.trans (by (repeat' (first | exact Below.refl _ _ | assumption | refine gr_drew ?_ | refine gr_drewN ?_ _ | refine gr_alloc ?_ _ | refine gr_set ?_ ?_ _ | refine gr_call ?_ (by assumption)) <;> (try (simp; done)) <;> (try (simp; omega)) <;> (try omega))) hb9
                     have hs9 := hbW9.size
                     have c0 := cell_kept hbW9 b0
                     have c1 := cell_kept hbW9 b1)
                  | (refine step_append_at xatE rfl _ _ rfl W.heap.size (.slice (some ⟨W.heap.size, 0, none⟩) 0 0) tv [] (l.take k) ?_ ?_ ?_ (htat _ ?_) hlA ?_ ?_
                     · rfl
                     · repeat' (first | (refine row_new _ _ _ ?_ ?_ <;> (try simp) <;> (try omega); done) | refine Row.drew ?_ | refine Row.alloc ?_ _)
                     · rfl
                     · exact hl6.call (by (repeat' (first | exact Below.refl _ _ | assumption | refine gr_drew ?_ | refine gr_drewN ?_ _ | refine gr_alloc ?_ _ | refine gr_set ?_ ?_ _ | refine gr_call ?_ (by assumption)) <;> (try (simp; done)) <;> (try (simp; omega)) <;> (try omega)))
                     · (try simp) <;> (try omega)
                     intro v8 w8 hR8 hb8 hg8 ho8
                     rw [List.nil_append] at hR8
                     have hbW8 : Below W.heap.size W w8 := Below.trans (by (repeat' (first | exact Below.refl _ _ | assumption | refine gr_drew ?_ | refine gr_drewN ?_ _ | refine gr_alloc ?_ _ | refine gr_set ?_ ?_ _ | refine gr_call ?_ (by assumption)) <;> (try (simp; done)) <;> (try (simp; omega)) <;> (try omega))) hb8
                     have hs8 := hbW8.size
                     have c0 := cell_kept hbW8 b0
                     have c1 := cell_kept hbW8 b1
                     first
                       | (have ho : At xatE (.slice (some ⟨W.heap.size, 0, none⟩) 1 1) [(N.data.toList, V.data.toList)] w8 := by
                            refine At.grown ?_ hg8 (by intro j hj; simp [Value.ownBlock] at hj ⊢; omega)
                            repeat' (first | (refine at_one _ _ _ _ ?_; simp; done) | refine At.drew ?_ | refine At.alloc ?_ _))
                       | (have ho : At xatE (.slice (some ⟨W.heap.size + 1, 0, none⟩) 1 1) [(N.data.toList, V.data.toList)] w8 := by
                            refine At.grown ?_ hg8 (by intro j hj; simp [Value.ownBlock] at hj ⊢; omega)
                            repeat' (first | (refine at_one _ _ _ _ ?_; simp; done) | refine At.drew ?_ | refine At.alloc ?_ _))
                       | skip)
                  | (refine step_append_at xatE rfl _ _ rfl W.heap.size (.slice (some ⟨W.heap.size + 1, 0, none⟩) 0 0) tv [] (l.take k) ?_ ?_ ?_ (htat _ ?_) hlA ?_ ?_
                     · rfl
                     · repeat' (first | (refine row_new _ _ _ ?_ ?_ <;> (try simp) <;> (try omega); done) | refine Row.drew ?_ | refine Row.alloc ?_ _)
                     · rfl
                     · exact hl6.call (by (repeat' (first | exact Below.refl _ _ | assumption | refine gr_drew ?_ | refine gr_drewN ?_ _ | refine gr_alloc ?_ _ | refine gr_set ?_ ?_ _ | refine gr_call ?_ (by assumption)) <;> (try (simp; done)) <;> (try (simp; omega)) <;> (try omega)))
                     · (try simp) <;> (try omega)
                     intro v8 w8 hR8 hb8 hg8 ho8
                     rw [List.nil_append] at hR8
                     have hbW8 : Below W.heap.size W w8 := Below.trans (by (repeat' (first | exact Below.refl _ _ | assumption | refine gr_drew ?_ | refine gr_drewN ?_ _ | refine gr_alloc ?_ _ | refine gr_set ?_ ?_ _ | refine gr_call ?_ (by assumption)) <;> (try (simp; done)) <;> (try (simp; omega)) <;> (try omega))) hb8
                     have hs8 := hbW8.size
                     have c0 := cell_kept hbW8 b0
                     have c1 := cell_kept hbW8 b1
                     first
                       | (have ho : At xatE (.slice (some ⟨W.heap.size, 0, none⟩) 1 1) [(N.data.toList, V.data.toList)] w8 := by
                            refine At.grown ?_ hg8 (by intro j hj; simp [Value.ownBlock] at hj ⊢; omega)
                            repeat' (first | (refine at_one _ _ _ _ ?_; simp; done) | refine At.drew ?_ | refine At.alloc ?_ _))
                       | (have ho : At xatE (.slice (some ⟨W.heap.size + 1, 0, none⟩) 1 1) [(N.data.toList, V.data.toList)] w8 := by
                            refine At.grown ?_ hg8 (by intro j hj; simp [Value.ownBlock] at hj ⊢; omega)
                            repeat' (first | (refine at_one _ _ _ _ ?_; simp; done) | refine At.drew ?_ | refine At.alloc ?_ _))
                       | skip))
              all_goals
                go_wp2_with fail
                go_roundw
                case rel => exact ⟨i + 1, L, rfl, by omega, by rw [HE.out]; exact hR10.mono (Nat.le_trans hres6.size (Nat.le_refl _)), hbl6.trans (hbW10.mono hbl6.size), hres6.kept hbW10 hres6.size, by have := HLl.out; omega, HG⟩
                case measure => simp only [intOf]; omega
    · have hlt' : decide ((i : Int) < (zr : Int)) = false := decide_eq_false (by omega)
      have hlt2 : decide (i < zr) = false := decide_eq_false hlt
      have HE : Hid (o2 = some l) := Lib.hid (by rw [HR.out, List.drop_eq_nil_of_le (by rw [Hzr.out]; omega)]; rfl)
      have hm := Lib.hid (HM.out (.slice p z cp) l wr hR.at (by rw [Hz.out]; omega))
      clear HR Hcell HM HI HG1 HG2
      rcases hmay : mayL l with _ | _
      · rw [hmay] at hm
        have HC : Hid (checkL o2 = none) := Lib.hid (by rw [HE.out]; unfold checkL; simp only [hmay]; rfl)
        clear HE hmay
        go_wp2_with fail
        refine (hm.out).mono ?_
        rintro e w2 ⟨rfl, hb2⟩
        replace hres := hres.kept hb2 hres.size
        replace hbl := gr_call hbl hb2
        have u0 := hres.cell_some 0 _ rfl
        have u1 := hres.cell_some 1 _ rfl
        have v0 := hres.free 0
        have v1 := hres.free 1
        have hpt := put_two hres hbl (by rw [hbR]; exact Nat.le_refl _) (.slice none 0 0) (.int .i64 4)
        clear hR hb2 hm
        go_wp2_with fail
        exact bodyPost_ret (v := .agg #[.slice none 0 0, .int .i64 4]) (by simp [results, Try.results10, go_sem, *]) rfl ⟨by rw [HC.out]; exact rfl, hpt.2⟩
      · rw [hmay] at hm
        have HC : Hid (checkL o2 = some l) := Lib.hid (by rw [HE.out]; unfold checkL; simp only [hmay]; rfl)
        clear HE hmay
        go_wp2_with fail
        refine (hm.out).mono ?_
        rintro e w2 ⟨rfl, hb2⟩
        replace hR := hR.call hb2
        replace hres := hres.kept hb2 hres.size
        replace hbl := gr_call hbl hb2
        have u0 := hres.cell_some 0 _ rfl
        have u1 := hres.cell_some 1 _ rfl
        have v0 := hres.free 0
        have v1 := hres.free 1
        have hpt := put_two hres hbl (by rw [hbR]; exact Nat.le_refl _) (.slice p z cp) (.int .i64 0)
        have hno : (Value.slice p z cp).ownBlock ≠ some bR := by
          intro e
          have := (hR.lt _ e).1
          omega
        have hR2 := (hR.other (a := ⟨bR, 0, none⟩) hno (.slice p z cp)).other (a := ⟨bR, 1, none⟩) hno (.int .i64 0)
        clear hR hb2 hm
        go_wp2_with fail
        exact bodyPost_ret (v := .agg #[.slice p z cp, .int .i64 0]) (by simp [results, Try.results10, go_sem, *]) rfl ⟨by rw [HC.out]; exact ⟨_, rfl, hR2.mono (by omega)⟩, hpt.2⟩
end Go.Proofs.Ytobfbjfajdnhaaa
