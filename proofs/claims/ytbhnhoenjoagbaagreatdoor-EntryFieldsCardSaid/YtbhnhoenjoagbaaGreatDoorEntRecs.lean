/- Walks over package entry: Recs. -/
import Derived.Test.YtbhnhoenjoagbaaGreatDoorPk26
import Derived.Test.YtbhnhoenjoagbaaGreatDoorPk19
import Derived.Deep.CutBlock
namespace Go.Proofs.YtbhnhoenjoagbaaGreatDoor
open Go.RowKit
open MetaM PathM EntM XatW
set_option linter.unusedVariables false
attribute [local irreducible] Row At

set_option maxHeartbeats 6400000 in
set_option maxRecDepth 100000 in
theorem RecsE_core (e : En) (va vd vx : Value) (w : World) (B : Nat) (hB : w.heap.size = B) (hA : Amb w) (hm : MetaAt e.m va vd vx w) (hP : e.path.size ≤ 8000) (hT : e.target.size ≤ 100000)
    (ht : StampW.StampM.mayF e.m.sec e.m.nano = true) (hu : idOk e.m.uid = true) (hg : idOk e.m.gid = true) (hc : CapsM.Fits e.m.cap) :
    Calls Tryz.prog 21 #[.agg (entC e va vd vx)] w fun r w' => (∃ v', r = .returned v' ∧ Row recE B v' (recsR e) w') ∧ Below B w w' := by
  have hmf : ∀ (fn : Fn) (first cap : Array Value) (w : World), (Instr.makeFunc fn first cap).run Tryz.prog w = .ok (.func fn first cap) w := fun _ _ _ _ => rfl
  obtain ⟨pa, ca, rfl, hca⟩ := hm.acl.shape
  obtain ⟨pd, cd, rfl, hcd⟩ := hm.dfl.shape
  obtain ⟨px, cx, rfl, hcx⟩ := hm.xat.shape
  obtain ⟨P, k, m, D, T, mj, mn⟩ := e
  unfold entC
  simp only at hm hP hT hca hcd hcx ht hu hg hc ⊢
  obtain ⟨na, hna⟩ : ∃ n, m.acl.length = n := ⟨_, rfl⟩
  obtain ⟨nd, hnd⟩ : ∃ n, m.dfl.length = n := ⟨_, rfl⟩
  obtain ⟨nx, hnx⟩ : ∃ n, m.xat.length = n := ⟨_, rfl⟩
  rw [hna, hnd, hnx] at hm ⊢
  rw [hna] at hca; rw [hnd] at hcd; rw [hnx] at hcx
  have Hna := Lib.hid hna
  have Hnd := Lib.hid hnd
  have Hnx := Lib.hid hnx
  clear hna hnd hnx
  have HAm := Lib.hid (fun W (h : Below B w W) => hA.on (show Below w.heap.size w W from hB ▸ h))
  have HMt := Lib.hid (fun W (h : Below B w W) => hm.call (show Below w.heap.size w W from hB ▸ h))
  obtain ⟨RR, hRR⟩ : ∃ r, recsR ⟨P, k, m, D, T, mj, mn⟩ = r := ⟨_, rfl⟩
  rw [hRR]
  have HR := Lib.hid hRR
  clear hRR
  go_enter Tryz.func21, Tryz.ntmps21
  go_upto_region 4 with fail
  obtain ⟨W3, hW3⟩ : ∃ W, (((w.alloc (.cells #[.string P, .int .i64 k, .int .i64 m.mode, .int .i64 m.uid, .int .i64 m.gid, .int .i64 m.sec, .int .i64 m.nano, .slice pa na ca, .slice pd nd cd, .slice px nx cx, .int .i64 m.cap.v, .int .u64 (m.cap.p : Int), .int .u64 (m.cap.i : Int), .bool m.cap.e, .int .i64 m.cap.r, .int .i64 m.flags, .string D, .string T, .int .i64 mj, .int .i64 mn] 39)).alloc (.cells #[.slice none 0 0] 24)).alloc (.cells #[.int .i64 m.mode, .int .i64 m.uid, .int .i64 m.gid, .int .i64 m.sec, .int .i64 m.nano, .slice pa na ca, .slice pd nd cd, .slice px nx cx, .int .i64 m.cap.v, .int .u64 (m.cap.p : Int), .int .u64 (m.cap.i : Int), .bool m.cap.e, .int .i64 m.cap.r, .int .i64 m.flags] 37)) = W := ⟨_, rfl⟩
  have hst : RecSt w B #[.string P, .int .i64 k, .int .i64 m.mode, .int .i64 m.uid, .int .i64 m.gid, .int .i64 m.sec, .int .i64 m.nano, .slice pa na ca, .slice pd nd cd, .slice px nx cx, .int .i64 m.cap.v, .int .u64 (m.cap.p : Int), .int .u64 (m.cap.i : Int), .bool m.cap.e, .int .i64 m.cap.r, .int .i64 m.flags, .string D, .string T, .int .i64 mj, .int .i64 mn] #[.int .i64 m.mode, .int .i64 m.uid, .int .i64 m.gid, .int .i64 m.sec, .int .i64 m.nano, .slice pa na ca, .slice pd nd cd, .slice px nx cx, .int .i64 m.cap.v, .int .u64 (m.cap.p : Int), .int .u64 (m.cap.i : Int), .bool m.cap.e, .int .i64 m.cap.r, .int .i64 m.flags] [] (.slice none 0 0) W3 := by
    subst hB
    rw [← hW3]
    have s1 : (w.alloc (.cells #[.string P, .int .i64 k, .int .i64 m.mode, .int .i64 m.uid, .int .i64 m.gid, .int .i64 m.sec, .int .i64 m.nano, .slice pa na ca, .slice pd nd cd, .slice px nx cx, .int .i64 m.cap.v, .int .u64 (m.cap.p : Int), .int .u64 (m.cap.i : Int), .bool m.cap.e, .int .i64 m.cap.r, .int .i64 m.flags, .string D, .string T, .int .i64 mj, .int .i64 mn] 39)).heap.size = w.heap.size + 1 := by simp
    have s2 : ((w.alloc (.cells #[.string P, .int .i64 k, .int .i64 m.mode, .int .i64 m.uid, .int .i64 m.gid, .int .i64 m.sec, .int .i64 m.nano, .slice pa na ca, .slice pd nd cd, .slice px nx cx, .int .i64 m.cap.v, .int .u64 (m.cap.p : Int), .int .u64 (m.cap.i : Int), .bool m.cap.e, .int .i64 m.cap.r, .int .i64 m.flags, .string D, .string T, .int .i64 mj, .int .i64 mn] 39)).alloc (.cells #[.slice none 0 0] 24)).heap.size = w.heap.size + 1 + 1 := by simp
    refine ⟨gr_alloc (gr_alloc (gr_alloc (Below.refl _ _) _) _) _, ((BlkIs.made _ _ _).alloc _).alloc _, ⟨?_, Row.nil _ _, by simp [Value.ownBlock]⟩, ?_, by simp [Value.ownBlock], by simp [Value.ownBlock]⟩
    · exact (BlkIs.made_at _ _ _ _ _ s1 rfl).alloc _
    · exact BlkIs.made_at _ _ _ _ _ s2 rfl
  rw [hW3]
  clear hW3
  have HLP := Lib.hid (fun W => longPath_any P hP W)
  have HLT := Lib.hid (fun W => (longTarget_any T W).mono fun e w' (h : _ ∧ w' = W) => (show e = .returned (.bool (decide (100 < T.size))) ∧ Below W.heap.size W w' from ⟨h.1, h.2 ▸ Below.refl _ _⟩))
  obtain ⟨lp, hlp⟩ : ∃ b, (HeadM.splitL P.data.toList).isNone = b := ⟨_, rfl⟩
  obtain ⟨lt, hlt⟩ : ∃ b, decide (100 < T.size) = b := ⟨_, rfl⟩
  rw [hlp] at HLP
  rw [hlt] at HLT
  have Hlp := Lib.hid hlp
  have Hlt := Lib.hid hlt
  clear hlp hlt
  obtain ⟨v, hv⟩ : ∃ v, Value.slice none 0 0 = v := ⟨_, rfl⟩
  rw [hv] at hst
  clear hv
  go_cut [6, 7] from 11 to 17 (fun p t wx => p = .bool lp ∧ t = .bool lt ∧ RecSt w B #[.string P, .int .i64 k, .int .i64 m.mode, .int .i64 m.uid, .int .i64 m.gid, .int .i64 m.sec, .int .i64 m.nano, .slice pa na ca, .slice pd nd cd, .slice px nx cx, .int .i64 m.cap.v, .int .u64 (m.cap.p : Int), .int .u64 (m.cap.i : Int), .bool m.cap.e, .int .i64 m.cap.r, .int .i64 m.flags, .string D, .string T, .int .i64 mj, .int .i64 mn] #[.int .i64 m.mode, .int .i64 m.uid, .int .i64 m.gid, .int .i64 m.sec, .int .i64 m.nano, .slice pa na ca, .slice pd nd cd, .slice px nx cx, .int .i64 m.cap.v, .int .u64 (m.cap.p : Int), .int .u64 (m.cap.i : Int), .bool m.cap.e, .int .i64 m.cap.r, .int .i64 m.flags] [] v wx)
  case first =>
    refine region_oneUL (S := fun W => RecSt w B #[.string P, .int .i64 k, .int .i64 m.mode, .int .i64 m.uid, .int .i64 m.gid, .int .i64 m.sec, .int .i64 m.nano, .slice pa na ca, .slice pd nd cd, .slice px nx cx, .int .i64 m.cap.v, .int .u64 (m.cap.p : Int), .int .u64 (m.cap.i : Int), .bool m.cap.e, .int .i64 m.cap.r, .int .i64 m.flags, .string D, .string T, .int .i64 mj, .int .i64 mn] #[.int .i64 m.mode, .int .i64 m.uid, .int .i64 m.gid, .int .i64 m.sec, .int .i64 m.nano, .slice pa na ca, .slice pd nd cd, .slice px nx cx, .int .i64 m.cap.v, .int .u64 (m.cap.p : Int), .int .u64 (m.cap.i : Int), .bool m.cap.e, .int .i64 m.cap.r, .int .i64 m.flags] [] v W) 7
      [(fun W v => v = .pointer (some ⟨B, 0, none⟩)),
      (fun W v => v = .string P),
      (fun W v => v = .bool lp),
      (fun W v => v = .pointer (some ⟨B, 17, none⟩)),
      (fun W v => v = .string T),
      (fun W v => v = .bool lt),
      (fun W v => v = .bool lp)] (by rfl) (by kernel_rfl) (by kernel_rfl) (by kernel_rfl) (by kernel_rfl) (by rfl) (by kernel_rfl) ?hS ?hp ?hs ?he
    case hS => exact hst.drew hB
    case hp => repeat' (first | exact trivial | refine ⟨fun _ _ _ _ h => h, ?_⟩)
    case hs =>
      simp only [List.take_succ_cons, List.take_zero]
      refine ⟨?_, ?_, ?_, ?_, ?_, ?_, ?_, trivial⟩
      · refine .inl ⟨met_none rfl, ?_⟩
        intro a W K hS hd hD hf hK
        have e1 : a.tmps.getD 1 undef = .pointer (some ⟨B, 0, none⟩) := hf 1 (by kernel_rfl)
        clear hd hf hD
        go_simp
        exact hK _ _ (Below.refl _ _) hS rfl (fun h => absurd h (by decide))
      · refine .inl ⟨met_none rfl, ?_⟩
        intro a W K hS hd hD hf hK
        have e11 : a.tmps.getD 11 undef = .pointer (some ⟨B, 0, none⟩) := hd ⟨0, .data⟩ (by simp) rfl
        have c0 := hS.box.cell_some 0 _ rfl
        clear hd hf hD
        go_simp
        exact hK _ _ (Below.refl _ _) hS rfl (fun h => absurd h (by decide))
      · refine .inl ⟨met_none rfl, ?_⟩
        intro a W K hS hd hD hf hK
        have e12 : a.tmps.getD 12 undef = .string P := hd ⟨1, .data⟩ (by simp) rfl
        clear hd hf hD
        go_simp
        go_at_call 60
        refine (HLP.out _).mono ?_
        rintro e w1 ⟨rfl, hb⟩
        exact hK _ _ hb (hS.call hB hb) rfl (fun h => absurd h (by decide))
      · refine .inl ⟨met_none rfl, ?_⟩
        intro a W K hS hd hD hf hK
        have e1 : a.tmps.getD 1 undef = .pointer (some ⟨B, 0, none⟩) := hf 1 (by kernel_rfl)
        clear hd hf hD
        go_simp
        exact hK _ _ (Below.refl _ _) hS rfl (fun h => absurd h (by decide))
      · refine .inl ⟨met_none rfl, ?_⟩
        intro a W K hS hd hD hf hK
        have e14 : a.tmps.getD 14 undef = .pointer (some ⟨B, 17, none⟩) := hd ⟨3, .data⟩ (by simp) rfl
        have c0 := hS.box.cell_some 17 _ rfl
        clear hd hf hD
        go_simp
        exact hK _ _ (Below.refl _ _) hS rfl (fun h => absurd h (by decide))
      · refine .inl ⟨met_none rfl, ?_⟩
        intro a W K hS hd hD hf hK
        have e15 : a.tmps.getD 15 undef = .string T := hd ⟨4, .data⟩ (by simp) rfl
        clear hd hf hD
        go_simp
        go_at_call 61
        refine (HLT.out _).mono ?_
        rintro e w1 ⟨rfl, hb⟩
        exact hK _ _ hb (hS.call hB hb) rfl (fun h => absurd h (by decide))
      · refine .inl ⟨met_none rfl, ?_⟩
        intro a W K hS hd hD hf hK
        have e13 : a.tmps.getD 13 undef = .bool lp := hd ⟨2, .data⟩ (by simp) rfl
        clear hd hf hD
        go_simp
        exact hK _ _ (Below.refl _ _) hS rfl (fun h => absurd h (by decide))
    case he =>
      intro vals wx K hS hV hK
      have e16 := hV 5 (by omega)
      have e13 := hV 2 (by omega)
      have e6 := hV 6 (by omega)
      clear hV
      simp only [List.getD_cons_succ, List.getD_cons_zero] at e16 e13 e6
      have HSx := Lib.hid hS
      clear hst hS
      refine Later.mk ?_
      simp only [List.append_eq, List.cons_append, List.nil_append, setN, Nat.reduceAdd, List.setIfInBounds_toArray, List.set_cons_succ, List.set_cons_zero]
      rw [e16, e6]
      go_simp
      refine hK _ _ ?_
      clear hK
      go_wp2_with fail
      go_meet
      exact ⟨rfl, rfl, HSx.out⟩
  case rest =>
    clear HLP HLT hst
    obtain ⟨rfl, rfl, hst⟩ := hcut
    rename World => W4
    go_upto_region 5 with fail
    obtain ⟨L0, hL0⟩ : ∃ l : List Rc, [] = l := ⟨_, rfl⟩
    have HL0 := Lib.hid hL0
    have hl0 : L0.length ≤ 0 := by rw [← hL0]; simp
    rw [hL0] at hst
    clear hL0
    have hmf2 := True.intro
    obtain ⟨vp, hvp⟩ : ∃ b, validU P.data.toList = b := ⟨_, rfl⟩
    obtain ⟨vt, hvt⟩ : ∃ b, validU T.data.toList = b := ⟨_, rfl⟩
    have Hvp := Lib.hid hvp
    have Hvt := Lib.hid hvt
    have HVP := Lib.hid (fun W (h : Below B w W) => TextW.valid_any P (by omega) W (HAm.out W h).tx)
    have HVT := Lib.hid (fun W (h : Below B w W) => TextW.valid_any T (by omega) W (HAm.out W h).tx)
    rw [show TextW.validB P.data.toList = vp from hvp] at HVP
    rw [show TextW.validB T.data.toList = vt from hvt] at HVT
    clear hvp hvt
    go_cut [34] from 17 to 35 (fun _ wx => ∃ v', RecSt w B #[.string P, .int .i64 k, .int .i64 m.mode, .int .i64 m.uid, .int .i64 m.gid, .int .i64 m.sec, .int .i64 m.nano, .slice pa na ca, .slice pd nd cd, .slice px nx cx, .int .i64 m.cap.v, .int .u64 (m.cap.p : Int), .int .u64 (m.cap.i : Int), .bool m.cap.e, .int .i64 m.cap.r, .int .i64 m.flags, .string D, .string T, .int .i64 mj, .int .i64 mn] #[.int .i64 m.mode, .int .i64 m.uid, .int .i64 m.gid, .int .i64 m.sec, .int .i64 m.nano, .slice pa na ca, .slice pd nd cd, .slice px nx cx, .int .i64 m.cap.v, .int .u64 (m.cap.p : Int), .int .u64 (m.cap.i : Int), .bool m.cap.e, .int .i64 m.cap.r, .int .i64 m.flags] (L0 ++ one ((lp && !vp) || (lt && !vt)) ([104, 100, 114, 99, 104, 97, 114, 115, 101, 116] : List UInt8) ([66, 73, 78, 65, 82, 89] : List UInt8)) v' wx)
    case first =>
      have b0 := hst.box.cell_some 0 _ rfl
      have b17 := hst.box.cell_some 17 _ rfl
      cases lp with
      | false =>
        cases lt with
        | false =>
          have HAD := Lib.hid (addSt_any w B hB _ _ _ v ((false && !vp) || (false && !vt)) ⟨#[104, 100, 114, 99, 104, 97, 114, 115, 101, 116]⟩ ⟨#[66, 73, 78, 65, 82, 89]⟩ W4 hst (by omega))
          clear hst
          simp only [Bool.false_and, Bool.or_self] at HAD
          go_wp2_with fail
          refine (HAD.out).mono ?_
          rintro e wy ⟨rfl, v', hst⟩
          go_wp2_with fail
          go_meet
          exact ⟨v', hst⟩
        | true =>
          go_wp2_with fail
          refine (HVT.out _ hst.below).mono ?_
          rintro e wy ⟨rfl, hb⟩
          have HAD := Lib.hid (addSt_any w B hB _ _ _ v ((false && !vp) || (true && !vt)) ⟨#[104, 100, 114, 99, 104, 97, 114, 115, 101, 116]⟩ ⟨#[66, 73, 78, 65, 82, 89]⟩ wy (hst.call hB hb) (by omega))
          simp only [Bool.false_and, Bool.true_and, Bool.false_or] at HAD
          clear hst
          go_wp2_with fail
          refine (HAD.out).mono ?_
          rintro e wz ⟨rfl, v', hst⟩
          go_wp2_with fail
          go_meet
          exact ⟨v', hst⟩
      | true =>
        cases vp with
        | false =>
          go_wp2_with fail
          refine (HVP.out _ hst.below).mono ?_
          rintro e wy ⟨rfl, hb⟩
          have HAD := Lib.hid (addSt_any w B hB _ _ _ v ((true && !false) || (lt && !vt)) ⟨#[104, 100, 114, 99, 104, 97, 114, 115, 101, 116]⟩ ⟨#[66, 73, 78, 65, 82, 89]⟩ wy (hst.call hB hb) (by omega))
          simp only [Bool.true_and, Bool.not_false, Bool.true_or] at HAD
          clear hst
          go_wp2_with fail
          refine (HAD.out).mono ?_
          rintro e wz ⟨rfl, v', hst⟩
          go_wp2_with fail
          go_meet
          exact ⟨v', hst⟩
        | true =>
          cases lt with
          | false =>
            go_wp2_with fail
            refine (HVP.out _ hst.below).mono ?_
            rintro e wy ⟨rfl, hb⟩
            have HAD := Lib.hid (addSt_any w B hB _ _ _ v ((true && !true) || (false && !vt)) ⟨#[104, 100, 114, 99, 104, 97, 114, 115, 101, 116]⟩ ⟨#[66, 73, 78, 65, 82, 89]⟩ wy (hst.call hB hb) (by omega))
            simp only [Bool.true_and, Bool.not_true, Bool.false_and, Bool.or_self] at HAD
            clear hst
            go_wp2_with fail
            refine (HAD.out).mono ?_
            rintro e wz ⟨rfl, v', hst⟩
            go_wp2_with fail
            go_meet
            exact ⟨v', hst⟩
          | true =>
            go_wp2_with fail
            refine (HVP.out _ hst.below).mono ?_
            rintro e wy ⟨rfl, hb⟩
            replace hst := hst.call hB hb
            have b17 := hst.box.cell_some 17 _ rfl
            go_wp2_with fail
            refine (HVT.out _ hst.below).mono ?_
            rintro e wz ⟨rfl, hb2⟩
            have HAD := Lib.hid (addSt_any w B hB _ _ _ v ((true && !true) || (true && !vt)) ⟨#[104, 100, 114, 99, 104, 97, 114, 115, 101, 116]⟩ ⟨#[66, 73, 78, 65, 82, 89]⟩ wz (hst.call hB hb2) (by omega))
            simp only [Bool.true_and, Bool.not_true, Bool.false_or] at HAD
            clear hst
            go_wp2_with fail
            refine (HAD.out).mono ?_
            rintro e wz ⟨rfl, v', hst⟩
            go_wp2_with fail
            go_meet
            exact ⟨v', hst⟩
    case rest =>
      clear hst HVP HVT
      obtain ⟨v, hst⟩ := hcut
      rename World => W
      obtain ⟨L1, hL1⟩ : ∃ l, L0 ++ one ((lp && !vp) || (lt && !vt)) ([104, 100, 114, 99, 104, 97, 114, 115, 101, 116] : List UInt8) ([66, 73, 78, 65, 82, 89] : List UInt8) = l := ⟨_, rfl⟩
      have HL1 := Lib.hid hL1
      have hl1 : L1.length ≤ 1 := by rw [← hL1, List.length_append]; have := one_len ((lp && !vp) || (lt && !vt)) ([104, 100, 114, 99, 104, 97, 114, 115, 101, 116] : List UInt8) ([66, 73, 78, 65, 82, 89] : List UInt8); omega
      rw [hL1] at hst
      clear hL1 hl0
      clear hmf2
      go_upto_region 6 with fail
      have hmf2 := True.intro
      have HCP := Lib.hid (fun W => HeadW.clone_any P W (by omega))
      go_cut [40] from 35 to 41 (fun _ wx => ∃ v', RecSt w B #[.string P, .int .i64 k, .int .i64 m.mode, .int .i64 m.uid, .int .i64 m.gid, .int .i64 m.sec, .int .i64 m.nano, .slice pa na ca, .slice pd nd cd, .slice px nx cx, .int .i64 m.cap.v, .int .u64 (m.cap.p : Int), .int .u64 (m.cap.i : Int), .bool m.cap.e, .int .i64 m.cap.r, .int .i64 m.flags, .string D, .string T, .int .i64 mj, .int .i64 mn] #[.int .i64 m.mode, .int .i64 m.uid, .int .i64 m.gid, .int .i64 m.sec, .int .i64 m.nano, .slice pa na ca, .slice pd nd cd, .slice px nx cx, .int .i64 m.cap.v, .int .u64 (m.cap.p : Int), .int .u64 (m.cap.i : Int), .bool m.cap.e, .int .i64 m.cap.r, .int .i64 m.flags] (L1 ++ one lp ([112, 97, 116, 104] : List UInt8) P.data.toList) v' wx)
      case first =>
        have b0 := hst.box.cell_some 0 _ rfl
        go_wp2_with fail
        refine (HCP.out _).mono ?_
        rintro e wy ⟨rfl, hb⟩
        have HAD := Lib.hid (addSt_any w B hB _ _ _ v lp ⟨#[112, 97, 116, 104]⟩ P wy (hst.call hB hb) (by omega))
        clear hst
        go_wp2_with fail
        refine (HAD.out).mono ?_
        rintro e wz ⟨rfl, v', hst⟩
        go_wp2_with fail
        go_meet
        exact ⟨v', hst⟩
      case rest =>
        clear hst HCP
        obtain ⟨v, hst⟩ := hcut
        rename World => W
        obtain ⟨L2, hL2⟩ : ∃ l, L1 ++ one lp ([112, 97, 116, 104] : List UInt8) P.data.toList = l := ⟨_, rfl⟩
        have HL2 := Lib.hid hL2
        have hl2 : L2.length ≤ 2 := by rw [← hL2, List.length_append]; have := one_len lp ([112, 97, 116, 104] : List UInt8) P.data.toList; omega
        rw [hL2] at hst
        clear hL2 hl1
        clear hmf2
        go_upto_region 7 with fail
        have hmf2 := True.intro
        have HCP := Lib.hid (fun W => HeadW.clone_any T W (by omega))
        go_cut [46] from 41 to 47 (fun _ wx => ∃ v', RecSt w B #[.string P, .int .i64 k, .int .i64 m.mode, .int .i64 m.uid, .int .i64 m.gid, .int .i64 m.sec, .int .i64 m.nano, .slice pa na ca, .slice pd nd cd, .slice px nx cx, .int .i64 m.cap.v, .int .u64 (m.cap.p : Int), .int .u64 (m.cap.i : Int), .bool m.cap.e, .int .i64 m.cap.r, .int .i64 m.flags, .string D, .string T, .int .i64 mj, .int .i64 mn] #[.int .i64 m.mode, .int .i64 m.uid, .int .i64 m.gid, .int .i64 m.sec, .int .i64 m.nano, .slice pa na ca, .slice pd nd cd, .slice px nx cx, .int .i64 m.cap.v, .int .u64 (m.cap.p : Int), .int .u64 (m.cap.i : Int), .bool m.cap.e, .int .i64 m.cap.r, .int .i64 m.flags] (L2 ++ one lt ([108, 105, 110, 107, 112, 97, 116, 104] : List UInt8) T.data.toList) v' wx)
        case first =>
          have b0 := hst.box.cell_some 17 _ rfl
          go_wp2_with fail
          refine (HCP.out _).mono ?_
          rintro e wy ⟨rfl, hb⟩
          have HAD := Lib.hid (addSt_any w B hB _ _ _ v lt ⟨#[108, 105, 110, 107, 112, 97, 116, 104]⟩ T wy (hst.call hB hb) (by omega))
          clear hst
          go_wp2_with fail
          refine (HAD.out).mono ?_
          rintro e wz ⟨rfl, v', hst⟩
          go_wp2_with fail
          go_meet
          exact ⟨v', hst⟩
        case rest =>
          clear hst HCP
          obtain ⟨v, hst⟩ := hcut
          rename World => W
          obtain ⟨L3, hL3⟩ : ∃ l, L2 ++ one lt ([108, 105, 110, 107, 112, 97, 116, 104] : List UInt8) T.data.toList = l := ⟨_, rfl⟩
          have HL3 := Lib.hid hL3
          have hl3 : L3.length ≤ 3 := by rw [← hL3, List.length_append]; have := one_len lt ([108, 105, 110, 107, 112, 97, 116, 104] : List UInt8) T.data.toList; omega
          rw [hL3] at hst
          clear hL3 hl2
          clear hmf2
          go_upto_region 8 with fail
          have hmf2 := True.intro
          obtain ⟨bu, hbu⟩ : ∃ b, decide (2097151 < m.uid) = b := ⟨_, rfl⟩
          obtain ⟨SU, hSU⟩ : ∃ s, strOf (Lib.itoa m.uid) = s := ⟨_, rfl⟩
          have H1 := Lib.hid (fun W => (longId_any m.uid W).mono fun e w' (h : _ ∧ w' = W) => (show e = .returned (.bool (decide (2097151 < m.uid))) ∧ Below W.heap.size W w' from ⟨h.1, h.2 ▸ Below.refl _ _⟩))
          have H2 := Lib.hid (fun W (h : Below B w W) => AclW.itoa_any m.uid W (HAm.out W h).b (by unfold idOk at hu hg; simp at hu hg; omega) (by unfold idOk at hu hg; simp at hu hg; omega))
          rw [hbu] at H1
          rw [hSU] at H2
          have Hbu4 := Lib.hid hbu
          have HSU4 := Lib.hid hSU
          clear hbu hSU
          go_cut [54] from 47 to 55 (fun _ wx => ∃ v', RecSt w B #[.string P, .int .i64 k, .int .i64 m.mode, .int .i64 m.uid, .int .i64 m.gid, .int .i64 m.sec, .int .i64 m.nano, .slice pa na ca, .slice pd nd cd, .slice px nx cx, .int .i64 m.cap.v, .int .u64 (m.cap.p : Int), .int .u64 (m.cap.i : Int), .bool m.cap.e, .int .i64 m.cap.r, .int .i64 m.flags, .string D, .string T, .int .i64 mj, .int .i64 mn] #[.int .i64 m.mode, .int .i64 m.uid, .int .i64 m.gid, .int .i64 m.sec, .int .i64 m.nano, .slice pa na ca, .slice pd nd cd, .slice px nx cx, .int .i64 m.cap.v, .int .u64 (m.cap.p : Int), .int .u64 (m.cap.i : Int), .bool m.cap.e, .int .i64 m.cap.r, .int .i64 m.flags] (L3 ++ one bu ([117, 105, 100] : List UInt8) SU.data.toList) v' wx)
          case first =>
            refine region_oneUL (S := fun W => RecSt w B #[.string P, .int .i64 k, .int .i64 m.mode, .int .i64 m.uid, .int .i64 m.gid, .int .i64 m.sec, .int .i64 m.nano, .slice pa na ca, .slice pd nd cd, .slice px nx cx, .int .i64 m.cap.v, .int .u64 (m.cap.p : Int), .int .u64 (m.cap.i : Int), .bool m.cap.e, .int .i64 m.cap.r, .int .i64 m.flags, .string D, .string T, .int .i64 mj, .int .i64 mn] #[.int .i64 m.mode, .int .i64 m.uid, .int .i64 m.gid, .int .i64 m.sec, .int .i64 m.nano, .slice pa na ca, .slice pd nd cd, .slice px nx cx, .int .i64 m.cap.v, .int .u64 (m.cap.p : Int), .int .u64 (m.cap.i : Int), .bool m.cap.e, .int .i64 m.cap.r, .int .i64 m.flags] L3 v W) 7
              [(fun W v => v = .func (.func 59) #[] #[.pointer (some ⟨B + 1, 0, none⟩)]),
              (fun W v => v = .pointer (some ⟨B + 1 + 1, 1, none⟩)),
              (fun W v => v = .int .i64 m.uid),
              (fun W v => v = .bool bu),
              (fun W v => v = .pointer (some ⟨B + 1 + 1, 1, none⟩)),
              (fun W v => v = .int .i64 m.uid),
              (fun W v => v = .string SU)] (by rfl) (by kernel_rfl) (by kernel_rfl) (by kernel_rfl) (by kernel_rfl) (by rfl) (by kernel_rfl) ?hS ?hp ?hs ?he
            case hS => exact hst.drew hB
            case hp => repeat' (first | exact trivial | refine ⟨fun _ _ _ _ h => h, ?_⟩)
            case hs =>
              simp only [List.take_succ_cons, List.take_zero]
              refine ⟨?_, ?_, ?_, ?_, ?_, ?_, ?_, trivial⟩
              · refine .inl ⟨met_none rfl, ?_⟩
                intro a W K hS hd hD hf hK
                have e4 : a.tmps.getD 4 undef = .func (.func 59) #[] #[.pointer (some ⟨B + 1, 0, none⟩)] := hf 4 (by kernel_rfl)
                clear hd hf hD
                go_simp
                exact hK _ _ (Below.refl _ _) hS rfl (fun h => absurd h (by decide))
              · refine .inl ⟨met_none rfl, ?_⟩
                intro a W K hS hd hD hf hK
                have e5 : a.tmps.getD 5 undef = .pointer (some ⟨B + 1 + 1, 0, none⟩) := hf 5 (by kernel_rfl)
                clear hd hf hD
                go_simp
                exact hK _ _ (Below.refl _ _) hS rfl (fun h => absurd h (by decide))
              · refine .inl ⟨met_none rfl, ?_⟩
                intro a W K hS hd hD hf hK
                have e48 : a.tmps.getD 48 undef = .pointer (some ⟨B + 1 + 1, 1, none⟩) := hd ⟨1, .data⟩ (by simp) rfl
                have c0 := hS.met.cell_some 1 _ rfl
                clear hd hf hD
                go_simp
                exact hK _ _ (Below.refl _ _) hS rfl (fun h => absurd h (by decide))
              · refine .inl ⟨met_none rfl, ?_⟩
                intro a W K hS hd hD hf hK
                have e49 : a.tmps.getD 49 undef = .int .i64 m.uid := hd ⟨2, .data⟩ (by simp) rfl
                clear hd hf hD
                go_simp
                go_at_call 64
                refine (H1.out _).mono ?_
                rintro e w1 ⟨rfl, hb⟩
                exact hK _ _ hb (hS.call hB hb) rfl (fun h => absurd h (by decide))
              · refine .inl ⟨met_none rfl, ?_⟩
                intro a W K hS hd hD hf hK
                have e5 : a.tmps.getD 5 undef = .pointer (some ⟨B + 1 + 1, 0, none⟩) := hf 5 (by kernel_rfl)
                clear hd hf hD
                go_simp
                exact hK _ _ (Below.refl _ _) hS rfl (fun h => absurd h (by decide))
              · refine .inl ⟨met_none rfl, ?_⟩
                intro a W K hS hd hD hf hK
                have e51 : a.tmps.getD 51 undef = .pointer (some ⟨B + 1 + 1, 1, none⟩) := hd ⟨4, .data⟩ (by simp) rfl
                have c0 := hS.met.cell_some 1 _ rfl
                clear hd hf hD
                go_simp
                exact hK _ _ (Below.refl _ _) hS rfl (fun h => absurd h (by decide))
              · refine .inl ⟨met_none rfl, ?_⟩
                intro a W K hS hd hD hf hK
                have e52 : a.tmps.getD 52 undef = .int .i64 m.uid := hd ⟨5, .data⟩ (by simp) rfl
                clear hd hf hD
                go_simp
                go_at_call 65
                refine (H2.out _ hS.below).mono ?_
                rintro e w1 ⟨rfl, hb⟩
                exact hK _ _ hb (hS.call hB hb) rfl (fun h => absurd h (by decide))
            case he =>
              intro vals wx K hS hV hK
              have e47 := hV 0 (by omega)
              have e50 := hV 3 (by omega)
              have e53 := hV 6 (by omega)
              clear hV
              simp only [List.getD_cons_succ, List.getD_cons_zero] at e47 e50 e53
              have HAD := Lib.hid (addSt_any w B hB _ _ _ v bu ⟨#[117, 105, 100]⟩ SU wx hS (by first | omega | (simp; omega)))
              clear hst hS
              refine Later.mk ?_
              simp only [List.append_eq, List.cons_append, List.nil_append, setN, Nat.reduceAdd, List.setIfInBounds_toArray, List.set_cons_succ, List.set_cons_zero]
              rw [e47, e50, e53]
              go_simp
              go_at_call 59
              refine (HAD.out).mono ?_
              rintro e wy ⟨rfl, v', hst⟩
              refine hK _ _ ?_
              clear hK
              go_wp2_with fail
              go_meet
              exact ⟨v', hst⟩
          case rest =>
            clear hst H1 H2
            obtain ⟨v, hst⟩ := hcut
            rename World => W
            obtain ⟨L4, hL4⟩ : ∃ l, L3 ++ one bu ([117, 105, 100] : List UInt8) SU.data.toList = l := ⟨_, rfl⟩
            have HL4 := Lib.hid hL4
            have hl4 : L4.length ≤ 4 := by rw [← hL4, List.length_append]; have := one_len bu ([117, 105, 100] : List UInt8) SU.data.toList; omega
            rw [hL4] at hst
            clear hL4 hl3
            clear hmf2
            go_upto_region 9 with fail
            have hmf2 := True.intro
            obtain ⟨bu, hbu⟩ : ∃ b, decide (2097151 < m.gid) = b := ⟨_, rfl⟩
            obtain ⟨SU, hSU⟩ : ∃ s, strOf (Lib.itoa m.gid) = s := ⟨_, rfl⟩
            have H1 := Lib.hid (fun W => (longId_any m.gid W).mono fun e w' (h : _ ∧ w' = W) => (show e = .returned (.bool (decide (2097151 < m.gid))) ∧ Below W.heap.size W w' from ⟨h.1, h.2 ▸ Below.refl _ _⟩))
            have H2 := Lib.hid (fun W (h : Below B w W) => AclW.itoa_any m.gid W (HAm.out W h).b (by unfold idOk at hu hg; simp at hu hg; omega) (by unfold idOk at hu hg; simp at hu hg; omega))
            rw [hbu] at H1
            rw [hSU] at H2
            have Hbu5 := Lib.hid hbu
            have HSU5 := Lib.hid hSU
            clear hbu hSU
            go_cut [62] from 55 to 63 (fun _ wx => ∃ v', RecSt w B #[.string P, .int .i64 k, .int .i64 m.mode, .int .i64 m.uid, .int .i64 m.gid, .int .i64 m.sec, .int .i64 m.nano, .slice pa na ca, .slice pd nd cd, .slice px nx cx, .int .i64 m.cap.v, .int .u64 (m.cap.p : Int), .int .u64 (m.cap.i : Int), .bool m.cap.e, .int .i64 m.cap.r, .int .i64 m.flags, .string D, .string T, .int .i64 mj, .int .i64 mn] #[.int .i64 m.mode, .int .i64 m.uid, .int .i64 m.gid, .int .i64 m.sec, .int .i64 m.nano, .slice pa na ca, .slice pd nd cd, .slice px nx cx, .int .i64 m.cap.v, .int .u64 (m.cap.p : Int), .int .u64 (m.cap.i : Int), .bool m.cap.e, .int .i64 m.cap.r, .int .i64 m.flags] (L4 ++ one bu ([103, 105, 100] : List UInt8) SU.data.toList) v' wx)
            case first =>
              refine region_oneUL (S := fun W => RecSt w B #[.string P, .int .i64 k, .int .i64 m.mode, .int .i64 m.uid, .int .i64 m.gid, .int .i64 m.sec, .int .i64 m.nano, .slice pa na ca, .slice pd nd cd, .slice px nx cx, .int .i64 m.cap.v, .int .u64 (m.cap.p : Int), .int .u64 (m.cap.i : Int), .bool m.cap.e, .int .i64 m.cap.r, .int .i64 m.flags, .string D, .string T, .int .i64 mj, .int .i64 mn] #[.int .i64 m.mode, .int .i64 m.uid, .int .i64 m.gid, .int .i64 m.sec, .int .i64 m.nano, .slice pa na ca, .slice pd nd cd, .slice px nx cx, .int .i64 m.cap.v, .int .u64 (m.cap.p : Int), .int .u64 (m.cap.i : Int), .bool m.cap.e, .int .i64 m.cap.r, .int .i64 m.flags] L4 v W) 7
                [(fun W v => v = .func (.func 59) #[] #[.pointer (some ⟨B + 1, 0, none⟩)]),
                (fun W v => v = .pointer (some ⟨B + 1 + 1, 2, none⟩)),
                (fun W v => v = .int .i64 m.gid),
                (fun W v => v = .bool bu),
                (fun W v => v = .pointer (some ⟨B + 1 + 1, 2, none⟩)),
                (fun W v => v = .int .i64 m.gid),
                (fun W v => v = .string SU)] (by rfl) (by kernel_rfl) (by kernel_rfl) (by kernel_rfl) (by kernel_rfl) (by rfl) (by kernel_rfl) ?hS ?hp ?hs ?he
              case hS => exact hst.drew hB
              case hp => repeat' (first | exact trivial | refine ⟨fun _ _ _ _ h => h, ?_⟩)
              case hs =>
                simp only [List.take_succ_cons, List.take_zero]
                refine ⟨?_, ?_, ?_, ?_, ?_, ?_, ?_, trivial⟩
                · refine .inl ⟨met_none rfl, ?_⟩
                  intro a W K hS hd hD hf hK
                  have e4 : a.tmps.getD 4 undef = .func (.func 59) #[] #[.pointer (some ⟨B + 1, 0, none⟩)] := hf 4 (by kernel_rfl)
                  clear hd hf hD
                  go_simp
                  exact hK _ _ (Below.refl _ _) hS rfl (fun h => absurd h (by decide))
                · refine .inl ⟨met_none rfl, ?_⟩
                  intro a W K hS hd hD hf hK
                  have e5 : a.tmps.getD 5 undef = .pointer (some ⟨B + 1 + 1, 0, none⟩) := hf 5 (by kernel_rfl)
                  clear hd hf hD
                  go_simp
                  exact hK _ _ (Below.refl _ _) hS rfl (fun h => absurd h (by decide))
                · refine .inl ⟨met_none rfl, ?_⟩
                  intro a W K hS hd hD hf hK
                  have e56 : a.tmps.getD 56 undef = .pointer (some ⟨B + 1 + 1, 2, none⟩) := hd ⟨1, .data⟩ (by simp) rfl
                  have c0 := hS.met.cell_some 2 _ rfl
                  clear hd hf hD
                  go_simp
                  exact hK _ _ (Below.refl _ _) hS rfl (fun h => absurd h (by decide))
                · refine .inl ⟨met_none rfl, ?_⟩
                  intro a W K hS hd hD hf hK
                  have e57 : a.tmps.getD 57 undef = .int .i64 m.gid := hd ⟨2, .data⟩ (by simp) rfl
                  clear hd hf hD
                  go_simp
                  go_at_call 64
                  refine (H1.out _).mono ?_
                  rintro e w1 ⟨rfl, hb⟩
                  exact hK _ _ hb (hS.call hB hb) rfl (fun h => absurd h (by decide))
                · refine .inl ⟨met_none rfl, ?_⟩
                  intro a W K hS hd hD hf hK
                  have e5 : a.tmps.getD 5 undef = .pointer (some ⟨B + 1 + 1, 0, none⟩) := hf 5 (by kernel_rfl)
                  clear hd hf hD
                  go_simp
                  exact hK _ _ (Below.refl _ _) hS rfl (fun h => absurd h (by decide))
                · refine .inl ⟨met_none rfl, ?_⟩
                  intro a W K hS hd hD hf hK
                  have e59 : a.tmps.getD 59 undef = .pointer (some ⟨B + 1 + 1, 2, none⟩) := hd ⟨4, .data⟩ (by simp) rfl
                  have c0 := hS.met.cell_some 2 _ rfl
                  clear hd hf hD
                  go_simp
                  exact hK _ _ (Below.refl _ _) hS rfl (fun h => absurd h (by decide))
                · refine .inl ⟨met_none rfl, ?_⟩
                  intro a W K hS hd hD hf hK
                  have e60 : a.tmps.getD 60 undef = .int .i64 m.gid := hd ⟨5, .data⟩ (by simp) rfl
                  clear hd hf hD
                  go_simp
                  go_at_call 65
                  refine (H2.out _ hS.below).mono ?_
                  rintro e w1 ⟨rfl, hb⟩
                  exact hK _ _ hb (hS.call hB hb) rfl (fun h => absurd h (by decide))
              case he =>
                intro vals wx K hS hV hK
                have e55 := hV 0 (by omega)
                have e58 := hV 3 (by omega)
                have e61 := hV 6 (by omega)
                clear hV
                simp only [List.getD_cons_succ, List.getD_cons_zero] at e55 e58 e61
                have HAD := Lib.hid (addSt_any w B hB _ _ _ v bu ⟨#[103, 105, 100]⟩ SU wx hS (by first | omega | (simp; omega)))
                clear hst hS
                refine Later.mk ?_
                simp only [List.append_eq, List.cons_append, List.nil_append, setN, Nat.reduceAdd, List.setIfInBounds_toArray, List.set_cons_succ, List.set_cons_zero]
                rw [e55, e58, e61]
                go_simp
                go_at_call 59
                refine (HAD.out).mono ?_
                rintro e wy ⟨rfl, v', hst⟩
                refine hK _ _ ?_
                clear hK
                go_wp2_with fail
                go_meet
                exact ⟨v', hst⟩
            case rest =>
              clear hst H1 H2
              obtain ⟨v, hst⟩ := hcut
              rename World => W
              obtain ⟨L5, hL5⟩ : ∃ l, L4 ++ one bu ([103, 105, 100] : List UInt8) SU.data.toList = l := ⟨_, rfl⟩
              have HL5 := Lib.hid hL5
              have hl5 : L5.length ≤ 5 := by rw [← hL5, List.length_append]; have := one_len bu ([103, 105, 100] : List UInt8) SU.data.toList; omega
              rw [hL5] at hst
              clear hL5 hl4
              clear hmf2
              go_upto_region 10 with fail
              have hmf2 := True.intro
              obtain ⟨bt, hbt⟩ : ∃ b, longS m.sec m.nano = b := ⟨_, rfl⟩
              obtain ⟨SM, hSM⟩ : ∃ s : ByteArray, ⟨(StampW.StampM.textF m.sec m.nano).toArray⟩ = s := ⟨_, rfl⟩
              have H1 := Lib.hid (fun W => longTime_any m.sec m.nano W)
              have H2 := Lib.hid (fun W (h : Below B w W) => StampW.text_any m.sec m.nano W (HAm.out W h).b ht)
              rw [hbt] at H1
              rw [hSM] at H2
              have Hbt := Lib.hid hbt
              have HSM := Lib.hid hSM
              clear hbt hSM
              go_cut [70] from 63 to 71 (fun _ wx => ∃ v', RecSt w B #[.string P, .int .i64 k, .int .i64 m.mode, .int .i64 m.uid, .int .i64 m.gid, .int .i64 m.sec, .int .i64 m.nano, .slice pa na ca, .slice pd nd cd, .slice px nx cx, .int .i64 m.cap.v, .int .u64 (m.cap.p : Int), .int .u64 (m.cap.i : Int), .bool m.cap.e, .int .i64 m.cap.r, .int .i64 m.flags, .string D, .string T, .int .i64 mj, .int .i64 mn] #[.int .i64 m.mode, .int .i64 m.uid, .int .i64 m.gid, .int .i64 m.sec, .int .i64 m.nano, .slice pa na ca, .slice pd nd cd, .slice px nx cx, .int .i64 m.cap.v, .int .u64 (m.cap.p : Int), .int .u64 (m.cap.i : Int), .bool m.cap.e, .int .i64 m.cap.r, .int .i64 m.flags] (L5 ++ one bt ([109, 116, 105, 109, 101] : List UInt8) SM.data.toList) v' wx)
              case first =>
                refine region_oneUL (S := fun W => RecSt w B #[.string P, .int .i64 k, .int .i64 m.mode, .int .i64 m.uid, .int .i64 m.gid, .int .i64 m.sec, .int .i64 m.nano, .slice pa na ca, .slice pd nd cd, .slice px nx cx, .int .i64 m.cap.v, .int .u64 (m.cap.p : Int), .int .u64 (m.cap.i : Int), .bool m.cap.e, .int .i64 m.cap.r, .int .i64 m.flags, .string D, .string T, .int .i64 mj, .int .i64 mn] #[.int .i64 m.mode, .int .i64 m.uid, .int .i64 m.gid, .int .i64 m.sec, .int .i64 m.nano, .slice pa na ca, .slice pd nd cd, .slice px nx cx, .int .i64 m.cap.v, .int .u64 (m.cap.p : Int), .int .u64 (m.cap.i : Int), .bool m.cap.e, .int .i64 m.cap.r, .int .i64 m.flags] L5 v W) 7
                  [(fun W v => v = .func (.func 59) #[] #[.pointer (some ⟨B + 1, 0, none⟩)]),
                  (fun W v => v = .pointer (some ⟨B + 1 + 1, 3, none⟩)),
                  (fun W v => v = .agg #[.int .i64 m.sec, .int .i64 m.nano]),
                  (fun W v => v = .bool bt),
                  (fun W v => v = .pointer (some ⟨B + 1 + 1, 3, none⟩)),
                  (fun W v => v = .agg #[.int .i64 m.sec, .int .i64 m.nano]),
                  (fun W v => v = .string SM)] (by rfl) (by kernel_rfl) (by kernel_rfl) (by kernel_rfl) (by kernel_rfl) (by rfl) (by kernel_rfl) ?hS ?hp ?hs ?he
                case hS => exact hst.drew hB
                case hp => repeat' (first | exact trivial | refine ⟨fun _ _ _ _ h => h, ?_⟩)
                case hs =>
                  simp only [List.take_succ_cons, List.take_zero]
                  refine ⟨?_, ?_, ?_, ?_, ?_, ?_, ?_, trivial⟩
                  · refine .inl ⟨met_none rfl, ?_⟩
                    intro a W K hS hd hD hf hK
                    have e4 : a.tmps.getD 4 undef = .func (.func 59) #[] #[.pointer (some ⟨B + 1, 0, none⟩)] := hf 4 (by kernel_rfl)
                    clear hd hf hD
                    go_simp
                    exact hK _ _ (Below.refl _ _) hS rfl (fun h => absurd h (by decide))
                  · refine .inl ⟨met_none rfl, ?_⟩
                    intro a W K hS hd hD hf hK
                    have e5 : a.tmps.getD 5 undef = .pointer (some ⟨B + 1 + 1, 0, none⟩) := hf 5 (by kernel_rfl)
                    clear hd hf hD
                    go_simp
                    exact hK _ _ (Below.refl _ _) hS rfl (fun h => absurd h (by decide))
                  · refine .inl ⟨met_none rfl, ?_⟩
                    intro a W K hS hd hD hf hK
                    have e64 : a.tmps.getD 64 undef = .pointer (some ⟨B + 1 + 1, 3, none⟩) := hd ⟨1, .data⟩ (by simp) rfl
                    have c0 := hS.met.cell_some 3 _ rfl
                    have c1 := hS.met.cell_some 4 _ rfl
                    clear hd hf hD
                    go_simp
                    exact hK _ _ (Below.refl _ _) hS rfl (fun h => absurd h (by decide))
                  · refine .inl ⟨met_none rfl, ?_⟩
                    intro a W K hS hd hD hf hK
                    have e65 : a.tmps.getD 65 undef = .agg #[.int .i64 m.sec, .int .i64 m.nano] := hd ⟨2, .data⟩ (by simp) rfl
                    clear hd hf hD
                    go_simp
                    go_at_call 66
                    refine (H1.out _).mono ?_
                    rintro e w1 ⟨rfl, hb⟩
                    exact hK _ _ hb (hS.call hB hb) rfl (fun h => absurd h (by decide))
                  · refine .inl ⟨met_none rfl, ?_⟩
                    intro a W K hS hd hD hf hK
                    have e5 : a.tmps.getD 5 undef = .pointer (some ⟨B + 1 + 1, 0, none⟩) := hf 5 (by kernel_rfl)
                    clear hd hf hD
                    go_simp
                    exact hK _ _ (Below.refl _ _) hS rfl (fun h => absurd h (by decide))
                  · refine .inl ⟨met_none rfl, ?_⟩
                    intro a W K hS hd hD hf hK
                    have e67 : a.tmps.getD 67 undef = .pointer (some ⟨B + 1 + 1, 3, none⟩) := hd ⟨4, .data⟩ (by simp) rfl
                    have c0 := hS.met.cell_some 3 _ rfl
                    have c1 := hS.met.cell_some 4 _ rfl
                    clear hd hf hD
                    go_simp
                    exact hK _ _ (Below.refl _ _) hS rfl (fun h => absurd h (by decide))
                  · refine .inl ⟨met_none rfl, ?_⟩
                    intro a W K hS hd hD hf hK
                    have e68 : a.tmps.getD 68 undef = .agg #[.int .i64 m.sec, .int .i64 m.nano] := hd ⟨5, .data⟩ (by simp) rfl
                    clear hd hf hD
                    go_simp
                    go_at_call 67
                    refine (H2.out _ hS.below).mono ?_
                    rintro e w1 ⟨rfl, hb⟩
                    exact hK _ _ hb (hS.call hB hb) rfl (fun h => absurd h (by decide))
                case he =>
                  intro vals wx K hS hV hK
                  have e63 := hV 0 (by omega)
                  have e66 := hV 3 (by omega)
                  have e69 := hV 6 (by omega)
                  clear hV
                  simp only [List.getD_cons_succ, List.getD_cons_zero] at e63 e66 e69
                  have HAD := Lib.hid (addSt_any w B hB _ _ _ v bt ⟨#[109, 116, 105, 109, 101]⟩ SM wx hS (by first | omega | (simp; omega)))
                  clear hst hS
                  refine Later.mk ?_
                  simp only [List.append_eq, List.cons_append, List.nil_append, setN, Nat.reduceAdd, List.setIfInBounds_toArray, List.set_cons_succ, List.set_cons_zero]
                  rw [e63, e66, e69]
                  go_simp
                  go_at_call 59
                  refine (HAD.out).mono ?_
                  rintro e wy ⟨rfl, v', hst⟩
                  refine hK _ _ ?_
                  clear hK
                  go_wp2_with fail
                  go_meet
                  exact ⟨v', hst⟩
              case rest =>
                clear hst H1 H2
                obtain ⟨v, hst⟩ := hcut
                rename World => W
                obtain ⟨L6, hL6⟩ : ∃ l, L5 ++ one bt ([109, 116, 105, 109, 101] : List UInt8) SM.data.toList = l := ⟨_, rfl⟩
                have HL6 := Lib.hid hL6
                have hl6 : L6.length ≤ 6 := by rw [← hL6, List.length_append]; have := one_len bt ([109, 116, 105, 109, 101] : List UInt8) SM.data.toList; omega
                rw [hL6] at hst
                clear hL6 hl5
                clear hmf2
                go_upto_region 11 with fail
                have hmf2 := True.intro
                obtain ⟨ba, hba⟩ : ∃ b, decide ((0 : Int) < (na : Int)) = b := ⟨_, rfl⟩
                have hba2 : decide (0 < na) = ba := by rw [← hba]; exact decide_eq_decide.2 (by omega)
                obtain ⟨SL, hSL⟩ : ∃ s, strOf (AclW.textR m.acl) = s := ⟨_, rfl⟩
                have H2 := Lib.hid (fun W (h : Below B w W) => AclW.textL_any (.slice pa na ca) m.acl W (HAm.out W h).b (HMt.out W h).acl (HMt.out W h).la)
                rw [hSL] at H2
                have Hba7 := Lib.hid hba2
                have HSL7 := Lib.hid hSL
                have Hb := Lib.hid hba
                have Hb2 := Lib.hid hba2
                clear hba hSL hba2
                go_cut [79] from 71 to 80 (fun _ wx => ∃ v', RecSt w B #[.string P, .int .i64 k, .int .i64 m.mode, .int .i64 m.uid, .int .i64 m.gid, .int .i64 m.sec, .int .i64 m.nano, .slice pa na ca, .slice pd nd cd, .slice px nx cx, .int .i64 m.cap.v, .int .u64 (m.cap.p : Int), .int .u64 (m.cap.i : Int), .bool m.cap.e, .int .i64 m.cap.r, .int .i64 m.flags, .string D, .string T, .int .i64 mj, .int .i64 mn] #[.int .i64 m.mode, .int .i64 m.uid, .int .i64 m.gid, .int .i64 m.sec, .int .i64 m.nano, .slice pa na ca, .slice pd nd cd, .slice px nx cx, .int .i64 m.cap.v, .int .u64 (m.cap.p : Int), .int .u64 (m.cap.i : Int), .bool m.cap.e, .int .i64 m.cap.r, .int .i64 m.flags] (L6 ++ one ba ([83, 67, 72, 73, 76, 89, 46, 97, 99, 108, 46, 97, 99, 99, 101, 115, 115] : List UInt8) SL.data.toList) v' wx)
                case first =>
                  refine region_oneUL (S := fun W => RecSt w B #[.string P, .int .i64 k, .int .i64 m.mode, .int .i64 m.uid, .int .i64 m.gid, .int .i64 m.sec, .int .i64 m.nano, .slice pa na ca, .slice pd nd cd, .slice px nx cx, .int .i64 m.cap.v, .int .u64 (m.cap.p : Int), .int .u64 (m.cap.i : Int), .bool m.cap.e, .int .i64 m.cap.r, .int .i64 m.flags, .string D, .string T, .int .i64 mj, .int .i64 mn] #[.int .i64 m.mode, .int .i64 m.uid, .int .i64 m.gid, .int .i64 m.sec, .int .i64 m.nano, .slice pa na ca, .slice pd nd cd, .slice px nx cx, .int .i64 m.cap.v, .int .u64 (m.cap.p : Int), .int .u64 (m.cap.i : Int), .bool m.cap.e, .int .i64 m.cap.r, .int .i64 m.flags] L6 v W) 8
                    [(fun W v => v = .func (.func 59) #[] #[.pointer (some ⟨B + 1, 0, none⟩)]),
                    (fun W v => v = .pointer (some ⟨B + 1 + 1, 5, none⟩)),
                    (fun W v => v = .slice pa na ca),
                    (fun W v => v = .int .i64 (na : Nat)),
                    (fun W v => v = .bool ba),
                    (fun W v => v = .pointer (some ⟨B + 1 + 1, 5, none⟩)),
                    (fun W v => v = .slice pa na ca),
                    (fun W v => v = .string SL)] (by rfl) (by kernel_rfl) (by kernel_rfl) (by kernel_rfl) (by kernel_rfl) (by rfl) (by kernel_rfl) ?hS ?hp ?hs ?he
                  case hS => exact hst.drew hB
                  case hp => repeat' (first | exact trivial | refine ⟨fun _ _ _ _ h => h, ?_⟩)
                  case hs =>
                    simp only [List.take_succ_cons, List.take_zero]
                    refine ⟨?_, ?_, ?_, ?_, ?_, ?_, ?_, ?_, trivial⟩
                    · refine .inl ⟨met_none rfl, ?_⟩
                      intro a W K hS hd hD hf hK
                      have e4 : a.tmps.getD 4 undef = .func (.func 59) #[] #[.pointer (some ⟨B + 1, 0, none⟩)] := hf 4 (by kernel_rfl)
                      clear hd hf hD
                      go_simp
                      exact hK _ _ (Below.refl _ _) hS rfl (fun h => absurd h (by decide))
                    · refine .inl ⟨met_none rfl, ?_⟩
                      intro a W K hS hd hD hf hK
                      have e5 : a.tmps.getD 5 undef = .pointer (some ⟨B + 1 + 1, 0, none⟩) := hf 5 (by kernel_rfl)
                      clear hd hf hD
                      go_simp
                      exact hK _ _ (Below.refl _ _) hS rfl (fun h => absurd h (by decide))
                    · refine .inl ⟨met_none rfl, ?_⟩
                      intro a W K hS hd hD hf hK
                      have e72 : a.tmps.getD 72 undef = .pointer (some ⟨B + 1 + 1, 5, none⟩) := hd ⟨1, .data⟩ (by simp) rfl
                      have c0 := hS.met.cell_some 5 _ rfl
                      clear hd hf hD
                      go_simp
                      exact hK _ _ (Below.refl _ _) hS rfl (fun h => absurd h (by decide))
                    · refine .inl ⟨met_none rfl, ?_⟩
                      intro a W K hS hd hD hf hK
                      have e73 : a.tmps.getD 73 undef = .slice pa na ca := hd ⟨2, .data⟩ (by simp) rfl
                      clear hd hf hD
                      go_simp
                      exact hK _ _ (Below.refl _ _) hS rfl (fun h => absurd h (by decide))
                    · refine .inl ⟨met_none rfl, ?_⟩
                      intro a W K hS hd hD hf hK
                      have e74 : a.tmps.getD 74 undef = .int .i64 (na : Nat) := hd ⟨3, .data⟩ (by simp) rfl
                      have hba := Hb.out
                      have hba2 := Hb2.out
                      clear hd hf hD
                      go_simp
                      exact hK _ _ (Below.refl _ _) hS rfl (fun h => absurd h (by decide))
                    · refine .inl ⟨met_none rfl, ?_⟩
                      intro a W K hS hd hD hf hK
                      have e5 : a.tmps.getD 5 undef = .pointer (some ⟨B + 1 + 1, 0, none⟩) := hf 5 (by kernel_rfl)
                      clear hd hf hD
                      go_simp
                      exact hK _ _ (Below.refl _ _) hS rfl (fun h => absurd h (by decide))
                    · refine .inl ⟨met_none rfl, ?_⟩
                      intro a W K hS hd hD hf hK
                      have e76 : a.tmps.getD 76 undef = .pointer (some ⟨B + 1 + 1, 5, none⟩) := hd ⟨5, .data⟩ (by simp) rfl
                      have c0 := hS.met.cell_some 5 _ rfl
                      clear hd hf hD
                      go_simp
                      exact hK _ _ (Below.refl _ _) hS rfl (fun h => absurd h (by decide))
                    · refine .inl ⟨met_none rfl, ?_⟩
                      intro a W K hS hd hD hf hK
                      have e77 : a.tmps.getD 77 undef = .slice pa na ca := hd ⟨6, .data⟩ (by simp) rfl
                      clear hd hf hD
                      go_simp
                      go_at_call 68
                      refine (H2.out _ hS.below).mono ?_
                      rintro e w1 ⟨rfl, hb⟩
                      exact hK _ _ hb (hS.call hB hb) rfl (fun h => absurd h (by decide))
                  case he =>
                    intro vals wx K hS hV hK
                    have e71 := hV 0 (by omega)
                    have e75 := hV 4 (by omega)
                    have e78 := hV 7 (by omega)
                    clear hV
                    simp only [List.getD_cons_succ, List.getD_cons_zero] at e71 e75 e78
                    have HAD := Lib.hid (addSt_any w B hB _ _ _ v ba ⟨#[83, 67, 72, 73, 76, 89, 46, 97, 99, 108, 46, 97, 99, 99, 101, 115, 115]⟩ SL wx hS (by first | omega | (simp; omega)))
                    clear hst hS
                    refine Later.mk ?_
                    simp only [List.append_eq, List.cons_append, List.nil_append, setN, Nat.reduceAdd, List.setIfInBounds_toArray, List.set_cons_succ, List.set_cons_zero]
                    rw [e71, e75, e78]
                    go_simp
                    go_at_call 59
                    refine (HAD.out).mono ?_
                    rintro e wy ⟨rfl, v', hst⟩
                    refine hK _ _ ?_
                    clear hK
                    go_wp2_with fail
                    go_meet
                    exact ⟨v', hst⟩
                case rest =>
                  clear hst H2 Hb Hb2
                  obtain ⟨v, hst⟩ := hcut
                  rename World => W
                  obtain ⟨L7, hL7⟩ : ∃ l, L6 ++ one ba ([83, 67, 72, 73, 76, 89, 46, 97, 99, 108, 46, 97, 99, 99, 101, 115, 115] : List UInt8) SL.data.toList = l := ⟨_, rfl⟩
                  have HL7 := Lib.hid hL7
                  have hl7 : L7.length ≤ 7 := by rw [← hL7, List.length_append]; have := one_len ba ([83, 67, 72, 73, 76, 89, 46, 97, 99, 108, 46, 97, 99, 99, 101, 115, 115] : List UInt8) SL.data.toList; omega
                  rw [hL7] at hst
                  clear hL7 hl6
                  clear hmf2
                  go_upto_region 12 with fail
                  have hmf2 := True.intro
                  obtain ⟨ba, hba⟩ : ∃ b, decide ((0 : Int) < (nd : Int)) = b := ⟨_, rfl⟩
                  have hba2 : decide (0 < nd) = ba := by rw [← hba]; exact decide_eq_decide.2 (by omega)
                  obtain ⟨SL, hSL⟩ : ∃ s, strOf (AclW.textR m.dfl) = s := ⟨_, rfl⟩
                  have H2 := Lib.hid (fun W (h : Below B w W) => AclW.textL_any (.slice pd nd cd) m.dfl W (HAm.out W h).b (HMt.out W h).dfl (HMt.out W h).ld)
                  rw [hSL] at H2
                  have Hba8 := Lib.hid hba2
                  have HSL8 := Lib.hid hSL
                  have Hb := Lib.hid hba
                  have Hb2 := Lib.hid hba2
                  clear hba hSL hba2
                  go_cut [88] from 80 to 89 (fun _ wx => ∃ v', RecSt w B #[.string P, .int .i64 k, .int .i64 m.mode, .int .i64 m.uid, .int .i64 m.gid, .int .i64 m.sec, .int .i64 m.nano, .slice pa na ca, .slice pd nd cd, .slice px nx cx, .int .i64 m.cap.v, .int .u64 (m.cap.p : Int), .int .u64 (m.cap.i : Int), .bool m.cap.e, .int .i64 m.cap.r, .int .i64 m.flags, .string D, .string T, .int .i64 mj, .int .i64 mn] #[.int .i64 m.mode, .int .i64 m.uid, .int .i64 m.gid, .int .i64 m.sec, .int .i64 m.nano, .slice pa na ca, .slice pd nd cd, .slice px nx cx, .int .i64 m.cap.v, .int .u64 (m.cap.p : Int), .int .u64 (m.cap.i : Int), .bool m.cap.e, .int .i64 m.cap.r, .int .i64 m.flags] (L7 ++ one ba ([83, 67, 72, 73, 76, 89, 46, 97, 99, 108, 46, 100, 101, 102, 97, 117, 108, 116] : List UInt8) SL.data.toList) v' wx)
                  case first =>
                    refine region_oneUL (S := fun W => RecSt w B #[.string P, .int .i64 k, .int .i64 m.mode, .int .i64 m.uid, .int .i64 m.gid, .int .i64 m.sec, .int .i64 m.nano, .slice pa na ca, .slice pd nd cd, .slice px nx cx, .int .i64 m.cap.v, .int .u64 (m.cap.p : Int), .int .u64 (m.cap.i : Int), .bool m.cap.e, .int .i64 m.cap.r, .int .i64 m.flags, .string D, .string T, .int .i64 mj, .int .i64 mn] #[.int .i64 m.mode, .int .i64 m.uid, .int .i64 m.gid, .int .i64 m.sec, .int .i64 m.nano, .slice pa na ca, .slice pd nd cd, .slice px nx cx, .int .i64 m.cap.v, .int .u64 (m.cap.p : Int), .int .u64 (m.cap.i : Int), .bool m.cap.e, .int .i64 m.cap.r, .int .i64 m.flags] L7 v W) 8
                      [(fun W v => v = .func (.func 59) #[] #[.pointer (some ⟨B + 1, 0, none⟩)]),
                      (fun W v => v = .pointer (some ⟨B + 1 + 1, 6, none⟩)),
                      (fun W v => v = .slice pd nd cd),
                      (fun W v => v = .int .i64 (nd : Nat)),
                      (fun W v => v = .bool ba),
                      (fun W v => v = .pointer (some ⟨B + 1 + 1, 6, none⟩)),
                      (fun W v => v = .slice pd nd cd),
                      (fun W v => v = .string SL)] (by rfl) (by kernel_rfl) (by kernel_rfl) (by kernel_rfl) (by kernel_rfl) (by rfl) (by kernel_rfl) ?hS ?hp ?hs ?he
                    case hS => exact hst.drew hB
                    case hp => repeat' (first | exact trivial | refine ⟨fun _ _ _ _ h => h, ?_⟩)
                    case hs =>
                      simp only [List.take_succ_cons, List.take_zero]
                      refine ⟨?_, ?_, ?_, ?_, ?_, ?_, ?_, ?_, trivial⟩
                      · refine .inl ⟨met_none rfl, ?_⟩
                        intro a W K hS hd hD hf hK
                        have e4 : a.tmps.getD 4 undef = .func (.func 59) #[] #[.pointer (some ⟨B + 1, 0, none⟩)] := hf 4 (by kernel_rfl)
                        clear hd hf hD
                        go_simp
                        exact hK _ _ (Below.refl _ _) hS rfl (fun h => absurd h (by decide))
                      · refine .inl ⟨met_none rfl, ?_⟩
                        intro a W K hS hd hD hf hK
                        have e5 : a.tmps.getD 5 undef = .pointer (some ⟨B + 1 + 1, 0, none⟩) := hf 5 (by kernel_rfl)
                        clear hd hf hD
                        go_simp
                        exact hK _ _ (Below.refl _ _) hS rfl (fun h => absurd h (by decide))
                      · refine .inl ⟨met_none rfl, ?_⟩
                        intro a W K hS hd hD hf hK
                        have e81 : a.tmps.getD 81 undef = .pointer (some ⟨B + 1 + 1, 6, none⟩) := hd ⟨1, .data⟩ (by simp) rfl
                        have c0 := hS.met.cell_some 6 _ rfl
                        clear hd hf hD
                        go_simp
                        exact hK _ _ (Below.refl _ _) hS rfl (fun h => absurd h (by decide))
                      · refine .inl ⟨met_none rfl, ?_⟩
                        intro a W K hS hd hD hf hK
                        have e82 : a.tmps.getD 82 undef = .slice pd nd cd := hd ⟨2, .data⟩ (by simp) rfl
                        clear hd hf hD
                        go_simp
                        exact hK _ _ (Below.refl _ _) hS rfl (fun h => absurd h (by decide))
                      · refine .inl ⟨met_none rfl, ?_⟩
                        intro a W K hS hd hD hf hK
                        have e83 : a.tmps.getD 83 undef = .int .i64 (nd : Nat) := hd ⟨3, .data⟩ (by simp) rfl
                        have hba := Hb.out
                        have hba2 := Hb2.out
                        clear hd hf hD
                        go_simp
                        exact hK _ _ (Below.refl _ _) hS rfl (fun h => absurd h (by decide))
                      · refine .inl ⟨met_none rfl, ?_⟩
                        intro a W K hS hd hD hf hK
                        have e5 : a.tmps.getD 5 undef = .pointer (some ⟨B + 1 + 1, 0, none⟩) := hf 5 (by kernel_rfl)
                        clear hd hf hD
                        go_simp
                        exact hK _ _ (Below.refl _ _) hS rfl (fun h => absurd h (by decide))
                      · refine .inl ⟨met_none rfl, ?_⟩
                        intro a W K hS hd hD hf hK
                        have e85 : a.tmps.getD 85 undef = .pointer (some ⟨B + 1 + 1, 6, none⟩) := hd ⟨5, .data⟩ (by simp) rfl
                        have c0 := hS.met.cell_some 6 _ rfl
                        clear hd hf hD
                        go_simp
                        exact hK _ _ (Below.refl _ _) hS rfl (fun h => absurd h (by decide))
                      · refine .inl ⟨met_none rfl, ?_⟩
                        intro a W K hS hd hD hf hK
                        have e86 : a.tmps.getD 86 undef = .slice pd nd cd := hd ⟨6, .data⟩ (by simp) rfl
                        clear hd hf hD
                        go_simp
                        go_at_call 68
                        refine (H2.out _ hS.below).mono ?_
                        rintro e w1 ⟨rfl, hb⟩
                        exact hK _ _ hb (hS.call hB hb) rfl (fun h => absurd h (by decide))
                    case he =>
                      intro vals wx K hS hV hK
                      have e80 := hV 0 (by omega)
                      have e84 := hV 4 (by omega)
                      have e87 := hV 7 (by omega)
                      clear hV
                      simp only [List.getD_cons_succ, List.getD_cons_zero] at e80 e84 e87
                      have HAD := Lib.hid (addSt_any w B hB _ _ _ v ba ⟨#[83, 67, 72, 73, 76, 89, 46, 97, 99, 108, 46, 100, 101, 102, 97, 117, 108, 116]⟩ SL wx hS (by first | omega | (simp; omega)))
                      clear hst hS
                      refine Later.mk ?_
                      simp only [List.append_eq, List.cons_append, List.nil_append, setN, Nat.reduceAdd, List.setIfInBounds_toArray, List.set_cons_succ, List.set_cons_zero]
                      rw [e80, e84, e87]
                      go_simp
                      go_at_call 59
                      refine (HAD.out).mono ?_
                      rintro e wy ⟨rfl, v', hst⟩
                      refine hK _ _ ?_
                      clear hK
                      go_wp2_with fail
                      go_meet
                      exact ⟨v', hst⟩
                  case rest =>
                    clear hst H2 Hb Hb2
                    obtain ⟨v, hst⟩ := hcut
                    rename World => W
                    obtain ⟨L8, hL8⟩ : ∃ l, L7 ++ one ba ([83, 67, 72, 73, 76, 89, 46, 97, 99, 108, 46, 100, 101, 102, 97, 117, 108, 116] : List UInt8) SL.data.toList = l := ⟨_, rfl⟩
                    have HL8 := Lib.hid hL8
                    have hl8 : L8.length ≤ 8 := by rw [← hL8, List.length_append]; have := one_len ba ([83, 67, 72, 73, 76, 89, 46, 97, 99, 108, 46, 100, 101, 102, 97, 117, 108, 116] : List UInt8) SL.data.toList; omega
                    rw [hL8] at hst
                    clear hL8 hl7
                    clear hmf2
                    go_upto_region 13 with fail
                    have hmf2 := True.intro
                    obtain ⟨bf, hbf⟩ : ∃ b, (m.flags != 0) = b := ⟨_, rfl⟩
                    obtain ⟨SF, hSF⟩ : ∃ s, strOf (FlagsW.FlagsM.textI m.flags) = s := ⟨_, rfl⟩
                    have H2 := Lib.hid (fun W (h : Below B w W) => FlagsW.text_any m.flags W (HAm.out W h).fl)
                    rw [hSF] at H2
                    have Hb := Lib.hid hbf
                    have Hbf := Lib.hid hbf
                    have HSF := Lib.hid hSF
                    clear hbf hSF
                    go_cut [96] from 89 to 97 (fun _ wx => ∃ v', RecSt w B #[.string P, .int .i64 k, .int .i64 m.mode, .int .i64 m.uid, .int .i64 m.gid, .int .i64 m.sec, .int .i64 m.nano, .slice pa na ca, .slice pd nd cd, .slice px nx cx, .int .i64 m.cap.v, .int .u64 (m.cap.p : Int), .int .u64 (m.cap.i : Int), .bool m.cap.e, .int .i64 m.cap.r, .int .i64 m.flags, .string D, .string T, .int .i64 mj, .int .i64 mn] #[.int .i64 m.mode, .int .i64 m.uid, .int .i64 m.gid, .int .i64 m.sec, .int .i64 m.nano, .slice pa na ca, .slice pd nd cd, .slice px nx cx, .int .i64 m.cap.v, .int .u64 (m.cap.p : Int), .int .u64 (m.cap.i : Int), .bool m.cap.e, .int .i64 m.cap.r, .int .i64 m.flags] (L8 ++ one bf ([83, 67, 72, 73, 76, 89, 46, 102, 102, 108, 97, 103, 115] : List UInt8) SF.data.toList) v' wx)
                    case first =>
                      refine region_oneUL (S := fun W => RecSt w B #[.string P, .int .i64 k, .int .i64 m.mode, .int .i64 m.uid, .int .i64 m.gid, .int .i64 m.sec, .int .i64 m.nano, .slice pa na ca, .slice pd nd cd, .slice px nx cx, .int .i64 m.cap.v, .int .u64 (m.cap.p : Int), .int .u64 (m.cap.i : Int), .bool m.cap.e, .int .i64 m.cap.r, .int .i64 m.flags, .string D, .string T, .int .i64 mj, .int .i64 mn] #[.int .i64 m.mode, .int .i64 m.uid, .int .i64 m.gid, .int .i64 m.sec, .int .i64 m.nano, .slice pa na ca, .slice pd nd cd, .slice px nx cx, .int .i64 m.cap.v, .int .u64 (m.cap.p : Int), .int .u64 (m.cap.i : Int), .bool m.cap.e, .int .i64 m.cap.r, .int .i64 m.flags] L8 v W) 7
                        [(fun W v => v = .func (.func 59) #[] #[.pointer (some ⟨B + 1, 0, none⟩)]),
                        (fun W v => v = .pointer (some ⟨B + 1 + 1, 13, none⟩)),
                        (fun W v => v = .int .i64 m.flags),
                        (fun W v => v = .bool bf),
                        (fun W v => v = .pointer (some ⟨B + 1 + 1, 13, none⟩)),
                        (fun W v => v = .int .i64 m.flags),
                        (fun W v => v = .string SF)] (by rfl) (by kernel_rfl) (by kernel_rfl) (by kernel_rfl) (by kernel_rfl) (by rfl) (by kernel_rfl) ?hS ?hp ?hs ?he
                      case hS => exact hst.drew hB
                      case hp => repeat' (first | exact trivial | refine ⟨fun _ _ _ _ h => h, ?_⟩)
                      case hs =>
                        simp only [List.take_succ_cons, List.take_zero]
                        refine ⟨?_, ?_, ?_, ?_, ?_, ?_, ?_, trivial⟩
                        · refine .inl ⟨met_none rfl, ?_⟩
                          intro a W K hS hd hD hf hK
                          have e4 : a.tmps.getD 4 undef = .func (.func 59) #[] #[.pointer (some ⟨B + 1, 0, none⟩)] := hf 4 (by kernel_rfl)
                          clear hd hf hD
                          go_simp
                          exact hK _ _ (Below.refl _ _) hS rfl (fun h => absurd h (by decide))
                        · refine .inl ⟨met_none rfl, ?_⟩
                          intro a W K hS hd hD hf hK
                          have e5 : a.tmps.getD 5 undef = .pointer (some ⟨B + 1 + 1, 0, none⟩) := hf 5 (by kernel_rfl)
                          clear hd hf hD
                          go_simp
                          exact hK _ _ (Below.refl _ _) hS rfl (fun h => absurd h (by decide))
                        · refine .inl ⟨met_none rfl, ?_⟩
                          intro a W K hS hd hD hf hK
                          have e90 : a.tmps.getD 90 undef = .pointer (some ⟨B + 1 + 1, 13, none⟩) := hd ⟨1, .data⟩ (by simp) rfl
                          have c0 := hS.met.cell_some 13 _ rfl
                          clear hd hf hD
                          go_simp
                          exact hK _ _ (Below.refl _ _) hS rfl (fun h => absurd h (by decide))
                        · refine .inl ⟨met_none rfl, ?_⟩
                          intro a W K hS hd hD hf hK
                          have e91 : a.tmps.getD 91 undef = .int .i64 m.flags := hd ⟨2, .data⟩ (by simp) rfl
                          have hbf := Hb.out
                          clear hd hf hD
                          go_simp
                          exact hK _ _ (Below.refl _ _) hS rfl (fun h => absurd h (by decide))
                        · refine .inl ⟨met_none rfl, ?_⟩
                          intro a W K hS hd hD hf hK
                          have e5 : a.tmps.getD 5 undef = .pointer (some ⟨B + 1 + 1, 0, none⟩) := hf 5 (by kernel_rfl)
                          clear hd hf hD
                          go_simp
                          exact hK _ _ (Below.refl _ _) hS rfl (fun h => absurd h (by decide))
                        · refine .inl ⟨met_none rfl, ?_⟩
                          intro a W K hS hd hD hf hK
                          have e93 : a.tmps.getD 93 undef = .pointer (some ⟨B + 1 + 1, 13, none⟩) := hd ⟨4, .data⟩ (by simp) rfl
                          have c0 := hS.met.cell_some 13 _ rfl
                          clear hd hf hD
                          go_simp
                          exact hK _ _ (Below.refl _ _) hS rfl (fun h => absurd h (by decide))
                        · refine .inl ⟨met_none rfl, ?_⟩
                          intro a W K hS hd hD hf hK
                          have e94 : a.tmps.getD 94 undef = .int .i64 m.flags := hd ⟨5, .data⟩ (by simp) rfl
                          clear hd hf hD
                          go_simp
                          go_at_call 69
                          refine (H2.out _ hS.below).mono ?_
                          rintro e w1 ⟨rfl, hb⟩
                          exact hK _ _ hb (hS.call hB hb) rfl (fun h => absurd h (by decide))
                      case he =>
                        intro vals wx K hS hV hK
                        have e89 := hV 0 (by omega)
                        have e92 := hV 3 (by omega)
                        have e95 := hV 6 (by omega)
                        clear hV
                        simp only [List.getD_cons_succ, List.getD_cons_zero] at e89 e92 e95
                        have HAD := Lib.hid (addSt_any w B hB _ _ _ v bf ⟨#[83, 67, 72, 73, 76, 89, 46, 102, 102, 108, 97, 103, 115]⟩ SF wx hS (by first | omega | (simp; omega)))
                        clear hst hS
                        refine Later.mk ?_
                        simp only [List.append_eq, List.cons_append, List.nil_append, setN, Nat.reduceAdd, List.setIfInBounds_toArray, List.set_cons_succ, List.set_cons_zero]
                        rw [e89, e92, e95]
                        go_simp
                        go_at_call 59
                        refine (HAD.out).mono ?_
                        rintro e wy ⟨rfl, v', hst⟩
                        refine hK _ _ ?_
                        clear hK
                        go_wp2_with fail
                        go_meet
                        exact ⟨v', hst⟩
                    case rest =>
                      clear hst H2 Hb
                      obtain ⟨v, hst⟩ := hcut
                      rename World => W
                      obtain ⟨L9, hL9⟩ : ∃ l, L8 ++ one bf ([83, 67, 72, 73, 76, 89, 46, 102, 102, 108, 97, 103, 115] : List UInt8) SF.data.toList = l := ⟨_, rfl⟩
                      have HL9 := Lib.hid hL9
                      have hl9 : L9.length ≤ 9 := by rw [← hL9, List.length_append]; have := one_len bf ([83, 67, 72, 73, 76, 89, 46, 102, 102, 108, 97, 103, 115] : List UInt8) SF.data.toList; omega
                      rw [hL9] at hst
                      clear hL9 hl8
                      clear hmf2
                      go_upto_region 14 with fail
                      have hmf2 := True.intro
                      obtain ⟨bc, hbc⟩ : ∃ b, (m.cap.v != 0) = b := ⟨_, rfl⟩
                      obtain ⟨SC, hSC⟩ : ∃ s, strOf (CapsM.putL m.cap) = s := ⟨_, rfl⟩
                      have H2 := Lib.hid (fun W => CapsW.Put_any m.cap hc W)
                      unfold capV at H2
                      rw [hSC] at H2
                      have hSCs : SC.size ≤ 30000 := by rw [← hSC, strOf_size]; have := CapsM.putL_size m.cap; omega
                      obtain ⟨SX, hSX⟩ : ∃ s : ByteArray, ⟨(SixM.p3 SC.data.toList).toArray⟩ = s := ⟨_, rfl⟩
                      have H3 := Lib.hid (fun W => SixW.Put_any SC hSCs W)
                      rw [hSX] at H3
                      have Hb := Lib.hid hbc
                      have Hbc := Lib.hid hbc
                      have HSC := Lib.hid hSC
                      have HSX := Lib.hid hSX
                      clear hbc hSC hSX
                      go_cut [106] from 97 to 107 (fun _ wx => ∃ v', RecSt w B #[.string P, .int .i64 k, .int .i64 m.mode, .int .i64 m.uid, .int .i64 m.gid, .int .i64 m.sec, .int .i64 m.nano, .slice pa na ca, .slice pd nd cd, .slice px nx cx, .int .i64 m.cap.v, .int .u64 (m.cap.p : Int), .int .u64 (m.cap.i : Int), .bool m.cap.e, .int .i64 m.cap.r, .int .i64 m.flags, .string D, .string T, .int .i64 mj, .int .i64 mn] #[.int .i64 m.mode, .int .i64 m.uid, .int .i64 m.gid, .int .i64 m.sec, .int .i64 m.nano, .slice pa na ca, .slice pd nd cd, .slice px nx cx, .int .i64 m.cap.v, .int .u64 (m.cap.p : Int), .int .u64 (m.cap.i : Int), .bool m.cap.e, .int .i64 m.cap.r, .int .i64 m.flags] (L9 ++ one bc ([71, 82, 73, 80, 83, 65, 67, 75, 46, 99, 97, 112, 115] : List UInt8) SX.data.toList) v' wx)
                      case first =>
                        refine region_oneUL (S := fun W => RecSt w B #[.string P, .int .i64 k, .int .i64 m.mode, .int .i64 m.uid, .int .i64 m.gid, .int .i64 m.sec, .int .i64 m.nano, .slice pa na ca, .slice pd nd cd, .slice px nx cx, .int .i64 m.cap.v, .int .u64 (m.cap.p : Int), .int .u64 (m.cap.i : Int), .bool m.cap.e, .int .i64 m.cap.r, .int .i64 m.flags, .string D, .string T, .int .i64 mj, .int .i64 mn] #[.int .i64 m.mode, .int .i64 m.uid, .int .i64 m.gid, .int .i64 m.sec, .int .i64 m.nano, .slice pa na ca, .slice pd nd cd, .slice px nx cx, .int .i64 m.cap.v, .int .u64 (m.cap.p : Int), .int .u64 (m.cap.i : Int), .bool m.cap.e, .int .i64 m.cap.r, .int .i64 m.flags] L9 v W) 9
                          [(fun W v => v = .func (.func 59) #[] #[.pointer (some ⟨B + 1, 0, none⟩)]),
                          (fun W v => v = .pointer (some ⟨B + 1 + 1, 8, none⟩)),
                          (fun W v => v = .pointer (some ⟨B + 1 + 1, 8, none⟩)),
                          (fun W v => v = .int .i64 m.cap.v),
                          (fun W v => v = .bool bc),
                          (fun W v => v = .pointer (some ⟨B + 1 + 1, 8, none⟩)),
                          (fun W v => v = .agg #[.int .i64 m.cap.v, .int .u64 (m.cap.p : Int), .int .u64 (m.cap.i : Int), .bool m.cap.e, .int .i64 m.cap.r]),
                          (fun W v => v = .string SC),
                          (fun W v => v = .string SX)] (by rfl) (by kernel_rfl) (by kernel_rfl) (by kernel_rfl) (by kernel_rfl) (by rfl) (by kernel_rfl) ?hS ?hp ?hs ?he
                        case hS => exact hst.drew hB
                        case hp => repeat' (first | exact trivial | refine ⟨fun _ _ _ _ h => h, ?_⟩)
                        case hs =>
                          simp only [List.take_succ_cons, List.take_zero]
                          refine ⟨?_, ?_, ?_, ?_, ?_, ?_, ?_, ?_, ?_, trivial⟩
                          · refine .inl ⟨met_none rfl, ?_⟩
                            intro a W K hS hd hD hf hK
                            have e4 : a.tmps.getD 4 undef = .func (.func 59) #[] #[.pointer (some ⟨B + 1, 0, none⟩)] := hf 4 (by kernel_rfl)
                            clear hd hf hD
                            go_simp
                            exact hK _ _ (Below.refl _ _) hS rfl (fun h => absurd h (by decide))
                          · refine .inl ⟨met_none rfl, ?_⟩
                            intro a W K hS hd hD hf hK
                            have e5 : a.tmps.getD 5 undef = .pointer (some ⟨B + 1 + 1, 0, none⟩) := hf 5 (by kernel_rfl)
                            clear hd hf hD
                            go_simp
                            exact hK _ _ (Below.refl _ _) hS rfl (fun h => absurd h (by decide))
                          · refine .inl ⟨met_none rfl, ?_⟩
                            intro a W K hS hd hD hf hK
                            have e98 : a.tmps.getD 98 undef = .pointer (some ⟨B + 1 + 1, 8, none⟩) := hd ⟨1, .data⟩ (by simp) rfl
                            clear hd hf hD
                            go_simp
                            exact hK _ _ (Below.refl _ _) hS rfl (fun h => absurd h (by decide))
                          · refine .inl ⟨met_none rfl, ?_⟩
                            intro a W K hS hd hD hf hK
                            have e99 : a.tmps.getD 99 undef = .pointer (some ⟨B + 1 + 1, 8, none⟩) := hd ⟨2, .data⟩ (by simp) rfl
                            have c0 := hS.met.cell_some 8 _ rfl
                            clear hd hf hD
                            go_simp
                            exact hK _ _ (Below.refl _ _) hS rfl (fun h => absurd h (by decide))
                          · refine .inl ⟨met_none rfl, ?_⟩
                            intro a W K hS hd hD hf hK
                            have e100 : a.tmps.getD 100 undef = .int .i64 m.cap.v := hd ⟨3, .data⟩ (by simp) rfl
                            have hbc := Hb.out
                            clear hd hf hD
                            go_simp
                            exact hK _ _ (Below.refl _ _) hS rfl (fun h => absurd h (by decide))
                          · refine .inl ⟨met_none rfl, ?_⟩
                            intro a W K hS hd hD hf hK
                            have e5 : a.tmps.getD 5 undef = .pointer (some ⟨B + 1 + 1, 0, none⟩) := hf 5 (by kernel_rfl)
                            clear hd hf hD
                            go_simp
                            exact hK _ _ (Below.refl _ _) hS rfl (fun h => absurd h (by decide))
                          · refine .inl ⟨met_none rfl, ?_⟩
                            intro a W K hS hd hD hf hK
                            have e102 : a.tmps.getD 102 undef = .pointer (some ⟨B + 1 + 1, 8, none⟩) := hd ⟨5, .data⟩ (by simp) rfl
                            have c0 := hS.met.cell_some 8 _ rfl
                            have c1 := hS.met.cell_some 9 _ rfl
                            have c2 := hS.met.cell_some 10 _ rfl
                            have c3 := hS.met.cell_some 11 _ rfl
                            have c4 := hS.met.cell_some 12 _ rfl
                            clear hd hf hD
                            go_simp
                            exact hK _ _ (Below.refl _ _) hS rfl (fun h => absurd h (by decide))
                          · refine .inl ⟨met_none rfl, ?_⟩
                            intro a W K hS hd hD hf hK
                            have e103 : a.tmps.getD 103 undef = .agg #[.int .i64 m.cap.v, .int .u64 (m.cap.p : Int), .int .u64 (m.cap.i : Int), .bool m.cap.e, .int .i64 m.cap.r] := hd ⟨6, .data⟩ (by simp) rfl
                            clear hd hf hD
                            go_simp
                            go_at_call 71
                            refine (H2.out _).mono ?_
                            rintro e w1 ⟨rfl, hb⟩
                            exact hK _ _ hb (hS.call hB hb) rfl (fun h => absurd h (by decide))
                          · refine .inl ⟨met_none rfl, ?_⟩
                            intro a W K hS hd hD hf hK
                            have e104 : a.tmps.getD 104 undef = .string SC := hd ⟨7, .data⟩ (by simp) rfl
                            clear hd hf hD
                            go_simp
                            go_at_call 70
                            refine (H3.out _).mono ?_
                            rintro e w1 ⟨rfl, hb⟩
                            exact hK _ _ hb (hS.call hB hb) rfl (fun h => absurd h (by decide))
                        case he =>
                          intro vals wx K hS hV hK
                          have e97 := hV 0 (by omega)
                          have e101 := hV 4 (by omega)
                          have e105 := hV 8 (by omega)
                          clear hV
                          simp only [List.getD_cons_succ, List.getD_cons_zero] at e97 e101 e105
                          have HAD := Lib.hid (addSt_any w B hB _ _ _ v bc ⟨#[71, 82, 73, 80, 83, 65, 67, 75, 46, 99, 97, 112, 115]⟩ SX wx hS (by first | omega | (simp; omega)))
                          clear hst hS
                          refine Later.mk ?_
                          simp only [List.append_eq, List.cons_append, List.nil_append, setN, Nat.reduceAdd, List.setIfInBounds_toArray, List.set_cons_succ, List.set_cons_zero]
                          rw [e97, e101, e105]
                          go_simp
                          go_at_call 59
                          refine (HAD.out).mono ?_
                          rintro e wy ⟨rfl, v', hst⟩
                          refine hK _ _ ?_
                          clear hK
                          go_wp2_with fail
                          go_meet
                          exact ⟨v', hst⟩
                      case rest =>
                        clear hst H2 H3 Hb
                        obtain ⟨v, hst⟩ := hcut
                        rename World => W
                        obtain ⟨L10, hL10⟩ : ∃ l, L9 ++ one bc ([71, 82, 73, 80, 83, 65, 67, 75, 46, 99, 97, 112, 115] : List UInt8) SX.data.toList = l := ⟨_, rfl⟩
                        have HL10 := Lib.hid hL10
                        have hl10 : L10.length ≤ 10 := by rw [← hL10, List.length_append]; have := one_len bc ([71, 82, 73, 80, 83, 65, 67, 75, 46, 99, 97, 112, 115] : List UInt8) SX.data.toList; omega
                        rw [hL10] at hst
                        clear hL10 hl9
                        clear hmf2
                        have HX := Lib.hid (fun W (h : Below B w W) => RecsX_go (.slice px nx cx) m.xat W (HMt.out W h).xat (HMt.out W h).lx)
                        go_upto_region 15 with fail
                        obtain ⟨lv, hst⟩ : ∃ u, RecSt w B #[.string P, .int .i64 k, .int .i64 m.mode, .int .i64 m.uid, .int .i64 m.gid, .int .i64 m.sec, .int .i64 m.nano, .slice pa na ca, .slice pd nd cd, .slice px nx cx, .int .i64 m.cap.v, .int .u64 (m.cap.p : Int), .int .u64 (m.cap.i : Int), .bool m.cap.e, .int .i64 m.cap.r, .int .i64 m.flags, .string D, .string T, .int .i64 mj, .int .i64 mn] #[.int .i64 m.mode, .int .i64 m.uid, .int .i64 m.gid, .int .i64 m.sec, .int .i64 m.nano, .slice pa na ca, .slice pd nd cd, .slice px nx cx, .int .i64 m.cap.v, .int .u64 (m.cap.p : Int), .int .u64 (m.cap.i : Int), .bool m.cap.e, .int .i64 m.cap.r, .int .i64 m.flags] L10 u W := ⟨v, hst⟩
                        refine region_twoUL (S := fun W => RecSt w B #[.string P, .int .i64 k, .int .i64 m.mode, .int .i64 m.uid, .int .i64 m.gid, .int .i64 m.sec, .int .i64 m.nano, .slice pa na ca, .slice pd nd cd, .slice px nx cx, .int .i64 m.cap.v, .int .u64 (m.cap.p : Int), .int .u64 (m.cap.i : Int), .bool m.cap.e, .int .i64 m.cap.r, .int .i64 m.flags, .string D, .string T, .int .i64 mj, .int .i64 mn] #[.int .i64 m.mode, .int .i64 m.uid, .int .i64 m.gid, .int .i64 m.sec, .int .i64 m.nano, .slice pa na ca, .slice pd nd cd, .slice px nx cx, .int .i64 m.cap.v, .int .u64 (m.cap.p : Int), .int .u64 (m.cap.i : Int), .bool m.cap.e, .int .i64 m.cap.r, .int .i64 m.flags] L10 lv W) 4 (fun _ => false)
                          [(fun W v => v = lv),
                          (fun W v => v = .pointer (some ⟨B + 1 + 1, 7, none⟩)),
                          (fun W v => v = .slice px nx cx),
                          (fun W v => At recE v (XatM.recsL m.xat) W)] (by rfl) (by kernel_rfl) (by kernel_rfl) (by kernel_rfl) (by kernel_rfl) (by rfl) (by rfl) (by kernel_rfl) (by kernel_rfl) (by kernel_rfl) ?hS ?hp ?hs ?he
                        case hS => exact hst.drew hB
                        case hp => repeat' (first | exact trivial | refine ⟨fun _ _ _ _ h => h, ?_⟩ | refine ⟨fun _ _ _ hb h => h.call hb, ?_⟩)
                        case hs =>
                          simp only [List.take_succ_cons, List.take_zero]
                          refine ⟨?_, ?_, ?_, ?_, trivial⟩
                          · refine .inl ⟨met_none rfl, ?_⟩
                            intro a W K hS hd hD hf hK
                            have e3 : a.tmps.getD 3 undef = .pointer (some ⟨B + 1, 0, none⟩) := hf 3 (by kernel_rfl)
                            have c0 := hS.lst.blk.cell_some 0 _ rfl
                            clear hd hf hD
                            go_simp
                            exact hK _ _ (Below.refl _ _) hS rfl (fun h => absurd h (by decide))
                          · refine .inl ⟨met_none rfl, ?_⟩
                            intro a W K hS hd hD hf hK
                            have e5 : a.tmps.getD 5 undef = .pointer (some ⟨B + 1 + 1, 0, none⟩) := hf 5 (by kernel_rfl)
                            clear hd hf hD
                            go_simp
                            exact hK _ _ (Below.refl _ _) hS rfl (fun h => absurd h (by decide))
                          · refine .inl ⟨met_none rfl, ?_⟩
                            intro a W K hS hd hD hf hK
                            have e108 : a.tmps.getD 108 undef = .pointer (some ⟨B + 1 + 1, 7, none⟩) := hd ⟨1, .data⟩ (by simp) rfl
                            have c0 := hS.met.cell_some 7 _ rfl
                            clear hd hf hD
                            go_simp
                            exact hK _ _ (Below.refl _ _) hS rfl (fun h => absurd h (by decide))
                          · refine .inl ⟨met_none rfl, ?_⟩
                            intro a W K hS hd hD hf hK
                            have e109 : a.tmps.getD 109 undef = .slice px nx cx := hd ⟨2, .data⟩ (by simp) rfl
                            clear hd hf hD
                            go_simp
                            go_at_call 72
                            refine (HX.out _ hS.below).mono ?_
                            rintro e w1 ⟨⟨u, rfl, hrow⟩, hb⟩
                            exact hK _ _ hb (hS.call hB hb) hrow.at (fun h => absurd h (by decide))
                        case he =>
                          intro vals wx K hS hV _ hK
                          have e107 := hV 0 (by omega)
                          have a110 := hV 3 (by omega)
                          clear hV hst
                          simp only [List.getD_cons_succ, List.getD_cons_zero] at e107 a110
                          have hR := hS.lst.row
                          have hbl := hS.below
                          have hsz : B ≤ wx.heap.size := by have := hbl.size; omega
                          have hlen : L10.length + (XatM.recsL m.xat).length ≤ 1000000 := by have := recs_few m.xat; omega
                          clear hS
                          refine Later.mk ?_
                          simp only [List.append_eq, List.cons_append, List.nil_append, setN, Nat.reduceAdd, List.setIfInBounds_toArray, List.set_cons_succ, List.set_cons_zero]
                          rw [e107]
                          refine wp_append_row recE (.tmp 107) (.tmp 110) rfl B lv (vals 3) L10 (XatM.recsL m.xat) wx (by rfl) hR (by rfl) a110 hlen hsz ?_
                          intro v' w8 hR8 hb8 _ _
                          have hbl8 := hbl.trans hb8
                          have HEQ := Lib.hid (show L10 ++ XatM.recsL m.xat = RR by
                            have q4 := congrArg (fun s : ByteArray => s.data.toList) HSU4.out
                            have q5 := congrArg (fun s : ByteArray => s.data.toList) HSU5.out
                            have q6 := congrArg (fun s : ByteArray => s.data.toList) HSM.out
                            have q7 := congrArg (fun s : ByteArray => s.data.toList) HSL7.out
                            have q8 := congrArg (fun s : ByteArray => s.data.toList) HSL8.out
                            have q9 := congrArg (fun s : ByteArray => s.data.toList) HSF.out
                            have q10 := congrArg (fun s : ByteArray => s.data.toList) HSC.out
                            have q11 := congrArg (fun s : ByteArray => s.data.toList) HSX.out
                            simp only [strOf_list] at q4 q5 q6 q7 q8 q9 q10 q11
                            obtain ⟨k1, k2, k3, k4, k5, k6⟩ := keys_are
                            have kf : decide (m.flags ≠ 0) = (m.flags != 0) := dec_ne _
                            have kc : decide (m.cap.v ≠ 0) = (m.cap.v != 0) := dec_ne _
                            have r1 := Hlp.out
                            have r2 := Hlt.out
                            have r3 := Hvp.out
                            have r4 := Hvt.out
                            have r5 := Hbu4.out
                            have r6 := Hbu5.out
                            have r7 := Hbt.out
                            have r8 := Hba7.out
                            have r9 := Hba8.out
                            have r10 := Hbf.out
                            have r11 := Hbc.out
                            have r12 := Hna.out
                            have r13 := Hnd.out
                            rw [← HR.out, ← HL10.out, ← HL9.out, ← HL8.out, ← HL7.out, ← HL6.out, ← HL5.out, ← HL4.out, ← HL3.out, ← HL2.out, ← HL1.out, ← HL0.out]
                            unfold recsR longP longT kPath kLink kUid kGid kTime
                            simp only [k1, k2, k3, k4, k5, k6, kf, kc, r12, r13]
                            simp only [r1, r2, r3, r4, r5, r6, r7, r8, r9, r10, r11, q4, q5, q6, q7, q8, q9, q10, q11])
                          rw [HEQ.out] at hR8
                          clear hR hbl a110 hb8
                          refine hK _ _ ?_
                          clear hK
                          intro K' hK'
                          go_simp
                          refine hK' _ _ ?_
                          clear hK'
                          go_wp2_with fail
                          go_ret
                          exact ⟨⟨_, rfl, hR8⟩, hbl8⟩
  end Go.Proofs.YtbhnhoenjoagbaaGreatDoor
