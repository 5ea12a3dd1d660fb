/- Walks over package entry: Head. -/
import Derived.Test.YtbhnhoenjoagbaaGreatDoorPk25
import Derived.Test.YtbhnhoenjoagbaaGreatDoorPk26
import Derived.Test.YtbhnhoenjoagbaaGreatDoorPk19
import Derived.Deep.CutBlock
namespace Go.Proofs.YtbhnhoenjoagbaaGreatDoor
open Go.RowKit
open MetaM PathM EntM
set_option linter.unusedVariables false

structure HdSt (w : World) (B : Nat) (ce cr : Array Value) (W : World) : Prop where
  below : Below B w W
  box : BlkIs W B 39 ce
  res : BlkIs W (B + 1) 23 cr
theorem HdSt.call {w : World} {B : Nat} {ce cr : Array Value} {W W' : World} (h : HdSt w B ce cr W) (hB : w.heap.size = B) (hb : Below W.heap.size W W') : HdSt w B ce cr W' :=
  ⟨by subst hB; exact gr_call h.below hb, h.box.kept hb h.box.size, h.res.kept hb h.res.size⟩
theorem HdSt.drew {w : World} {B : Nat} {ce cr : Array Value} {W : World} (h : HdSt w B ce cr W) (hB : w.heap.size = B) : HdSt w B ce cr W.drew := h.call hB (gr_drew (Below.refl _ _))
theorem HdSt.set {w : World} {B g : Nat} {ce cr : Array Value} {W : World} (h : HdSt w B ce cr W) (hB : w.heap.size = B) (hg : B + 1 < g) (i : Nat) (v : Value) : HdSt w B ce cr (W.setCell ⟨g, i, none⟩ v) :=
  ⟨by subst hB; exact gr_set h.below (p := ⟨g, i, none⟩) (by show w.heap.size ≤ g; omega) v, h.box.other (p := ⟨g, i, none⟩) (by show B ≠ g; omega) v, h.res.other (p := ⟨g, i, none⟩) (by show B + 1 ≠ g; omega) v⟩
theorem put13e {w : World} {g : Nat} {t : TypeId} {c0 c1 c2 c3 c4 c5 c6 c7 c8 c9 c10 c11 c12 : Value} (v0 v1 v2 v3 v4 v5 v6 v7 v8 v9 v10 v11 v12 : Value) (h : BlkIs w g t #[c0, c1, c2, c3, c4, c5, c6, c7, c8, c9, c10, c11, c12]) :
    BlkIs (((((((((((((w.setCell ⟨g, 0, none⟩ v0).setCell ⟨g, 1, none⟩ v1).setCell ⟨g, 2, none⟩ v2).setCell ⟨g, 3, none⟩ v3).setCell ⟨g, 4, none⟩ v4).setCell ⟨g, 5, none⟩ v5).setCell ⟨g, 6, none⟩ v6).setCell ⟨g, 7, none⟩ v7).setCell ⟨g, 8, none⟩ v8).setCell ⟨g, 9, none⟩ v9).setCell ⟨g, 10, none⟩ v10).setCell ⟨g, 11, none⟩ v11).setCell ⟨g, 12, none⟩ v12) g t #[v0, v1, v2, v3, v4, v5, v6, v7, v8, v9, v10, v11, v12] := by
  have k := ((((((((((((h.put 0 v0).put 1 v1).put 2 v2).put 3 v3).put 4 v4).put 5 v5).put 6 v6).put 7 v7).put 8 v8).put 9 v9).put 10 v10).put 11 v11).put 12 v12
  simp only [List.setIfInBounds_toArray, List.set_cons_zero, List.set_cons_succ] at k
  exact k
theorem head_build (NM LK PR : ByteArray) (md sz mj mn t : Int) (W : World) : (Instr.build 23 #[(12, .string PR), (0, .string NM), (1, .int .i64 md), (4, .int .i64 sz), (6, .int .u8 t), (7, .string LK), (10, .int .i64 mj), (11, .int .i64 mn)]).run Tryz.prog W = .ok (.agg #[.string NM, .int .i64 md, .int .i64 0, .int .i64 0, .int .i64 sz, .int .i64 0, .int .u8 t, .string LK, .string ⟨#[]⟩, .string ⟨#[]⟩, .int .i64 mj, .int .i64 mn, .string PR]) W :=
  run_build W _ _ _ (by kernel_rfl)

set_option maxHeartbeats 6400000 in
set_option maxRecDepth 100000 in
theorem HeadE_core (P : ByteArray) (k : Int) (m : Mt) (D T : ByteArray) (mj mn : Int) (va vd vx : Value) (w : World) (B : Nat) (hB : w.heap.size = B) (hP : P.size ≤ 8000) (hD : D.size ≤ 100000) (hT : T.size ≤ 100000) (hk : 1 ≤ k ∧ k ≤ 7) (PR NM LK : ByteArray) (U G TM : Int)
    (hsp : HeadM.splitV P.data.toList = .tuple #[.string PR, .string NM, .bool true] ∨ ((∃ p n : ByteArray, HeadM.splitV P.data.toList = .tuple #[.string p, .string n, .bool false]) ∧ PR = ⟨#[]⟩ ∧ NM = firstB P 100)) (hPR : PR.size ≤ 100000) (hNM : NM.size ≤ 100000)
    (hLK : LK = firstB T 100) (hU : (if decide (2097151 < m.uid) = true then 0 else m.uid) = U) (hG : (if decide (2097151 < m.gid) = true then 0 else m.gid) = G) (hTM : (if longS m.sec m.nano = true then 0 else m.sec) = TM) :
    Calls Tryz.prog 23 #[.agg #[.string P, .int .i64 k, .int .i64 m.mode, .int .i64 m.uid, .int .i64 m.gid, .int .i64 m.sec, .int .i64 m.nano, va, vd, vx, .int .i64 m.cap.v, .int .u64 (m.cap.p : Int), .int .u64 (m.cap.i : Int), .bool m.cap.e, .int .i64 m.cap.r, .int .i64 m.flags, .string D, .string T, .int .i64 mj, .int .i64 mn]] w fun r w' => r = .returned (.agg #[.string NM, .int .i64 m.mode, .int .i64 U, .int .i64 G, .int .i64 (D.size : Nat), .int .i64 TM, .int .u8 (47 + k), .string LK, .string ⟨#[]⟩, .string ⟨#[]⟩, .int .i64 mj, .int .i64 mn, .string PR]) ∧ Below B w w' := by
  have HSP := Lib.hid (HeadW.split_any P hP)
  have HL : HeadM.L P = P.data.toList := rfl
  rw [HL] at HSP
  have HP1 := Lib.hid (fun W => start_any P W)
  have HLKs : LK.size ≤ 100 := by rw [hLK]; unfold firstB; rw [strOf_size, List.length_take]; omega
  have HST := Lib.hid (fun W => (start_any T W).mono fun e w' (h : _ ∧ w' = W) => (show e = .returned (.string (firstB T 100)) ∧ Below W.heap.size W w' from ⟨h.1, h.2 ▸ Below.refl _ _⟩))
  rw [← hLK] at HST
  have HCP := Lib.hid (fun W => HeadW.clone_any PR W (by omega))
  have HCN := Lib.hid (fun W => HeadW.clone_any NM W (by omega))
  have HCL := Lib.hid (fun W => HeadW.clone_any LK W (by omega))
  have HK := Lib.hid (show IntKind.i64.wrap (48 + k) = 48 + k ∧ IntKind.i64.wrap (48 + k - 1) = 47 + k ∧ IntKind.u8.wrap (47 + k) = 47 + k by
    refine ⟨by rw [IntKind.wrap_i64]; omega, by rw [IntKind.wrap_i64]; omega, ?_⟩
    have hz : k = 1 ∨ k = 2 ∨ k = 3 ∨ k = 4 ∨ k = 5 ∨ k = 6 ∨ k = 7 := by omega
    rcases hz with rfl | rfl | rfl | rfl | rfl | rfl | rfl <;> decide)
  have HBD := Lib.hid (fun W => head_build NM LK PR m.mode (D.size : Nat) mj mn (47 + k) W)
  have H1 := Lib.hid (fun W => (longId_any m.uid W).mono fun e w' (h : _ ∧ w' = W) => (show e = .returned (.bool (decide (2097151 < m.uid))) ∧ Below W.heap.size W w' from ⟨h.1, h.2 ▸ Below.refl _ _⟩))
  have H2 := Lib.hid (fun W => (longId_any m.gid W).mono fun e w' (h : _ ∧ w' = W) => (show e = .returned (.bool (decide (2097151 < m.gid))) ∧ Below W.heap.size W w' from ⟨h.1, h.2 ▸ Below.refl _ _⟩))
  have H3 := Lib.hid (fun W => longTime_any m.sec m.nano W)
  generalize decide (2097151 < m.uid) = bu at *
  generalize decide (2097151 < m.gid) = bg at *
  generalize longS m.sec m.nano = bt at *
  have HU := Lib.hid hU
  have HG := Lib.hid hG
  have HTM := Lib.hid hTM
  have Hsp := Lib.hid hsp
  clear HLKs hLK hPR hNM hU hG hTM hsp HL hk hD hT hP
  go_enter Tryz.func23, Tryz.ntmps23
  go_upto_region 1 with fail
  obtain ⟨W1, hW1⟩ : ∃ W, ((w.alloc (.cells #[.string P, .int .i64 k, .int .i64 m.mode, .int .i64 m.uid, .int .i64 m.gid, .int .i64 m.sec, .int .i64 m.nano, va, vd, vx, .int .i64 m.cap.v, .int .u64 (m.cap.p : Int), .int .u64 (m.cap.i : Int), .bool m.cap.e, .int .i64 m.cap.r, .int .i64 m.flags, .string D, .string T, .int .i64 mj, .int .i64 mn] 39)).alloc (.cells #[.string ⟨#[]⟩, .int .i64 0, .int .i64 0, .int .i64 0, .int .i64 0, .int .i64 0, .int .u8 0, .string ⟨#[]⟩, .string ⟨#[]⟩, .string ⟨#[]⟩, .int .i64 0, .int .i64 0, .string ⟨#[]⟩] 23)) = W := ⟨_, rfl⟩
  have hst : HdSt w B #[.string P, .int .i64 k, .int .i64 m.mode, .int .i64 m.uid, .int .i64 m.gid, .int .i64 m.sec, .int .i64 m.nano, va, vd, vx, .int .i64 m.cap.v, .int .u64 (m.cap.p : Int), .int .u64 (m.cap.i : Int), .bool m.cap.e, .int .i64 m.cap.r, .int .i64 m.flags, .string D, .string T, .int .i64 mj, .int .i64 mn] #[.string ⟨#[]⟩, .int .i64 0, .int .i64 0, .int .i64 0, .int .i64 0, .int .i64 0, .int .u8 0, .string ⟨#[]⟩, .string ⟨#[]⟩, .string ⟨#[]⟩, .int .i64 0, .int .i64 0, .string ⟨#[]⟩] W1 := by
    subst hB
    rw [← hW1]
    have s1 : (w.alloc (.cells #[.string P, .int .i64 k, .int .i64 m.mode, .int .i64 m.uid, .int .i64 m.gid, .int .i64 m.sec, .int .i64 m.nano, va, vd, vx, .int .i64 m.cap.v, .int .u64 (m.cap.p : Int), .int .u64 (m.cap.i : Int), .bool m.cap.e, .int .i64 m.cap.r, .int .i64 m.flags, .string D, .string T, .int .i64 mj, .int .i64 mn] 39)).heap.size = w.heap.size + 1 := by simp
    exact ⟨gr_alloc (gr_alloc (Below.refl _ _) _) _, (BlkIs.made _ _ _).alloc _, BlkIs.made_at _ _ _ _ _ s1 rfl⟩
  rw [hW1]
  clear hW1
  have k0 := hst.box.cell_some 0 _ rfl
  go_cut [3, 4, 5] from 7 to 14 (fun p n b wx => ∃ (pp nn : ByteArray) (bb : Bool), p = .string pp ∧ n = .string nn ∧ b = .bool bb ∧ HdSt w B #[.string P, .int .i64 k, .int .i64 m.mode, .int .i64 m.uid, .int .i64 m.gid, .int .i64 m.sec, .int .i64 m.nano, va, vd, vx, .int .i64 m.cap.v, .int .u64 (m.cap.p : Int), .int .u64 (m.cap.i : Int), .bool m.cap.e, .int .i64 m.cap.r, .int .i64 m.flags, .string D, .string T, .int .i64 mj, .int .i64 mn] #[.string ⟨#[]⟩, .int .i64 0, .int .i64 0, .int .i64 0, .int .i64 0, .int .i64 0, .int .u8 0, .string ⟨#[]⟩, .string ⟨#[]⟩, .string ⟨#[]⟩, .int .i64 0, .int .i64 0, .string ⟨#[]⟩] wx ∧ ((bb = true ∧ pp = PR ∧ nn = NM) ∨ (bb = false ∧ PR = ⟨#[]⟩ ∧ NM = firstB P 100)))
  case first =>
    rcases Hsp.out with h | ⟨⟨p, n, h⟩, h2, h3⟩
    · rw [h] at HSP
      clear h
      go_wp2_with fail
      refine (HSP.out _).mono ?_
      rintro e wy ⟨rfl, hb⟩
      have HX := Lib.hid (hst.call hB hb)
      clear hst hb
      go_wp2_with fail
      go_meet
      exact ⟨_, _, _, rfl, rfl, rfl, HX.out, .inl ⟨rfl, rfl, rfl⟩⟩
    · rw [h] at HSP
      have HX2 := Lib.hid h2
      have HX3 := Lib.hid h3
      clear h h2 h3
      go_wp2_with fail
      refine (HSP.out _).mono ?_
      rintro e wy ⟨rfl, hb⟩
      have HX := Lib.hid (hst.call hB hb)
      clear hst hb
      go_wp2_with fail
      go_meet
      exact ⟨_, _, _, rfl, rfl, rfl, HX.out, .inr ⟨rfl, HX2.out, HX3.out⟩⟩
  case rest =>
    clear hst HSP Hsp k0
    obtain ⟨pp, nn, bb, rfl, rfl, rfl, hst, hpn⟩ := hcut
    rename World => W
    have HPN := Lib.hid hpn
    clear hpn
    go_upto_if 15 with fail
    have k0 := hst.box.cell_some 0 _ rfl
    go_cut [3, 4] from 16 to 19 (fun p n wx => p = .string PR ∧ n = .string NM ∧ HdSt w B #[.string P, .int .i64 k, .int .i64 m.mode, .int .i64 m.uid, .int .i64 m.gid, .int .i64 m.sec, .int .i64 m.nano, va, vd, vx, .int .i64 m.cap.v, .int .u64 (m.cap.p : Int), .int .u64 (m.cap.i : Int), .bool m.cap.e, .int .i64 m.cap.r, .int .i64 m.flags, .string D, .string T, .int .i64 mj, .int .i64 mn] #[.string ⟨#[]⟩, .int .i64 0, .int .i64 0, .int .i64 0, .int .i64 0, .int .i64 0, .int .u8 0, .string ⟨#[]⟩, .string ⟨#[]⟩, .string ⟨#[]⟩, .int .i64 0, .int .i64 0, .string ⟨#[]⟩] wx)
    case first =>
      rcases HPN.out with ⟨rfl, h1, h2⟩ | ⟨rfl, h1, h2⟩
      · have H1' := Lib.hid h1
        have H2' := Lib.hid h2
        clear h1 h2
        go_wp2_with fail
        go_meet
        exact ⟨by rw [H1'.out], by rw [H2'.out], hst⟩
      · have H1' := Lib.hid h1
        have H2' := Lib.hid h2
        clear h1 h2
        go_wp2_with fail
        refine (HP1.out _).mono ?_
        rintro e wy ⟨rfl, rfl⟩
        go_wp2_with fail
        go_meet
        exact ⟨by rw [H1'.out], by rw [H2'.out], hst⟩
    case rest =>
      clear hst k0 HPN
      obtain ⟨rfl, rfl, hst⟩ := hcut
      rename World => W
      go_upto_region 4 with fail
      go_cut [6] from 19 to 43 (fun q wx => ∃ g, q = .pointer (some ⟨g, 0, none⟩) ∧ B + 1 < g ∧ HdSt w B #[.string P, .int .i64 k, .int .i64 m.mode, .int .i64 m.uid, .int .i64 m.gid, .int .i64 m.sec, .int .i64 m.nano, va, vd, vx, .int .i64 m.cap.v, .int .u64 (m.cap.p : Int), .int .u64 (m.cap.i : Int), .bool m.cap.e, .int .i64 m.cap.r, .int .i64 m.flags, .string D, .string T, .int .i64 mj, .int .i64 mn] #[.string ⟨#[]⟩, .int .i64 0, .int .i64 0, .int .i64 0, .int .i64 0, .int .i64 0, .int .u8 0, .string ⟨#[]⟩, .string ⟨#[]⟩, .string ⟨#[]⟩, .int .i64 0, .int .i64 0, .string ⟨#[]⟩] wx ∧ BlkIs wx g 23 #[.string NM, .int .i64 m.mode, .int .i64 0, .int .i64 0, .int .i64 (D.size : Nat), .int .i64 0, .int .u8 (47 + k), .string LK, .string ⟨#[]⟩, .string ⟨#[]⟩, .int .i64 mj, .int .i64 mn, .string PR])
      case first =>
        refine region_oneUL (S := fun W => HdSt w B #[.string P, .int .i64 k, .int .i64 m.mode, .int .i64 m.uid, .int .i64 m.gid, .int .i64 m.sec, .int .i64 m.nano, va, vd, vx, .int .i64 m.cap.v, .int .u64 (m.cap.p : Int), .int .u64 (m.cap.i : Int), .bool m.cap.e, .int .i64 m.cap.r, .int .i64 m.flags, .string D, .string T, .int .i64 mj, .int .i64 mn] #[.string ⟨#[]⟩, .int .i64 0, .int .i64 0, .int .i64 0, .int .i64 0, .int .i64 0, .int .u8 0, .string ⟨#[]⟩, .string ⟨#[]⟩, .string ⟨#[]⟩, .int .i64 0, .int .i64 0, .string ⟨#[]⟩] W) 25
          [(fun W v => v = .string PR),
  (fun W v => v = .string PR),
  (fun W v => v = .string NM),
  (fun W v => v = .string NM),
  (fun W v => v = .pointer (some ⟨B, 2, none⟩)),
  (fun W v => v = .pointer (some ⟨B, 2, none⟩)),
  (fun W v => v = .int .i64 m.mode),
  (fun W v => v = .pointer (some ⟨B, 16, none⟩)),
  (fun W v => v = .string D),
  (fun W v => v = .int .i64 (D.size : Nat)),
  (fun W v => v = .pointer (some ⟨B, 1, none⟩)),
  (fun W v => v = .int .i64 k),
  (fun W v => v = .int .i64 (48 + k)),
  (fun W v => v = .int .i64 (47 + k)),
  (fun W v => v = .int .u8 (47 + k)),
  (fun W v => v = .pointer (some ⟨B, 17, none⟩)),
  (fun W v => v = .string T),
  (fun W v => v = .string LK),
  (fun W v => v = .string LK),
  (fun W v => v = .pointer (some ⟨B, 18, none⟩)),
  (fun W v => v = .int .i64 mj),
  (fun W v => v = .pointer (some ⟨B, 19, none⟩)),
  (fun W v => v = .int .i64 mn),
  (fun W v => v = .agg #[.string NM, .int .i64 m.mode, .int .i64 0, .int .i64 0, .int .i64 (D.size : Nat), .int .i64 0, .int .u8 (47 + k), .string LK, .string ⟨#[]⟩, .string ⟨#[]⟩, .int .i64 mj, .int .i64 mn, .string PR]),
  (fun W v => ∃ g, v = .pointer (some ⟨g, 0, none⟩) ∧ BlkIs W g 23 #[.string ⟨#[]⟩, .int .i64 0, .int .i64 0, .int .i64 0, .int .i64 0, .int .i64 0, .int .u8 0, .string ⟨#[]⟩, .string ⟨#[]⟩, .string ⟨#[]⟩, .int .i64 0, .int .i64 0, .string ⟨#[]⟩] ∧ B + 1 < g)] (by rfl) (by kernel_rfl) (by kernel_rfl) (by kernel_rfl) (by kernel_rfl) (by rfl) (by kernel_rfl) ?hS ?hp ?hs ?he
        case hS => exact hst.drew hB
        case hp => repeat' (first | exact trivial | refine ⟨fun _ _ _ _ h => h, ?_⟩ | refine ⟨fun _ _ _ hb h => (let ⟨h', e1, e2, e3⟩ := h; ⟨h', e1, e2.kept hb e2.size, e3⟩), ?_⟩)
        case hs =>
          simp only [List.take_succ_cons, List.take_zero]
          refine ⟨?_, ?_, ?_, ?_, ?_, ?_, ?_, ?_, ?_, ?_, ?_, ?_, ?_, ?_, ?_, ?_, ?_, ?_, ?_, ?_, ?_, ?_, ?_, ?_, ?_, trivial⟩
          · refine .inl ⟨met_none rfl, ?_⟩
            intro a W K hS hd hD hf hK
            have e3 : a.tmps.getD 3 undef = .string PR := hf 3 (by kernel_rfl)
            clear hd hf hD
            go_simp
            exact hK _ _ (Below.refl _ _) hS rfl (fun h => absurd h (by decide))
          · refine .inl ⟨met_none rfl, ?_⟩
            intro a W K hS hd hD hf hK
            have e19 : a.tmps.getD 19 undef = .string PR := hd ⟨0, .data⟩ (by simp) rfl
            clear hd hf hD
            go_simp
            go_at_call 63
            refine (HCP.out _).mono ?_
            rintro e w1 ⟨rfl, hb⟩
            exact hK _ _ hb (hS.call hB hb) rfl (fun h => absurd h (by decide))
          · refine .inl ⟨met_none rfl, ?_⟩
            intro a W K hS hd hD hf hK
            have e4 : a.tmps.getD 4 undef = .string NM := hf 4 (by kernel_rfl)
            clear hd hf hD
            go_simp
            exact hK _ _ (Below.refl _ _) hS rfl (fun h => absurd h (by decide))
          · refine .inl ⟨met_none rfl, ?_⟩
            intro a W K hS hd hD hf hK
            have e21 : a.tmps.getD 21 undef = .string NM := hd ⟨2, .data⟩ (by simp) rfl
            clear hd hf hD
            go_simp
            go_at_call 63
            refine (HCN.out _).mono ?_
            rintro e w1 ⟨rfl, hb⟩
            exact hK _ _ hb (hS.call hB hb) rfl (fun h => absurd h (by decide))
          · refine .inl ⟨met_none rfl, ?_⟩
            intro a W K hS hd hD hf hK
            have e1 : a.tmps.getD 1 undef = .pointer (some ⟨B, 0, none⟩) := hf 1 (by kernel_rfl)
            clear hd hf hD
            go_simp
            exact hK _ _ (Below.refl _ _) hS rfl (fun h => absurd h (by decide))
          · refine .inl ⟨met_none rfl, ?_⟩
            intro a W K hS hd hD hf hK
            have e23 : a.tmps.getD 23 undef = .pointer (some ⟨B, 2, none⟩) := hd ⟨4, .data⟩ (by simp) rfl
            clear hd hf hD
            go_simp
            exact hK _ _ (Below.refl _ _) hS rfl (fun h => absurd h (by decide))
          · refine .inl ⟨met_none rfl, ?_⟩
            intro a W K hS hd hD hf hK
            have e24 : a.tmps.getD 24 undef = .pointer (some ⟨B, 2, none⟩) := hd ⟨5, .data⟩ (by simp) rfl
            have c0 := hS.box.cell_some 2 _ rfl
            clear hd hf hD
            go_simp
            exact hK _ _ (Below.refl _ _) hS rfl (fun h => absurd h (by decide))
          · refine .inl ⟨met_none rfl, ?_⟩
            intro a W K hS hd hD hf hK
            have e1 : a.tmps.getD 1 undef = .pointer (some ⟨B, 0, none⟩) := hf 1 (by kernel_rfl)
            clear hd hf hD
            go_simp
            exact hK _ _ (Below.refl _ _) hS rfl (fun h => absurd h (by decide))
          · refine .inl ⟨met_none rfl, ?_⟩
            intro a W K hS hd hD hf hK
            have e26 : a.tmps.getD 26 undef = .pointer (some ⟨B, 16, none⟩) := hd ⟨7, .data⟩ (by simp) rfl
            have c0 := hS.box.cell_some 16 _ rfl
            clear hd hf hD
            go_simp
            exact hK _ _ (Below.refl _ _) hS rfl (fun h => absurd h (by decide))
          · refine .inl ⟨met_none rfl, ?_⟩
            intro a W K hS hd hD hf hK
            have e27 : a.tmps.getD 27 undef = .string D := hd ⟨8, .data⟩ (by simp) rfl
            clear hd hf hD
            go_simp
            exact hK _ _ (Below.refl _ _) hS rfl (fun h => absurd h (by decide))
          · refine .inl ⟨met_none rfl, ?_⟩
            intro a W K hS hd hD hf hK
            have e1 : a.tmps.getD 1 undef = .pointer (some ⟨B, 0, none⟩) := hf 1 (by kernel_rfl)
            clear hd hf hD
            go_simp
            exact hK _ _ (Below.refl _ _) hS rfl (fun h => absurd h (by decide))
          · refine .inl ⟨met_none rfl, ?_⟩
            intro a W K hS hd hD hf hK
            have e29 : a.tmps.getD 29 undef = .pointer (some ⟨B, 1, none⟩) := hd ⟨10, .data⟩ (by simp) rfl
            have c0 := hS.box.cell_some 1 _ rfl
            clear hd hf hD
            go_simp
            exact hK _ _ (Below.refl _ _) hS rfl (fun h => absurd h (by decide))
          · refine .inl ⟨met_none rfl, ?_⟩
            intro a W K hS hd hD hf hK
            have e30 : a.tmps.getD 30 undef = .int .i64 k := hd ⟨11, .data⟩ (by simp) rfl
            have s1 := HK.out.1
            clear hd hf hD
            go_simp
            exact hK _ _ (Below.refl _ _) hS rfl (fun h => absurd h (by decide))
          · refine .inl ⟨met_none rfl, ?_⟩
            intro a W K hS hd hD hf hK
            have e31 : a.tmps.getD 31 undef = .int .i64 (48 + k) := hd ⟨12, .data⟩ (by simp) rfl
            have s1 := HK.out.2.1
            clear hd hf hD
            go_simp
            exact hK _ _ (Below.refl _ _) hS rfl (fun h => absurd h (by decide))
          · refine .inl ⟨met_none rfl, ?_⟩
            intro a W K hS hd hD hf hK
            have e32 : a.tmps.getD 32 undef = .int .i64 (47 + k) := hd ⟨13, .data⟩ (by simp) rfl
            have s1 := HK.out.2.2
            clear hd hf hD
            go_simp
            exact hK _ _ (Below.refl _ _) hS rfl (fun h => absurd h (by decide))
          · refine .inl ⟨met_none rfl, ?_⟩
            intro a W K hS hd hD hf hK
            have e1 : a.tmps.getD 1 undef = .pointer (some ⟨B, 0, none⟩) := hf 1 (by kernel_rfl)
            clear hd hf hD
            go_simp
            exact hK _ _ (Below.refl _ _) hS rfl (fun h => absurd h (by decide))
          · refine .inl ⟨met_none rfl, ?_⟩
            intro a W K hS hd hD hf hK
            have e34 : a.tmps.getD 34 undef = .pointer (some ⟨B, 17, none⟩) := hd ⟨15, .data⟩ (by simp) rfl
            have c0 := hS.box.cell_some 17 _ rfl
            clear hd hf hD
            go_simp
            exact hK _ _ (Below.refl _ _) hS rfl (fun h => absurd h (by decide))
          · refine .inl ⟨met_none rfl, ?_⟩
            intro a W K hS hd hD hf hK
            have e35 : a.tmps.getD 35 undef = .string T := hd ⟨16, .data⟩ (by simp) rfl
            clear hd hf hD
            go_simp
            go_at_call 84
            refine (HST.out _).mono ?_
            rintro e w1 ⟨rfl, hb⟩
            exact hK _ _ hb (hS.call hB hb) rfl (fun h => absurd h (by decide))
          · refine .inl ⟨met_none rfl, ?_⟩
            intro a W K hS hd hD hf hK
            have e36 : a.tmps.getD 36 undef = .string LK := hd ⟨17, .data⟩ (by simp) rfl
            clear hd hf hD
            go_simp
            go_at_call 63
            refine (HCL.out _).mono ?_
            rintro e w1 ⟨rfl, hb⟩
            exact hK _ _ hb (hS.call hB hb) rfl (fun h => absurd h (by decide))
          · refine .inl ⟨met_none rfl, ?_⟩
            intro a W K hS hd hD hf hK
            have e1 : a.tmps.getD 1 undef = .pointer (some ⟨B, 0, none⟩) := hf 1 (by kernel_rfl)
            clear hd hf hD
            go_simp
            exact hK _ _ (Below.refl _ _) hS rfl (fun h => absurd h (by decide))
          · refine .inl ⟨met_none rfl, ?_⟩
            intro a W K hS hd hD hf hK
            have e38 : a.tmps.getD 38 undef = .pointer (some ⟨B, 18, none⟩) := hd ⟨19, .data⟩ (by simp) rfl
            have c0 := hS.box.cell_some 18 _ rfl
            clear hd hf hD
            go_simp
            exact hK _ _ (Below.refl _ _) hS rfl (fun h => absurd h (by decide))
          · refine .inl ⟨met_none rfl, ?_⟩
            intro a W K hS hd hD hf hK
            have e1 : a.tmps.getD 1 undef = .pointer (some ⟨B, 0, none⟩) := hf 1 (by kernel_rfl)
            clear hd hf hD
            go_simp
            exact hK _ _ (Below.refl _ _) hS rfl (fun h => absurd h (by decide))
          · refine .inl ⟨met_none rfl, ?_⟩
            intro a W K hS hd hD hf hK
            have e40 : a.tmps.getD 40 undef = .pointer (some ⟨B, 19, none⟩) := hd ⟨21, .data⟩ (by simp) rfl
            have c0 := hS.box.cell_some 19 _ rfl
            clear hd hf hD
            go_simp
            exact hK _ _ (Below.refl _ _) hS rfl (fun h => absurd h (by decide))
          · refine .inl ⟨met_none rfl, ?_⟩
            intro a W K hS hd hD hf hK
            have e20 : a.tmps.getD 20 undef = .string PR := hd ⟨1, .data⟩ (by simp) rfl
            have e22 : a.tmps.getD 22 undef = .string NM := hd ⟨3, .data⟩ (by simp) rfl
            have e25 : a.tmps.getD 25 undef = .int .i64 m.mode := hd ⟨6, .data⟩ (by simp) rfl
            have e28 : a.tmps.getD 28 undef = .int .i64 (D.size : Nat) := hd ⟨9, .data⟩ (by simp) rfl
            have e33 : a.tmps.getD 33 undef = .int .u8 (47 + k) := hd ⟨14, .data⟩ (by simp) rfl
            have e37 : a.tmps.getD 37 undef = .string LK := hd ⟨18, .data⟩ (by simp) rfl
            have e39 : a.tmps.getD 39 undef = .int .i64 mj := hd ⟨20, .data⟩ (by simp) rfl
            have e41 : a.tmps.getD 41 undef = .int .i64 mn := hd ⟨22, .data⟩ (by simp) rfl
            have f20 := e20
            rw [Array.getD_eq_getD_getElem?] at f20
            have f22 := e22
            rw [Array.getD_eq_getD_getElem?] at f22
            have f25 := e25
            rw [Array.getD_eq_getD_getElem?] at f25
            have f28 := e28
            rw [Array.getD_eq_getD_getElem?] at f28
            have f33 := e33
            rw [Array.getD_eq_getD_getElem?] at f33
            have f37 := e37
            rw [Array.getD_eq_getD_getElem?] at f37
            have f39 := e39
            rw [Array.getD_eq_getD_getElem?] at f39
            have f41 := e41
            rw [Array.getD_eq_getD_getElem?] at f41
            have hbd := HBD.out
            clear hd hf hD
            go_simp
            exact hK _ _ (Below.refl _ _) hS rfl (fun h => absurd h (by decide))
          · refine .inl ⟨met_none rfl, ?_⟩
            intro a W K hS hd hD hf hK
            clear hd hf hD
            have hsz := hS.res.size
            go_simp
            exact hK _ _ ((Below.refl _ _).alloc (Nat.le_refl _) _) (hS.call hB (gr_alloc (Below.refl _ _) _)) ⟨_, rfl, BlkIs.made _ _ _, hsz⟩ (fun h => absurd h (by decide))
        case he =>
          intro vals wx K hS hV hK
          have e42 := hV 23 (by omega)
          have a6 := hV 24 (by omega)
          clear hV hst
          simp only [List.getD_cons_succ, List.getD_cons_zero] at e42 a6
          obtain ⟨g, e6, hg, hgB⟩ := a6
          have k0 := hg.cell_some 0 _ rfl
          have f0 := hg.free 0
          have k1 := hg.cell_some 1 _ rfl
          have f1 := hg.free 1
          have k2 := hg.cell_some 2 _ rfl
          have f2 := hg.free 2
          have k3 := hg.cell_some 3 _ rfl
          have f3 := hg.free 3
          have k4 := hg.cell_some 4 _ rfl
          have f4 := hg.free 4
          have k5 := hg.cell_some 5 _ rfl
          have f5 := hg.free 5
          have k6 := hg.cell_some 6 _ rfl
          have f6 := hg.free 6
          have k7 := hg.cell_some 7 _ rfl
          have f7 := hg.free 7
          have k8 := hg.cell_some 8 _ rfl
          have f8 := hg.free 8
          have k9 := hg.cell_some 9 _ rfl
          have f9 := hg.free 9
          have k10 := hg.cell_some 10 _ rfl
          have f10 := hg.free 10
          have k11 := hg.cell_some 11 _ rfl
          have f11 := hg.free 11
          have k12 := hg.cell_some 12 _ rfl
          have f12 := hg.free 12
          obtain ⟨WS, hWS⟩ : ∃ W, (((((((((((((wx.setCell ⟨g, 0, none⟩ (.string NM)).setCell ⟨g, 1, none⟩ (.int .i64 m.mode)).setCell ⟨g, 2, none⟩ (.int .i64 0)).setCell ⟨g, 3, none⟩ (.int .i64 0)).setCell ⟨g, 4, none⟩ (.int .i64 (D.size : Nat))).setCell ⟨g, 5, none⟩ (.int .i64 0)).setCell ⟨g, 6, none⟩ (.int .u8 (47 + k))).setCell ⟨g, 7, none⟩ (.string LK)).setCell ⟨g, 8, none⟩ (.string ⟨#[]⟩)).setCell ⟨g, 9, none⟩ (.string ⟨#[]⟩)).setCell ⟨g, 10, none⟩ (.int .i64 mj)).setCell ⟨g, 11, none⟩ (.int .i64 mn)).setCell ⟨g, 12, none⟩ (.string PR)) = W := ⟨_, rfl⟩
          have hF : BlkIs WS g 23 #[.string NM, .int .i64 m.mode, .int .i64 0, .int .i64 0, .int .i64 (D.size : Nat), .int .i64 0, .int .u8 (47 + k), .string LK, .string ⟨#[]⟩, .string ⟨#[]⟩, .int .i64 mj, .int .i64 mn, .string PR] := by
            rw [← hWS]
            exact put13e (.string NM) (.int .i64 m.mode) (.int .i64 0) (.int .i64 0) (.int .i64 (D.size : Nat)) (.int .i64 0) (.int .u8 (47 + k)) (.string LK) (.string ⟨#[]⟩) (.string ⟨#[]⟩) (.int .i64 mj) (.int .i64 mn) (.string PR) hg
          have hSt : HdSt w B #[.string P, .int .i64 k, .int .i64 m.mode, .int .i64 m.uid, .int .i64 m.gid, .int .i64 m.sec, .int .i64 m.nano, va, vd, vx, .int .i64 m.cap.v, .int .u64 (m.cap.p : Int), .int .u64 (m.cap.i : Int), .bool m.cap.e, .int .i64 m.cap.r, .int .i64 m.flags, .string D, .string T, .int .i64 mj, .int .i64 mn] #[.string ⟨#[]⟩, .int .i64 0, .int .i64 0, .int .i64 0, .int .i64 0, .int .i64 0, .int .u8 0, .string ⟨#[]⟩, .string ⟨#[]⟩, .string ⟨#[]⟩, .int .i64 0, .int .i64 0, .string ⟨#[]⟩] WS := by
            rw [← hWS]
            exact (HdSt.set (HdSt.set (HdSt.set (HdSt.set (HdSt.set (HdSt.set (HdSt.set (HdSt.set (HdSt.set (HdSt.set (HdSt.set (HdSt.set (HdSt.set hS hB hgB 0 (.string NM)) hB hgB 1 (.int .i64 m.mode)) hB hgB 2 (.int .i64 0)) hB hgB 3 (.int .i64 0)) hB hgB 4 (.int .i64 (D.size : Nat))) hB hgB 5 (.int .i64 0)) hB hgB 6 (.int .u8 (47 + k))) hB hgB 7 (.string LK)) hB hgB 8 (.string ⟨#[]⟩)) hB hgB 9 (.string ⟨#[]⟩)) hB hgB 10 (.int .i64 mj)) hB hgB 11 (.int .i64 mn)) hB hgB 12 (.string PR))
          have HS2 := Lib.hid hSt
          have HF2 := Lib.hid hF
          clear hSt hF hS hg
          refine Later.mk ?_
          simp only [List.append_eq, List.cons_append, List.nil_append, setN, Nat.reduceAdd, List.setIfInBounds_toArray, List.set_cons_succ, List.set_cons_zero]
          rw [e42, e6]
          go_simp
          refine hK _ _ ?_
          clear hK
          go_wp2_with fail
          go_meet
          exact ⟨g, rfl, hgB, HS2.out, HF2.out⟩
      case rest =>
        clear hst
        obtain ⟨g, rfl, hgB, hst, hg⟩ := hcut
        rename World => W
        have b3 := hst.box.cell_some 3 _ rfl
        go_wp2_with fail
        refine (H1.out _).mono ?_
        rintro e wy ⟨rfl, hb⟩
        replace hst := hst.call hB hb
        replace hg := hg.kept hb hg.size
        clear hb b3
        go_upto_if 47 with fail
        go_cut [50] from 48 to 52 (fun _ wx => HdSt w B #[.string P, .int .i64 k, .int .i64 m.mode, .int .i64 m.uid, .int .i64 m.gid, .int .i64 m.sec, .int .i64 m.nano, va, vd, vx, .int .i64 m.cap.v, .int .u64 (m.cap.p : Int), .int .u64 (m.cap.i : Int), .bool m.cap.e, .int .i64 m.cap.r, .int .i64 m.flags, .string D, .string T, .int .i64 mj, .int .i64 mn] #[.string ⟨#[]⟩, .int .i64 0, .int .i64 0, .int .i64 0, .int .i64 0, .int .i64 0, .int .u8 0, .string ⟨#[]⟩, .string ⟨#[]⟩, .string ⟨#[]⟩, .int .i64 0, .int .i64 0, .string ⟨#[]⟩] wx ∧ BlkIs wx g 23 #[.string NM, .int .i64 m.mode, .int .i64 U, .int .i64 0, .int .i64 (D.size : Nat), .int .i64 0, .int .u8 (47 + k), .string LK, .string ⟨#[]⟩, .string ⟨#[]⟩, .int .i64 mj, .int .i64 mn, .string PR])
        case first =>
          have k0 := hst.box.cell_some 3 _ rfl
          have k1 := hg.cell_some 2 _ rfl
          have f1 := hg.free 2
          rcases bu with _ | _
          · have e1 := HU.out
            simp only [Bool.false_eq_true, if_false] at e1
            have HX := Lib.hid (fun V => hst.set hB hgB 2 V)
            have HY := Lib.hid (fun V => hg.put 2 V)
            have HE := Lib.hid e1
            clear e1 HU
            go_wp2_with fail
            go_meet
            rw [← HE.out]
            exact ⟨HX.out _, HY.out _⟩
          · have e1 := HU.out
            simp only [if_true] at e1
            have HE := Lib.hid e1
            clear e1
            go_wp2_with fail
            go_meet
            rw [← HE.out]
            exact ⟨hst, hg⟩
        case rest =>
          clear hst hg HU H1
          obtain ⟨hst, hg⟩ := hcut
          rename World => W
          have b4 := hst.box.cell_some 4 _ rfl
          go_wp2_with fail
          refine (H2.out _).mono ?_
          rintro e wy ⟨rfl, hb⟩
          replace hst := hst.call hB hb
          replace hg := hg.kept hb hg.size
          clear hb b4
          go_upto_if 56 with fail
          go_cut [59] from 57 to 61 (fun _ wx => HdSt w B #[.string P, .int .i64 k, .int .i64 m.mode, .int .i64 m.uid, .int .i64 m.gid, .int .i64 m.sec, .int .i64 m.nano, va, vd, vx, .int .i64 m.cap.v, .int .u64 (m.cap.p : Int), .int .u64 (m.cap.i : Int), .bool m.cap.e, .int .i64 m.cap.r, .int .i64 m.flags, .string D, .string T, .int .i64 mj, .int .i64 mn] #[.string ⟨#[]⟩, .int .i64 0, .int .i64 0, .int .i64 0, .int .i64 0, .int .i64 0, .int .u8 0, .string ⟨#[]⟩, .string ⟨#[]⟩, .string ⟨#[]⟩, .int .i64 0, .int .i64 0, .string ⟨#[]⟩] wx ∧ BlkIs wx g 23 #[.string NM, .int .i64 m.mode, .int .i64 U, .int .i64 G, .int .i64 (D.size : Nat), .int .i64 0, .int .u8 (47 + k), .string LK, .string ⟨#[]⟩, .string ⟨#[]⟩, .int .i64 mj, .int .i64 mn, .string PR])
          case first =>
            have k0 := hst.box.cell_some 4 _ rfl
            have k1 := hg.cell_some 3 _ rfl
            have f1 := hg.free 3
            rcases bg with _ | _
            · have e1 := HG.out
              simp only [Bool.false_eq_true, if_false] at e1
              have HX := Lib.hid (fun V => hst.set hB hgB 3 V)
              have HY := Lib.hid (fun V => hg.put 3 V)
              have HE := Lib.hid e1
              clear e1 HG
              go_wp2_with fail
              go_meet
              rw [← HE.out]
              exact ⟨HX.out _, HY.out _⟩
            · have e1 := HG.out
              simp only [if_true] at e1
              have HE := Lib.hid e1
              clear e1
              go_wp2_with fail
              go_meet
              rw [← HE.out]
              exact ⟨hst, hg⟩
          case rest =>
            clear hst hg HG H2
            obtain ⟨hst, hg⟩ := hcut
            rename World => W
            have b5 := hst.box.cell_some 5 _ rfl
            have b6 := hst.box.cell_some 6 _ rfl
            go_wp2_with fail
            refine (H3.out _).mono ?_
            rintro e wy ⟨rfl, hb⟩
            replace hst := hst.call hB hb
            replace hg := hg.kept hb hg.size
            clear hb b5 b6
            go_upto_if 65 with fail
            go_cut [69] from 66 to 71 (fun _ wx => HdSt w B #[.string P, .int .i64 k, .int .i64 m.mode, .int .i64 m.uid, .int .i64 m.gid, .int .i64 m.sec, .int .i64 m.nano, va, vd, vx, .int .i64 m.cap.v, .int .u64 (m.cap.p : Int), .int .u64 (m.cap.i : Int), .bool m.cap.e, .int .i64 m.cap.r, .int .i64 m.flags, .string D, .string T, .int .i64 mj, .int .i64 mn] #[.string ⟨#[]⟩, .int .i64 0, .int .i64 0, .int .i64 0, .int .i64 0, .int .i64 0, .int .u8 0, .string ⟨#[]⟩, .string ⟨#[]⟩, .string ⟨#[]⟩, .int .i64 0, .int .i64 0, .string ⟨#[]⟩] wx ∧ BlkIs wx g 23 #[.string NM, .int .i64 m.mode, .int .i64 U, .int .i64 G, .int .i64 (D.size : Nat), .int .i64 TM, .int .u8 (47 + k), .string LK, .string ⟨#[]⟩, .string ⟨#[]⟩, .int .i64 mj, .int .i64 mn, .string PR])
            case first =>
              have k0 := hst.box.cell_some 5 _ rfl
              have k1 := hg.cell_some 5 _ rfl
              have f1 := hg.free 5
              rcases bt with _ | _
              · have e1 := HTM.out
                simp only [Bool.false_eq_true, if_false] at e1
                have HX := Lib.hid (fun V => hst.set hB hgB 5 V)
                have HY := Lib.hid (fun V => hg.put 5 V)
                have HE := Lib.hid e1
                clear e1 HTM
                go_wp2_with fail
                go_meet
                rw [← HE.out]
                exact ⟨HX.out _, HY.out _⟩
              · have e1 := HTM.out
                simp only [if_true] at e1
                have HE := Lib.hid e1
                clear e1
                go_wp2_with fail
                go_meet
                rw [← HE.out]
                exact ⟨hst, hg⟩
            case rest =>
              clear hst hg HTM H3
              obtain ⟨hst, hg⟩ := hcut
              rename World => W
              have k0 := hg.cell_some 0 _ rfl
              have k1 := hg.cell_some 1 _ rfl
              have k2 := hg.cell_some 2 _ rfl
              have k3 := hg.cell_some 3 _ rfl
              have k4 := hg.cell_some 4 _ rfl
              have k5 := hg.cell_some 5 _ rfl
              have k6 := hg.cell_some 6 _ rfl
              have k7 := hg.cell_some 7 _ rfl
              have k8 := hg.cell_some 8 _ rfl
              have k9 := hg.cell_some 9 _ rfl
              have k10 := hg.cell_some 10 _ rfl
              have k11 := hg.cell_some 11 _ rfl
              have k12 := hg.cell_some 12 _ rfl
              have r0 := hst.res.cell_some 0 _ rfl
              have z0 := hst.res.free 0
              have r1 := hst.res.cell_some 1 _ rfl
              have z1 := hst.res.free 1
              have r2 := hst.res.cell_some 2 _ rfl
              have z2 := hst.res.free 2
              have r3 := hst.res.cell_some 3 _ rfl
              have z3 := hst.res.free 3
              have r4 := hst.res.cell_some 4 _ rfl
              have z4 := hst.res.free 4
              have r5 := hst.res.cell_some 5 _ rfl
              have z5 := hst.res.free 5
              have r6 := hst.res.cell_some 6 _ rfl
              have z6 := hst.res.free 6
              have r7 := hst.res.cell_some 7 _ rfl
              have z7 := hst.res.free 7
              have r8 := hst.res.cell_some 8 _ rfl
              have z8 := hst.res.free 8
              have r9 := hst.res.cell_some 9 _ rfl
              have z9 := hst.res.free 9
              have r10 := hst.res.cell_some 10 _ rfl
              have z10 := hst.res.free 10
              have r11 := hst.res.cell_some 11 _ rfl
              have z11 := hst.res.free 11
              have r12 := hst.res.cell_some 12 _ rfl
              have z12 := hst.res.free 12
              go_wp2_with fail
              obtain ⟨WS, hWS⟩ : ∃ W', (((((((((((((W.setCell ⟨B + 1, 0, none⟩ (.string NM)).setCell ⟨B + 1, 1, none⟩ (.int .i64 m.mode)).setCell ⟨B + 1, 2, none⟩ (.int .i64 U)).setCell ⟨B + 1, 3, none⟩ (.int .i64 G)).setCell ⟨B + 1, 4, none⟩ (.int .i64 (D.size : Nat))).setCell ⟨B + 1, 5, none⟩ (.int .i64 TM)).setCell ⟨B + 1, 6, none⟩ (.int .u8 (47 + k))).setCell ⟨B + 1, 7, none⟩ (.string LK)).setCell ⟨B + 1, 8, none⟩ (.string ⟨#[]⟩)).setCell ⟨B + 1, 9, none⟩ (.string ⟨#[]⟩)).setCell ⟨B + 1, 10, none⟩ (.int .i64 mj)).setCell ⟨B + 1, 11, none⟩ (.int .i64 mn)).setCell ⟨B + 1, 12, none⟩ (.string PR)) = W' := ⟨_, rfl⟩
              have hF : BlkIs WS (B + 1) 23 #[.string NM, .int .i64 m.mode, .int .i64 U, .int .i64 G, .int .i64 (D.size : Nat), .int .i64 TM, .int .u8 (47 + k), .string LK, .string ⟨#[]⟩, .string ⟨#[]⟩, .int .i64 mj, .int .i64 mn, .string PR] := by
                rw [← hWS]
                exact put13e (.string NM) (.int .i64 m.mode) (.int .i64 U) (.int .i64 G) (.int .i64 (D.size : Nat)) (.int .i64 TM) (.int .u8 (47 + k)) (.string LK) (.string ⟨#[]⟩) (.string ⟨#[]⟩) (.int .i64 mj) (.int .i64 mn) (.string PR) hst.res
              have hbF : Below B w WS := by
                rw [← hWS]
                subst hB
                exact (gr_set (gr_set (gr_set (gr_set (gr_set (gr_set (gr_set (gr_set (gr_set (gr_set (gr_set (gr_set (gr_set hst.below (p := ⟨w.heap.size + 1, 0, none⟩) (by show w.heap.size ≤ w.heap.size + 1; omega) (.string NM)) (p := ⟨w.heap.size + 1, 1, none⟩) (by show w.heap.size ≤ w.heap.size + 1; omega) (.int .i64 m.mode)) (p := ⟨w.heap.size + 1, 2, none⟩) (by show w.heap.size ≤ w.heap.size + 1; omega) (.int .i64 U)) (p := ⟨w.heap.size + 1, 3, none⟩) (by show w.heap.size ≤ w.heap.size + 1; omega) (.int .i64 G)) (p := ⟨w.heap.size + 1, 4, none⟩) (by show w.heap.size ≤ w.heap.size + 1; omega) (.int .i64 (D.size : Nat))) (p := ⟨w.heap.size + 1, 5, none⟩) (by show w.heap.size ≤ w.heap.size + 1; omega) (.int .i64 TM)) (p := ⟨w.heap.size + 1, 6, none⟩) (by show w.heap.size ≤ w.heap.size + 1; omega) (.int .u8 (47 + k))) (p := ⟨w.heap.size + 1, 7, none⟩) (by show w.heap.size ≤ w.heap.size + 1; omega) (.string LK)) (p := ⟨w.heap.size + 1, 8, none⟩) (by show w.heap.size ≤ w.heap.size + 1; omega) (.string ⟨#[]⟩)) (p := ⟨w.heap.size + 1, 9, none⟩) (by show w.heap.size ≤ w.heap.size + 1; omega) (.string ⟨#[]⟩)) (p := ⟨w.heap.size + 1, 10, none⟩) (by show w.heap.size ≤ w.heap.size + 1; omega) (.int .i64 mj)) (p := ⟨w.heap.size + 1, 11, none⟩) (by show w.heap.size ≤ w.heap.size + 1; omega) (.int .i64 mn)) (p := ⟨w.heap.size + 1, 12, none⟩) (by show w.heap.size ≤ w.heap.size + 1; omega) (.string PR))
              rw [hWS]
              clear hWS hst hg
              clear k0 r0 z0 k1 r1 z1 k2 r2 z2 k3 r3 z3 k4 r4 z4 k5 r5 z5 k6 r6 z6 k7 r7 z7 k8 r8 z8 k9 r9 z9 k10 r10 z10 k11 r11 z11 k12 r12 z12
              have k0 := hF.cell_some 0 _ rfl
              have k1 := hF.cell_some 1 _ rfl
              have k2 := hF.cell_some 2 _ rfl
              have k3 := hF.cell_some 3 _ rfl
              have k4 := hF.cell_some 4 _ rfl
              have k5 := hF.cell_some 5 _ rfl
              have k6 := hF.cell_some 6 _ rfl
              have k7 := hF.cell_some 7 _ rfl
              have k8 := hF.cell_some 8 _ rfl
              have k9 := hF.cell_some 9 _ rfl
              have k10 := hF.cell_some 10 _ rfl
              have k11 := hF.cell_some 11 _ rfl
              have k12 := hF.cell_some 12 _ rfl
              refine bodyPost_ret (v := .agg #[.string NM, .int .i64 m.mode, .int .i64 U, .int .i64 G, .int .i64 (D.size : Nat), .int .i64 TM, .int .u8 (47 + k), .string LK, .string ⟨#[]⟩, .string ⟨#[]⟩, .int .i64 mj, .int .i64 mn, .string PR]) ?_ rfl ⟨rfl, hbF⟩
              simp [results, Tryz.results23, go_sem, k0, k1, k2, k3, k4, k5, k6, k7, k8, k9, k10, k11, k12]
end Go.Proofs.YtbhnhoenjoagbaaGreatDoor
