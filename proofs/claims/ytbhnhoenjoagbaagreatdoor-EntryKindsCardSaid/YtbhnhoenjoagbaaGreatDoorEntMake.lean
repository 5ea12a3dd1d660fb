/- The laws of stage 15: Make, an entry by numbers. -/
import Derived.Test.YtbhnhoenjoagbaaGreatDoorPk25
import Derived.Test.YtbhnhoenjoagbaaGreatDoorMetaNums
import Derived.Test.YtbhnhoenjoagbaaGreatDoorPk26
import Derived.Test.YtbhnhoenjoagbaaGreatDoorEntSt
import Derived.Test.YtbhnhoenjoagbaaGreatDoorPk04
import Derived.Laws.ResultCell
import Derived.Deep.CutBlock
namespace Go.Proofs.YtbhnhoenjoagbaaGreatDoor
open Go.RowKit
open MetaM PathM EntM
set_option linter.unusedVariables false

def EntM.metaK (zs : List Int) (len : Nat) (k : Int) : Mt := if k = 2 then zeroM else madeM zs len k
theorem IsRow.upto {k : IntKind} {w : World} {a : Option Addr} {len cap : Nat} {zs : List Int} (h : IsRow k w a len cap zs) (n : Nat) (hn : n ≤ len) : IsRow k w a n cap zs := by
  rcases h with ⟨h1, h2, h3, h4⟩ | ⟨x, hx, hl, hm, hz, hc, hw⟩
  · exact .inl ⟨h1, by omega, h3, h4⟩
  · exact .inr ⟨x, hx, by omega, hm, hz, hc, hw⟩
theorem build_ent (P : ByteArray) (k : Int) (W : World) : (Instr.build 39 #[(0, .string P), (1, .int .i64 k)]).run Tryz.prog W = .ok (.agg #[.string P, .int .i64 k, .int .i64 0, .int .i64 0, .int .i64 0, .int .i64 0, .int .i64 0, .slice none 0 0, .slice none 0 0, .slice none 0 0, .int .i64 0, .int .u64 0, .int .u64 0, .bool false, .int .i64 0, .int .i64 0, .string ⟨#[]⟩, .string ⟨#[]⟩, .int .i64 0, .int .i64 0]) W := run_build W _ _ _ (by kernel_rfl)
theorem MetaAt.only {m : Mt} {va vd vx : Value} {w w1 : World} {g B : Nat} (h : MetaAt m va vd vx w) (ho : Only w w1 g) (hw : OwnM B va vd vx) (hg : g < B) : MetaAt m va vd vx w1 :=
  ⟨h.acl.grown ho.grown (fun q e c => by have := hw.a q e; injection c with c; omega), h.dfl.grown ho.grown (fun q e c => by have := hw.d q e; injection c with c; omega), h.xat.grown ho.grown (fun q e c => by have := hw.x q e; injection c with c; omega), h.la, h.ld, h.lx⟩
theorem row_range {w : World} {a : Option Addr} {len cap : Nat} {zs : List Int} (h : IsRow .u8 w a len cap zs) (h0 : 0 < len) : ∃ b off, a = some ⟨b, off, none⟩ ∧ b < w.heap.size ∧ len ≤ cap ∧ w.cell? ⟨b, off, none⟩ = some (.int .u8 (zs.getD 0 0)) ∧ 0 ≤ zs.getD 0 0 ∧ zs.getD 0 0 ≤ 255 := by
  obtain ⟨b, off, rfl, hb, hlc, hcells⟩ := h.open h0
  obtain ⟨c0, wf0⟩ := hcells 0 h0
  exact ⟨b, off, rfl, hb, hlc, c0, by simpa [Lit.wf, IntKind.min, IntKind.max, IntKind.signed, IntKind.bits] using wf0⟩
structure GoodK (zs : List Int) (len : Nat) (k : Int) : Prop where
  may : if k = 2 then metaK zs len k = zeroM else mayM (metaK zs len k) k = true
  short : Short (metaK zs len k)
def EntM.num0 (zs : List Int) (len : Nat) : Int := if 0 < len then zs.getD 0 0 else 0
structure MoreE (e : En) (k n : Int) : Prop where
  data : k = 1 → 3 ≤ e.data.size
  hard : k = 2 → e.target.data.toList.head? = some 112
  sym : k = 3 → 3 ≤ e.target.size
  other : k ≠ 2 → k ≠ 3 → e.target.size = 0
  major : dev k = true → e.major = n
attribute [local irreducible] Row At

set_option maxHeartbeats 6400000 in
set_option maxRecDepth 100000 in
theorem make15_any (k : Int) (P : ByteArray) (a : Option Addr) (len cap : Nat) (zs : List Int) (w : World) (hr : IsRow .u8 w a len cap zs) (hlen : len ≤ 9223372036854775807) (hk : 1 ≤ k ∧ k ≤ 7) :
    Calls Tryz.prog 16 #[.int .i64 k, .string P, .slice a len cap] w fun e w' => (∃ E va vd vx, e = .returned (.agg (entC E va vd vx)) ∧ MetaAt E.m va vd vx w' ∧ (MadeE E P k (metaK zs len k) ∧ MoreE E k (num0 zs len)) ∧ GoodK zs len k) ∧ Below w.heap.size w w' := by
  have HR := Lib.hid hr
  have hcap : len ≤ cap := by
    rcases hr with ⟨_, h2, h3, _⟩ | ⟨_, _, h, _⟩ <;> omega
  obtain ⟨R, hR⟩ : ∃ R, w.heap.size = R := ⟨_, rfl⟩
  have HRR := Lib.hid hR
  clear hr
  obtain ⟨N, hN⟩ : ∃ N : Nat, (if 0 < len then zs.getD 0 0 else 0) = (N : Int) ∧ N ≤ 255 := by
    by_cases h0 : 0 < len
    · rw [if_pos h0]
      obtain ⟨_, _, _, _, _, _, h1, h2⟩ := row_range HR.out h0
      exact ⟨(zs.getD 0 0).toNat, by omega, by omega⟩
    · rw [if_neg h0]; exact ⟨0, rfl, by omega⟩
  have HN := Lib.hid hN.1
  replace hN := hN.2
  have hbd := build_ent P k
  go_enter Tryz.func16, Tryz.ntmps16
  go_upto_region 1 with fail
  obtain ⟨W0, hW0⟩ : ∃ W, w.alloc (.cells #[.string ⟨#[]⟩, .int .i64 0, .int .i64 0, .int .i64 0, .int .i64 0, .int .i64 0, .int .i64 0, .slice none 0 0, .slice none 0 0, .slice none 0 0, .int .i64 0, .int .u64 0, .int .u64 0, .bool false, .int .i64 0, .int .i64 0, .string ⟨#[]⟩, .string ⟨#[]⟩, .int .i64 0, .int .i64 0] 39) = W := ⟨_, rfl⟩
  have qR : BlkIs W0 R 39 #[.string ⟨#[]⟩, .int .i64 0, .int .i64 0, .int .i64 0, .int .i64 0, .int .i64 0, .int .i64 0, .slice none 0 0, .slice none 0 0, .slice none 0 0, .int .i64 0, .int .u64 0, .int .u64 0, .bool false, .int .i64 0, .int .i64 0, .string ⟨#[]⟩, .string ⟨#[]⟩, .int .i64 0, .int .i64 0] := by rw [← hW0, ← hR]; exact BlkIs.made _ _ _
  have hbl : Below w.heap.size w W0 := by rw [← hW0]; exact gr_alloc (Below.refl _ _) _
  obtain ⟨G, hG⟩ : ∃ g, W0.heap.size = g := ⟨_, rfl⟩
  have hRG : R < G := by rw [← hG]; exact qR.size
  rw [hW0]
  clear hW0
  go_upto_region 2 with (with_reducible (show wpList _ _ _ (Oper.mk _ (Op.store 39 _ _) _ _ _ _ :: _) _ _); refine wpList_storeN rfl 39 (.tmp 7) (.tmp 11) rfl #[.string ⟨#[]⟩, .int .i64 0, .int .i64 0, .int .i64 0, .int .i64 0, .int .i64 0, .int .i64 0, .slice none 0 0, .slice none 0 0, .slice none 0 0, .int .i64 0, .int .u64 0, .int .u64 0, .bool false, .int .i64 0, .int .i64 0, .string ⟨#[]⟩, .string ⟨#[]⟩, .int .i64 0, .int .i64 0] #[.string P, .int .i64 k, .int .i64 0, .int .i64 0, .int .i64 0, .int .i64 0, .int .i64 0, .slice none 0 0, .slice none 0 0, .slice none 0 0, .int .i64 0, .int .u64 0, .int .u64 0, .bool false, .int .i64 0, .int .i64 0, .string ⟨#[]⟩, .string ⟨#[]⟩, .int .i64 0, .int .i64 0] (by simp [Act.eval, go_sem]) (by simp [Act.eval, go_sem]) (by kernel_rfl) rfl (by kernel_rfl) ?_)
  obtain ⟨W1, hW1⟩ : ∃ W, W0.alloc (.cells #[.string P, .int .i64 k, .int .i64 0, .int .i64 0, .int .i64 0, .int .i64 0, .int .i64 0, .slice none 0 0, .slice none 0 0, .slice none 0 0, .int .i64 0, .int .u64 0, .int .u64 0, .bool false, .int .i64 0, .int .i64 0, .string ⟨#[]⟩, .string ⟨#[]⟩, .int .i64 0, .int .i64 0] 39) = W := ⟨_, rfl⟩
  have qG : BlkIs W1 G 39 #[.string P, .int .i64 k, .int .i64 0, .int .i64 0, .int .i64 0, .int .i64 0, .int .i64 0, .slice none 0 0, .slice none 0 0, .slice none 0 0, .int .i64 0, .int .u64 0, .int .u64 0, .bool false, .int .i64 0, .int .i64 0, .string ⟨#[]⟩, .string ⟨#[]⟩, .int .i64 0, .int .i64 0] := by rw [← hW1, ← hG]; exact BlkIs.made _ _ _
  replace qR : BlkIs W1 R 39 #[.string ⟨#[]⟩, .int .i64 0, .int .i64 0, .int .i64 0, .int .i64 0, .int .i64 0, .int .i64 0, .slice none 0 0, .slice none 0 0, .slice none 0 0, .int .i64 0, .int .u64 0, .int .u64 0, .bool false, .int .i64 0, .int .i64 0, .string ⟨#[]⟩, .string ⟨#[]⟩, .int .i64 0, .int .i64 0] := by rw [← hW1]; exact qR.alloc _
  replace hbl : Below w.heap.size w W1 := by rw [← hW1]; exact gr_alloc hbl _
  rw [hW1]
  clear hW1 hG hbd
  go_upto_if 14 with fail
  go_cut [8] from 15 to 19 (fun s wx => s = .int .i64 (N : Int) ∧ wx = W1)
  case first =>
    by_cases h0 : 0 < len
    · obtain ⟨b, off, rfl, hb, _, c0, h1, h2⟩ := row_range HR.out h0
      have hn := HN.out
      rw [if_pos h0] at hn
      rw [hn] at c0
      replace c0 := cell_kept hbl c0
      have e1 : decide ((0 : Int) < (len : Int)) = true := decide_eq_true (by omega)
      have e2 : decide (0 < len) = true := decide_eq_true h0
      have w1 : IntKind.i64.wrap (N : Int) = (N : Int) := by rw [IntKind.wrap_i64]; omega
      clear hn h1 h2
      go_wp2_with fail
      go_meet
      exact ⟨rfl, rfl⟩
    · have hn := HN.out
      rw [if_neg h0] at hn
      have e1 : decide ((0 : Int) < (len : Int)) = false := decide_eq_false (by omega)
      have e2 : decide (0 < len) = false := decide_eq_false h0
      have hn2 := Lib.hid hn
      clear hn
      go_wp2_with fail
      go_meet
      exact ⟨by rw [hn2.out], rfl⟩
  case rest =>
    obtain ⟨rfl, hcw⟩ := hcut
    rename World => wc
    subst hcw
    have hGs := qG.size
    go_upto_if 20 with fail
    by_cases h2 : k = 2
    · have y2 : (k == 2) = true := by rw [h2]; rfl
      have HMK := Lib.hid (show metaK zs len k = zeroM from if_pos h2)
      have HTG := Lib.hid (fun (S : ByteArray) (h : pathOk S.data.toList = true) => show targetOk ⟨P, k, zeroM, ⟨#[]⟩, S, 0, 0⟩ = true by unfold targetOk; rw [if_pos h2]; exact h)
      have HGK := Lib.hid (show GoodK zs len k from ⟨by rw [if_pos h2, HMK.out], by rw [HMK.out]; exact short_zero⟩)
      have HK2 := Lib.hid (fun (S : ByteArray) (h : S.data.toList.head? = some 112) => show MoreE ⟨P, k, zeroM, ⟨#[]⟩, S, 0, 0⟩ k (num0 zs len) from ⟨fun e => (by rw [h2] at e; cases e), fun _ => h, fun e => (by rw [h2] at e; cases e), fun e => absurd h2 e, fun e => (by rw [h2] at e; cases e)⟩)
      clear h2
      obtain ⟨m, hm⟩ : ∃ m : Nat, min (len : Int) 4 = (m : Int) := ⟨min len 4, by omega⟩
      have hml : m ≤ len ∧ m ≤ 8 := by omega
      have HPT := Lib.hid (fun W (h : Below w.heap.size w W) => path15_head a m cap zs W (isRow_call (HR.out.upto m hml.1) h) (by omega))
      have hmc : (m : Int) ≤ (cap : Int) := by omega
      have hmc2 : m ≤ cap := by omega
      go_wp2_with fail
      refine (HPT.out _ hbl).mono ?_
      rintro e w2 ⟨⟨S, n, rfl, hn, hS, hSh⟩, hb2⟩
      have HS := Lib.hid hS
      have hSs : S.size ≤ 1000 := by have := hS.len; rw [list_size] at this; omega
      replace qG := qG.kept hb2 hGs
      replace qR := qR.kept hb2 (by omega)
      replace hbl := gr_call hbl hb2
      have k17 := qG.cell_some 17 _ rfl
      have f17 := qG.free 17
      clear hb2 hS HPT hGs
      go_upto_region 7 with fail
      obtain ⟨W5, hW5⟩ : ∃ W, w2.setCell ⟨G, 17, none⟩ (.string S) = W := ⟨_, rfl⟩
      replace qG : BlkIs W5 G 39 #[.string P, .int .i64 k, .int .i64 0, .int .i64 0, .int .i64 0, .int .i64 0, .int .i64 0, .slice none 0 0, .slice none 0 0, .slice none 0 0, .int .i64 0, .int .u64 0, .int .u64 0, .bool false, .int .i64 0, .int .i64 0, .string ⟨#[]⟩, .string S, .int .i64 0, .int .i64 0] := by rw [← hW5]; exact qG.put 17 _
      replace qR : BlkIs W5 R 39 #[.string ⟨#[]⟩, .int .i64 0, .int .i64 0, .int .i64 0, .int .i64 0, .int .i64 0, .int .i64 0, .slice none 0 0, .slice none 0 0, .slice none 0 0, .int .i64 0, .int .u64 0, .int .u64 0, .bool false, .int .i64 0, .int .i64 0, .string ⟨#[]⟩, .string ⟨#[]⟩, .int .i64 0, .int .i64 0] := by rw [← hW5]; exact qR.other (p := ⟨G, 17, none⟩) (by show R ≠ G; omega) _
      replace hbl : Below w.heap.size w W5 := by rw [← hW5]; exact gr_set hbl (p := ⟨G, 17, none⟩) (by show w.heap.size ≤ G; rw [HRR.out]; omega) _
      rw [hW5]
      clear hW5 k17 f17
      have HMD := Lib.hid (show MadeE ⟨P, k, zeroM, ⟨#[]⟩, S, 0, 0⟩ P k (metaK zs len k) ∧ MoreE ⟨P, k, zeroM, ⟨#[]⟩, S, 0, 0⟩ k (num0 zs len) from ⟨⟨rfl, rfl, HMK.out.symm, ⟨Nat.zero_le _, fun _ => rfl⟩, ⟨HTG.out S (HS.out.path hn), hSs⟩, ⟨rfl, fun _ => rfl⟩, ⟨rfl, fun _ => rfl⟩⟩, HK2.out S hSh⟩)
      clear HS HMK HTG HK2 hSh
      go_wp2_with (first | (with_reducible (show wpList _ _ _ (Oper.mk _ (Op.load 39 _) _ _ _ _ :: _) _ _); refine wpList_loadB (by simp [Region.wanted, yielded, go_sem]) 39 (.tmp 7) rfl G (by simp [Act.eval, go_sem]) 39 _ qG (by kernel_rfl) (by kernel_rfl) ?_) | (with_reducible (show wpList _ _ _ (Oper.mk _ (Op.store 39 _ _) _ _ _ _ :: _) _ _); refine wpList_storeB rfl 39 (.tmp 6) (.tmp 28) rfl R #[.string P, .int .i64 k, .int .i64 0, .int .i64 0, .int .i64 0, .int .i64 0, .int .i64 0, .slice none 0 0, .slice none 0 0, .slice none 0 0, .int .i64 0, .int .u64 0, .int .u64 0, .bool false, .int .i64 0, .int .i64 0, .string ⟨#[]⟩, .string S, .int .i64 0, .int .i64 0] (by simp [Act.eval, go_sem]) (by simp [Act.eval, go_sem]) 39 _ qR (by kernel_rfl) rfl (by simp [Value.oneCell', *]) ?_))
      intro W9 qR9 ho9
      have hbl9 := Lib.hid (ho9.below hbl (by omega))
      have HMT := Lib.hid (zero_at W9)
      clear qG qR hbl
      go_wp2_with fail
      refine bodyPost_ret (v := .agg #[.string P, .int .i64 k, .int .i64 0, .int .i64 0, .int .i64 0, .int .i64 0, .int .i64 0, .slice none 0 0, .slice none 0 0, .slice none 0 0, .int .i64 0, .int .u64 0, .int .u64 0, .bool false, .int .i64 0, .int .i64 0, .string ⟨#[]⟩, .string S, .int .i64 0, .int .i64 0]) (results_cell_row Tryz.results16 _ _ R 39 _ (0, 0) _ (by simp [Act.eval, go_sem]) qR9 Tryz.underlying39 rfl (by kernel_rfl)) rfl ⟨⟨⟨P, k, zeroM, ⟨#[]⟩, S, 0, 0⟩, nilV, nilV, nilV, rfl, HMT.out, HMD.out, HGK.out⟩, hbl9.out⟩
    · have y2 : (k == 2) = false := beq_eq_false_iff_ne.2 h2
      have hka : kAny k := by unfold kAny; omega
      have HMM := Lib.hid (fun W (h : Below w.heap.size w W) => metaMake_own a len cap zs k W (isRow_call HR.out h) hlen hka)
      have HMK := Lib.hid (show metaK zs len k = madeM zs len k from if_neg h2)
      generalize madeM zs len k = M at HMM HMK
      go_wp2_with fail
      refine (HMM.out _ hbl).mono ?_
      rintro e w2 ⟨⟨⟨va, vd, vx, rfl, hMA, hOW⟩, hmay, hXO⟩, hb2⟩
      have HGK := Lib.hid (show GoodK zs len k from ⟨by rw [if_neg h2, HMK.out]; exact hmay, by rw [HMK.out]; exact short_of hmay (by have := hXO.1; omega) (fun x hx => by have := hXO.2.2 x hx; omega)⟩)
      clear HMM hmay hXO
      obtain ⟨pa, ca, rfl, _⟩ := hMA.acl.shape
      obtain ⟨pd, cd, rfl, _⟩ := hMA.dfl.shape
      obtain ⟨px, cx, rfl, _⟩ := hMA.xat.shape
      obtain ⟨na, hna⟩ : ∃ n, M.acl.length = n := ⟨_, rfl⟩
      obtain ⟨nd, hnd⟩ : ∃ n, M.dfl.length = n := ⟨_, rfl⟩
      obtain ⟨nx, hnx⟩ : ∃ n, M.xat.length = n := ⟨_, rfl⟩
      rw [hna, hnd, hnx] at hMA hOW ⊢
      clear hna hnd hnx
      unfold metaC
      replace qG := qG.kept hb2 hGs
      replace qR := qR.kept hb2 (by omega)
      replace hbl := gr_call hbl hb2
      clear hb2
      go_upto_region 9 with (with_reducible (show wpList _ _ _ (Oper.mk _ (Op.store 37 _ _) _ _ _ _ :: _) _ _); refine wpList_storeP rfl 37 (.tmp 32) (.tmp 31) rfl G 2 #[.int .i64 M.mode, .int .i64 M.uid, .int .i64 M.gid, .int .i64 M.sec, .int .i64 M.nano, .slice pa na ca, .slice pd nd cd, .slice px nx cx, .int .i64 M.cap.v, .int .u64 (M.cap.p : Int), .int .u64 (M.cap.i : Int), .bool M.cap.e, .int .i64 M.cap.r, .int .i64 M.flags] (by simp [Act.eval, go_sem]) (by simp [Act.eval, go_sem]) 39 #[.string P, .int .i64 k, .int .i64 0, .int .i64 0, .int .i64 0, .int .i64 0, .int .i64 0, .slice none 0 0, .slice none 0 0, .slice none 0 0, .int .i64 0, .int .u64 0, .int .u64 0, .bool false, .int .i64 0, .int .i64 0, .string ⟨#[]⟩, .string ⟨#[]⟩, .int .i64 0, .int .i64 0] #[.string P, .int .i64 k, .int .i64 M.mode, .int .i64 M.uid, .int .i64 M.gid, .int .i64 M.sec, .int .i64 M.nano, .slice pa na ca, .slice pd nd cd, .slice px nx cx, .int .i64 M.cap.v, .int .u64 (M.cap.p : Int), .int .u64 (M.cap.i : Int), .bool M.cap.e, .int .i64 M.cap.r, .int .i64 M.flags, .string ⟨#[]⟩, .string ⟨#[]⟩, .int .i64 0, .int .i64 0] qG (by kernel_rfl) (by simp) (by kernel_rfl) (by kernel_rfl) ?_)
      intro W3 qG3 ho3
      have hGB : G < wc.heap.size := hGs
      replace hMA := hMA.only ho3 hOW hGB
      replace qR := ho3.blk qR (show R ≠ G by omega)
      replace hbl := ho3.below hbl (show w.heap.size ≤ G by rw [HRR.out]; omega)
      replace qG := qG3
      clear qG3 ho3 hGs
      have HTO := Lib.hid (fun (D : ByteArray) (mj mn : Int) (h3 : k ≠ 3) => show targetOk ⟨P, k, M, D, ⟨#[]⟩, mj, mn⟩ = true by unfold targetOk; rw [if_neg h2, if_neg h3]; rfl)
      have HDV := Lib.hid (show dev k = (decide (k = 4) || decide (k = 5)) from rfl)
      by_cases h1 : k = 1
      · have y1 : (k == 1) = true := by rw [h1]; rfl
        have HMD2 := Lib.hid (fun (D : ByteArray) (hD : D.size ≤ 800) (hD3 : 3 ≤ D.size) => show MadeE ⟨P, k, M, D, ⟨#[]⟩, 0, 0⟩ P k (metaK zs len k) ∧ MoreE ⟨P, k, M, D, ⟨#[]⟩, 0, 0⟩ k (num0 zs len) from ⟨⟨rfl, rfl, HMK.out.symm, ⟨hD, fun h => absurd h1 h⟩, ⟨HTO.out D 0 0 (by omega), Nat.zero_le _⟩, ⟨rfl, fun _ => rfl⟩, ⟨rfl, fun _ => rfl⟩⟩, ⟨fun _ => hD3, fun e => absurd e h2, fun e => (by rw [h1] at e; cases e), fun _ _ => rfl, fun e => (by rw [h1] at e; cases e)⟩⟩)
        clear h1 h2 hka HTO HDV HMK
        have w3 : IntKind.i64.wrap ((N : Int) * 3) = (N : Int) * 3 := by rw [IntKind.wrap_i64]; omega
        go_wp2_with (at_make; refine wp_make rfl _ _ rfl _ (3 * N) ((N : Int) * 3) ((N : Int) * 3) (by simp [Act.eval, go_sem]) (by simp [Act.eval, go_sem]) (by omega) (by omega) (by omega) ?_)
        intro w4 _ hb4 hcv
        have hZs : (⟨Array.replicate (3 * N) (0 : UInt8)⟩ : ByteArray).size = 3 * N := by simp [ByteArray.size]
        obtain ⟨ZS, hZ⟩ : ∃ S : ByteArray, ⟨Array.replicate (3 * N) (0 : UInt8)⟩ = S := ⟨_, rfl⟩
        rw [hZ] at hcv hZs
        have hZ2 : ZS.size ≤ 765 := by omega
        have hDs : (ZS ++ (⟨#[101, 110, 100]⟩ : ByteArray)).size ≤ 800 := by rw [app_size]; have : (⟨#[101, 110, 100]⟩ : ByteArray).size = 3 := rfl; omega
        have hDs3 : 3 ≤ (ZS ++ (⟨#[101, 110, 100]⟩ : ByteArray)).size := by rw [app_size]; have : (⟨#[101, 110, 100]⟩ : ByteArray).size = 3 := rfl; omega
        have HMD := Lib.hid (HMD2.out _ hDs hDs3)
        replace qG := qG.kept hb4 qG.size
        replace qR := qR.kept hb4 qR.size
        replace hMA := hMA.call hb4
        replace hbl := gr_call hbl hb4
        have k16 := qG.cell_some 16 _ rfl
        have f16 := qG.free 16
        clear hb4 hZ hZs hDs hDs3 HMD2
        go_upto_region 18 with fail
        obtain ⟨W5, hW5⟩ : ∃ W, w4.setCell ⟨G, 16, none⟩ (.string (ZS ++ (⟨#[101, 110, 100]⟩ : ByteArray))) = W := ⟨_, rfl⟩
        replace qG : BlkIs W5 G 39 #[.string P, .int .i64 k, .int .i64 M.mode, .int .i64 M.uid, .int .i64 M.gid, .int .i64 M.sec, .int .i64 M.nano, .slice pa na ca, .slice pd nd cd, .slice px nx cx, .int .i64 M.cap.v, .int .u64 (M.cap.p : Int), .int .u64 (M.cap.i : Int), .bool M.cap.e, .int .i64 M.cap.r, .int .i64 M.flags, .string (ZS ++ (⟨#[101, 110, 100]⟩ : ByteArray)), .string ⟨#[]⟩, .int .i64 0, .int .i64 0] := by rw [← hW5]; exact qG.put 16 _
        replace qR : BlkIs W5 R 39 #[.string ⟨#[]⟩, .int .i64 0, .int .i64 0, .int .i64 0, .int .i64 0, .int .i64 0, .int .i64 0, .slice none 0 0, .slice none 0 0, .slice none 0 0, .int .i64 0, .int .u64 0, .int .u64 0, .bool false, .int .i64 0, .int .i64 0, .string ⟨#[]⟩, .string ⟨#[]⟩, .int .i64 0, .int .i64 0] := by rw [← hW5]; exact qR.other (p := ⟨G, 16, none⟩) (by show R ≠ G; omega) _
        replace hMA := hMA.only (show Only _ W5 G by rw [← hW5]; exact Only.set _ G 16 _) hOW hGB
        replace hbl : Below w.heap.size w W5 := by rw [← hW5]; exact gr_set hbl (p := ⟨G, 16, none⟩) (by show w.heap.size ≤ G; rw [HRR.out]; omega) _
        rw [hW5]
        clear hW5 k16 f16
        go_wp2_with (first | (with_reducible (show wpList _ _ _ (Oper.mk _ (Op.load 39 _) _ _ _ _ :: _) _ _); refine wpList_loadB (by simp [Region.wanted, yielded, go_sem]) 39 (.tmp 7) rfl G (by simp [Act.eval, go_sem]) 39 _ qG (by kernel_rfl) (by kernel_rfl) ?_) | (with_reducible (show wpList _ _ _ (Oper.mk _ (Op.store 39 _ _) _ _ _ _ :: _) _ _); refine wpList_storeB rfl 39 (.tmp 6) (.tmp 60) rfl R #[.string P, .int .i64 k, .int .i64 M.mode, .int .i64 M.uid, .int .i64 M.gid, .int .i64 M.sec, .int .i64 M.nano, .slice pa na ca, .slice pd nd cd, .slice px nx cx, .int .i64 M.cap.v, .int .u64 (M.cap.p : Int), .int .u64 (M.cap.i : Int), .bool M.cap.e, .int .i64 M.cap.r, .int .i64 M.flags, .string (ZS ++ (⟨#[101, 110, 100]⟩ : ByteArray)), .string ⟨#[]⟩, .int .i64 0, .int .i64 0] (by simp [Act.eval, go_sem]) (by simp [Act.eval, go_sem]) 39 _ qR (by kernel_rfl) rfl (by simp [Value.oneCell', *]) ?_))
        intro W9 qR9 ho9
        have hbl9 := Lib.hid (ho9.below hbl (by omega))
        have HMT := Lib.hid ((hMA.only ho9 hOW (by omega) : MetaAt M _ _ _ W9))
        clear qG qR hbl
        go_wp2_with fail
        refine bodyPost_ret (v := .agg #[.string P, .int .i64 k, .int .i64 M.mode, .int .i64 M.uid, .int .i64 M.gid, .int .i64 M.sec, .int .i64 M.nano, .slice pa na ca, .slice pd nd cd, .slice px nx cx, .int .i64 M.cap.v, .int .u64 (M.cap.p : Int), .int .u64 (M.cap.i : Int), .bool M.cap.e, .int .i64 M.cap.r, .int .i64 M.flags, .string (ZS ++ (⟨#[101, 110, 100]⟩ : ByteArray)), .string ⟨#[]⟩, .int .i64 0, .int .i64 0]) (results_cell_row Tryz.results16 _ _ R 39 _ (0, 0) _ (by simp [Act.eval, go_sem]) qR9 Tryz.underlying39 rfl (by kernel_rfl)) rfl ⟨⟨⟨P, k, M, ZS ++ (⟨#[101, 110, 100]⟩ : ByteArray), ⟨#[]⟩, 0, 0⟩, (.slice pa na ca), (.slice pd nd cd), (.slice px nx cx), rfl, HMT.out, HMD.out, HGK.out⟩, hbl9.out⟩
      · have y1 : (k == 1) = false := beq_eq_false_iff_ne.2 h1
        by_cases h3 : k = 3
        · have y3 : (k == 3) = true := by rw [h3]; rfl
          have HTO2 := Lib.hid (fun (S : ByteArray) (hs : S.size ≤ 4096) (h0 : S.size ≠ 0) (hz : (0 : UInt8) ∉ S.data.toList) => show targetOk ⟨P, k, M, ⟨#[]⟩, S, 0, 0⟩ = true by
            unfold targetOk; rw [if_neg h2, if_pos h3]
            show (decide (1 ≤ S.size) && decide (S.size ≤ 4096) && decide ((0 : UInt8) ∉ S.data.toList)) = true
            rw [decide_eq_true (show 1 ≤ S.size by omega), decide_eq_true hs, decide_eq_true hz]; rfl)
          have HMD2 := Lib.hid (fun (S : ByteArray) (hs : S.size ≤ 1000) (h0 : 3 ≤ S.size) (hz : (0 : UInt8) ∉ S.data.toList) => show MadeE ⟨P, k, M, ⟨#[]⟩, S, 0, 0⟩ P k (metaK zs len k) ∧ MoreE ⟨P, k, M, ⟨#[]⟩, S, 0, 0⟩ k (num0 zs len) from ⟨⟨rfl, rfl, HMK.out.symm, ⟨Nat.zero_le _, fun _ => rfl⟩, ⟨HTO2.out S (by omega) (by omega) hz, hs⟩, ⟨rfl, fun _ => rfl⟩, ⟨rfl, fun _ => rfl⟩⟩, ⟨fun e => absurd e h1, fun e => absurd e h2, fun _ => h0, fun _ e => absurd h3 e, fun e => (by rw [h3] at e; cases e)⟩⟩)
          clear h1 h2 h3 hka HTO HDV HMK HTO2
          obtain ⟨m, hm⟩ : ∃ m : Nat, min (len : Int) 6 = (m : Int) := ⟨min len 6, by omega⟩
          have hml : m ≤ len ∧ m ≤ 8 := by omega
          have HPT := Lib.hid (fun W (h : Below w.heap.size w W) => path15_head a m cap zs W (isRow_call (HR.out.upto m hml.1) h) (by omega))
          have hmc : (m : Int) ≤ (cap : Int) := by omega
          have hmc2 : m ≤ cap := by omega
          go_wp2_with fail
          refine (HPT.out _ hbl).mono ?_
          rintro e w4 ⟨⟨S, n, rfl, hn, hS, _⟩, hb4⟩
          have hSs : S.size ≤ 700 := by have := hS.len; rw [list_size] at this; omega
          have hTs : ((⟨#[46, 46, 47]⟩ : ByteArray) ++ S).size ≤ 1000 ∧ 3 ≤ ((⟨#[46, 46, 47]⟩ : ByteArray) ++ S).size := by rw [app_size]; have : (⟨#[46, 46, 47]⟩ : ByteArray).size = 3 := rfl; omega
          have hTz : (0 : UInt8) ∉ ((⟨#[46, 46, 47]⟩ : ByteArray) ++ S).data.toList := by
            rw [app_list]
            intro h
            rcases List.mem_append.1 h with h | h
            · exact absurd h (by decide)
            · exact hS.zero h
          have HMD := Lib.hid (HMD2.out _ hTs.1 hTs.2 hTz)
          replace qG := qG.kept hb4 qG.size
          replace qR := qR.kept hb4 qR.size
          replace hMA := hMA.call hb4
          replace hbl := gr_call hbl hb4
          have k16 := qG.cell_some 17 _ rfl
          have f16 := qG.free 17
          clear hb4 HMD2 HPT hS hTs hTz
          go_upto_region 18 with fail
          obtain ⟨W5, hW5⟩ : ∃ W, w4.setCell ⟨G, 17, none⟩ (.string ((⟨#[46, 46, 47]⟩ : ByteArray) ++ S)) = W := ⟨_, rfl⟩
          replace qG : BlkIs W5 G 39 #[.string P, .int .i64 k, .int .i64 M.mode, .int .i64 M.uid, .int .i64 M.gid, .int .i64 M.sec, .int .i64 M.nano, .slice pa na ca, .slice pd nd cd, .slice px nx cx, .int .i64 M.cap.v, .int .u64 (M.cap.p : Int), .int .u64 (M.cap.i : Int), .bool M.cap.e, .int .i64 M.cap.r, .int .i64 M.flags, .string ⟨#[]⟩, .string ((⟨#[46, 46, 47]⟩ : ByteArray) ++ S), .int .i64 0, .int .i64 0] := by rw [← hW5]; exact qG.put 17 _
          replace qR : BlkIs W5 R 39 #[.string ⟨#[]⟩, .int .i64 0, .int .i64 0, .int .i64 0, .int .i64 0, .int .i64 0, .int .i64 0, .slice none 0 0, .slice none 0 0, .slice none 0 0, .int .i64 0, .int .u64 0, .int .u64 0, .bool false, .int .i64 0, .int .i64 0, .string ⟨#[]⟩, .string ⟨#[]⟩, .int .i64 0, .int .i64 0] := by rw [← hW5]; exact qR.other (p := ⟨G, 17, none⟩) (by show R ≠ G; omega) _
          replace hMA := hMA.only (show Only _ W5 G by rw [← hW5]; exact Only.set _ G 17 _) hOW hGB
          replace hbl : Below w.heap.size w W5 := by rw [← hW5]; exact gr_set hbl (p := ⟨G, 17, none⟩) (by show w.heap.size ≤ G; rw [HRR.out]; omega) _
          rw [hW5]
          clear hW5 k16 f16
          go_wp2_with (first | (with_reducible (show wpList _ _ _ (Oper.mk _ (Op.load 39 _) _ _ _ _ :: _) _ _); refine wpList_loadB (by simp [Region.wanted, yielded, go_sem]) 39 (.tmp 7) rfl G (by simp [Act.eval, go_sem]) 39 _ qG (by kernel_rfl) (by kernel_rfl) ?_) | (with_reducible (show wpList _ _ _ (Oper.mk _ (Op.store 39 _ _) _ _ _ _ :: _) _ _); refine wpList_storeB rfl 39 (.tmp 6) (.tmp 60) rfl R #[.string P, .int .i64 k, .int .i64 M.mode, .int .i64 M.uid, .int .i64 M.gid, .int .i64 M.sec, .int .i64 M.nano, .slice pa na ca, .slice pd nd cd, .slice px nx cx, .int .i64 M.cap.v, .int .u64 (M.cap.p : Int), .int .u64 (M.cap.i : Int), .bool M.cap.e, .int .i64 M.cap.r, .int .i64 M.flags, .string ⟨#[]⟩, .string ((⟨#[46, 46, 47]⟩ : ByteArray) ++ S), .int .i64 0, .int .i64 0] (by simp [Act.eval, go_sem]) (by simp [Act.eval, go_sem]) 39 _ qR (by kernel_rfl) rfl (by simp [Value.oneCell', *]) ?_))
          intro W9 qR9 ho9
          have hbl9 := Lib.hid (ho9.below hbl (by omega))
          have HMT := Lib.hid ((hMA.only ho9 hOW (by omega) : MetaAt M _ _ _ W9))
          clear qG qR hbl
          go_wp2_with fail
          refine bodyPost_ret (v := .agg #[.string P, .int .i64 k, .int .i64 M.mode, .int .i64 M.uid, .int .i64 M.gid, .int .i64 M.sec, .int .i64 M.nano, .slice pa na ca, .slice pd nd cd, .slice px nx cx, .int .i64 M.cap.v, .int .u64 (M.cap.p : Int), .int .u64 (M.cap.i : Int), .bool M.cap.e, .int .i64 M.cap.r, .int .i64 M.flags, .string ⟨#[]⟩, .string ((⟨#[46, 46, 47]⟩ : ByteArray) ++ S), .int .i64 0, .int .i64 0]) (results_cell_row Tryz.results16 _ _ R 39 _ (0, 0) _ (by simp [Act.eval, go_sem]) qR9 Tryz.underlying39 rfl (by kernel_rfl)) rfl ⟨⟨⟨P, k, M, ⟨#[]⟩, (⟨#[46, 46, 47]⟩ : ByteArray) ++ S, 0, 0⟩, (.slice pa na ca), (.slice pd nd cd), (.slice px nx cx), rfl, HMT.out, HMD.out, HGK.out⟩, hbl9.out⟩
        · have y3 : (k == 3) = false := beq_eq_false_iff_ne.2 h3
          have HTO2 := Lib.hid (fun (mj mn : Int) => HTO.out ⟨#[]⟩ mj mn h3)
          by_cases h4 : k = 4 ∨ k = 5
          · have HMD := Lib.hid (show MadeE ⟨P, k, M, ⟨#[]⟩, ⟨#[]⟩, (N : Int), (N : Int) * 200⟩ P k (metaK zs len k) ∧ MoreE ⟨P, k, M, ⟨#[]⟩, ⟨#[]⟩, (N : Int), (N : Int) * 200⟩ k (num0 zs len) from ⟨⟨rfl, rfl, HMK.out.symm, ⟨Nat.zero_le _, fun _ => rfl⟩, ⟨HTO2.out _ _, Nat.zero_le _⟩,
              ⟨by unfold numOk; rw [decide_eq_true (show (0 : Int) ≤ (N : Int) by omega), decide_eq_true (show (N : Int) ≤ 2097151 by omega)]; rfl, fun h => by rw [HDV.out] at h; rcases h4 with h4 | h4 <;> rw [h4] at h <;> cases h⟩,
              ⟨by unfold numOk; rw [decide_eq_true (show (0 : Int) ≤ (N : Int) * 200 by omega), decide_eq_true (show (N : Int) * 200 ≤ 2097151 by omega)]; rfl, fun h => by rw [HDV.out] at h; rcases h4 with h4 | h4 <;> rw [h4] at h <;> cases h⟩⟩, ⟨fun e => absurd e h1, fun e => absurd e h2, fun e => absurd e h3, fun _ _ => rfl, fun _ => (show (N : Int) = num0 zs len from HN.out.symm)⟩⟩)
            have w3 : IntKind.i64.wrap ((N : Int) * 200) = (N : Int) * 200 := by rw [IntKind.wrap_i64]; omega
            have k16 := qG.cell_some 18 _ rfl
            have f16 := qG.free 18
            have k17 := qG.cell_some 19 _ rfl
            have f17 := qG.free 19
            have y45 : ((k == 4) = true) ∨ ((k == 4) = false ∧ (k == 5) = true) := by
              rcases h4 with h4 | h4
              · exact .inl (by rw [h4]; rfl)
              · exact .inr ⟨by rw [h4]; rfl, by rw [h4]; rfl⟩
            clear h1 h2 h3 hka HTO HDV HMK HTO2 h4
            rcases y45 with y4 | ⟨y4, y5⟩
            · go_upto_region 18 with fail
              obtain ⟨W5, hW5⟩ : ∃ W, (W3.setCell ⟨G, 18, none⟩ (.int .i64 (N : Int))).setCell ⟨G, 19, none⟩ (.int .i64 ((N : Int) * 200)) = W := ⟨_, rfl⟩
              replace qG : BlkIs W5 G 39 #[.string P, .int .i64 k, .int .i64 M.mode, .int .i64 M.uid, .int .i64 M.gid, .int .i64 M.sec, .int .i64 M.nano, .slice pa na ca, .slice pd nd cd, .slice px nx cx, .int .i64 M.cap.v, .int .u64 (M.cap.p : Int), .int .u64 (M.cap.i : Int), .bool M.cap.e, .int .i64 M.cap.r, .int .i64 M.flags, .string ⟨#[]⟩, .string ⟨#[]⟩, .int .i64 (N : Int), .int .i64 ((N : Int) * 200)] := by rw [← hW5]; exact (qG.put 18 _).put 19 _
              have hon : Only W3 W5 G := by rw [← hW5]; exact (Only.set _ G 18 _).trans (Only.set _ G 19 _)
              replace qR := hon.blk qR (show R ≠ G by omega)
              replace hMA := hMA.only hon hOW hGB
              replace hbl := hon.below hbl (show w.heap.size ≤ G by rw [HRR.out]; omega)
              rw [hW5]
              clear hW5 hon k16 f16 k17 f17
              go_wp2_with (first | (with_reducible (show wpList _ _ _ (Oper.mk _ (Op.load 39 _) _ _ _ _ :: _) _ _); refine wpList_loadB (by simp [Region.wanted, yielded, go_sem]) 39 (.tmp 7) rfl G (by simp [Act.eval, go_sem]) 39 _ qG (by kernel_rfl) (by kernel_rfl) ?_) | (with_reducible (show wpList _ _ _ (Oper.mk _ (Op.store 39 _ _) _ _ _ _ :: _) _ _); refine wpList_storeB rfl 39 (.tmp 6) (.tmp 60) rfl R #[.string P, .int .i64 k, .int .i64 M.mode, .int .i64 M.uid, .int .i64 M.gid, .int .i64 M.sec, .int .i64 M.nano, .slice pa na ca, .slice pd nd cd, .slice px nx cx, .int .i64 M.cap.v, .int .u64 (M.cap.p : Int), .int .u64 (M.cap.i : Int), .bool M.cap.e, .int .i64 M.cap.r, .int .i64 M.flags, .string ⟨#[]⟩, .string ⟨#[]⟩, .int .i64 (N : Int), .int .i64 ((N : Int) * 200)] (by simp [Act.eval, go_sem]) (by simp [Act.eval, go_sem]) 39 _ qR (by kernel_rfl) rfl (by simp [Value.oneCell', *]) ?_))
              intro W9 qR9 ho9
              have hbl9 := Lib.hid (ho9.below hbl (by omega))
              have HMT := Lib.hid ((hMA.only ho9 hOW (by omega) : MetaAt M _ _ _ W9))
              clear qG qR hbl
              go_wp2_with fail
              refine bodyPost_ret (v := .agg #[.string P, .int .i64 k, .int .i64 M.mode, .int .i64 M.uid, .int .i64 M.gid, .int .i64 M.sec, .int .i64 M.nano, .slice pa na ca, .slice pd nd cd, .slice px nx cx, .int .i64 M.cap.v, .int .u64 (M.cap.p : Int), .int .u64 (M.cap.i : Int), .bool M.cap.e, .int .i64 M.cap.r, .int .i64 M.flags, .string ⟨#[]⟩, .string ⟨#[]⟩, .int .i64 (N : Int), .int .i64 ((N : Int) * 200)]) (results_cell_row Tryz.results16 _ _ R 39 _ (0, 0) _ (by simp [Act.eval, go_sem]) qR9 Tryz.underlying39 rfl (by kernel_rfl)) rfl ⟨⟨⟨P, k, M, ⟨#[]⟩, ⟨#[]⟩, (N : Int), (N : Int) * 200⟩, (.slice pa na ca), (.slice pd nd cd), (.slice px nx cx), rfl, HMT.out, HMD.out, HGK.out⟩, hbl9.out⟩
            · go_upto_region 18 with fail
              obtain ⟨W5, hW5⟩ : ∃ W, (W3.setCell ⟨G, 18, none⟩ (.int .i64 (N : Int))).setCell ⟨G, 19, none⟩ (.int .i64 ((N : Int) * 200)) = W := ⟨_, rfl⟩
              replace qG : BlkIs W5 G 39 #[.string P, .int .i64 k, .int .i64 M.mode, .int .i64 M.uid, .int .i64 M.gid, .int .i64 M.sec, .int .i64 M.nano, .slice pa na ca, .slice pd nd cd, .slice px nx cx, .int .i64 M.cap.v, .int .u64 (M.cap.p : Int), .int .u64 (M.cap.i : Int), .bool M.cap.e, .int .i64 M.cap.r, .int .i64 M.flags, .string ⟨#[]⟩, .string ⟨#[]⟩, .int .i64 (N : Int), .int .i64 ((N : Int) * 200)] := by rw [← hW5]; exact (qG.put 18 _).put 19 _
              have hon : Only W3 W5 G := by rw [← hW5]; exact (Only.set _ G 18 _).trans (Only.set _ G 19 _)
              replace qR := hon.blk qR (show R ≠ G by omega)
              replace hMA := hMA.only hon hOW hGB
              replace hbl := hon.below hbl (show w.heap.size ≤ G by rw [HRR.out]; omega)
              rw [hW5]
              clear hW5 hon k16 f16 k17 f17
              go_wp2_with (first | (with_reducible (show wpList _ _ _ (Oper.mk _ (Op.load 39 _) _ _ _ _ :: _) _ _); refine wpList_loadB (by simp [Region.wanted, yielded, go_sem]) 39 (.tmp 7) rfl G (by simp [Act.eval, go_sem]) 39 _ qG (by kernel_rfl) (by kernel_rfl) ?_) | (with_reducible (show wpList _ _ _ (Oper.mk _ (Op.store 39 _ _) _ _ _ _ :: _) _ _); refine wpList_storeB rfl 39 (.tmp 6) (.tmp 60) rfl R #[.string P, .int .i64 k, .int .i64 M.mode, .int .i64 M.uid, .int .i64 M.gid, .int .i64 M.sec, .int .i64 M.nano, .slice pa na ca, .slice pd nd cd, .slice px nx cx, .int .i64 M.cap.v, .int .u64 (M.cap.p : Int), .int .u64 (M.cap.i : Int), .bool M.cap.e, .int .i64 M.cap.r, .int .i64 M.flags, .string ⟨#[]⟩, .string ⟨#[]⟩, .int .i64 (N : Int), .int .i64 ((N : Int) * 200)] (by simp [Act.eval, go_sem]) (by simp [Act.eval, go_sem]) 39 _ qR (by kernel_rfl) rfl (by simp [Value.oneCell', *]) ?_))
              intro W9 qR9 ho9
              have hbl9 := Lib.hid (ho9.below hbl (by omega))
              have HMT := Lib.hid ((hMA.only ho9 hOW (by omega) : MetaAt M _ _ _ W9))
              clear qG qR hbl
              go_wp2_with fail
              refine bodyPost_ret (v := .agg #[.string P, .int .i64 k, .int .i64 M.mode, .int .i64 M.uid, .int .i64 M.gid, .int .i64 M.sec, .int .i64 M.nano, .slice pa na ca, .slice pd nd cd, .slice px nx cx, .int .i64 M.cap.v, .int .u64 (M.cap.p : Int), .int .u64 (M.cap.i : Int), .bool M.cap.e, .int .i64 M.cap.r, .int .i64 M.flags, .string ⟨#[]⟩, .string ⟨#[]⟩, .int .i64 (N : Int), .int .i64 ((N : Int) * 200)]) (results_cell_row Tryz.results16 _ _ R 39 _ (0, 0) _ (by simp [Act.eval, go_sem]) qR9 Tryz.underlying39 rfl (by kernel_rfl)) rfl ⟨⟨⟨P, k, M, ⟨#[]⟩, ⟨#[]⟩, (N : Int), (N : Int) * 200⟩, (.slice pa na ca), (.slice pd nd cd), (.slice px nx cx), rfl, HMT.out, HMD.out, HGK.out⟩, hbl9.out⟩
          · have HMD := Lib.hid (show MadeE ⟨P, k, M, ⟨#[]⟩, ⟨#[]⟩, 0, 0⟩ P k (metaK zs len k) ∧ MoreE ⟨P, k, M, ⟨#[]⟩, ⟨#[]⟩, 0, 0⟩ k (num0 zs len) from ⟨⟨rfl, rfl, HMK.out.symm, ⟨Nat.zero_le _, fun _ => rfl⟩, ⟨HTO2.out _ _, Nat.zero_le _⟩, ⟨rfl, fun _ => rfl⟩, ⟨rfl, fun _ => rfl⟩⟩, ⟨fun e => absurd e h1, fun e => absurd e h2, fun e => absurd e h3, fun _ _ => rfl, fun e => (by rw [HDV.out] at e; simp only [Bool.or_eq_true, decide_eq_true_eq] at e; exact absurd e h4)⟩⟩)
            have y4 : (k == 4) = false := beq_eq_false_iff_ne.2 (fun h => h4 (.inl h))
            have y5 : (k == 5) = false := beq_eq_false_iff_ne.2 (fun h => h4 (.inr h))
            clear h1 h2 h3 hka HTO HDV HMK HTO2 h4
            go_upto_region 18 with fail
            go_wp2_with (first | (with_reducible (show wpList _ _ _ (Oper.mk _ (Op.load 39 _) _ _ _ _ :: _) _ _); refine wpList_loadB (by simp [Region.wanted, yielded, go_sem]) 39 (.tmp 7) rfl G (by simp [Act.eval, go_sem]) 39 _ qG (by kernel_rfl) (by kernel_rfl) ?_) | (with_reducible (show wpList _ _ _ (Oper.mk _ (Op.store 39 _ _) _ _ _ _ :: _) _ _); refine wpList_storeB rfl 39 (.tmp 6) (.tmp 60) rfl R #[.string P, .int .i64 k, .int .i64 M.mode, .int .i64 M.uid, .int .i64 M.gid, .int .i64 M.sec, .int .i64 M.nano, .slice pa na ca, .slice pd nd cd, .slice px nx cx, .int .i64 M.cap.v, .int .u64 (M.cap.p : Int), .int .u64 (M.cap.i : Int), .bool M.cap.e, .int .i64 M.cap.r, .int .i64 M.flags, .string ⟨#[]⟩, .string ⟨#[]⟩, .int .i64 0, .int .i64 0] (by simp [Act.eval, go_sem]) (by simp [Act.eval, go_sem]) 39 _ qR (by kernel_rfl) rfl (by simp [Value.oneCell', *]) ?_))
            intro W9 qR9 ho9
            have hbl9 := Lib.hid (ho9.below hbl (by omega))
            have HMT := Lib.hid ((hMA.only ho9 hOW (by omega) : MetaAt M _ _ _ W9))
            clear qG qR hbl
            go_wp2_with fail
            refine bodyPost_ret (v := .agg #[.string P, .int .i64 k, .int .i64 M.mode, .int .i64 M.uid, .int .i64 M.gid, .int .i64 M.sec, .int .i64 M.nano, .slice pa na ca, .slice pd nd cd, .slice px nx cx, .int .i64 M.cap.v, .int .u64 (M.cap.p : Int), .int .u64 (M.cap.i : Int), .bool M.cap.e, .int .i64 M.cap.r, .int .i64 M.flags, .string ⟨#[]⟩, .string ⟨#[]⟩, .int .i64 0, .int .i64 0]) (results_cell_row Tryz.results16 _ _ R 39 _ (0, 0) _ (by simp [Act.eval, go_sem]) qR9 Tryz.underlying39 rfl (by kernel_rfl)) rfl ⟨⟨⟨P, k, M, ⟨#[]⟩, ⟨#[]⟩, 0, 0⟩, (.slice pa na ca), (.slice pd nd cd), (.slice px nx cx), rfl, HMT.out, HMD.out, HGK.out⟩, hbl9.out⟩
end Go.Proofs.YtbhnhoenjoagbaaGreatDoor
