/- The law EntryFields, walked. -/
import Derived.Test.YtbhnhoenjoagbaaGreatDoorPk29
import Derived.Test.YtbhnhoenjoagbaaGreatDoorPk06
import Derived.Deep.CutBlock
namespace Go.Proofs.YtbhnhoenjoagbaaGreatDoor
open Go.RowKit
open MetaM PathM EntM
set_option linter.unusedVariables false

def CE (P : ByteArray) (U G S T : Int) : Array Value := #[.string P, .int .i64 7, .int .i64 0, .int .i64 U, .int .i64 G, .int .i64 S, .int .i64 T, .slice none 0 0, .slice none 0 0, .slice none 0 0, .int .i64 0, .int .u64 0, .int .u64 0, .bool false, .int .i64 0, .int .i64 0, .string ⟨#[]⟩, .string ⟨#[]⟩, .int .i64 0, .int .i64 0]
theorem ce_ent {n : Nat} {P : ByteArray} {U G S T : Int} (h : strOf (List.replicate n 110) = P) : entC (FE n U G S T) nilV nilV nilV = CE P U G S T := by subst h; rfl
theorem f_build (P : ByteArray) (W : World) : (Instr.build 39 #[(0, .string P), (1, .int .i64 7)]).run Tryz.prog W = .ok (.agg #[.string P, .int .i64 7, .int .i64 0, .int .i64 0, .int .i64 0, .int .i64 0, .int .i64 0, .slice none 0 0, .slice none 0 0, .slice none 0 0, .int .i64 0, .int .u64 0, .int .u64 0, .bool false, .int .i64 0, .int .i64 0, .string ⟨#[]⟩, .string ⟨#[]⟩, .int .i64 0, .int .i64 0]) W := run_build W _ _ _ (by kernel_rfl)
theorem n_app (i : Nat) : strOf (List.replicate (i + 1) 110) ++ (⟨#[110]⟩ : ByteArray) = strOf (List.replicate (i + 2) 110) := by
  have h : (⟨#[110]⟩ : ByteArray) = strOf [110] := rfl
  rw [h, List.replicate_succ' (n := i + 1)]
  exact HeadW.strOf_app _ _
theorem truth_any (b : Bool) (w : World) : Calls Tryz.prog 30 #[.bool b] w fun e w' => e = .returned (.int .i64 (bN b : Int)) ∧ Below w.heap.size w w' := by
  cases b
  · go_enter Tryz.func30, Tryz.ntmps30
    go_wp2_with fail
    go_ret
    exact ⟨rfl, Below.refl _ _⟩
  · go_enter Tryz.func30, Tryz.ntmps30
    go_wp2_with fail
    go_ret
    exact ⟨rfl, Below.refl _ _⟩
theorem fe_at {n : Nat} {U G S T : Int} (w : World) : MetaAt (FE n U G S T).m nilV nilV nilV w := ⟨At.nil _, At.nil _, At.nil _, by show (0 : Nat) ≤ 1000000; omega, by show (0 : Nat) ≤ 1000000; omega, by show (0 : Nat) ≤ 1000000; omega⟩
theorem fe_ok {n : Nat} {U G S T : Int} (h : FR n U G S T) : RecOk (FE n U G S T) := by
  have h1 := h.u
  have h2 := h.g
  have h3 := h.s
  have h4 := h.t
  have h5 := h.n
  refine ⟨by rw [fe_psz]; omega, by show (0 : Nat) ≤ 100000; omega, ?_, ?_, ?_, fe_fits, .inl rfl, .inl rfl⟩
  · show StampW.StampM.mayF S T = true
    rw [StampW.StampM.may_iff]; omega
  · show idOk U = true
    unfold idOk; simp only [Bool.and_eq_true, decide_eq_true_eq]; omega
  · show idOk G = true
    unfold idOk; simp only [Bool.and_eq_true, decide_eq_true_eq]; omega
theorem fe_ints {n : Nat} {U G S T : Int} (h : FR n U G S T) : HeadM.Ints (headE (FE n U G S T)) := by
  have h1 := h.u
  have h2 := h.g
  have h3 := h.s
  refine ⟨?_, ?_, ?_, ?_, ?_, ?_, ?_⟩
  · show -9223372036854775808 ≤ (0 : Int) ∧ (0 : Int) ≤ 9223372036854775807; omega
  · show -9223372036854775808 ≤ (if 2097151 < U then 0 else U) ∧ (if 2097151 < U then 0 else U) ≤ 9223372036854775807; split <;> omega
  · show -9223372036854775808 ≤ (if 2097151 < G then 0 else G) ∧ (if 2097151 < G then 0 else G) ≤ 9223372036854775807; split <;> omega
  · show -9223372036854775808 ≤ (0 : Int) ∧ (0 : Int) ≤ 9223372036854775807; omega
  · show -9223372036854775808 ≤ (if longS S T = true then 0 else S) ∧ (if longS S T = true then 0 else S) ≤ 9223372036854775807; split <;> omega
  · show -9223372036854775808 ≤ (0 : Int) ∧ (0 : Int) ≤ 9223372036854775807; omega
  · show -9223372036854775808 ≤ (0 : Int) ∧ (0 : Int) ≤ 9223372036854775807; omega
attribute [local irreducible] Row At

set_option maxHeartbeats 6400000 in
set_option maxRecDepth 100000 in
theorem entryFields_walk (ui gi se : Int) (nano : Bool) (lo : Int) (w : World) (hA : Amb w) (w0 : (Lit.int .u32 ui).wf = true) (w1 : (Lit.int .u32 gi).wf = true) (w2 : (Lit.int .i64 se).wf = true) (w4 : (Lit.int .u8 lo).wf = true) :
    Calls Tryz.prog 8 #[.int .u32 ui, .int .u32 gi, .int .i64 se, .bool nano, .int .u8 lo] w fun e w' => e = .returned (.bool true) ∧ Below w.heap.size w w' := by
  have hu : 0 ≤ ui ∧ ui < 4294967296 := by simp [Lit.wf] at w0; have h1 : IntKind.u32.min = 0 := rfl; have h2 : IntKind.u32.max = 4294967295 := rfl; omega
  have hg : 0 ≤ gi ∧ gi < 4294967296 := by simp [Lit.wf] at w1; have h1 : IntKind.u32.min = 0 := rfl; have h2 : IntKind.u32.max = 4294967295 := rfl; omega
  have hl : 0 ≤ lo ∧ lo < 256 := by simp [Lit.wf] at w4; have h1 : IntKind.u8.min = 0 := rfl; have h2 : IntKind.u8.max = 255 := rfl; omega
  obtain ⟨N, rfl⟩ : ∃ N : Nat, lo = (N : Int) := ⟨lo.toNat, by omega⟩
  have HA := Lib.hid (fun W (h : Below w.heap.size w W) => hA.on h)
  have w5 : IntKind.i64.wrap ui = ui := by rw [IntKind.wrap_i64]; omega
  have w6 : IntKind.i64.wrap gi = gi := by rw [IntKind.wrap_i64]; omega
  have w7 : IntKind.i64.wrap (N : Int) = (N : Int) := by rw [IntKind.wrap_i64]; omega
  obtain ⟨U, hU⟩ : ∃ U, ui.tmod 2147483647 = U := ⟨_, rfl⟩
  obtain ⟨G, hG⟩ : ∃ U, gi.tmod 2147483647 = U := ⟨_, rfl⟩
  obtain ⟨S, hS⟩ : ∃ U, se.tmod 1099511627776 = U := ⟨_, rfl⟩
  have hUr : 0 ≤ U ∧ U ≤ 2147483647 := by rw [← hU, Int.tmod_eq_emod_of_nonneg hu.1]; omega
  have hGr : 0 ≤ G ∧ G ≤ 2147483647 := by rw [← hG, Int.tmod_eq_emod_of_nonneg hg.1]; omega
  have hSr : -1099511627776 ≤ S ∧ S ≤ 1099511627776 := by
    rw [← hS]
    have h1 := Int.tmod_lt_of_pos se (show (0 : Int) < 1099511627776 by decide)
    have h2 := Int.lt_tmod_of_pos se (show (0 : Int) < 1099511627776 by decide)
    omega
  have hNr : N ≤ 255 := by omega
  obtain ⟨P, hP⟩ : ∃ P, strOf (List.replicate (N + 1) 110) = P := ⟨_, rfl⟩
  have HP := Lib.hid hP
  have hPs : P.size = N + 1 := by rw [← hP, strOf_size, List.length_replicate]
  have hbd := f_build P
  have HFR := Lib.hid (fun T (h : 0 ≤ T ∧ T ≤ 5) => show FR (N + 1) U G S T from ⟨by omega, hUr, hGr, hSr, h⟩)
  have HUr := Lib.hid hUr
  have HGr := Lib.hid hGr
  have HNr := Lib.hid hNr
  have HPs := Lib.hid hPs
  clear w0 w1 w2 w4 hu hg hl hA hUr hGr hSr hP hPs
  go_enter Tryz.func8, Tryz.ntmps8
  go_wp2_with fail
  go_loopw [11, 12] (fun sv iv wr => ∃ i : Nat, iv = .int .i64 (i : Int) ∧ i ≤ N ∧ sv = .string (strOf (List.replicate (i + 1) 110)) ∧ w = wr) (fun sv iv _ => N - (intOf iv).toNat)
  case atStart => exact ⟨0, rfl, by omega, rfl, rfl⟩
  case round =>
    obtain ⟨i, rfl, hi, rfl, rfl⟩ := hrel
    by_cases hlt : i < N
    · have hlt' : decide ((i : Int) < (N : Int)) = true := decide_eq_true (by omega)
      have hlt2 : decide (i < N) = true := decide_eq_true hlt
      have HN := Lib.hid (n_app i)
      have hsz : (strOf (List.replicate (i + 1) 110)).size + 1 ≤ 1000 := by rw [strOf_size, List.length_replicate]; omega
      generalize strOf (List.replicate (i + 1) 110) = A at *
      have i1 : (i : Int) < (N : Int) := by omega
      clear hlt
      go_wp2_with fail
      go_roundw
      case rel => exact ⟨i + 1, by go_num, by omega, by rw [HN.out], by trivial⟩
      case measure => simp only [intOf]; omega
    · have hlt' : decide ((i : Int) < (N : Int)) = false := decide_eq_false (by omega)
      have hlt2 : decide (i < N) = false := decide_eq_false hlt
      obtain rfl : N = i := by omega
      rw [HP.out]
      clear hlt hi
      go_upto_region 7 with (with_reducible (show wpList _ _ _ (Oper.mk _ (Op.store 39 _ _) _ _ _ _ :: _) _ _); refine wpList_storeN rfl 39 (.tmp 13) (.tmp 26) rfl #[.string ⟨#[]⟩, .int .i64 0, .int .i64 0, .int .i64 0, .int .i64 0, .int .i64 0, .int .i64 0, .slice none 0 0, .slice none 0 0, .slice none 0 0, .int .i64 0, .int .u64 0, .int .u64 0, .bool false, .int .i64 0, .int .i64 0, .string ⟨#[]⟩, .string ⟨#[]⟩, .int .i64 0, .int .i64 0] #[.string P, .int .i64 7, .int .i64 0, .int .i64 0, .int .i64 0, .int .i64 0, .int .i64 0, .slice none 0 0, .slice none 0 0, .slice none 0 0, .int .i64 0, .int .u64 0, .int .u64 0, .bool false, .int .i64 0, .int .i64 0, .string ⟨#[]⟩, .string ⟨#[]⟩, .int .i64 0, .int .i64 0] (by simp [Act.eval, go_sem]) (by simp [Act.eval, go_sem]) (by kernel_rfl) rfl (by kernel_rfl) ?_)
      obtain ⟨g, hgq⟩ : ∃ g, w.heap.size = g := ⟨_, rfl⟩
      have hgw : w.heap.size ≤ g := by omega
      obtain ⟨W1, hW1⟩ : ∃ W, w.alloc (.cells #[.string P, .int .i64 7, .int .i64 0, .int .i64 0, .int .i64 0, .int .i64 0, .int .i64 0, .slice none 0 0, .slice none 0 0, .slice none 0 0, .int .i64 0, .int .u64 0, .int .u64 0, .bool false, .int .i64 0, .int .i64 0, .string ⟨#[]⟩, .string ⟨#[]⟩, .int .i64 0, .int .i64 0] 39) = W := ⟨_, rfl⟩
      have q1 : BlkIs W1 g 39 (CE P 0 0 0 0) := by rw [← hW1, ← hgq]; exact BlkIs.made _ _ _
      have hb1 : Below w.heap.size w W1 := by rw [← hW1]; exact gr_alloc (Below.refl _ _) _
      rw [hW1, hgq]
      clear hW1 hgq hbd
      have c3 := q1.cell_some 3 _ rfl
      have f3 := q1.free 3
      go_upto_region 8 with fail
      obtain ⟨W2, hW2⟩ : ∃ W, W1.setCell ⟨g, 3, none⟩ (.int .i64 U) = W := ⟨_, rfl⟩
      have q2 : BlkIs W2 g 39 (CE P U 0 0 0) := by rw [← hW2]; exact q1.put 3 _
      have hb2 : Below w.heap.size w W2 := by rw [← hW2]; exact gr_set hb1 hgw _
      rw [hW2]
      clear hW2 c3 f3 q1 hb1 hU
      have c4 := q2.cell_some 4 _ rfl
      have f4 := q2.free 4
      go_upto_region 9 with fail
      obtain ⟨W3, hW3⟩ : ∃ W, W2.setCell ⟨g, 4, none⟩ (.int .i64 G) = W := ⟨_, rfl⟩
      have q3 : BlkIs W3 g 39 (CE P U G 0 0) := by rw [← hW3]; exact q2.put 4 _
      have hb3 : Below w.heap.size w W3 := by rw [← hW3]; exact gr_set hb2 hgw _
      rw [hW3]
      clear hW3 c4 f4 q2 hb2 hG
      have c5 := q3.cell_some 5 _ rfl
      have f5 := q3.free 5
      go_upto_region 10 with fail
      obtain ⟨W4, hW4⟩ : ∃ W, W3.setCell ⟨g, 5, none⟩ (.int .i64 S) = W := ⟨_, rfl⟩
      have q4 : BlkIs W4 g 39 (CE P U G S 0) := by rw [← hW4]; exact q3.put 5 _
      have hb4 : Below w.heap.size w W4 := by rw [← hW4]; exact gr_set hb3 hgw _
      rw [hW4]
      clear hW4 c5 f5 q3 hb3 hS w5 w6 w7
      obtain ⟨T, hT⟩ : ∃ T : Int, (if nano then 5 else 0) = T := ⟨_, rfl⟩
      have HT := Lib.hid hT
      have hTr : 0 ≤ T ∧ T ≤ 5 := by rw [← hT]; split <;> omega
      have HF := Lib.hid (HFR.out T hTr)
      clear hT hTr HFR
      go_upto_if 42 with fail
      go_cut [45] from 43 to 45 (fun _ wx => BlkIs wx g 39 (CE P U G S T) ∧ Below w.heap.size w wx)
      case first =>
        have c6 := q4.cell_some 6 _ rfl
        have f6 := q4.free 6
        have HQ := Lib.hid (fun v => q4.put 6 v)
        have HB := Lib.hid (fun v => gr_set hb4 (p := ⟨g, 6, none⟩) hgw v)
        have HQ0 := Lib.hid q4
        have HB0 := Lib.hid hb4
        clear q4 hb4
        rcases nano with _ | _
        · go_wp2_with fail
          go_meet
          rw [← HT.out]
          exact ⟨HQ0.out, HB0.out⟩
        · go_wp2_with fail
          go_meet
          rw [← HT.out]
          exact ⟨HQ.out _, HB.out _⟩
      case rest =>
        obtain ⟨q5, hb5⟩ := hcut
        rename World => wc
        clear q4 hb4
        obtain ⟨b1, hb1⟩ : ∃ b, decide (100 < N + 1) = b := ⟨_, rfl⟩
        obtain ⟨b2, hb2⟩ : ∃ b, decide (2097151 < U) = b := ⟨_, rfl⟩
        obtain ⟨b3, hb3⟩ : ∃ b, decide (2097151 < G) = b := ⟨_, rfl⟩
        obtain ⟨b4, hb4⟩ : ∃ b, longS S T = b := ⟨_, rfl⟩
        have h1 : decide ((100 : Int) < (P.size : Int)) = b1 := by rw [← hb1, HPs.out]; exact decide_eq_decide.2 (by omega)
        have h1' : decide (100 < P.size) = b1 := by rw [← hb1, HPs.out]
        obtain ⟨K1, hK1⟩ : ∃ k, bN b1 = k := ⟨_, rfl⟩
        obtain ⟨K2, hK2⟩ : ∃ k, K1 + bN b2 = k := ⟨_, rfl⟩
        obtain ⟨K3, hK3⟩ : ∃ k, K2 + bN b3 = k := ⟨_, rfl⟩
        obtain ⟨K4, hK4⟩ : ∃ k, K3 + bN b4 = k := ⟨_, rfl⟩
        have hB : ∀ b, bN b ≤ 1 := fun b => by cases b <;> decide
        have HK := Lib.hid (show K1 ≤ 1 ∧ K2 ≤ 2 ∧ K3 ≤ 3 from ⟨by rw [← hK1]; exact hB _, by have := hB b1; have := hB b2; omega, by have := hB b1; have := hB b2; have := hB b3; omega⟩)
        have HL := Lib.hid (show (recsE (FE (N + 1) U G S T)).length = K4 by rw [fields_recs, hb1, hb2, hb3, hb4]; omega)
        have H1 := Lib.hid hK1
        have H2 := Lib.hid hK2
        have H3 := Lib.hid hK3
        have H4 := Lib.hid hK4
        have HB1 := Lib.hid hb1
        have HB2 := Lib.hid hb2
        have HB3 := Lib.hid hb3
        have HB4 := Lib.hid hb4
        clear hK1 hK2 hK3 hK4 hb1 hb2 hb3 hb4 hB
        go_upto_if 48 with fail
        go_cut [14] from 49 to 50 (fun s wx => s = .int .i64 (K1 : Int) ∧ wx = wc)
        case first =>
          have e := H1.out
          cases b1
          · obtain rfl : K1 = 0 := e.symm
            clear e
            go_wp2_with fail
            go_meet
            exact ⟨rfl, rfl⟩
          · obtain rfl : K1 = 1 := e.symm
            clear e
            go_wp2_with fail
            go_meet
            exact ⟨rfl, rfl⟩
        case rest =>
          obtain ⟨rfl, hwc⟩ := hcut
          subst hwc
          clear h1 h1' 
          have c3 : wc.cell? ⟨g, 3, none⟩ = some (.int .i64 U) := q5.cell_some 3 _ rfl
          have hb2 := HB2.out
          go_upto_if 54 with fail
          go_cut [14] from 55 to 56 (fun s wx => s = .int .i64 (K2 : Int) ∧ wx = wc)
          case first =>
            have e := H2.out
            have hk := HK.out
            have hw : IntKind.i64.wrap ((K1 : Int) + 1) = (K1 : Int) + 1 := by rw [IntKind.wrap_i64]; omega
            cases b2
            · have e1 : K1 = K2 := e
              clear e hk
              go_wp2_with fail
              go_meet
              exact ⟨by rw [e1], rfl⟩
            · have e1 : K1 + 1 = K2 := e
              have HE := Lib.hid (show ((K1 : Int) + 1) = (K2 : Int) by omega)
              clear e hk e1
              go_wp2_with fail
              go_meet
              exact ⟨by rw [HE.out], rfl⟩
          case rest =>
            obtain ⟨rfl, hwc⟩ := hcut
            subst hwc
            clear hb2 c3
            have c4 : wc.cell? ⟨g, 4, none⟩ = some (.int .i64 G) := q5.cell_some 4 _ rfl
            have hb3 := HB3.out
            go_upto_if 60 with fail
            go_cut [14] from 61 to 62 (fun s wx => s = .int .i64 (K3 : Int) ∧ wx = wc)
            case first =>
              have e := H3.out
              have hk := HK.out
              have hw : IntKind.i64.wrap ((K2 : Int) + 1) = (K2 : Int) + 1 := by rw [IntKind.wrap_i64]; omega
              cases b3
              · have e1 : K2 = K3 := e
                clear e hk
                go_wp2_with fail
                go_meet
                exact ⟨by rw [e1], rfl⟩
              · have e1 : K2 + 1 = K3 := e
                have HE := Lib.hid (show ((K2 : Int) + 1) = (K3 : Int) by omega)
                clear e hk e1
                go_wp2_with fail
                go_meet
                exact ⟨by rw [HE.out], rfl⟩
            case rest =>
              obtain ⟨rfl, hwc⟩ := hcut
              subst hwc
              clear hb3 c4
              go_upto_region 19 with fail
              go_cut [77] from 63 to 77 (fun s wx => s = .bool b4 ∧ wx = wc)
              case first =>
                have c5 : wc.cell? ⟨g, 5, none⟩ = some (.int .i64 S) := q5.cell_some 5 _ rfl
                have hv : b4 = (nano || (decide (S < 0) || decide (8589934592 ≤ S))) := by
                  rw [← HB4.out, ← HT.out]
                  unfold longS
                  cases nano <;> simp
                have HV := Lib.hid hv
                clear hv
                rcases nano with _ | _
                · by_cases s0 : S < 0
                  · have e0 : decide (S < 0) = true := decide_eq_true s0
                    have HB := Lib.hid (show b4 = true by rw [HV.out, e0]; rfl)
                    clear s0
                    go_wp2_with fail
                    go_meet
                    exact ⟨by rw [HB.out], rfl⟩
                  · have e0 : decide (S < 0) = false := decide_eq_false s0
                    by_cases s1 : 8589934592 ≤ S
                    · have e1 : decide (8589934592 ≤ S) = true := decide_eq_true s1
                      have HB := Lib.hid (show b4 = true by rw [HV.out, e0, e1]; rfl)
                      clear s0 s1
                      go_wp2_with fail
                      go_meet
                      exact ⟨by rw [HB.out], rfl⟩
                    · have e1 : decide (8589934592 ≤ S) = false := decide_eq_false s1
                      have HB := Lib.hid (show b4 = false by rw [HV.out, e0, e1]; rfl)
                      clear s0 s1
                      go_wp2_with fail
                      go_meet
                      exact ⟨by rw [HB.out], rfl⟩
                · have HB := Lib.hid (show b4 = true by rw [HV.out]; rfl)
                  go_wp2_with fail
                  go_meet
                  exact ⟨by rw [HB.out], rfl⟩
              case rest =>
                obtain ⟨rfl, hwc⟩ := hcut
                subst hwc
                go_upto_if 77 with fail
                go_cut [14] from 78 to 79 (fun s wx => s = .int .i64 (K4 : Int) ∧ wx = wc)
                case first =>
                  have e := H4.out
                  have hk := HK.out
                  have hw : IntKind.i64.wrap ((K3 : Int) + 1) = (K3 : Int) + 1 := by rw [IntKind.wrap_i64]; omega
                  cases b4
                  · have e1 : K3 = K4 := e
                    clear e hk
                    go_wp2_with fail
                    go_meet
                    exact ⟨by rw [e1], rfl⟩
                  · have e1 : K3 + 1 = K4 := e
                    have HE := Lib.hid (show ((K3 : Int) + 1) = (K4 : Int) by omega)
                    clear e hk e1
                    go_wp2_with fail
                    go_meet
                    exact ⟨by rw [HE.out], rfl⟩
                case rest =>
                  obtain ⟨rfl, hwc⟩ := hcut
                  subst hwc
                  have hce : entC (FE (N + 1) U G S T) nilV nilV nilV = CE P U G S T := ce_ent HP.out
                  have HCE := Lib.hid hce
                  have hf := HF.out
                  have hr := RecsE_any (FE (N + 1) U G S T) nilV nilV nilV wc (HA.out wc hb5) (fe_at wc) (fe_ok hf)
                  have hmy := fun W (h : Below w.heap.size w W) => MayE_any (FE (N + 1) U G S T) nilV nilV nilV W (HA.out W h) (fe_at W) (by rw [fe_psz]; omega) (by show (0 : Nat) ≤ 100000; omega) fe_fits (fun _ _ _ => fe_shortR hf)
                  have hgo := fun W (h : Below w.heap.size w W) => awake15_any W (HA.out W h)
                  rw [hce] at hr
                  simp only [hce] at hmy
                  rw [fe_may hf] at hmy
                  have HGo := Lib.hid hgo
                  have HMy := Lib.hid hmy
                  have HR := Lib.hid hr
                  have hsl : ShortR (recsE (FE (N + 1) U G S T)) := fe_shortR hf
                  obtain ⟨l, hl⟩ : ∃ l, recsE (FE (N + 1) U G S T) = l := ⟨_, rfl⟩
                  rw [hl] at HR HL hsl
                  have HLe := Lib.hid hl
                  have HSl := Lib.hid hsl
                  clear hce hr hmy hgo hf hl hsl
                  go_wp2_with (with_reducible (show wpList _ _ _ (Oper.mk _ (Op.load 39 _) _ _ _ _ :: _) _ _); refine wpList_loadB (by simp [Region.wanted, yielded, go_sem]) 39 (.tmp 13) rfl g (by simp [Act.eval, go_sem]) 39 _ q5 (by kernel_rfl) (by kernel_rfl) ?_)
                  refine HR.out.mono ?_
                  rintro e w2 ⟨⟨v', rfl, hrow⟩, hbb⟩
                  have q6 := q5.kept hbb q5.size
                  have hb6 := gr_call hb5 hbb
                  clear HR q5 hb5 hbb
                  obtain ⟨p, cap, rfl, hcap⟩ := hrow.at.shape
                  have HJ := Lib.hid (fun W (h : Below w2.heap.size w2 W) => RecW.refJoin_any (.slice p l.length cap) l W ((row_rec hrow).at.call h) HSl.out.each HSl.out.few)
                  rw [HL.out] at HJ hcap ⊢
                  clear hrow
                  by_cases hn : N + 1 ≤ 255
                  · have e1 : decide ((255 : Int) < (P.size : Int)) = false := decide_eq_false (by rw [HPs.out]; omega)
                    have e2 : decide (255 < P.size) = false := decide_eq_false (by rw [HPs.out]; omega)
                    rw [decide_eq_true hn] at HMy
                    have hf := HF.out
                    have hh := fun W => HeadE_any (FE (N + 1) U G S T) nilV nilV nilV W (by rw [fe_psz]; omega) (by show (0 : Nat) ≤ 100000; omega) (by show (0 : Nat) ≤ 100000; omega) (by show (1 : Int) ≤ 7 ∧ (7 : Int) ≤ 7; omega)
                    have hmh := fun W => HeadW.refMay_any (headE (FE (N + 1) U G S T)) (fe_ints hf) W
                    rw [fe_head hf] at hmh
                    have hpt := fun W (h : Below w.heap.size w W) => PutE_any (FE (N + 1) U G S T) nilV nilV nilV W (HA.out W h) (fe_at W) (by rw [fe_may hf, decide_eq_true (by omega)]) fe_fits (by rw [HLe.out]; exact HSl.out)
                    have hpl := fe_put hf (by omega)
                    have hjl : (RecW.RecM.joinF l).length ≤ 65536 := by
                      have := fe_recs hf
                      unfold recsOk at this
                      simp only [Bool.and_eq_true, decide_eq_true_eq] at this
                      rw [HLe.out] at this
                      exact this.2
                    rw [HLe.out, HL.out] at hpl
                    simp only [HCE.out] at hh hpt
                    have hu : (headE (FE (N + 1) U G S T)).uid = if 2097151 < U then 0 else U := rfl
                    have hz : (headE (FE (N + 1) U G S T)).size = 0 := rfl
                    have ht : (((headE (FE (N + 1) U G S T)).typ.toNat : Nat) : Int) = 54 := by show (((UInt8.ofNat (47 + (7 : Int).toNat)).toNat : Nat) : Int) = 54; decide
                    obtain ⟨Q, hQ⟩ : ∃ Q, strOf (putEF (FE (N + 1) U G S T)) = Q := ⟨_, rfl⟩
                    obtain ⟨R, hR⟩ : ∃ R, RecW.strOf (RecW.RecM.joinF l) = R := ⟨_, rfl⟩
                    have hQs : Q.size = (putEF (FE (N + 1) U G S T)).length := by rw [← hQ, strOf_size]
                    have hRs : R.size = (RecW.RecM.joinF l).length := by rw [← hR]; exact strOf_size _
                    rw [hpl, ← hRs] at hQs
                    rw [← hRs] at hjl
                    simp only [hQ] at hpt
                    simp only [hR] at HJ
                    obtain ⟨h, heq⟩ : ∃ h, headE (FE (N + 1) U G S T) = h := ⟨_, rfl⟩
                    rw [heq] at hu hz ht
                    simp only [heq] at hh hmh
                    obtain ⟨nm, mo, U', gi', sz, mt, ty, lk, un, gn, ma, mi, pr⟩ := h
                    simp only at hu hz ht
                    subst hz
                    simp only [ht] at hh hmh
                    have HHd := Lib.hid hh
                    have HMh := Lib.hid hmh
                    have HPt := Lib.hid hpt
                    have HU' := Lib.hid hu
                    have HQs := Lib.hid hQs
                    have HJl := Lib.hid hjl
                    clear hh hmh hpt hu ht hQ hR hQs hRs hjl hpl heq hn hf
                    go_upto_region 25 with (with_reducible (show wpList _ _ _ (Oper.mk _ (Op.load 39 _) _ _ _ _ :: _) _ _); refine wpList_loadB (by simp [Region.wanted, yielded, go_sem]) 39 (.tmp 13) rfl g (by simp [Act.eval, go_sem]) 39 _ q6 (by kernel_rfl) (by kernel_rfl) ?_)
                    refine (HHd.out w2).mono ?_
                    rintro e w3 ⟨rfl, hb⟩
                    replace q6 := q6.kept hb q6.size
                    have hb7 := gr_call hb6 hb
                    have hbj : Below w2.heap.size w2 w3 := hb
                    clear hb hb6 HHd
                    go_upto_region 25 with fail
                    obtain ⟨g2, hg2⟩ : ∃ g, w3.heap.size = g := ⟨_, rfl⟩
                    obtain ⟨W7, hW7⟩ : ∃ W, w3.alloc (.cells #[.string nm, .int .i64 mo, .int .i64 U', .int .i64 gi', .int .i64 0, .int .i64 mt, .int .u8 54, .string lk, .string un, .string gn, .int .i64 ma, .int .i64 mi, .string pr] 23) = W := ⟨_, rfl⟩
                    have p7 : BlkIs W7 g2 23 #[.string nm, .int .i64 mo, .int .i64 U', .int .i64 gi', .int .i64 0, .int .i64 mt, .int .u8 54, .string lk, .string un, .string gn, .int .i64 ma, .int .i64 mi, .string pr] := by rw [← hW7, ← hg2]; exact BlkIs.made _ _ _
                    replace q6 : BlkIs W7 g 39 (CE P U G S T) := by rw [← hW7]; exact q6.alloc _
                    replace hb7 : Below w.heap.size w W7 := by rw [← hW7]; exact gr_alloc hb7 _
                    replace hbj : Below w2.heap.size w2 W7 := by rw [← hW7]; exact gr_alloc hbj _
                    rw [hW7, hg2]
                    clear hW7 hg2
                    have eK : ((K4 : Int) != (K4 : Int)) = false := by simp
                    go_wp2_with (with_reducible (show wpList _ _ _ (Oper.mk _ (Op.load 39 _) _ _ _ _ :: _) _ _); refine wpList_loadB (by simp [Region.wanted, yielded, go_sem]) 39 (.tmp 13) rfl g (by simp [Act.eval, go_sem]) 39 _ q6 (by kernel_rfl) (by kernel_rfl) ?_)
                    refine (HMy.out W7 hb7).mono ?_
                    rintro e w8 ⟨rfl, hb⟩
                    replace q6 := q6.kept hb q6.size
                    replace p7 := p7.kept hb p7.size
                    replace hb7 := gr_call hb7 hb
                    replace hbj := gr_call hbj hb
                    clear hb HMy
                    go_wp2_with (with_reducible (show wpList _ _ _ (Oper.mk _ (Op.load 23 _) _ _ _ _ :: _) _ _); refine wpList_loadB (by simp [Region.wanted, yielded, go_sem]) 23 (.tmp 16) rfl g2 (by simp [Act.eval, go_sem]) 23 _ p7 (by kernel_rfl) (by kernel_rfl) ?_)
                    refine (HMh.out w8).mono ?_
                    rintro e w9 ⟨rfl, hb⟩
                    replace q6 := q6.kept hb q6.size
                    replace p7 := p7.kept hb p7.size
                    replace hb7 := gr_call hb7 hb
                    replace hbj := gr_call hbj hb
                    clear hb HMh eK
                    go_upto_region 27 with fail
                    have c2 : w9.cell? ⟨g2, 2, none⟩ = some (.int .i64 U') := p7.cell_some 2 _ rfl
                    have c4 : w9.cell? ⟨g2, 4, none⟩ = some (.int .i64 0) := p7.cell_some 4 _ rfl
                    have c6 : w9.cell? ⟨g2, 6, none⟩ = some (.int .u8 54) := p7.cell_some 6 _ rfl
                    have c3 : w9.cell? ⟨g, 3, none⟩ = some (.int .i64 U) := q6.cell_some 3 _ rfl
                    have hqs := HQs.out
                    have hjl := HJl.out
                    have HTr := Lib.hid (fun b W => truth_any b W)
                    obtain ⟨b0, hb0⟩ : ∃ b, decide (0 < K4) = b := ⟨_, rfl⟩
                    have h0 : decide ((0 : Int) < (K4 : Int)) = b0 := by rw [← hb0]; exact decide_eq_decide.2 (by omega)
                    obtain ⟨X, hX⟩ : ∃ X, bN b0 = X := ⟨_, rfl⟩
                    have htr := fun W => truth_any b0 W
                    simp only [hX] at htr
                    replace HTr := Lib.hid htr
                    obtain ⟨D, hD⟩ : ∃ D : Nat, (R.size + 511) / 512 = D := ⟨_, rfl⟩
                    rw [hD] at hqs
                    have hX1 : (K4 = 0 ∧ X = 0) ∨ (K4 ≠ 0 ∧ X = 1) := by
                      by_cases hk : K4 = 0
                      · left; refine ⟨hk, ?_⟩; rw [← hX, ← hb0, hk]; rfl
                      · right; refine ⟨hk, ?_⟩; rw [← hX, ← hb0, decide_eq_true (by omega)]; rfl
                    have hDb : D ≤ 200 := by omega
                    obtain ⟨M1, hM1⟩ : ∃ M : Int, 512 * (D : Int) = M := ⟨_, rfl⟩
                    obtain ⟨M2, hM2⟩ : ∃ M : Int, 512 + M1 = M := ⟨_, rfl⟩
                    obtain ⟨M3, hM3⟩ : ∃ M : Int, (X : Int) * M2 = M := ⟨_, rfl⟩
                    obtain ⟨M4, hM4⟩ : ∃ M : Int, 512 + M3 = M := ⟨_, rfl⟩
                    have hM3b : (K4 = 0 ∧ M3 = 0) ∨ (K4 ≠ 0 ∧ M3 = M2) := by
                      rcases hX1 with ⟨a, b⟩ | ⟨a, b⟩
                      · left; refine ⟨a, ?_⟩; rw [← hM3, b]; simp
                      · right; refine ⟨a, ?_⟩; rw [← hM3, b]; simp
                    have v1 : IntKind.i64.wrap ((R.size : Int) + 511) = (R.size : Int) + 511 := by rw [IntKind.wrap_i64]; omega
                    have v2 : ((R.size : Int) + 511).tdiv 512 = (D : Int) := by rw [Int.tdiv_eq_ediv_of_nonneg (by omega)]; omega
                    have v2' : IntKind.i64.wrap (D : Int) = (D : Int) := by rw [IntKind.wrap_i64]; omega
                    have v3 : IntKind.i64.wrap M1 = M1 := by rw [IntKind.wrap_i64]; omega
                    have v4 : IntKind.i64.wrap M2 = M2 := by rw [IntKind.wrap_i64]; omega
                    have v5 : IntKind.i64.wrap M3 = M3 := by rw [IntKind.wrap_i64]; omega
                    have v6 : IntKind.i64.wrap M4 = M4 := by rw [IntKind.wrap_i64]; omega
                    have v7 : ((Q.size : Int) == M4) = true := by
                      rw [beq_iff_eq]
                      rcases hM3b with ⟨a, b⟩ | ⟨a, b⟩
                      · rw [if_pos a] at hqs; omega
                      · rw [if_neg a] at hqs; omega
                    have hub := HB2.out
                    have hu' := HU'.out
                    have hur := HUr.out
                    clear hqs hjl hX1 hDb hM3b hX htr hD
                    rcases b2 with _ | _
                    · have hle : ¬ 2097151 < U := of_decide_eq_false hub
                      rw [if_neg hle] at hu'
                      have y1 : (U == U) = true := by simp
                      obtain rfl : U' = U := hu'
                      clear hub hle hur
                      go_wp2_with (with_reducible (show wpList _ _ _ (Oper.mk _ (Op.load 39 _) _ _ _ _ :: _) _ _); refine wpList_loadB (by simp [Region.wanted, yielded, go_sem]) 39 (.tmp 13) rfl g (by simp [Act.eval, go_sem]) 39 _ q6 (by kernel_rfl) (by kernel_rfl) ?_)
                      refine (HPt.out w9 hb7).mono ?_
                      rintro e wa ⟨rfl, hb⟩
                      replace hb7 := gr_call hb7 hb
                      replace hbj := gr_call hbj hb
                      clear hb HPt q6 p7 c2 c3 c4 c6
                      go_wp2_with fail
                      refine (HTr.out wa).mono ?_
                      rintro e wb ⟨rfl, hb⟩
                      replace hb7 := gr_call hb7 hb
                      replace hbj := gr_call hbj hb
                      clear hb HTr
                      go_wp2_with fail
                      refine (HJ.out wb hbj).mono ?_
                      rintro e wd ⟨rfl, hb⟩
                      replace hb7 := gr_call hb7 hb
                      clear hb HJ hbj
                      go_wp2_with fail
                      refine (HGo.out wd hb7).mono ?_
                      rintro e we ⟨rfl, hb⟩
                      replace hb7 := gr_call hb7 hb
                      clear hb HGo
                      go_wp2_with fail
                      go_ret
                      exact ⟨rfl, hb7⟩
                    · have hle : 2097151 < U := of_decide_eq_true hub
                      rw [if_pos hle] at hu'
                      have y1 : ((0 : Int) == U) = false := by rw [beq_eq_false_iff_ne]; omega
                      obtain rfl : U' = 0 := hu'
                      clear hle hur
                      go_wp2_with (with_reducible (show wpList _ _ _ (Oper.mk _ (Op.load 39 _) _ _ _ _ :: _) _ _); refine wpList_loadB (by simp [Region.wanted, yielded, go_sem]) 39 (.tmp 13) rfl g (by simp [Act.eval, go_sem]) 39 _ q6 (by kernel_rfl) (by kernel_rfl) ?_)
                      refine (HPt.out w9 hb7).mono ?_
                      rintro e wa ⟨rfl, hb⟩
                      replace hb7 := gr_call hb7 hb
                      replace hbj := gr_call hbj hb
                      clear hb HPt q6 p7 c2 c3 c4 c6
                      go_wp2_with fail
                      refine (HTr.out wa).mono ?_
                      rintro e wb ⟨rfl, hb⟩
                      replace hb7 := gr_call hb7 hb
                      replace hbj := gr_call hbj hb
                      clear hb HTr
                      go_wp2_with fail
                      refine (HJ.out wb hbj).mono ?_
                      rintro e wd ⟨rfl, hb⟩
                      replace hb7 := gr_call hb7 hb
                      clear hb HJ hbj
                      go_wp2_with fail
                      refine (HGo.out wd hb7).mono ?_
                      rintro e we ⟨rfl, hb⟩
                      replace hb7 := gr_call hb7 hb
                      clear hb HGo
                      go_wp2_with fail
                      go_ret
                      exact ⟨rfl, hb7⟩
                  · have e1 : decide ((255 : Int) < (P.size : Int)) = true := decide_eq_true (by rw [HPs.out]; omega)
                    have e2 : decide (255 < P.size) = true := decide_eq_true (by rw [HPs.out]; omega)
                    rw [decide_eq_false hn] at HMy
                    clear hn
                    go_wp2_with (with_reducible (show wpList _ _ _ (Oper.mk _ (Op.load 39 _) _ _ _ _ :: _) _ _); refine wpList_loadB (by simp [Region.wanted, yielded, go_sem]) 39 (.tmp 13) rfl g (by simp [Act.eval, go_sem]) 39 _ q6 (by kernel_rfl) (by kernel_rfl) ?_)
                    refine (HMy.out w2 hb6).mono ?_
                    rintro e w3 ⟨rfl, hb⟩
                    replace hb6 := gr_call hb6 hb
                    clear hb q6
                    go_wp2_with fail
                    refine (HGo.out w3 hb6).mono ?_
                    rintro e w4 ⟨rfl, hb⟩
                    replace hb6 := gr_call hb6 hb
                    clear hb
                    go_wp2_with fail
                    go_ret
                    exact ⟨rfl, hb6⟩
end Go.Proofs.YtbhnhoenjoagbaaGreatDoor
