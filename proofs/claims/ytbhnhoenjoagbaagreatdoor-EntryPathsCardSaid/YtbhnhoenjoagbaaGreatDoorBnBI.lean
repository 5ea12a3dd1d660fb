/- Bundle of 2 texts. -/
import Derived.Test.YtbhnhoenjoagbaaGreatDoorBnBH
import Derived.Test.YtbhnhoenjoagbaaGreatDoorBnBH
import Derived.Deep.CutBlock
import Derived.Test.YtbhnhoenjoagbaaGreatDoorBnBD
import Derived.Test.YtbhnhoenjoagbaaGreatDoorTie
import Derived.ProofKit
import Derived.OpenShut
import Derived.ShutString
import Derived.ChangeOld
import Derived.Below
import Derived.LaidMore
import Derived.Stop.Joined
import Derived.Lib.SmallJoins
import Derived.Laws.Cover2
import Derived.Shelf.Vars
import Derived.MakeChecks
import Derived.Stop.LaidErr
import Derived.SevenTiedAt
import GoSem.PinnedTables
/- The law EntryPaths, walked. -/
namespace Go.Proofs.YtbhnhoenjoagbaaGreatDoor
open Go.RowKit
open PathM
set_option linter.unusedVariables false

theorem rep_double {L : ByteArray} {i : Nat} (h : L.data.toList = List.replicate (2 ^ i) 110) : (L ++ L).data.toList = List.replicate (2 ^ (i + 1)) 110 := by
  rw [app_list, h, List.replicate_append_replicate]
  rw [Nat.pow_succ, Nat.mul_two]
theorem isRow_le15 {k : IntKind} {w : World} {a : Option Addr} {len cap : Nat} {zs : List Int} (h : IsRow k w a len cap zs) : len ≤ 9223372036854775807 := by
  rcases h with ⟨_, h, _⟩ | ⟨_, _, h1, h2, _⟩
  · omega
  · unfold maxLen at h2; omega
theorem rep_name {N : Nat} (h : 3 ≤ N) (h2 : N ≤ 255) : nameOk (List.replicate N 110) = true := by
  obtain ⟨k, rfl⟩ : ∃ k, N = k + 3 := ⟨N - 3, by omega⟩
  unfold nameOk
  rw [List.length_replicate, decide_eq_true (show ¬ (k + 3 = 0) by omega), decide_eq_true (show k + 3 ≤ 255 by omega)]
  simp [List.replicate_succ]
theorem rep_no {N : Nat} {c : UInt8} (hc : c ≠ 110) : c ∉ List.replicate N 110 := fun hm => hc (List.eq_of_mem_replicate hm)
theorem long_ok {L : ByteArray} {N M : Nat} (hN : N = 256) (hM : M = 255) (h : L.data.toList = List.replicate N 110) : nameOk L.data.toList = false ∧ nameOk (L.extract 0 M).data.toList = true ∧ (0 : UInt8) ∉ L.data.toList ∧ (47 : UInt8) ∉ L.data.toList ∧
    (0 : UInt8) ∉ (L.extract 0 M).data.toList ∧ (47 : UInt8) ∉ (L.extract 0 M).data.toList ∧ (L.extract 0 M).data.toList.length = M := by
  have e : (L.extract 0 M).data.toList = List.replicate M 110 := by
    rw [ByteArray.data_extract, Array.toList_extract, List.extract, h, List.drop_zero, Nat.sub_zero, List.take_replicate, Nat.min_eq_left (by omega)]
  rw [e, h]
  refine ⟨?_, rep_name (by omega) (by omega), rep_no (by decide), rep_no (by decide), rep_no (by decide), rep_no (by decide), List.length_replicate⟩
  unfold nameOk
  rw [List.length_replicate, decide_eq_false (show ¬ N ≤ 255 by omega)]
  simp

theorem app_le {S T : ByteArray} {a b c : Nat} (h1 : S.size ≤ a) (h2 : T.size ≤ b) (h : a + b ≤ c) : (S ++ T).size ≤ c := by rw [app_size]; omega
theorem bad_at {S L : ByteArray} {n : Nat} (hS : PG S.data.toList n) (hn : n ≤ 8) (hL : nameOk L.data.toList = false) (h0 : (0 : UInt8) ∉ L.data.toList) (h47 : (47 : UInt8) ∉ L.data.toList) (hLs : L.size ≤ 256) (hSs : S.size ≤ 1000) (k : Nat) (hk : k < 10) :
    ∃ B : ByteArray, (#[.string { data := #[] }, .string ({ data := #[47] } ++ S), .string (S ++ { data := #[47] }), .string (S ++ { data := #[47, 47, 97] }), .string (S ++ { data := #[47, 46] }), .string ({ data := #[46, 46, 47] } ++ S), .string (S ++ { data := #[47, 46, 46, 47, 98] }), .string (S ++ { data := #[0] }), .string (S ++ { data := #[47] } ++ L), .string ({ data := #[46, 47] } ++ S)] : Array Value)[k]? = some (.string B) ∧ pathOk B.data.toList = false ∧ B.size ≤ 2000 := by
  have hz : k = 0 ∨ k = 1 ∨ k = 2 ∨ k = 3 ∨ k = 4 ∨ k = 5 ∨ k = 6 ∨ k = 7 ∨ k = 8 ∨ k = 9 := by omega
  rcases hz with rfl | rfl | rfl | rfl | rfl | rfl | rfl | rfl | rfl | rfl
  · exact ⟨_, rfl, by decide, by decide⟩
  · exact ⟨_, rfl, by rw [app_list]; exact (path_ahead (x := []) hS hn (by decide) (by decide) (by decide)).trans (by decide), app_le (a := 10) (by decide) hSs (by decide)⟩
  · exact ⟨_, rfl, by rw [app_list]; exact (path_behind (x := []) hS hn (by decide) (by decide) (by decide)).trans (by decide), app_le hSs (b := 10) (by decide) (by decide)⟩
  · exact ⟨_, rfl, by rw [app_list]; exact (path_behind (x := [47, 97]) hS hn (by decide) (by decide) (by decide)).trans (by decide), app_le hSs (b := 10) (by decide) (by decide)⟩
  · exact ⟨_, rfl, by rw [app_list]; exact (path_behind (x := [46]) hS hn (by decide) (by decide) (by decide)).trans (by decide), app_le hSs (b := 10) (by decide) (by decide)⟩
  · exact ⟨_, rfl, by rw [app_list]; exact (path_ahead (x := [46, 46]) hS hn (by decide) (by decide) (by decide)).trans (by decide), app_le (a := 10) (by decide) hSs (by decide)⟩
  · exact ⟨_, rfl, by rw [app_list]; exact (path_behind (x := [46, 46, 47, 98]) hS hn (by decide) (by decide) (by decide)).trans (by decide), app_le hSs (b := 10) (by decide) (by decide)⟩
  · exact ⟨_, rfl, by rw [app_list]; exact path_zero (by simp), app_le hSs (b := 10) (by decide) (by decide)⟩
  · exact ⟨_, rfl, by
      rw [app_list, app_list, List.append_assoc]
      refine (path_behind (x := L.data.toList) hS hn (by rw [list_size]; omega) h0 (by rw [AclM.cutAt_none h47]; simp)).trans ?_
      rw [AclM.cutAt_none h47]; simp [hL], app_le (app_le hSs (b := 10) (c := 1010) (by decide) (by decide)) hLs (by decide)⟩
  · exact ⟨_, rfl, by rw [app_list]; exact (path_ahead (x := [46]) hS hn (by decide) (by decide) (by decide)).trans (by decide), app_le (a := 10) (by decide) hSs (by decide)⟩

set_option maxHeartbeats 6400000 in
set_option maxRecDepth 100000 in
theorem entryPaths_walk (a0 : Option Addr) (len0 cap0 : Nat) (z0 : List Int) (wh dp : Int) (w : World) (hA : Amb w) (w0 : IsRow .u8 w a0 len0 cap0 z0) (w1 : (Lit.int .u8 wh).wf = true) (w2 : (Lit.int .u8 dp).wf = true) :
    Calls Tryz.prog 6 #[.slice a0 len0 cap0, .int .u8 wh, .int .u8 dp] w fun e w' => e = .returned (.bool true) ∧ Below w.heap.size w w' := by
  have hh : 0 ≤ wh ∧ wh < 256 := by simp [Lit.wf] at w1; have h1 : IntKind.u8.min = 0 := rfl; have h2 : IntKind.u8.max = 255 := rfl; omega
  have hd : 0 ≤ dp ∧ dp < 256 := by simp [Lit.wf] at w2; have h1 : IntKind.u8.min = 0 := rfl; have h2 : IntKind.u8.max = 255 := rfl; omega
  have HP := Lib.hid (path15_any a0 len0 cap0 z0 w w0 (isRow_le15 w0))
  clear w0 w1 w2
  go_enter Tryz.func6, Tryz.ntmps6
  go_wp2_with fail
  refine (HP.out).mono ?_
  rintro e w3 ⟨⟨S, n, rfl, hn, hS⟩, hbl⟩
  have HS := Lib.hid hS
  have hSs : S.size ≤ 1000 := by have := hS.len; rw [list_size] at this; omega
  clear HP hS
  go_wp2_with fail
  go_loopw [8, 9] (fun lv iv wr => ∃ (i : Nat) (L : ByteArray), lv = .string L ∧ iv = .int .i64 (i : Int) ∧ i ≤ 8 ∧ L.size ≤ 256 ∧ Below w.heap.size w wr ∧ Hid (L.data.toList = List.replicate (2 ^ i) 110)) (fun _ iv _ => 8 - (intOf iv).toNat)
  case atStart => exact ⟨0, _, rfl, rfl, by omega, by decide, hbl, Lib.hid rfl⟩
  case round =>
    clear hbl
    obtain ⟨i, L, rfl, rfl, hi, hLs, hbl, HL⟩ := hrel
    rename World => wr
    by_cases hlt : i < 8
    · have e1 : decide ((i : Int) < 8) = true := decide_eq_true (by omega)
      have e2 : decide (i < 8) = true := decide_eq_true hlt
      have w3 : IntKind.i64.wrap ((i : Int) + 1) = (i : Int) + 1 := by rw [IntKind.wrap_i64]; omega
      have HL2 : Hid ((L ++ L).data.toList = List.replicate (2 ^ (i + 1)) 110) := Lib.hid (rep_double HL.out)
      have hLs2 : (L ++ L).size ≤ 256 := by
        have h := congrArg List.length HL2.out
        rw [list_size, List.length_replicate] at h
        have : 2 ^ (i + 1) ≤ 2 ^ 8 := Nat.pow_le_pow_right (by omega) (by omega)
        omega
      clear HL
      go_wp2_with fail
      go_roundw
      case rel => exact ⟨i + 1, _, rfl, rfl, by omega, hLs2, hbl, HL2⟩
      case measure => simp only [intOf]; omega
    · have e1 : decide ((i : Int) < 8) = false := decide_eq_false (by omega)
      have e2 : decide (i < 8) = false := decide_eq_false hlt
      have hL8 : L.data.toList = List.replicate 256 110 := by have := HL.out; rw [show i = 8 by omega] at this; exact this
      have HLO := Lib.hid (long_ok (N := 256) (M := 255) rfl rfl hL8)
      have hL1 : 255 ≤ L.size := by have h := congrArg List.length hL8; rw [list_size, List.length_replicate] at h; omega
      clear HL hL8 hi hlt
      have w5 : IntKind.i64.wrap dp = dp := by rw [IntKind.wrap_i64]; omega
      have w6 : dp.tmod 9 = dp % 9 := Int.tmod_eq_emod_of_nonneg hd.1
      obtain ⟨D, hD⟩ : ∃ D : Nat, 60 + dp % 9 = (D : Int) := ⟨(60 + dp % 9).toNat, by omega⟩
      have w7 : IntKind.i64.wrap (60 + dp % 9) = (D : Int) := by rw [IntKind.wrap_i64, ← hD]; omega
      have hD1 : 60 ≤ D ∧ D ≤ 68 := by omega
      have HD := Lib.hid hD
      clear hD
      have w8 : IntKind.i64.wrap wh = wh := by rw [IntKind.wrap_i64]; omega
      have w9 : wh.tmod 10 = wh % 10 := Int.tmod_eq_emod_of_nonneg hh.1
      have w10 : 0 ≤ wh % 10 := by omega
      have w11 : wh % 10 < 10 := by omega
      go_upto_region 8 with fail
      obtain ⟨W9, hW9⟩ : ∃ W, wr.alloc (.cells #[.string { data := #[] }, .string ({ data := #[47] } ++ S), .string (S ++ { data := #[47] }), .string (S ++ { data := #[47, 47, 97] }), .string (S ++ { data := #[47, 46] }), .string ({ data := #[46, 46, 47] } ++ S), .string (S ++ { data := #[47, 46, 46, 47, 98] }), .string (S ++ { data := #[0] }), .string (S ++ { data := #[47] } ++ L), .string ({ data := #[46, 47] } ++ S)] 9) = W := ⟨_, rfl⟩
      obtain ⟨B, hcB, hBp, hBs⟩ : ∃ B : ByteArray, W9.cell? ⟨wr.heap.size, (wh % 10).toNat, none⟩ = some (.string B) ∧ pathOk B.data.toList = false ∧ B.size ≤ 2000 := by
        obtain ⟨B, h1, h2, h3⟩ := bad_at HS.out hn HLO.out.1 HLO.out.2.2.1 HLO.out.2.2.2.1 hLs hSs (wh % 10).toNat (by omega)
        refine ⟨B, ?_, h2, h3⟩
        rw [← hW9, World.cell?_alloc_at (w := wr) _ _ wr.heap.size _ rfl]
        exact h1
      have hbl9 : Below w.heap.size w W9 := by rw [← hW9]; exact gr_alloc hbl _
      rw [hW9]
      generalize wr.heap.size = g9 at *
      clear hW9 hbl
      go_wp2_with fail
      go_loopw [11, 12] (fun mv iv wx => ∃ (j : Nat) (M : ByteArray), mv = .string M ∧ iv = .int .i64 (j : Int) ∧ 1 ≤ j ∧ j ≤ D ∧ M.size ≤ 200 ∧ Below W9.heap.size W9 wx ∧ Hid (M.data.toList = manyL (j - 1))) (fun _ iv _ => D - (intOf iv).toNat)
      case atStart => exact ⟨1, _, rfl, rfl, by omega, by omega, by decide, Below.refl _ _, Lib.hid rfl⟩
      case round =>
        obtain ⟨j, M, rfl, rfl, hj1, hj, hMs, hbq, HM⟩ := hrel
        rename World => wx
        by_cases hlt : j < D
        · have e3 : decide ((j : Int) < (D : Int)) = true := decide_eq_true (by omega)
          have e4 : decide (j < D) = true := decide_eq_true hlt
          have w3 : IntKind.i64.wrap ((j : Int) + 1) = ((j + 1 : Nat) : Int) := by rw [IntKind.wrap_i64]; omega
          have HM2 : Hid ((M ++ ⟨#[47, 97]⟩).data.toList = manyL (j + 1 - 1)) := Lib.hid (by
            rw [app_list, HM.out, show j + 1 - 1 = (j - 1) + 1 by omega]
            rfl)
          have hMs2 : (M ++ ⟨#[47, 97]⟩).size ≤ 200 := by
            have h := congrArg List.length HM2.out
            rw [list_size, many_len] at h
            omega
          clear HM
          go_wp2_with fail
          go_roundw
          case rel => exact ⟨j + 1, _, rfl, rfl, by omega, by omega, hMs2, hbq, HM2⟩
          case measure => simp only [intOf]; omega
        · have e3 : decide ((j : Int) < (D : Int)) = false := decide_eq_false (by omega)
          have e4 : decide (j < D) = false := decide_eq_false hlt
          have hMp : pathOk M.data.toList = decide (D ≤ 64) := by
            rw [HM.out, many_path _ (by omega), show j - 1 + 1 = D by omega]
          have hbl := gr_call hbl9 hbq
          replace hcB := cell_kept hbq hcB
          have HA := Lib.hid (fun W (h : Below w.heap.size w W) => hA.on h)
          have H1 := Lib.hid (fun W h => PathE_any S (by omega) W (HA.out W h))
          rw [HS.out.path hn] at H1
          have H2 := Lib.hid (fun W h => PathE_any B (by omega) W (HA.out W h))
          rw [hBp] at H2
          have H3 := Lib.hid (fun W h => PathE_any (S ++ ⟨#[47, 46, 46, 46]⟩) (by rw [app_size]; have : (⟨#[47, 46, 46, 46]⟩ : ByteArray).size = 4 := rfl; omega) W (HA.out W h))
          have H4 := Lib.hid (fun W h => PathE_any (S ++ ⟨#[47]⟩ ++ L.extract 0 255) (by rw [app_size, app_size]; have h1 : (⟨#[47]⟩ : ByteArray).size = 1 := rfl; have h2 := HLO.out.2.2.2.2.2.2; rw [list_size] at h2; omega) W (HA.out W h))
          have H5 := Lib.hid (fun W h => PathE_any M (by omega) W (HA.out W h))
          rw [hMp] at H5
          rw [show pathOk (S ++ ⟨#[47, 46, 46, 46]⟩).data.toList = true by
            rw [app_list]; exact (path_behind (x := [46, 46, 46]) HS.out hn (by decide) (by decide) (by decide)).trans (by decide)] at H3
          rw [show pathOk (S ++ ⟨#[47]⟩ ++ L.extract 0 255).data.toList = true by
            rw [app_list, app_list, List.append_assoc]
            refine (path_behind (x := (L.extract 0 255).data.toList) HS.out hn (by rw [HLO.out.2.2.2.2.2.2]; decide) HLO.out.2.2.2.2.1 (by rw [AclM.cutAt_none HLO.out.2.2.2.2.2.1]; simp)).trans ?_
            rw [AclM.cutAt_none HLO.out.2.2.2.2.2.1]
            show (nameOk (L.extract 0 255).data.toList && true) = true
            rw [HLO.out.2.1]; rfl] at H4
          have e7 : decide ((D : Int) ≤ 64) = decide (D ≤ 64) := decide_eq_decide.2 (by omega)
          have e8 : ∀ b : Bool, (b == b) = true := fun b => by cases b <;> rfl
          clear HM hlt hBp hMp
          go_wp2_with fail
          refine (H1.out _ hbl).mono ?_
          rintro e w2 ⟨rfl, hb2⟩
          replace hbl := gr_call hbl hb2
          replace hcB := cell_kept hb2 hcB
          clear hb2
          go_wp2_with fail
          refine (H2.out _ hbl).mono ?_
          rintro e w2 ⟨rfl, hb2⟩
          replace hbl := gr_call hbl hb2
          clear hb2 hcB
          go_wp2_with fail
          refine (H3.out _ hbl).mono ?_
          rintro e w2 ⟨rfl, hb2⟩
          replace hbl := gr_call hbl hb2
          clear hb2
          go_wp2_with fail
          refine (H4.out _ hbl).mono ?_
          rintro e w2 ⟨rfl, hb2⟩
          replace hbl := gr_call hbl hb2
          clear hb2
          go_wp2_with fail
          refine (H5.out _ hbl).mono ?_
          rintro e w2 ⟨rfl, hb2⟩
          replace hbl := gr_call hbl hb2
          clear hb2
          go_wp2_with fail
          refine (awake15_any _ (HA.out _ hbl)).mono ?_
          rintro e w2 ⟨rfl, hb2⟩
          replace hbl := gr_call hbl hb2
          clear hb2
          go_wp2_with fail
          go_ret
          exact ⟨rfl, hbl⟩
end Go.Proofs.YtbhnhoenjoagbaaGreatDoor

/- What the frames of this seat's laws share: the wrap with the listed variables and the world's shape. -/
namespace Go.Proofs.YtbhnhoenjoagbaaGreatDoor
open Go.ChangeShapes Go.WideShapes Go.ChangeAt Go.RowKit Go.Joins

theorem wrap_laid {H : Type} {enc : TypeId × Value → H} {a : Assume} {C : Checked} {os : Os} {f : FuncId} {fn : Func} {s : ChangeSpec} {conds : List PathCond} {apart fresh handsOn again : Bool} {X : World → Array Value → Prop}
    (hX : ∀ (w w' : World) (args : Array Value), w.heap = w'.heap → X w args → X w' args)
    (own : ownKnob C.prog.godebug = none) (started : os.Started) (noInit : C.prog.inits.idxOf? f = none) (hfn : C.prog.funcs[f]? = some fn)
    (witness : ∃ (w : World) (tape : Tape) (i : Input), w.os = os ∧ (w.forCall tape i).Shaped C.prog ∧ i.vars = [] ∧ Input.okWide C.prog (w.forCall tape i) .any w.heap.size f i ∧
      ((s.pre enc C.prog fn conds apart (w.forCall tape i).memory i.args ∧ X (w.forCall tape i).memory i.args) ∧ sizedMet enc C.prog fn (OpenSpec.ofChange s) apart (w.forCall tape i).memory i.args) ∧ a.holds C.prog (lone (Frame.enter C.prog f i.args .normal) [] (w.forCall tape i)))
    (contract : ∀ (W : World) (base : Nat) (args : Array Value) (ds gs : List (DataW H)) (before : List MemPlace),
      (∀ (j : Nat) t v, fn.params[j]? = some t → args[j]? = some v → Value.okWide C.prog W .any base t v) →
      DataW.Whole enc C.prog fn.params.toList s.vars apart W args.toList ds gs before →
      (DataW.weightsEach C.prog (fn.params.toList ++ s.plain.varTypes C.prog) (ds ++ gs)).all (· ≤ reachBytes) = true → X W args → W.ShapedOpen C.prog →
      Calls C.prog f args W fun e W' => ∃ v, e = .returned v ∧ s.post enc C.prog fn apart fresh handsOn again W args v W') :
    ReturnsInHanded a C os f .any (fun w args => (s.pre enc C.prog fn conds apart w args ∧ X w args) ∧ sizedMet enc C.prog fn (OpenSpec.ofChange s) apart w args) (s.post enc C.prog fn apart fresh handsOn again) := by
  refine returnsInHanded_of_calls own started noInit witness ?_
  intro w tape i _ hsh _ hok hpre _
  obtain ⟨_, _, _, fn', hfn', _, _, _, _, hval⟩ := hok
  have e : fn' = fn := Option.some.inj (hfn'.symm.trans hfn)
  subst e
  obtain ⟨⟨⟨ds, gs, before, hw, hc⟩, hx⟩, hz⟩ := hpre
  have hw' := DataW.Whole.of_heap (w' := w.forCall tape i) (by rfl) hw
  refine (contract (w.forCall tape i) w.heap.size i.args ds gs before hval hw' (hz.weights hw) (hX _ _ _ (by rfl) hx) hsh).mono fun e W' ⟨v, he, hp⟩ => ?_
  subst he
  exact ChangeSpec.post_blind hp

theorem star_err : "*" ++ "errors.errorString" = "*errors.errorString" := by decide
theorem iface_only (u : TypeId) (h : Tryz.prog.typeName? 3 u = some "*errors.errorString") : u = 283 :=
  typeName_ptr_named (nm := "errors.errorString") (by rw [star_err]; kernel_rfl) (by kernel_rfl) (by decide) u (by rw [star_err]; exact h)
theorem amb_of {W : World} {l : List (String × DataW Unit)} (hl : l = Rows.entryPathsRow.laid) (h : laidMetH Tryz.prog l W) (hsh : W.ShapedOpen Tryz.prog) : Amb W := by
  subst hl
  rw [MakeChecks.laidMetH_plain _ _ _ (by kernel_rfl)] at h
  have hb : AmbB W := by
    refine ⟨?_, ?_⟩
    · have h3 := h.tail.tail.tail
      exact Lib.tabIs_of_head (g := 2) (t := 249) (e := 33) (n := 20) (by kernel_rfl) (by kernel_rfl) Tryz.underlying249 Tryz.underlying33 (by kernel_rfl) (by kernel_rfl) h3
    · exact cell_of_shapedOpen_int (P := Tryz.prog) (g := 3) (t := 3) (zero := #[.int .i64 0]) hsh (of_decide_eq_true (by kernel_rfl)) (by kernel_rfl) rfl (by kernel_rfl) (by kernel_rfl) Tryz.underlying3
  have ha : Amb W := by
    refine ⟨hb, ?_, ?_⟩
    · have h1 := h
      have hc := TabM.cells_of_head (g := 1) (t := 246) 3 (by kernel_rfl) (by kernel_rfl) (by kernel_rfl) h1
      intro i v hv
      exact hc i v hv
    · have h1 := h.tail.tail.tail.tail.tail
      have hc := TabM.cells_of_head (g := 0) (t := 149) 3 (by kernel_rfl) (by kernel_rfl) (by kernel_rfl) h1
      intro i v hv
      exact hc i v hv
  exact ha
end Go.Proofs.YtbhnhoenjoagbaaGreatDoor
