/- The law 'gripsacklaw15.EntryFields', as its tied card has it: for every input it returns true, and each argument reads as it read before; the listed tables of Go's library begin as the program's text lays them. No condition beyond the statement's own. -/
import Derived.Test.YtbhnhoenjoagbaaGreatDoorWEntryFields
import Derived.Test.YtbhnhoenjoagbaaGreatDoorPk24
import Derived.Test.YtbhnhoenjoagbaaGreatDoorCards
namespace Go.Proofs.YtbhnhoenjoagbaaGreatDoor.lawEntryFields
open Go.ChangeShapes Go.WideShapes Go.ChangeAt Go.RowKit
open Go.ChangeMaps (open_string shut_string)
set_option linter.unusedVariables false

theorem own : ownKnob Tryz.prog.godebug = none := by kernel_rfl
theorem laidOut : laidOutB Tryz.prog = true := by kernel_rfl
set_option maxRecDepth 100000 in
theorem door_met (os : Os) (args : Array Value) : laidMetH Tryz.prog Rows.entryFieldsRow.laid (({ ((World.doorLaid Tryz.prog 86 os) : World) with heap := ((World.doorLaid Tryz.prog 86 os) : World).heap.modify 4 (fun o => match o with | .cells _ t fr => .cells ((Pinned.utf8FirstZ.map fun (z : Nat) => Value.int .u8 (z : Int)).toArray) t fr | o => o) }).forCall (fun _ _ => 0) ⟨#[], args, []⟩).memory :=
  laidMetH_of_parts3 (fuel := 8) (laidMet_of_run' 8 (by kernel_rfl) (by kernel_rfl)) (by kernel_rfl) (by kernel_rfl)

set_option maxRecDepth 100000 in
theorem lifted (os : Os) (started : os.Started) (H : Type) (enc : TypeId × Value → H) :
    ReturnsInHanded {} Tryz.checked os 8 .any (fun w args => (Rows.entryFieldsSpec.pre enc Tryz.prog Tryz.f8 [] false w args ∧ laidMetH Tryz.prog Rows.entryFieldsRow.laid w) ∧ sizedMet enc Tryz.prog Tryz.f8 (OpenSpec.ofChange Rows.entryFieldsSpec) false w args)
      (Rows.entryFieldsSpec.post enc Tryz.prog Tryz.f8 false true false false) := by
  refine wrap_laid (C := Tryz.checked) (X := fun w _ => laidMetH Tryz.prog Rows.entryFieldsRow.laid w) (fun _ _ _ hh h => h.of_heap hh) own started (by kernel_rfl) Tryz.func8
    (ChangeSpec.witness_shaped (enc := enc) (C := Tryz.checked) (os := os) (X := fun w _ => laidMetH Tryz.prog Rows.entryFieldsRow.laid w) false ({ ((World.doorLaid Tryz.prog 86 os) : World) with heap := ((World.doorLaid Tryz.prog 86 os) : World).heap.modify 4 (fun o => match o with | .cells _ t fr => .cells ((Pinned.utf8FirstZ.map fun (z : Nat) => Value.int .u8 (z : Int)).toArray) t fr | o => o) }) #[.int .u32 0, .int .u32 0, .int .i64 0, .bool false, .int .u8 0] 8 rfl (World.shaped_of_RefB (by kernel_rfl) (by kernel_rfl)) (by kernel_rfl) (by kernel_rfl) (by kernel_rfl) (door_met os _)) ?_
  intro W base args ds gs before hval0 hW _ hL hsh
  have hval : ∀ (j : Nat) t v, Tryz.f8.params[j]? = some t → args[j]? = some v → Value.okWide Tryz.prog W .any base t v := hval0
  have hA1 := amb_of rfl hL hsh
  have hW' := hW
  obtain ⟨p, q, hA0, hV, rfl, hfz, hnd⟩ := hW
  have hA : DataW.TrodAll enc Tryz.prog W 0 (fun _ => true) true Tryz.f8.params.toList args.toList ds p := hA0
  rw [Tryz.params8] at hA hval
  obtain ⟨v0, vs0, d0, ds0, p0, q0, hargs, rfl, rfl, h0, r0⟩ := trodAll_cons hA
  obtain ⟨v1, vs1, d1, ds1, p1, q1, rfl, rfl, rfl, h1, r1⟩ := trodAll_cons r0
  obtain ⟨v2, vs2, d2, ds2, p2, q2, rfl, rfl, rfl, h2, r2⟩ := trodAll_cons r1
  obtain ⟨v3, vs3, d3, ds3, p3, q3, rfl, rfl, rfl, h3, r3⟩ := trodAll_cons r2
  obtain ⟨v4, vs4, d4, ds4, p4, q4, rfl, rfl, rfl, h4, r4⟩ := trodAll_cons r3
  obtain ⟨rfl, rfl, rfl⟩ := trodAll_nil r4
  obtain rfl : args = #[v0, v1, v2, v3, v4] := by cases args; simp_all
  obtain ⟨rfl, rfl⟩ := trodVars_none hV
  obtain ⟨a0, rfl, rfl, rfl, w0⟩ := open_int Tryz.underlying64 (hval 0 64 v0 rfl rfl) h0
  obtain ⟨a1, rfl, rfl, rfl, w1⟩ := open_int Tryz.underlying64 (hval 1 64 v1 rfl rfl) h1
  obtain ⟨a2, rfl, rfl, rfl, w2⟩ := open_int Tryz.underlying2 (hval 2 2 v2 rfl rfl) h2
  obtain ⟨a3, rfl, rfl, rfl⟩ := open_bool Tryz.underlying4 (hval 3 4 v3 rfl rfl) h3
  obtain ⟨a4, rfl, rfl, rfl, w4⟩ := open_int Tryz.underlying5 (hval 4 5 v4 rfl rfl) h4
  clear hA0 hval0
  refine (entryFields_walk a0 a1 a2 a3 a4 W hA1 w0 w1 w2 w4).mono fun e W' ⟨he, bel⟩ => ?_
  subst he
  exact ⟨_, rfl, _, _, _, [], _, [], hW', trodAll_mk1 (shut_bool Tryz.underlying4 _), (trodAll_cons_mk (shut_int Tryz.underlying64 w0) (trodAll_cons_mk (shut_int Tryz.underlying64 w1) (trodAll_cons_mk (shut_int Tryz.underlying2 w2) (trodAll_cons_mk (shut_bool Tryz.underlying4 _) (trodAll_cons_mk (shut_int Tryz.underlying5 w4) trodAll_mk0))))), rfl, bel.frame _, fun h => by cases h⟩

theorem o_named : Tryz.pinned.checked.prog.funcNamed Rows.entryFieldsRow.func = some 8 := by kernel_rfl
theorem o_closed : joinedFacts Tryz.pinned.checked.prog 8 Tryz.f8 Rows.entryFieldsSpec Rows.entryFieldsRow = true := by kernel_rfl
theorem o_inst : Tryz.f8.isInstance Tryz.pinned.checked.prog Rows.entryFieldsRow.origin Rows.entryFieldsRow.targs := of_decide_eq_true (by kernel_rfl)
theorem o_wrap : Tryz.f8.isWrapper Tryz.pinned.checked.prog Rows.entryFieldsRow.wrapper Rows.entryFieldsRow.mainSum := by unfold Func.isWrapper; first | (rw [if_pos (by decide +kernel)]; kernel_rfl) | (rw [if_neg (by decide +kernel)]; exact ⟨rfl, rfl⟩)
theorem o_wf : Rows.entryFieldsRow.wfByText (OpenSpec.ofChange Rows.entryFieldsSpec) = true := by kernel_rfl
theorem o_goes : false = Rows.entryFieldsRow.goesBy Tryz.pinned.checked.prog := by kernel_rfl
theorem o_looks : true = Tryz.pinned.checked.prog.looks [] := by kernel_rfl
theorem o_main : Tryz.pinned.checked.prog.mainIs = some (true, "22cfd6e7383bb5aad363b0b690e9438c011781faa0bd90b4cd77707999b62113".toList) := by kernel_rfl
theorem over : Rows.entryFieldsRow.holds Tryz.pinned (OpenSpec.ofChange Rows.entryFieldsSpec) :=
  OpenClaim.holds_of_wide 8 Tryz.f8 rfl rfl rfl rfl rfl rfl rfl ⟨rfl, rfl, rfl, rfl, rfl⟩ rfl rfl rfl rfl rfl o_named Tryz.func8 o_closed
    o_inst o_wrap
    (fun os started H enc _ => lifted os started H enc)

/-- The statement: the tied card. -/
theorem proved : Rows.EntryFieldsCardSaid :=
  Claim7.holds_tied_plain_at .later [] [.data, .data, .data, .data, .data, .data, .pinned] true (true, "22cfd6e7383bb5aad363b0b690e9438c011781faa0bd90b4cd77707999b62113") true
    over (fun _ h => by cases h) o_wf (fun _ h => by cases h) entryFields_row_tie rfl ⟨rfl, rfl⟩ o_main rfl
    (fun f fn hf hfn => by
      obtain rfl : f = 8 := Option.some.inj (o_named.symm.trans hf) |>.symm
      obtain rfl : fn = Tryz.f8 := (Option.some.inj (Tryz.func8.symm.trans hfn)).symm
      exact ⟨o_looks, fun j t ht => by
        rw [Tryz.params8] at ht
        have hm : t ∈ [64, 64, 2, 4, 5] := by simpa using Array.mem_of_getElem? ht
        have hall : ([64, 64, 2, 4, 5].all fun u => !Tryz.prog.wantsStandIn u) = true := by kernel_rfl
        exact (show Tryz.prog.wantsStandIn t = false by simpa using List.all_eq_true.1 hall t hm)⟩)
    o_goes
#print axioms proved
end Go.Proofs.YtbhnhoenjoagbaaGreatDoor.lawEntryFields
