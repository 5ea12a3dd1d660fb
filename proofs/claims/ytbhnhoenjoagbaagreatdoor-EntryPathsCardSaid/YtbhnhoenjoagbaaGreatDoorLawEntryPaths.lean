/- The law 'gripsacklaw15.EntryPaths', as its tied card has it: for every input it returns true, and each argument reads as it read before; the listed tables of Go's library begin as the program's text lays them. No condition beyond the statement's own. -/
import Derived.Test.YtbhnhoenjoagbaaGreatDoorBnBI
import Derived.Test.YtbhnhoenjoagbaaGreatDoorBnBI
import Derived.Test.YtbhnhoenjoagbaaGreatDoorCards
namespace Go.Proofs.YtbhnhoenjoagbaaGreatDoor.lawEntryPaths
open Go.ChangeShapes Go.WideShapes Go.ChangeAt Go.RowKit
open Go.ChangeMaps (open_string shut_string)
set_option linter.unusedVariables false

theorem own : ownKnob Tryz.prog.godebug = none := by kernel_rfl
theorem laidOut : laidOutB Tryz.prog = true := by kernel_rfl
set_option maxRecDepth 100000 in
theorem door_met (os : Os) (args : Array Value) : laidMetH Tryz.prog Rows.entryPathsRow.laid (({ ((World.doorLaid Tryz.prog 86 os) : World) with heap := ((World.doorLaid Tryz.prog 86 os) : World).heap.modify 4 (fun o => match o with | .cells _ t fr => .cells ((Pinned.utf8FirstZ.map fun (z : Nat) => Value.int .u8 (z : Int)).toArray) t fr | o => o) }).forCall (fun _ _ => 0) ⟨#[], args, []⟩).memory :=
  laidMetH_of_parts3 (fuel := 8) (laidMet_of_run' 8 (by kernel_rfl) (by kernel_rfl)) (by kernel_rfl) (by kernel_rfl)

set_option maxRecDepth 100000 in
theorem lifted (os : Os) (started : os.Started) (H : Type) (enc : TypeId × Value → H) :
    ReturnsInHanded {} Tryz.checked os 6 .any (fun w args => (Rows.entryPathsSpec.pre enc Tryz.prog Tryz.f6 [] false w args ∧ laidMetH Tryz.prog Rows.entryPathsRow.laid w) ∧ sizedMet enc Tryz.prog Tryz.f6 (OpenSpec.ofChange Rows.entryPathsSpec) false w args)
      (Rows.entryPathsSpec.post enc Tryz.prog Tryz.f6 false true false false) := by
  refine wrap_laid (C := Tryz.checked) (X := fun w _ => laidMetH Tryz.prog Rows.entryPathsRow.laid w) (fun _ _ _ hh h => h.of_heap hh) own started (by kernel_rfl) Tryz.func6
    (ChangeSpec.witness_shaped (enc := enc) (C := Tryz.checked) (os := os) (X := fun w _ => laidMetH Tryz.prog Rows.entryPathsRow.laid w) false ({ ((World.doorLaid Tryz.prog 86 os) : World) with heap := ((World.doorLaid Tryz.prog 86 os) : World).heap.modify 4 (fun o => match o with | .cells _ t fr => .cells ((Pinned.utf8FirstZ.map fun (z : Nat) => Value.int .u8 (z : Int)).toArray) t fr | o => o) }) #[.slice none 0 0, .int .u8 0, .int .u8 0] 8 rfl (World.shaped_of_RefB (by kernel_rfl) (by kernel_rfl)) (by kernel_rfl) (by kernel_rfl) (by kernel_rfl) (door_met os _)) ?_
  intro W base args ds gs before hval0 hW _ hL hsh
  have hval : ∀ (j : Nat) t v, Tryz.f6.params[j]? = some t → args[j]? = some v → Value.okWide Tryz.prog W .any base t v := hval0
  have hA1 := amb_of rfl hL hsh
  have hW' := hW
  obtain ⟨p, q, hA0, hV, rfl, hfz, hnd⟩ := hW
  have hA : DataW.TrodAll enc Tryz.prog W 0 (fun _ => true) true Tryz.f6.params.toList args.toList ds p := hA0
  rw [Tryz.params6] at hA hval
  obtain ⟨v0, vs0, d0, ds0, p0, q0, hargs, rfl, rfl, h0, r0⟩ := trodAll_cons hA
  obtain ⟨v1, vs1, d1, ds1, p1, q1, rfl, rfl, rfl, h1, r1⟩ := trodAll_cons r0
  obtain ⟨v2, vs2, d2, ds2, p2, q2, rfl, rfl, rfl, h2, r2⟩ := trodAll_cons r1
  obtain ⟨rfl, rfl, rfl⟩ := trodAll_nil r2
  obtain rfl : args = #[v0, v1, v2] := by cases args; simp_all
  obtain ⟨rfl, rfl⟩ := trodVars_none hV
  obtain ⟨a0, len0, cap0, rfl⟩ := okWide_slice Tryz.underlying49 (hval 0 49 v0 rfl rfl)
  have k0 := h0
  have lt0 : ∀ x ∈ p0, x.block < W.heap.size := by obtain ⟨m, hm⟩ := k0; exact DataW.trod_lt m _ _ _ hm
  obtain ⟨z0, w0⟩ : ∃ zs, IsRow .u8 W a0 len0 cap0 zs := by
    obtain ⟨fuel, hf⟩ := h0
    rcases open_ints Tryz.underlying49 Tryz.underlying5 (by kernel_rfl) hf with ⟨hcs, _⟩ | ⟨x, l, c, zs, hcs, _, hl, hm, hz, _, hcell, hwz⟩
    · simp [Value.cells] at hcs
      obtain ⟨rfl, rfl, rfl⟩ := hcs
      exact ⟨[], .inl ⟨rfl, rfl, rfl, rfl⟩⟩
    · simp [Value.cells] at hcs
      obtain ⟨rfl, rfl, rfl⟩ := hcs
      exact ⟨zs, .inr ⟨_, rfl, hl, hm, by simpa using hz, hcell, hwz⟩⟩
  obtain ⟨a1, rfl, rfl, rfl, w1⟩ := open_int Tryz.underlying5 (hval 1 5 v1 rfl rfl) h1
  obtain ⟨a2, rfl, rfl, rfl, w2⟩ := open_int Tryz.underlying5 (hval 2 5 v2 rfl rfl) h2
  clear hA0 hval0
  refine (entryPaths_walk a0 len0 cap0 z0 a1 a2 W hA1 w0 w1 w2).mono fun e W' ⟨he, bel⟩ => ?_
  subst he
  exact ⟨_, rfl, _, _, _, [], _, [], hW', trodAll_mk1 (shut_bool Tryz.underlying4 _), (trodAll_cons_mk (Below.trod laidOut (by kernel_rfl) (of_decide_eq_true (by kernel_rfl)) k0 bel lt0) (trodAll_cons_mk (shut_int Tryz.underlying5 w1) (trodAll_cons_mk (shut_int Tryz.underlying5 w2) trodAll_mk0))), rfl, bel.frame _, fun h => by cases h⟩

theorem o_named : Tryz.pinned.checked.prog.funcNamed Rows.entryPathsRow.func = some 6 := by kernel_rfl
theorem o_closed : joinedFacts Tryz.pinned.checked.prog 6 Tryz.f6 Rows.entryPathsSpec Rows.entryPathsRow = true := by kernel_rfl
theorem o_inst : Tryz.f6.isInstance Tryz.pinned.checked.prog Rows.entryPathsRow.origin Rows.entryPathsRow.targs := of_decide_eq_true (by kernel_rfl)
theorem o_wrap : Tryz.f6.isWrapper Tryz.pinned.checked.prog Rows.entryPathsRow.wrapper Rows.entryPathsRow.mainSum := by unfold Func.isWrapper; first | (rw [if_pos (by decide +kernel)]; kernel_rfl) | (rw [if_neg (by decide +kernel)]; exact ⟨rfl, rfl⟩)
theorem o_wf : Rows.entryPathsRow.wfByText (OpenSpec.ofChange Rows.entryPathsSpec) = true := by kernel_rfl
theorem o_goes : false = Rows.entryPathsRow.goesBy Tryz.pinned.checked.prog := by kernel_rfl
theorem o_looks : true = Tryz.pinned.checked.prog.looks [] := by kernel_rfl
theorem o_main : Tryz.pinned.checked.prog.mainIs = some (true, "22cfd6e7383bb5aad363b0b690e9438c011781faa0bd90b4cd77707999b62113".toList) := by kernel_rfl
theorem over : Rows.entryPathsRow.holds Tryz.pinned (OpenSpec.ofChange Rows.entryPathsSpec) :=
  OpenClaim.holds_of_wide 6 Tryz.f6 rfl rfl rfl rfl rfl rfl rfl ⟨rfl, rfl, rfl, rfl, rfl⟩ rfl rfl rfl rfl rfl o_named Tryz.func6 o_closed
    o_inst o_wrap
    (fun os started H enc _ => lifted os started H enc)

/-- The statement: the tied card. -/
theorem proved : Rows.EntryPathsCardSaid :=
  Claim7.holds_tied_plain_at .later [] [.data, .data, .data, .data, .data, .data, .pinned] true (true, "22cfd6e7383bb5aad363b0b690e9438c011781faa0bd90b4cd77707999b62113") true
    over (fun _ h => by cases h) o_wf (fun _ h => by cases h) entryPaths_row_tie rfl ⟨rfl, rfl⟩ o_main rfl
    (fun f fn hf hfn => by
      obtain rfl : f = 6 := Option.some.inj (o_named.symm.trans hf) |>.symm
      obtain rfl : fn = Tryz.f6 := (Option.some.inj (Tryz.func6.symm.trans hfn)).symm
      exact ⟨o_looks, fun j t ht => by
        rw [Tryz.params6] at ht
        have hm : t ∈ [49, 5, 5] := by simpa using Array.mem_of_getElem? ht
        have hall : ([49, 5, 5].all fun u => !Tryz.prog.wantsStandIn u) = true := by kernel_rfl
        exact (show Tryz.prog.wantsStandIn t = false by simpa using List.all_eq_true.1 hall t hm)⟩)
    o_goes
#print axioms proved
end Go.Proofs.YtbhnhoenjoagbaaGreatDoor.lawEntryPaths
