/-
  No cell of these rows narrows 'for every input' (looked for: loops, veiled, ifaces, maps, wideKeys, modest, calm, conditions, laid).
  DERIVED. THE GIVEN ROWS OF THIS SEAT. 4 by the template 'for every input the law returns true; each argument reads behind the call as it read before'; 0 by the template 'total and deterministic' (their statements: YtajjhndpdjfcpaaTotals.lean).
  GIVEN WITH THE SEED: the statements are not yours to turn. If you find one false, say at which input.
  Laid BY PROGRAM, IN A SANDBOX (cutbox-rows.mjs): the forced cells as the released guide's own fill.sh prints them over the translation bad661db1925ecf9… (all of the seat's roots in one cut). By AI agents, Wed Nov 11 2026. No macro, syntax, notation, axiom, sorry.
-/
import Derived.Test.YtajjhndpdjfcpaaChecked
import GoSem.Claim
import GoSem.ClaimJoined
import GoSem.ClaimMapViews
import Derived.JoinedTies
import Derived.KernelRfl
namespace Go.Proofs.Ytajjhndpdjfcpaa
/- THE CELL 'sum', in the pinned program and in every row, IS THE sha256 OF THE DUMP (.gsa) THAT YtajjhndpdjfcpaaProg.lean LOADS. Nothing in Lean hashes anything: it is a label: what it is worth is what the hold of that sum in a sandbox is worth. -/
noncomputable def Try.pinned : Pinned := { name := "ytajjhndpdjfcpaa", sum := "bad661db1925ecf91937d2b211137830ecf20aa434d65f37c5f00e6319694489", checked := Try.checked }
namespace Rows
def none {H : Type} : Left H := { results := [], args := [] }

/-- 'gripsacklaw14.MetaAll': WHATEVER THE INPUT: true; the input reads as it did. -/
def metaAllSpec : ChangeSpec := { name := "metaAll", fn := fun _ => fun
  | [d1, d2, d3, d4, d5, d6] => { results := [.lit (.bool true)], args := [d1, d2, d3, d4, d5, d6] }
  | _ => none }
def metaAllRow : OpenClaim := { program := "ytajjhndpdjfcpaa", sum := "bad661db1925ecf91937d2b211137830ecf20aa434d65f37c5f00e6319694489", func := "gripsack/gripsacklaw14.MetaAll", spec := "metaAll", inPlace := ["internal/bytealg.IndexByteString", "internal/abi.NoEscape", "internal/bytealg.MakeNoZero"], unfollowed := true, recurses := true, apart := false }
def MetaAllSaid : Prop := metaAllRow.holds Try.pinned (OpenSpec.ofChange metaAllSpec)

/-- ITS FALSE NEIGHBOUR: 'it returns false'. Refute it at one input. -/
def metaAllWrong : ChangeSpec := { name := "metaAll", fn := fun _ => fun
  | [d1, d2, d3, d4, d5, d6] => { results := [.lit (.bool false)], args := [d1, d2, d3, d4, d5, d6] }
  | _ => none }
def MetaAllWrongFalsely : Prop := metaAllRow.holds Try.pinned (OpenSpec.ofChange metaAllWrong)

/-- 'gripsacklaw14.MetaMade': WHATEVER THE INPUT: true; the input reads as it did. -/
def metaMadeSpec : ChangeSpec := { name := "metaMade", fn := fun _ => fun
  | [d1, d2, d3] => { results := [.lit (.bool true)], args := [d1, d2, d3] }
  | _ => none }
def metaMadeRow : OpenClaim := { program := "ytajjhndpdjfcpaa", sum := "bad661db1925ecf91937d2b211137830ecf20aa434d65f37c5f00e6319694489", func := "gripsack/gripsacklaw14.MetaMade", spec := "metaMade", inPlace := ["internal/bytealg.IndexByteString", "internal/abi.NoEscape", "internal/bytealg.MakeNoZero"], unfollowed := true, recurses := true, apart := false }
def MetaMadeSaid : Prop := metaMadeRow.holds Try.pinned (OpenSpec.ofChange metaMadeSpec)

/-- ITS FALSE NEIGHBOUR: 'it returns false'. Refute it at one input. -/
def metaMadeWrong : ChangeSpec := { name := "metaMade", fn := fun _ => fun
  | [d1, d2, d3] => { results := [.lit (.bool false)], args := [d1, d2, d3] }
  | _ => none }
def MetaMadeWrongFalsely : Prop := metaMadeRow.holds Try.pinned (OpenSpec.ofChange metaMadeWrong)

/-- 'gripsacklaw14.MetaKinds': WHATEVER THE INPUT: true; the input reads as it did. -/
def metaKindsSpec : ChangeSpec := { name := "metaKinds", fn := fun _ => fun
  | [d1, d2, d3] => { results := [.lit (.bool true)], args := [d1, d2, d3] }
  | _ => none }
def metaKindsRow : OpenClaim := { program := "ytajjhndpdjfcpaa", sum := "bad661db1925ecf91937d2b211137830ecf20aa434d65f37c5f00e6319694489", func := "gripsack/gripsacklaw14.MetaKinds", spec := "metaKinds", inPlace := ["internal/bytealg.IndexByteString", "internal/abi.NoEscape", "internal/bytealg.MakeNoZero"], unfollowed := true, recurses := true, apart := false }
def MetaKindsSaid : Prop := metaKindsRow.holds Try.pinned (OpenSpec.ofChange metaKindsSpec)

/-- ITS FALSE NEIGHBOUR: 'it returns false'. Refute it at one input. -/
def metaKindsWrong : ChangeSpec := { name := "metaKinds", fn := fun _ => fun
  | [d1, d2, d3] => { results := [.lit (.bool false)], args := [d1, d2, d3] }
  | _ => none }
def MetaKindsWrongFalsely : Prop := metaKindsRow.holds Try.pinned (OpenSpec.ofChange metaKindsWrong)

/-- 'gripsacklaw14.MetaLists': WHATEVER THE INPUT: true; the input reads as it did. -/
def metaListsSpec : ChangeSpec := { name := "metaLists", fn := fun _ => fun
  | [d1, d2, d3] => { results := [.lit (.bool true)], args := [d1, d2, d3] }
  | _ => none }
def metaListsRow : OpenClaim := { program := "ytajjhndpdjfcpaa", sum := "bad661db1925ecf91937d2b211137830ecf20aa434d65f37c5f00e6319694489", func := "gripsack/gripsacklaw14.MetaLists", spec := "metaLists", inPlace := ["internal/bytealg.IndexByteString", "internal/abi.NoEscape", "internal/bytealg.MakeNoZero"], unfollowed := true, recurses := true, apart := false }
def MetaListsSaid : Prop := metaListsRow.holds Try.pinned (OpenSpec.ofChange metaListsSpec)

/-- ITS FALSE NEIGHBOUR: 'it returns false'. Refute it at one input. -/
def metaListsWrong : ChangeSpec := { name := "metaLists", fn := fun _ => fun
  | [d1, d2, d3] => { results := [.lit (.bool false)], args := [d1, d2, d3] }
  | _ => none }
def MetaListsWrongFalsely : Prop := metaListsRow.holds Try.pinned (OpenSpec.ofChange metaListsWrong)

/- THE SECOND FORM. 'bulk': how many values and letters a reading holds, each counted each time it is reached (what is shared counts as often as it is met; a slice's spare places count too). A statement '..UptoSaid' is the law's where the arguments, and the package variables that the reading takes, are together of bulk at most 1048576: NARROWER than '..Said'. Prove '..Said' where nothing that the law and all that it calls make is longer than what came in: it says more and counts as full. Else prove '..UptoSaid'. A law counts once. -/
mutual
def uptoBulk {H : Type} : DataW H → Nat
  | .lit (.string bytes) => bytes.length + 1
  | .lit _ => 1
  | .nil => 1
  | .ptr d => uptoBulk d + 1
  | .slice elems spare => uptoBulkAll elems + uptoBulkAll spare + 1
  | .agg parts => uptoBulkAll parts + 1
  | .iface _ d => uptoBulk d + 1
  | .map entries => uptoBulkEntries entries + 1
  | .held _ => 1
def uptoBulkAll {H : Type} : List (DataW H) → Nat
  | [] => 0
  | d :: r => uptoBulk d + uptoBulkAll r
def uptoBulkEntries {H : Type} : List (Lit × DataW H) → Nat
  | [] => 0
  | x :: r => uptoBulkEntry x + uptoBulkEntries r
def uptoBulkEntry {H : Type} : Lit × DataW H → Nat
  | (.string bytes, d) => bytes.length + uptoBulk d + 1
  | (_, d) => uptoBulk d + 1
 end
def uptoSmall : (H : Type) → List (DataW H) → Bool := fun _ ds => decide (uptoBulkAll ds ≤ 1048576)
def OpenSpec.upto (s : _root_.Go.ChangeSpec) : _root_.Go.OpenSpec := { _root_.Go.OpenSpec.ofChange s with cond := some uptoSmall }

/-- 'gripsacklaw14.MetaAll', WHERE WHAT IT READS IS OF BULK AT MOST 1048576: true; the input reads as it did. -/
def metaAllUptoRow : OpenClaim := { program := "ytajjhndpdjfcpaa", sum := "bad661db1925ecf91937d2b211137830ecf20aa434d65f37c5f00e6319694489", func := "gripsack/gripsacklaw14.MetaAll", spec := "metaAll", inPlace := ["internal/bytealg.IndexByteString", "internal/abi.NoEscape", "internal/bytealg.MakeNoZero"], unfollowed := true, recurses := true, apart := false, narrowed := true }
def MetaAllUptoSaid : Prop := metaAllUptoRow.holds Try.pinned (OpenSpec.upto metaAllSpec)

/-- 'gripsacklaw14.MetaMade', WHERE WHAT IT READS IS OF BULK AT MOST 1048576: true; the input reads as it did. -/
def metaMadeUptoRow : OpenClaim := { program := "ytajjhndpdjfcpaa", sum := "bad661db1925ecf91937d2b211137830ecf20aa434d65f37c5f00e6319694489", func := "gripsack/gripsacklaw14.MetaMade", spec := "metaMade", inPlace := ["internal/bytealg.IndexByteString", "internal/abi.NoEscape", "internal/bytealg.MakeNoZero"], unfollowed := true, recurses := true, apart := false, narrowed := true }
def MetaMadeUptoSaid : Prop := metaMadeUptoRow.holds Try.pinned (OpenSpec.upto metaMadeSpec)

/-- 'gripsacklaw14.MetaKinds', WHERE WHAT IT READS IS OF BULK AT MOST 1048576: true; the input reads as it did. -/
def metaKindsUptoRow : OpenClaim := { program := "ytajjhndpdjfcpaa", sum := "bad661db1925ecf91937d2b211137830ecf20aa434d65f37c5f00e6319694489", func := "gripsack/gripsacklaw14.MetaKinds", spec := "metaKinds", inPlace := ["internal/bytealg.IndexByteString", "internal/abi.NoEscape", "internal/bytealg.MakeNoZero"], unfollowed := true, recurses := true, apart := false, narrowed := true }
def MetaKindsUptoSaid : Prop := metaKindsUptoRow.holds Try.pinned (OpenSpec.upto metaKindsSpec)

/-- 'gripsacklaw14.MetaLists', WHERE WHAT IT READS IS OF BULK AT MOST 1048576: true; the input reads as it did. -/
def metaListsUptoRow : OpenClaim := { program := "ytajjhndpdjfcpaa", sum := "bad661db1925ecf91937d2b211137830ecf20aa434d65f37c5f00e6319694489", func := "gripsack/gripsacklaw14.MetaLists", spec := "metaLists", inPlace := ["internal/bytealg.IndexByteString", "internal/abi.NoEscape", "internal/bytealg.MakeNoZero"], unfollowed := true, recurses := true, apart := false, narrowed := true }
def MetaListsUptoSaid : Prop := metaListsUptoRow.holds Try.pinned (OpenSpec.upto metaListsSpec)

end Rows
end Go.Proofs.Ytajjhndpdjfcpaa
