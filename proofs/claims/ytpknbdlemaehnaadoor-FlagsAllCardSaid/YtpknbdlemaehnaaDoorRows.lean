/-
  NARROWER THAN 'FOR EVERY INPUT', by the rows' own cells (each row's printed sentence says how): FlagsAll: laid · FlagsBack: laid · FlagsWords: laid.
  DERIVED. THE GIVEN ROWS OF THIS SEAT. 3 by the template 'for every input the law returns true; each argument reads behind the call as it read before'; 0 by the template 'total and deterministic' (their statements: YtpknbdlemaehnaaDoorTotals.lean).
  GIVEN WITH THE SEED: the statements are not yours to turn. If you find one false, say at which input.
  Laid BY PROGRAM, IN A SANDBOX (cutbox-rows.mjs): the forced cells as the released guide's own fill.sh prints them over the translation 6a7659aab23cea30… (all of the seat's roots in one cut). By AI agents, Wed Nov 11 2026. No macro, syntax, notation, axiom, sorry.
-/
import Derived.Test.YtpknbdlemaehnaaDoorChecked
import GoSem.Claim
import GoSem.ClaimJoined
import GoSem.ClaimMapViews
import Derived.JoinedTies
import Derived.KernelRfl
namespace Go.Proofs.YtpknbdlemaehnaaDoor
/- THE CELL 'sum', in the pinned program and in every row, IS THE sha256 OF THE DUMP (.gsa) THAT YtpknbdlemaehnaaDoorProg.lean LOADS. Nothing in Lean hashes anything: it is a label: what it is worth is what the hold of that sum in a sandbox is worth. -/
noncomputable def Tryd.pinned : Pinned := { name := "ytpknbdlemaehnaadoor", sum := "6a7659aab23cea308f520384bfe94170b60c28df3f828961724a1cf88a98f449", checked := Tryd.checked }
namespace Rows
def none {H : Type} : Left H := { results := [], args := [] }

/- WHAT THE LISTED PACKAGE-LEVEL VARIABLES READ AS WHEN THE CALL BEGINS. Each datum BY PROGRAM (the guide's laid-datum.mjs) off the statement by which the dump's own 'gosem.cut.vars' lays the variable. In a bare row this is a premise. The card (YtpknbdlemaehnaaDoorCards.lean) ties it to the program's text. -/
def laid_gripsack_flags_names {H : Type} : DataW H := .agg [.lit (.string [117, 99, 104, 103]), .lit (.string [117, 97, 112, 112, 110, 100]), .lit (.string [110, 111, 100, 117, 109, 112]), .lit (.string [111, 112, 97, 113, 117, 101])]

/-- 'gripsacklaw12.FlagsAll': WHATEVER THE INPUT: true; the input reads as it did. -/
def flagsAllSpec : ChangeSpec := { name := "flagsAll", fn := fun _ => fun
  | [d1, d2] => { results := [.lit (.bool true)], args := [d1, d2] }
  | _ => none }
def flagsAllRow : OpenClaim := { program := "ytpknbdlemaehnaadoor", sum := "6a7659aab23cea308f520384bfe94170b60c28df3f828961724a1cf88a98f449", func := "gripsack/gripsacklaw12.FlagsAll", spec := "flagsAll", inPlace := ["internal/bytealg.IndexByteString", "internal/bytealg.IndexString"], unfollowed := true, recurses := true, named := ["internal/bytealg.MaxLen", "gripsack/flags.names"], apart := false, laid := [("gripsack/flags.names", laid_gripsack_flags_names)] }
def FlagsAllSaid : Prop := flagsAllRow.holds Tryd.pinned (OpenSpec.ofChange flagsAllSpec)

/-- ITS FALSE NEIGHBOUR: 'it returns false'. Refute it at one input. -/
def flagsAllWrong : ChangeSpec := { name := "flagsAll", fn := fun _ => fun
  | [d1, d2] => { results := [.lit (.bool false)], args := [d1, d2] }
  | _ => none }
def FlagsAllWrongFalsely : Prop := flagsAllRow.holds Tryd.pinned (OpenSpec.ofChange flagsAllWrong)

/-- 'gripsacklaw12.FlagsBack': WHATEVER THE INPUT: true; the input reads as it did. -/
def flagsBackSpec : ChangeSpec := { name := "flagsBack", fn := fun _ => fun
  | [d1, d2] => { results := [.lit (.bool true)], args := [d1, d2] }
  | _ => none }
def flagsBackRow : OpenClaim := { program := "ytpknbdlemaehnaadoor", sum := "6a7659aab23cea308f520384bfe94170b60c28df3f828961724a1cf88a98f449", func := "gripsack/gripsacklaw12.FlagsBack", spec := "flagsBack", inPlace := ["internal/bytealg.IndexByteString", "internal/bytealg.IndexString"], unfollowed := true, recurses := true, named := ["gripsack/flags.names", "internal/bytealg.MaxLen"], apart := false, laid := [("gripsack/flags.names", laid_gripsack_flags_names)] }
def FlagsBackSaid : Prop := flagsBackRow.holds Tryd.pinned (OpenSpec.ofChange flagsBackSpec)

/-- ITS FALSE NEIGHBOUR: 'it returns false'. Refute it at one input. -/
def flagsBackWrong : ChangeSpec := { name := "flagsBack", fn := fun _ => fun
  | [d1, d2] => { results := [.lit (.bool false)], args := [d1, d2] }
  | _ => none }
def FlagsBackWrongFalsely : Prop := flagsBackRow.holds Tryd.pinned (OpenSpec.ofChange flagsBackWrong)

/-- 'gripsacklaw12.FlagsWords': WHATEVER THE INPUT: true; the input reads as it did. -/
def flagsWordsSpec : ChangeSpec := { name := "flagsWords", fn := fun _ => fun
  | [d] => { results := [.lit (.bool true)], args := [d] }
  | _ => none }
def flagsWordsRow : OpenClaim := { program := "ytpknbdlemaehnaadoor", sum := "6a7659aab23cea308f520384bfe94170b60c28df3f828961724a1cf88a98f449", func := "gripsack/gripsacklaw12.FlagsWords", spec := "flagsWords", inPlace := ["internal/bytealg.IndexByteString", "internal/bytealg.IndexString"], unfollowed := true, recurses := true, named := ["internal/bytealg.MaxLen", "gripsack/flags.names"], apart := false, laid := [("gripsack/flags.names", laid_gripsack_flags_names)] }
def FlagsWordsSaid : Prop := flagsWordsRow.holds Tryd.pinned (OpenSpec.ofChange flagsWordsSpec)

/-- ITS FALSE NEIGHBOUR: 'it returns false'. Refute it at one input. -/
def flagsWordsWrong : ChangeSpec := { name := "flagsWords", fn := fun _ => fun
  | [d] => { results := [.lit (.bool false)], args := [d] }
  | _ => none }
def FlagsWordsWrongFalsely : Prop := flagsWordsRow.holds Tryd.pinned (OpenSpec.ofChange flagsWordsWrong)

/- THE SECOND FORM. 'bulk': how many values and letters a reading holds, each counted each time it is reached (what is shared counts as often as it is met; a slice's spare places count too). A statement '..UptoSaid' is the law's where the arguments, and the package variables that the reading takes, are together of bulk at most 1048576: NARROWER than '..Said'. Prove '..Said' where nothing that the law and all that it calls make is longer than what came in: it says more and counts as full. Else prove '..UptoSaid'. A law counts once. -/
mutual
def uptoBulk {H : Type} : DataW H → Nat
  | .lit (.string bytes) => bytes.length + 1
  | .lit _ => 1
  | .nil => 1
  | .ptr d => uptoBulk d + 1
  | .slice elems spare => uptoBulkAll elems + uptoBulkAll spare + 1
  | .agg parts => uptoBulkAll parts + 1
  | .iface _ d => uptoBulk d + 1
  | .map entries => uptoBulkEntries entries + 1
  | .held _ => 1
def uptoBulkAll {H : Type} : List (DataW H) → Nat
  | [] => 0
  | d :: r => uptoBulk d + uptoBulkAll r
def uptoBulkEntries {H : Type} : List (Lit × DataW H) → Nat
  | [] => 0
  | x :: r => uptoBulkEntry x + uptoBulkEntries r
def uptoBulkEntry {H : Type} : Lit × DataW H → Nat
  | (.string bytes, d) => bytes.length + uptoBulk d + 1
  | (_, d) => uptoBulk d + 1
 end
def uptoSmall : (H : Type) → List (DataW H) → Bool := fun _ ds => decide (uptoBulkAll ds ≤ 1048576)
def OpenSpec.upto (s : _root_.Go.ChangeSpec) : _root_.Go.OpenSpec := { _root_.Go.OpenSpec.ofChange s with cond := some uptoSmall }

/-- 'gripsacklaw12.FlagsAll', WHERE WHAT IT READS IS OF BULK AT MOST 1048576: true; the input reads as it did. -/
def flagsAllUptoRow : OpenClaim := { program := "ytpknbdlemaehnaadoor", sum := "6a7659aab23cea308f520384bfe94170b60c28df3f828961724a1cf88a98f449", func := "gripsack/gripsacklaw12.FlagsAll", spec := "flagsAll", inPlace := ["internal/bytealg.IndexByteString", "internal/bytealg.IndexString"], unfollowed := true, recurses := true, named := ["internal/bytealg.MaxLen", "gripsack/flags.names"], apart := false, laid := [("gripsack/flags.names", laid_gripsack_flags_names)], narrowed := true }
def FlagsAllUptoSaid : Prop := flagsAllUptoRow.holds Tryd.pinned (OpenSpec.upto flagsAllSpec)

/-- 'gripsacklaw12.FlagsBack', WHERE WHAT IT READS IS OF BULK AT MOST 1048576: true; the input reads as it did. -/
def flagsBackUptoRow : OpenClaim := { program := "ytpknbdlemaehnaadoor", sum := "6a7659aab23cea308f520384bfe94170b60c28df3f828961724a1cf88a98f449", func := "gripsack/gripsacklaw12.FlagsBack", spec := "flagsBack", inPlace := ["internal/bytealg.IndexByteString", "internal/bytealg.IndexString"], unfollowed := true, recurses := true, named := ["gripsack/flags.names", "internal/bytealg.MaxLen"], apart := false, laid := [("gripsack/flags.names", laid_gripsack_flags_names)], narrowed := true }
def FlagsBackUptoSaid : Prop := flagsBackUptoRow.holds Tryd.pinned (OpenSpec.upto flagsBackSpec)

/-- 'gripsacklaw12.FlagsWords', WHERE WHAT IT READS IS OF BULK AT MOST 1048576: true; the input reads as it did. -/
def flagsWordsUptoRow : OpenClaim := { program := "ytpknbdlemaehnaadoor", sum := "6a7659aab23cea308f520384bfe94170b60c28df3f828961724a1cf88a98f449", func := "gripsack/gripsacklaw12.FlagsWords", spec := "flagsWords", inPlace := ["internal/bytealg.IndexByteString", "internal/bytealg.IndexString"], unfollowed := true, recurses := true, named := ["internal/bytealg.MaxLen", "gripsack/flags.names"], apart := false, laid := [("gripsack/flags.names", laid_gripsack_flags_names)], narrowed := true }
def FlagsWordsUptoSaid : Prop := flagsWordsUptoRow.holds Tryd.pinned (OpenSpec.upto flagsWordsSpec)

end Rows
end Go.Proofs.YtpknbdlemaehnaaDoor
