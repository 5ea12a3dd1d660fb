/-
  NARROWER THAN 'FOR EVERY INPUT', by the rows' own cells (each row's printed sentence says how): TextAll: laid · TextSigns: laid · TextJoins: laid · TextKnown: laid.
  DERIVED. THE GIVEN ROWS OF THIS SEAT. 4 by the template 'for every input the law returns true; each argument reads behind the call as it read before'; 0 by the template 'total and deterministic' (their statements: YthmmcmpbpfnocaaDoorTotals.lean).
  GIVEN WITH THE SEED: the statements are not yours to turn. If you find one false, say at which input.
  Laid BY PROGRAM, IN A SANDBOX (cutbox-rows.mjs): the forced cells as the released guide's own fill.sh prints them over the translation b2772274e64b1fad… (all of the seat's roots in one cut). By AI agents, Wed Nov 11 2026. No macro, syntax, notation, axiom, sorry.
-/
import Derived.Test.YthmmcmpbpfnocaaDoorChecked
import GoSem.Claim
import GoSem.ClaimJoined
import GoSem.ClaimMapViews
import Derived.JoinedTies
import Derived.KernelRfl
namespace Go.Proofs.YthmmcmpbpfnocaaDoor
/- THE CELL 'sum', in the pinned program and in every row, IS THE sha256 OF THE DUMP (.gsa) THAT YthmmcmpbpfnocaaDoorProg.lean LOADS. Nothing in Lean hashes anything: it is a label: what it is worth is what the hold of that sum in a sandbox is worth. -/
noncomputable def Tryd.pinned : Pinned := { name := "ythmmcmpbpfnocaadoor", sum := "b2772274e64b1fad4b381c4351ab3b6a4ea9cdd0e10b1844b1b94aa9ad1e52d5", checked := Tryd.checked }
namespace Rows
def none {H : Type} : Left H := { results := [], args := [] }

/- WHAT THE LISTED PACKAGE-LEVEL VARIABLES READ AS WHEN THE CALL BEGINS. Each datum BY PROGRAM (the guide's laid-datum.mjs) off the statement by which the dump's own 'gosem.cut.vars' lays the variable. In a bare row this is a premise. The card (YthmmcmpbpfnocaaDoorCards.lean) ties it to the program's text. -/
def laid_gripsack_text_forms {H : Type} : DataW H := .agg [.agg [.lit (.int .u8 0), .lit (.int .i64 7), .lit (.int .i64 0)], .agg [.lit (.int .u8 6), .lit (.int .i64 5), .lit (.int .i64 128)], .agg [.lit (.int .u8 14), .lit (.int .i64 4), .lit (.int .i64 2048)], .agg [.lit (.int .u8 30), .lit (.int .i64 3), .lit (.int .i64 65536)]]

/-- 'gripsacklaw5.TextAll': WHATEVER THE INPUT: true; the input reads as it did. -/
def textAllSpec : ChangeSpec := { name := "textAll", fn := fun _ => fun
  | [d] => { results := [.lit (.bool true)], args := [d] }
  | _ => none }
def textAllRow : OpenClaim := { program := "ythmmcmpbpfnocaadoor", sum := "b2772274e64b1fad4b381c4351ab3b6a4ea9cdd0e10b1844b1b94aa9ad1e52d5", func := "gripsack/gripsacklaw5.TextAll", spec := "textAll", named := ["gripsack/text.forms"], apart := false, laid := [("gripsack/text.forms", laid_gripsack_text_forms)] }
def TextAllSaid : Prop := textAllRow.holds Tryd.pinned (OpenSpec.ofChange textAllSpec)

/-- ITS FALSE NEIGHBOUR: 'it returns false'. Refute it at one input. -/
def textAllWrong : ChangeSpec := { name := "textAll", fn := fun _ => fun
  | [d] => { results := [.lit (.bool false)], args := [d] }
  | _ => none }
def TextAllWrongFalsely : Prop := textAllRow.holds Tryd.pinned (OpenSpec.ofChange textAllWrong)

/-- 'gripsacklaw5.TextSigns': WHATEVER THE INPUT: true; the input reads as it did. -/
def textSignsSpec : ChangeSpec := { name := "textSigns", fn := fun _ => fun
  | [d] => { results := [.lit (.bool true)], args := [d] }
  | _ => none }
def textSignsRow : OpenClaim := { program := "ythmmcmpbpfnocaadoor", sum := "b2772274e64b1fad4b381c4351ab3b6a4ea9cdd0e10b1844b1b94aa9ad1e52d5", func := "gripsack/gripsacklaw5.TextSigns", spec := "textSigns", named := ["gripsack/text.forms"], apart := false, laid := [("gripsack/text.forms", laid_gripsack_text_forms)] }
def TextSignsSaid : Prop := textSignsRow.holds Tryd.pinned (OpenSpec.ofChange textSignsSpec)

/-- ITS FALSE NEIGHBOUR: 'it returns false'. Refute it at one input. -/
def textSignsWrong : ChangeSpec := { name := "textSigns", fn := fun _ => fun
  | [d] => { results := [.lit (.bool false)], args := [d] }
  | _ => none }
def TextSignsWrongFalsely : Prop := textSignsRow.holds Tryd.pinned (OpenSpec.ofChange textSignsWrong)

/-- 'gripsacklaw5.TextJoins': WHATEVER THE INPUT: true; the input reads as it did. -/
def textJoinsSpec : ChangeSpec := { name := "textJoins", fn := fun _ => fun
  | [d1, d2, d3] => { results := [.lit (.bool true)], args := [d1, d2, d3] }
  | _ => none }
def textJoinsRow : OpenClaim := { program := "ythmmcmpbpfnocaadoor", sum := "b2772274e64b1fad4b381c4351ab3b6a4ea9cdd0e10b1844b1b94aa9ad1e52d5", func := "gripsack/gripsacklaw5.TextJoins", spec := "textJoins", named := ["gripsack/text.forms"], apart := false, laid := [("gripsack/text.forms", laid_gripsack_text_forms)] }
def TextJoinsSaid : Prop := textJoinsRow.holds Tryd.pinned (OpenSpec.ofChange textJoinsSpec)

/-- ITS FALSE NEIGHBOUR: 'it returns false'. Refute it at one input. -/
def textJoinsWrong : ChangeSpec := { name := "textJoins", fn := fun _ => fun
  | [d1, d2, d3] => { results := [.lit (.bool false)], args := [d1, d2, d3] }
  | _ => none }
def TextJoinsWrongFalsely : Prop := textJoinsRow.holds Tryd.pinned (OpenSpec.ofChange textJoinsWrong)

/-- 'gripsacklaw5.TextKnown': WHATEVER THE INPUT: true; the input reads as it did. -/
def textKnownSpec : ChangeSpec := { name := "textKnown", fn := fun _ => fun
  | [d] => { results := [.lit (.bool true)], args := [d] }
  | _ => none }
def textKnownRow : OpenClaim := { program := "ythmmcmpbpfnocaadoor", sum := "b2772274e64b1fad4b381c4351ab3b6a4ea9cdd0e10b1844b1b94aa9ad1e52d5", func := "gripsack/gripsacklaw5.TextKnown", spec := "textKnown", named := ["gripsack/text.forms"], apart := false, laid := [("gripsack/text.forms", laid_gripsack_text_forms)] }
def TextKnownSaid : Prop := textKnownRow.holds Tryd.pinned (OpenSpec.ofChange textKnownSpec)

/-- ITS FALSE NEIGHBOUR: 'it returns false'. Refute it at one input. -/
def textKnownWrong : ChangeSpec := { name := "textKnown", fn := fun _ => fun
  | [d] => { results := [.lit (.bool false)], args := [d] }
  | _ => none }
def TextKnownWrongFalsely : Prop := textKnownRow.holds Tryd.pinned (OpenSpec.ofChange textKnownWrong)

/- THE SECOND FORM. 'bulk': how many values and letters a reading holds, each counted each time it is reached (what is shared counts as often as it is met; a slice's spare places count too). A statement '..UptoSaid' is the law's where the arguments, and the package variables that the reading takes, are together of bulk at most 1048576: NARROWER than '..Said'. Prove '..Said' where nothing that the law and all that it calls make is longer than what came in: it says more and counts as full. Else prove '..UptoSaid'. A law counts once. -/
mutual
def uptoBulk {H : Type} : DataW H → Nat
  | .lit (.string bytes) => bytes.length + 1
  | .lit _ => 1
  | .nil => 1
  | .ptr d => uptoBulk d + 1
  | .slice elems spare => uptoBulkAll elems + uptoBulkAll spare + 1
  | .agg parts => uptoBulkAll parts + 1
  | .iface _ d => uptoBulk d + 1
  | .map entries => uptoBulkEntries entries + 1
  | .held _ => 1
def uptoBulkAll {H : Type} : List (DataW H) → Nat
  | [] => 0
  | d :: r => uptoBulk d + uptoBulkAll r
def uptoBulkEntries {H : Type} : List (Lit × DataW H) → Nat
  | [] => 0
  | x :: r => uptoBulkEntry x + uptoBulkEntries r
def uptoBulkEntry {H : Type} : Lit × DataW H → Nat
  | (.string bytes, d) => bytes.length + uptoBulk d + 1
  | (_, d) => uptoBulk d + 1
 end
def uptoSmall : (H : Type) → List (DataW H) → Bool := fun _ ds => decide (uptoBulkAll ds ≤ 1048576)
def OpenSpec.upto (s : _root_.Go.ChangeSpec) : _root_.Go.OpenSpec := { _root_.Go.OpenSpec.ofChange s with cond := some uptoSmall }

/-- 'gripsacklaw5.TextAll', WHERE WHAT IT READS IS OF BULK AT MOST 1048576: true; the input reads as it did. -/
def textAllUptoRow : OpenClaim := { program := "ythmmcmpbpfnocaadoor", sum := "b2772274e64b1fad4b381c4351ab3b6a4ea9cdd0e10b1844b1b94aa9ad1e52d5", func := "gripsack/gripsacklaw5.TextAll", spec := "textAll", named := ["gripsack/text.forms"], apart := false, laid := [("gripsack/text.forms", laid_gripsack_text_forms)], narrowed := true }
def TextAllUptoSaid : Prop := textAllUptoRow.holds Tryd.pinned (OpenSpec.upto textAllSpec)

/-- 'gripsacklaw5.TextSigns', WHERE WHAT IT READS IS OF BULK AT MOST 1048576: true; the input reads as it did. -/
def textSignsUptoRow : OpenClaim := { program := "ythmmcmpbpfnocaadoor", sum := "b2772274e64b1fad4b381c4351ab3b6a4ea9cdd0e10b1844b1b94aa9ad1e52d5", func := "gripsack/gripsacklaw5.TextSigns", spec := "textSigns", named := ["gripsack/text.forms"], apart := false, laid := [("gripsack/text.forms", laid_gripsack_text_forms)], narrowed := true }
def TextSignsUptoSaid : Prop := textSignsUptoRow.holds Tryd.pinned (OpenSpec.upto textSignsSpec)

/-- 'gripsacklaw5.TextJoins', WHERE WHAT IT READS IS OF BULK AT MOST 1048576: true; the input reads as it did. -/
def textJoinsUptoRow : OpenClaim := { program := "ythmmcmpbpfnocaadoor", sum := "b2772274e64b1fad4b381c4351ab3b6a4ea9cdd0e10b1844b1b94aa9ad1e52d5", func := "gripsack/gripsacklaw5.TextJoins", spec := "textJoins", named := ["gripsack/text.forms"], apart := false, laid := [("gripsack/text.forms", laid_gripsack_text_forms)], narrowed := true }
def TextJoinsUptoSaid : Prop := textJoinsUptoRow.holds Tryd.pinned (OpenSpec.upto textJoinsSpec)

/-- 'gripsacklaw5.TextKnown', WHERE WHAT IT READS IS OF BULK AT MOST 1048576: true; the input reads as it did. -/
def textKnownUptoRow : OpenClaim := { program := "ythmmcmpbpfnocaadoor", sum := "b2772274e64b1fad4b381c4351ab3b6a4ea9cdd0e10b1844b1b94aa9ad1e52d5", func := "gripsack/gripsacklaw5.TextKnown", spec := "textKnown", named := ["gripsack/text.forms"], apart := false, laid := [("gripsack/text.forms", laid_gripsack_text_forms)], narrowed := true }
def TextKnownUptoSaid : Prop := textKnownUptoRow.holds Tryd.pinned (OpenSpec.upto textKnownSpec)

end Rows
end Go.Proofs.YthmmcmpbpfnocaaDoor
