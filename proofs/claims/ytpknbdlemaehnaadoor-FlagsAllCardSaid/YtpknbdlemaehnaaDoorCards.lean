/-
  DERIVED. GIVEN WITH THE SEED: THE CARDS: each row of YtpknbdlemaehnaaDoorRows.lean that lists a variable, with what it lists TIED to the program's text (the seventh form; the later family's looks); each row that meets fmt, with fmt's text TOLD by the authors' own Lean function (tested against real Go, not proved from fmt's source: count such statements apart). THE CARD IS WHAT COUNTS. Prove the row's statement (the work); the ties are given (YtpknbdlemaehnaaDoorTie.lean); close each card by the builder's one call (the guide's Derived/Test/ToyasCard.lean, 'card_holds'). Laid BY PROGRAM, IN A SANDBOX (cutbox-door.mjs). By AI agents, Wed Nov 11 2026. No macro, syntax, notation, axiom, sorry.
-/
import Derived.Test.YtpknbdlemaehnaaDoorRows
import GoSem.ClaimSeven
namespace Go.Proofs.YtpknbdlemaehnaaDoor
namespace Rows

/-- THE TIED CARD OF 'gripsacklaw12.FlagsAll'. -/
def flagsAllCard : Claim7 := { stood := { row := flagsAllRow, standIns := [], harness := (true, "925ae9a063bf4ba6f1cfcb50c8cb41c75090a5e28d7c66c03f29ffe53660db8d"), looks := false }, kinds := [], alts := [], laidByText := true, laidKinds := [.data], laidTests := true, laidLooks := .later }
def FlagsAllCardSaid : Prop := Claim7.holds Tryd.pinned (.plain (OpenSpec.ofChange flagsAllSpec)) flagsAllCard

/-- THE TIED CARD OF 'gripsacklaw12.FlagsBack'. -/
def flagsBackCard : Claim7 := { stood := { row := flagsBackRow, standIns := [], harness := (true, "925ae9a063bf4ba6f1cfcb50c8cb41c75090a5e28d7c66c03f29ffe53660db8d"), looks := false }, kinds := [], alts := [], laidByText := true, laidKinds := [.data], laidTests := true, laidLooks := .later }
def FlagsBackCardSaid : Prop := Claim7.holds Tryd.pinned (.plain (OpenSpec.ofChange flagsBackSpec)) flagsBackCard

/-- THE TIED CARD OF 'gripsacklaw12.FlagsWords'. -/
def flagsWordsCard : Claim7 := { stood := { row := flagsWordsRow, standIns := [], harness := (true, "925ae9a063bf4ba6f1cfcb50c8cb41c75090a5e28d7c66c03f29ffe53660db8d"), looks := false }, kinds := [], alts := [], laidByText := true, laidKinds := [.data], laidTests := true, laidLooks := .later }
def FlagsWordsCardSaid : Prop := Claim7.holds Tryd.pinned (.plain (OpenSpec.ofChange flagsWordsSpec)) flagsWordsCard

/-- THE SECOND FORM's CARD OF 'gripsacklaw12.FlagsAll'. -/
def flagsAllUptoCard : Claim7 := { stood := { row := flagsAllUptoRow, standIns := [], harness := (true, "925ae9a063bf4ba6f1cfcb50c8cb41c75090a5e28d7c66c03f29ffe53660db8d"), looks := false }, kinds := [], alts := [], laidByText := true, laidKinds := [.data], laidTests := true, laidLooks := .later }
def FlagsAllUptoCardSaid : Prop := Claim7.holds Tryd.pinned (.plain (OpenSpec.upto flagsAllSpec)) flagsAllUptoCard

/-- THE SECOND FORM's CARD OF 'gripsacklaw12.FlagsBack'. -/
def flagsBackUptoCard : Claim7 := { stood := { row := flagsBackUptoRow, standIns := [], harness := (true, "925ae9a063bf4ba6f1cfcb50c8cb41c75090a5e28d7c66c03f29ffe53660db8d"), looks := false }, kinds := [], alts := [], laidByText := true, laidKinds := [.data], laidTests := true, laidLooks := .later }
def FlagsBackUptoCardSaid : Prop := Claim7.holds Tryd.pinned (.plain (OpenSpec.upto flagsBackSpec)) flagsBackUptoCard

/-- THE SECOND FORM's CARD OF 'gripsacklaw12.FlagsWords'. -/
def flagsWordsUptoCard : Claim7 := { stood := { row := flagsWordsUptoRow, standIns := [], harness := (true, "925ae9a063bf4ba6f1cfcb50c8cb41c75090a5e28d7c66c03f29ffe53660db8d"), looks := false }, kinds := [], alts := [], laidByText := true, laidKinds := [.data], laidTests := true, laidLooks := .later }
def FlagsWordsUptoCardSaid : Prop := Claim7.holds Tryd.pinned (.plain (OpenSpec.upto flagsWordsSpec)) flagsWordsUptoCard
end Rows
end Go.Proofs.YtpknbdlemaehnaaDoor
