/- What the walks of this seat lean on in memory: package flags' table of names; it stays as it is whatever a call makes. -/
import Derived.Test.YtpknbdlemaehnaaDoorTab
import Derived.Test.YtpknbdlemaehnaaDoorFlagsMath
import Derived.Below
namespace Go.Proofs.YtpknbdlemaehnaaDoor
open Go.RowKit
open FlagsM

/-- The table of names, cell for cell. -/
def nameCells : List Value := [.string ⟨#[117, 99, 104, 103]⟩, .string ⟨#[117, 97, 112, 112, 110, 100]⟩, .string ⟨#[110, 111, 100, 117, 109, 112]⟩, .string ⟨#[111, 112, 97, 113, 117, 101]⟩]
/-- The table of names reads as the program's text lays it. -/
def Amb (w : World) : Prop := ∀ (i : Nat) v, nameCells[i]? = some v → w.cell? ⟨0, i, none⟩ = some v
theorem Amb.on {w w' : World} (h : Amb w) (hb : Below w.heap.size w w') : Amb w' := fun i v hv => cell_kept hb (h i v hv)
theorem Amb.cells {w : World} (h : Amb w) :
    w.cell? ⟨0, 0, none⟩ = some (.string ⟨#[117, 99, 104, 103]⟩) ∧ w.cell? ⟨0, 1, none⟩ = some (.string ⟨#[117, 97, 112, 112, 110, 100]⟩) ∧
    w.cell? ⟨0, 2, none⟩ = some (.string ⟨#[110, 111, 100, 117, 109, 112]⟩) ∧ w.cell? ⟨0, 3, none⟩ = some (.string ⟨#[111, 112, 97, 113, 117, 101]⟩) :=
  ⟨h 0 _ rfl, h 1 _ rfl, h 2 _ rfl, h 3 _ rfl⟩
end Go.Proofs.YtpknbdlemaehnaaDoor
