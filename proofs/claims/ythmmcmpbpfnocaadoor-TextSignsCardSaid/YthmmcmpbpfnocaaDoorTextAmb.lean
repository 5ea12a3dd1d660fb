/- What the walks of this seat lean on in memory: package text's table of forms; it stays as it is whatever a call makes. -/
import Derived.Test.YthmmcmpbpfnocaaDoorTab
import Derived.Test.YthmmcmpbpfnocaaDoorTextMath
import Derived.Below
namespace Go.Proofs.YthmmcmpbpfnocaaDoor
open Go.RowKit

/-- The table of forms, cell for cell. -/
def formCells : List Value := [.int .u8 0, .int .i64 7, .int .i64 0, .int .u8 6, .int .i64 5, .int .i64 128, .int .u8 14, .int .i64 4, .int .i64 2048, .int .u8 30, .int .i64 3, .int .i64 65536]
/-- The table of forms reads as the program's text lays it. -/
def Amb (w : World) : Prop := ∀ (i : Nat) v, formCells[i]? = some v → w.cell? ⟨0, i, none⟩ = some v
theorem Amb.on {w w' : World} (h : Amb w) (hb : Below w.heap.size w w') : Amb w' := fun i v hv => cell_kept hb (h i v hv)
theorem Amb.cells {w : World} (h : Amb w) :
    w.cell? ⟨0, 0, none⟩ = some (.int .u8 0) ∧ w.cell? ⟨0, 1, none⟩ = some (.int .i64 7) ∧ w.cell? ⟨0, 2, none⟩ = some (.int .i64 0) ∧
    w.cell? ⟨0, 3, none⟩ = some (.int .u8 6) ∧ w.cell? ⟨0, 4, none⟩ = some (.int .i64 5) ∧ w.cell? ⟨0, 5, none⟩ = some (.int .i64 128) ∧
    w.cell? ⟨0, 6, none⟩ = some (.int .u8 14) ∧ w.cell? ⟨0, 7, none⟩ = some (.int .i64 4) ∧ w.cell? ⟨0, 8, none⟩ = some (.int .i64 2048) ∧
    w.cell? ⟨0, 9, none⟩ = some (.int .u8 30) ∧ w.cell? ⟨0, 10, none⟩ = some (.int .i64 3) ∧ w.cell? ⟨0, 11, none⟩ = some (.int .i64 65536) :=
  ⟨h 0 _ rfl, h 1 _ rfl, h 2 _ rfl, h 3 _ rfl, h 4 _ rfl, h 5 _ rfl, h 6 _ rfl, h 7 _ rfl, h 8 _ rfl, h 9 _ rfl, h 10 _ rfl, h 11 _ rfl⟩
end Go.Proofs.YthmmcmpbpfnocaaDoor
