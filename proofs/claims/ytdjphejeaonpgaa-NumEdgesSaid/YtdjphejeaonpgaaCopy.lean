/- The built-in copy of a string into a block of bytes that is known whole. -/
import Derived.Test.YtdjphejeaonpgaaKit
import Derived.Laws.CopyOwn
import Derived.Lib.Strings
namespace Go.Proofs.Ytdjphejeaonpgaa
open Go.RowKit

theorem cells_of_string (s : ByteArray) (n : Nat) : ((s.extract 0 n).data.map fun b => Value.int .u8 (b.toNat : Int)) = cellsOf (s.data.toList.take n) := by
  have h : (s.extract 0 n).data.toList = s.data.toList.take n := by
    rw [Lib.extract_data]; simp
  generalize (s.extract 0 n).data = A at *
  rw [cellsOf, ← h]
  rw [← Array.toList_map, Array.toArray_toList]
theorem run_copy_str {P : Program} {w : World} {dT sT ty elem t : TypeId} {g dLen dCap : Nat} (s : ByteArray) (l : List UInt8)
    (hu : P.underlying dT = some (.slice elem)) (hs : (P.info? elem).map (·.size) = some 1) (hg : BlkIs w g t (cellsOf l)) (hfit : dLen ≤ l.length) :
    (Builtin.copy_ #[dT, sT] ty #[.slice (some ⟨g, 0, none⟩) dLen dCap, .string s]).run P w =
      .ok (goInt (Nat.min s.size dLen)) (w.setRow g (cellsOf (s.data.toList.take (Nat.min s.size dLen) ++ l.drop (Nat.min s.size dLen)))) := by
  have hlen : (s.data.toList.take (Nat.min s.size dLen)).length = Nat.min s.size dLen := by simp; try exact Nat.min_le_left _ _
  have hle : Nat.min s.size dLen ≤ l.length := Nat.le_trans (Nat.min_le_right _ _) hfit
  have hst := run_storeCells_at P g 0 t (cellsOf (s.data.toList.take (Nat.min s.size dLen))).toList 0 (cellsOf l) w hg (by simp [cellsOf]; simpa using hle)
    (by
      intro v hv
      simp only [cellsOf, List.mem_map] at hv
      obtain ⟨b, _, rfl⟩ := hv
      rfl)
  cases hq : P.info? elem with
  | none => simp [hq] at hs
  | some i =>
    simp only [Builtin.copy_, Builtin.lenOf, Builtin.firstCells, cells_of_string]
    simp [run_underlying hu, sizeOf, typeInfo, hq, hst]
    congr 1
    apply Array.ext_getElem?
    intro j
    simp [cellsOf]
end Go.Proofs.Ytdjphejeaonpgaa
