/- Bundle of 2 texts. -/
import Derived.Test.YtajjhndpdjfcpaaKit
import Derived.Test.YtajjhndpdjfcpaaRegionR
import Derived.Test.YtajjhndpdjfcpaaXwRow
import Derived.Laws.Tables
/- A cell below a bound stays. -/
namespace Go.Proofs.Ytajjhndpdjfcpaa
open Go.RowKit
theorem cell_below {B : Nat} {w w' : World} (hb : Below B w w') {a : Addr} {v : Value} (ha : a.block < B) (hc : w.cell? a = some v) : w'.cell? a = some v := by
  rw [World.cell?_of_block (hb.block a.block ha)]; exact hc
end Go.Proofs.Ytajjhndpdjfcpaa

/- A name with a value, built. -/
namespace Go.Proofs.Ytajjhndpdjfcpaa.XatW
open Go.RowKit
open XatM
theorem build_xat (a b : ByteArray) (w : World) : (Instr.build 41 #[(0, .string a), (1, .string b)]).run Try.prog w = .ok (.agg #[.string a, .string b]) w :=
  run_build w _ _ _ (by kernel_rfl)
end Go.Proofs.Ytajjhndpdjfcpaa.XatW
