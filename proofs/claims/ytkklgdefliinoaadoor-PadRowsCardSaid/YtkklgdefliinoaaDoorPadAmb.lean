/- What the walks of this seat lean on in memory: nothing. -/
import Derived.Test.YtkklgdefliinoaaDoorKit
namespace Go.Proofs.YtkklgdefliinoaaDoor
open Go.RowKit
/-- No walk of this seat reads a variable of a package. -/
def Amb (_ : World) : Prop := True
end Go.Proofs.YtkklgdefliinoaaDoor
