/- Decimal digits: what a row of digits counts, and that decimal letters are read again. -/
import Derived.Lib.ItoaNum
import Derived.Lib.TrimByte
import Derived.Lib.Strings
import Derived.Lib.IndexMore
import Derived.RowKit
import Derived.IntWalk
namespace Go.Proofs.Ytpfidbcnefnhcaa
open Go.RowKit
namespace DecM
open Go.Lib (decDigits nDigits decDigits_length)

def isDig (c : UInt8) : Bool := decide (48 ≤ c.toNat) && decide (c.toNat ≤ 57)
def valN (l : List UInt8) : Nat := l.foldl (fun x c => x * 10 + (c.toNat - 48)) 0

end DecM
end Go.Proofs.Ytpfidbcnefnhcaa
