/- What is said of a node: which may be, in plain Lean. -/
import Derived.Test.YtajjhndpdjfcpaaAclKit
import Derived.Test.YtajjhndpdjfcpaaAwPackMay
import Derived.Test.YtajjhndpdjfcpaaCapsMath
import Derived.Test.YtajjhndpdjfcpaaMathPack
namespace Go.Proofs.Ytajjhndpdjfcpaa
namespace MetaM

structure Mt where
  mode : Int
  uid : Int
  gid : Int
  sec : Int
  nano : Int
  acl : List AclM.Ace
  dfl : List AclM.Ace
  xat : List XatM.Xa
  cap : CapsM.Cap
  flags : Int
def idOk (n : Int) : Bool := decide (0 ≤ n) && decide (n ≤ 2147483647)
def stampOk (s n : Int) : Bool := decide (-1099511627776 ≤ s) && decide (s ≤ 1099511627776) && decide (0 ≤ n) && decide (n ≤ 999999999)
def flagsOk (n : Int) : Bool := decide (0 ≤ n) && decide (n ≤ 15)
def kindIn (k : Int) : Bool := decide (k = 1) || (decide (3 ≤ k) && decide (k ≤ 7))
def modeOk (n : Int) : Bool := decide (0 ≤ n) && decide (n ≤ 4095)
def aclOk (l : List AclM.Ace) (mode : Int) : Bool := decide (l.length = 0) || (AclM.may l && decide (AclW.modeL l = mode % 512))
def dflOk (l : List AclM.Ace) (k : Int) : Bool := decide (l.length = 0) || (decide (k = 6) && AclM.may l)
def capOk (c : CapsM.Cap) (k : Int) : Bool := CapsM.may c && (decide (c.v = 0) || decide (k = 1))
def symOk (m : Mt) (k : Int) : Bool := decide (k ≠ 3) || (decide (m.mode = 511) && decide (m.acl.length = 0) && decide (m.flags = 0))
def mayM (m : Mt) (k : Int) : Bool :=
  kindIn k && modeOk m.mode && idOk m.uid && idOk m.gid && stampOk m.sec m.nano && flagsOk m.flags && XatM.mayL m.xat &&
    aclOk m.acl m.mode && dflOk m.dfl k && capOk m.cap k && symOk m k
end MetaM
end Go.Proofs.Ytajjhndpdjfcpaa
