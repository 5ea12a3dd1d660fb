/- Package xattr: what its contracts say (Bounded, fromRet), and Err; its four functions by these. Amb is True: the seat reads no variable. -/
import Derived.Test.YtobfbjfajdnhaaaXatRefFrom
import Derived.Test.YtobfbjfajdnhaaaXatRefRecs
import Derived.Test.YtobfbjfajdnhaaaXatSame
import Derived.Test.YtobfbjfajdnhaaaXatEqual
import Derived.Test.YtobfbjfajdnhaaaXatPackFrom
import Derived.Test.YtobfbjfajdnhaaaEscaPut
import Derived.Test.YtobfbjfajdnhaaaEscaGet
import Derived.Test.YtobfbjfajdnhaaaSixPut
import Derived.Test.YtobfbjfajdnhaaaSixSaid
namespace Go.Proofs.Ytobfbjfajdnhaaa
open Go.RowKit
open XatM
set_option linter.unusedVariables false

def Amb (_ : World) : Prop := True
theorem Amb.on {w w' : World} (h : Amb w) (_ : Below w.heap.size w w') : Amb w' := h
/-- Names and values of a bounded length. -/
def Bounded (l : List Xa) : Prop := l.length ≤ 500 ∧ ∀ x ∈ l, x.1.length ≤ 20000 ∧ x.2.length ≤ 20000
/-- What From hands back. -/
def fromRet (o : Option (List Xa)) (e : Ending) (w' : World) : Prop := match o with
  | some l => ∃ v, e = .returned (.tuple #[v, .int .i64 0]) ∧ At xatE v l w'
  | none => ∃ v, e = .returned (.tuple #[v, .int .i64 4]) ∧ At xatE v [] w'
theorem err_any (x : Int) (w : World) : Calls Try.prog 17 #[.int .i64 x] w fun e w' => e = .returned (.int .i64 x) ∧ w' = w := by
  go_enter Try.func17, Try.ntmps17
  go_wp2_with fail
  go_ret
  exact ⟨rfl, rfl⟩
theorem MayX_any (v : Value) (l : List Xa) (w : World) (hA : Amb w) (hat : At xatE v l w) (hb : Bounded l) :
    Calls Try.prog 11 #[v] w fun e w' => e = .returned (.bool (mayL l)) ∧ Below w.heap.size w w' :=
  MayX_go EscW.Put_any v l w hat (by have := hb.1; omega)
theorem RecsX_any (v : Value) (l : List Xa) (w : World) (hA : Amb w) (hat : At xatE v l w) (hb : Bounded l) :
    Calls Try.prog 14 #[v] w fun e w' => (∃ v', e = .returned v' ∧ Row recE w.heap.size v' (recsL l) w') ∧ Below w.heap.size w w' :=
  RecsX_go v l w hat (by have := hb.1; omega)
theorem SameX_any (va vb : Value) (a b : List Xa) (w : World) (hA : Amb w) (ha : At xatE va a w) (hb : At xatE vb b w) (hl : a.length ≤ 500) (hl2 : b.length ≤ 500) :
    Calls Try.prog 18 #[va, vb] w fun e w' => e = .returned (.bool (decide (a = b))) ∧ Below w.heap.size w w' :=
  SameX_go va vb a b w ha hb (by omega) (by omega)
theorem FromX_any (v : Value) (rs : List Xa) (w : World) (hA : Amb w) (hat : At recE v rs w) (hb : Bounded rs) :
    Calls Try.prog 9 #[v] w fun e w' => fromRet (fromL rs) e w' ∧ Below w.heap.size w w' := by
  refine (From_go v rs w hat (by have := hb.1; omega) hb.2).mono ?_
  rintro e w' ⟨h, hb'⟩
  refine ⟨?_, hb'⟩
  cases hf : fromL rs with
  | none => rw [hf] at h; exact ⟨_, h, At.nil _⟩
  | some l =>
    rw [hf] at h
    obtain ⟨v', h1, h2⟩ := h
    exact ⟨v', h1, h2.at⟩
end Go.Proofs.Ytobfbjfajdnhaaa
