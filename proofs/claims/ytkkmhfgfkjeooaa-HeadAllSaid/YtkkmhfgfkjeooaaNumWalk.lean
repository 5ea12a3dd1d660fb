/- Walks over package num: the callees that compute. -/
import Derived.Test.YtkkmhfgfkjeooaaRows
import Derived.Test.YtkkmhfgfkjeooaaNumMath
import Derived.Test.YtkkmhfgfkjeooaaKit
namespace Go.Proofs.Ytkkmhfgfkjeooaa
open Go.RowKit
open NumM

/-- What num panics with. -/
abbrev noFieldPanic : Ending := .panicked [{ v := .iface 102 (.agg #[]), recovered := false }]

theorem checkWidth_ok (n : Int) (hn : isW n = true) (w : World) :
    Calls Try.prog 80 #[.int .i64 n] w fun e w' => e = .returned (.tuple #[]) ∧ w = w' := by
  have h : n = 8 ∨ n = 12 := by simpa [isW] using hn
  rcases h with rfl | rfl
  · clear hn
    go_enter Try.func80, Try.ntmps80
    go_wp2
    go_end0
    exact ⟨rfl, rfl⟩
  · clear hn
    go_enter Try.func80, Try.ntmps80
    go_wp2
    go_end0
    exact ⟨rfl, rfl⟩

theorem checkWidth_no (n : Int) (hn : isW n = false) (w : World) :
    Calls Try.prog 80 #[.int .i64 n] w fun e w' => e = noFieldPanic ∧ w = w' := by
  have h : n ≠ 8 ∧ n ≠ 12 := by simpa [isW] using hn
  have h1 : (n != 8) = true := by simpa using h.1
  have h2 : (n != 12) = true := by simpa using h.2
  clear h hn
  go_enter Try.func80, Try.ntmps80
  go_wp2
  exact ⟨rfl, rfl, rfl⟩
end Go.Proofs.Ytkkmhfgfkjeooaa
