/- A struct among a law's arguments, by value, as the walk reads it. -/
import Derived.Test.YtijagjahocjaaaaRows
import Derived.Test.YtijagjahocjaaaaChecked
import Derived.ProofKit
import Derived.OpenShut
import Derived.ShutString
import Derived.ChangeOld
import Derived.Lib.SmallJoins
import Derived.SizedLaws
namespace Go.Proofs.Ytijagjahocjaaaa
open Go.ChangeShapes Go.WideShapes Go.ChangeAt Go.RowKit Go.Joins Go.Deep
set_option linter.unusedVariables false

theorem array_caps {α : Type} {cs : Array α} (h : cs.size = 5) : ∃ c0 c1 c2 c3 c4, cs = #[c0, c1, c2, c3, c4] := by
  obtain ⟨l⟩ := cs
  match l, h with
  | [c0, c1, c2, c3, c4], _ => exact ⟨c0, c1, c2, c3, c4, rfl⟩
theorem list_caps {α : Type} {l : List α} (h : l.length = 5) : ∃ c0 c1 c2 c3 c4, l = [c0, c1, c2, c3, c4] := by
  match l, h with
  | [c0, c1, c2, c3, c4], _ => exact ⟨c0, c1, c2, c3, c4, rfl⟩
theorem mapM_mk {α β : Type} {g : α → Option β} : ∀ {l : List α} {xs : List β}, l.length = xs.length → (∀ (i : Nat) f, l[i]? = some f → g f = xs[i]?) → l.mapM g = some xs
  | [], [], _, _ => rfl
  | a :: l, x :: xs, h, k => by
    have h0 : g a = some x := k 0 a rfl
    have h1 := mapM_mk (l := l) (xs := xs) (by simpa using h) (fun i f hf => k (i + 1) f (by simpa using hf))
    simp [List.mapM_cons, h0, h1]
  | [], _ :: _, h, _ => by simp at h
  | _ :: _, [], h, _ => by simp at h
theorem ty_at {fs : Array Field} {tys : List TypeId} (hty : fs.toList.map (fun f => f.type) = tys) {i : Nat} {ti : TypeId} (h : tys[i]? = some ti) : ∃ f, fs[i]? = some f ∧ f.type = ti := by
  rw [← hty, List.getElem?_map] at h
  cases hf : fs.toList[i]? with
  | none => rw [hf] at h; cases h
  | some f => rw [hf] at h; exact ⟨f, by simpa using hf, Option.some.inj h⟩
theorem one_part {P : Program} {fs : Array Field} (hone : oneCellFields P fs = true) {i : Nat} {f : Field} (hf : fs[i]? = some f) {cs : List Value} {c : Value} (hc : cs[i]? = some c) : (cs.drop f.offset).take (P.cellsOf f.type) = [c] := by
  obtain ⟨o, k⟩ := hone_of hone i f hf
  rw [o, k, List.take_one, List.head?_drop, hc]
  rfl
theorem open_parts {H : Type} {enc : TypeId × Value → H} {P : Program} {w : World} {base : Nat} {spare : Nat → Bool} {held : Bool} {t : TypeId} {fs : Array Field} {tys : List TypeId} {fuel : Nat} {cs : List Value} {x : DataW H × List MemPlace}
    (hs : P.underlying t = some (.struct fs)) (hone : oneCellFields P fs = true) (hty : fs.toList.map (fun f => f.type) = tys) (hf : DataW.trod enc P w base spare held fuel t cs = some x) :
    ∃ (xs : List (DataW H × List MemPlace)) (n : Nat), x = (.agg (xs.map (·.1)), xs.flatMap (·.2)) ∧ xs.length = tys.length ∧ ∀ (i : Nat) (c : Value) (ti : TypeId), cs[i]? = some c → tys[i]? = some ti → DataW.trod enc P w base spare held n ti [c] = xs[i]? := by
  obtain ⟨xs, n, _, hx, _, hlen, hi⟩ := DataW.trod_struct hs hf
  refine ⟨xs, n, hx, by rw [hlen, ← hty]; simp, fun i c ti hc ht => ?_⟩
  obtain ⟨f, h1, rfl⟩ := ty_at hty ht
  rw [← one_part hone h1 hc]
  exact hi i f h1
theorem shut_parts {H : Type} {enc : TypeId × Value → H} {P : Program} {w : World} {base : Nat} {spare : Nat → Bool} {held : Bool} {t : TypeId} {fs : Array Field} {tys : List TypeId} {n : Nat} {cs : List Value} {xs : List (DataW H × List MemPlace)}
    (hs : P.underlying t = some (.struct fs)) (hone : oneCellFields P fs = true) (hty : fs.toList.map (fun f => f.type) = tys) (hC : cs.length = P.cellsOf t) (h1 : cs.length = tys.length) (h2 : xs.length = tys.length)
    (h : ∀ (i : Nat) (c : Value) (ti : TypeId), cs[i]? = some c → tys[i]? = some ti → DataW.trod enc P w base spare held n ti [c] = xs[i]?) :
    DataW.trod enc P w base spare held (n + 1) t cs = some (.agg (xs.map (·.1)), xs.flatMap (·.2)) := by
  refine trod_struct_mk hs hC (mapM_mk ?_ fun i f hf => ?_)
  · rw [h2, ← hty]; simp
  · have hf' : fs[i]? = some f := by simpa using hf
    have ht : tys[i]? = some f.type := by rw [← hty, List.getElem?_map, hf]; rfl
    have hlt : i < cs.length := by
      have := (List.getElem?_eq_some_iff.1 ht).1
      omega
    rw [one_part hone hf' (List.getElem?_eq_getElem hlt)]
    exact h i _ _ (List.getElem?_eq_getElem hlt) ht

theorem open_caps {H : Type} {enc : TypeId × Value → H} {w : World} {base : Nat} {spare : Nat → Bool} {held : Bool} {r : Reach} {b0 : Nat} {v : Value} {d : DataW H} {p : List MemPlace}
    (hv : Value.okWide Try.prog w r b0 24 v) (h : DataW.Trod enc Try.prog w base spare held 24 v d p) :
    ∃ (x0 : Int) (x1 : Int) (x2 : Int) (x3 : Bool) (x4 : Int), v = .agg #[.int .i64 x0, .int .u64 x1, .int .u64 x2, .bool x3, .int .i64 x4] ∧ d = .agg [.lit (.int .i64 x0), .lit (.int .u64 x1), .lit (.int .u64 x2), .lit (.bool x3), .lit (.int .i64 x4)] ∧ p = [] ∧ (Lit.int .i64 x0).wf = true ∧ (Lit.int .u64 x1).wf = true ∧ (Lit.int .u64 x2).wf = true ∧ (Lit.int .i64 x4).wf = true := by
  obtain ⟨cs, rfl, hsz⟩ := okWide_struct Try.underlying24 hv
  have hC : Try.prog.cellsOf 24 = 5 := by kernel_rfl
  obtain ⟨c0, c1, c2, c3, c4, rfl⟩ := array_caps (hsz.trans hC)
  obtain ⟨fuel, hf⟩ := h
  obtain ⟨xs, n, hx, hlen, hi⟩ := open_parts (tys := [3, 22, 22, 4, 3]) Try.underlying24 (by kernel_rfl) (by kernel_rfl) hf
  obtain ⟨y0, y1, y2, y3, y4, rfl⟩ := list_caps hlen
  have h0 := hi 0 c0 3 rfl rfl
  obtain ⟨x0, e0, z0, w0⟩ := DataW.trod_int Try.underlying3 h0
  have h1 := hi 1 c1 22 rfl rfl
  obtain ⟨x1, e1, z1, w1⟩ := DataW.trod_int Try.underlying22 h1
  have h2 := hi 2 c2 22 rfl rfl
  obtain ⟨x2, e2, z2, w2⟩ := DataW.trod_int Try.underlying22 h2
  have h3 := hi 3 c3 4 rfl rfl
  obtain ⟨x3, e3, z3⟩ := DataW.trod_bool Try.underlying4 h3
  have h4 := hi 4 c4 3 rfl rfl
  obtain ⟨x4, e4, z4, w4⟩ := DataW.trod_int Try.underlying3 h4
  obtain rfl : c0 = .int .i64 x0 := by injection e0
  obtain rfl : c1 = .int .u64 x1 := by injection e1
  obtain rfl : c2 = .int .u64 x2 := by injection e2
  obtain rfl : c3 = .bool x3 := by injection e3
  obtain rfl : c4 = .int .i64 x4 := by injection e4
  obtain rfl : y0 = (.lit (.int .i64 x0), []) := z0
  obtain rfl : y1 = (.lit (.int .u64 x1), []) := z1
  obtain rfl : y2 = (.lit (.int .u64 x2), []) := z2
  obtain rfl : y3 = (.lit (.bool x3), []) := z3
  obtain rfl : y4 = (.lit (.int .i64 x4), []) := z4
  simp only [Prod.mk.injEq] at hx
  exact ⟨x0, x1, x2, x3, x4, rfl, hx.1, hx.2, w0, w1, w2, w4⟩

theorem shut_caps {H : Type} {enc : TypeId × Value → H} {w : World} {base : Nat} {spare : Nat → Bool} {held : Bool} (x0 : Int) (x1 : Int) (x2 : Int) (x3 : Bool) (x4 : Int) (w0 : (Lit.int .i64 x0).wf = true) (w1 : (Lit.int .u64 x1).wf = true) (w2 : (Lit.int .u64 x2).wf = true) (w4 : (Lit.int .i64 x4).wf = true) :
    DataW.Trod enc Try.prog w base spare held 24 (.agg #[.int .i64 x0, .int .u64 x1, .int .u64 x2, .bool x3, .int .i64 x4]) (.agg [.lit (.int .i64 x0), .lit (.int .u64 x1), .lit (.int .u64 x2), .lit (.bool x3), .lit (.int .i64 x4)]) [] := by
  have hC : Try.prog.cellsOf 24 = 5 := by kernel_rfl
  have q0 : DataW.trod enc Try.prog w base spare held 1 3 [.int .i64 x0] = some (.lit (.int .i64 x0), []) := by simp [DataW.trod, Try.underlying3, w0]
  have q1 : DataW.trod enc Try.prog w base spare held 1 22 [.int .u64 x1] = some (.lit (.int .u64 x1), []) := by simp [DataW.trod, Try.underlying22, w1]
  have q2 : DataW.trod enc Try.prog w base spare held 1 22 [.int .u64 x2] = some (.lit (.int .u64 x2), []) := by simp [DataW.trod, Try.underlying22, w2]
  have q3 : DataW.trod enc Try.prog w base spare held 1 4 [.bool x3] = some (.lit (.bool x3), []) := by simp [DataW.trod, Try.underlying4]
  have q4 : DataW.trod enc Try.prog w base spare held 1 3 [.int .i64 x4] = some (.lit (.int .i64 x4), []) := by simp [DataW.trod, Try.underlying3, w4]
  have ts := shut_parts (enc := enc) (w := w) (base := base) (spare := spare) (held := held) (n := 1) (cs := [.int .i64 x0, .int .u64 x1, .int .u64 x2, .bool x3, .int .i64 x4]) (xs := [(.lit (.int .i64 x0), []), (.lit (.int .u64 x1), []), (.lit (.int .u64 x2), []), (.lit (.bool x3), []), (.lit (.int .i64 x4), [])]) (tys := [3, 22, 22, 4, 3]) Try.underlying24 (by kernel_rfl) (by kernel_rfl) (by rw [hC]; rfl) rfl rfl (fun i c ti hc ht => by
    match i, hc, ht with
    | 0, hc, ht =>
      obtain rfl := Option.some.inj hc
      obtain rfl := Option.some.inj ht
      exact q0
    | 1, hc, ht =>
      obtain rfl := Option.some.inj hc
      obtain rfl := Option.some.inj ht
      exact q1
    | 2, hc, ht =>
      obtain rfl := Option.some.inj hc
      obtain rfl := Option.some.inj ht
      exact q2
    | 3, hc, ht =>
      obtain rfl := Option.some.inj hc
      obtain rfl := Option.some.inj ht
      exact q3
    | 4, hc, ht =>
      obtain rfl := Option.some.inj hc
      obtain rfl := Option.some.inj ht
      exact q4
    | k + 5, hc, _ => exact absurd (List.getElem?_eq_some_iff.1 hc).1 (by simp))
  exact ⟨_, by simpa [Value.cells] using ts⟩
end Go.Proofs.Ytijagjahocjaaaa
