/- A header among a law's arguments: a struct of 13 strings and numbers by value, as the walk reads it. -/
import Derived.Test.YtkkmhfgfkjeooaaHeadMath
import Derived.Test.YtkkmhfgfkjeooaaChecked
import Derived.ProofKit
import Derived.OpenShut
import Derived.ShutString
import Derived.ChangeOld
import Derived.Lib.SmallJoins
import Derived.SizedLaws
namespace Go.Proofs.Ytkkmhfgfkjeooaa
open Go.ChangeShapes Go.WideShapes Go.ChangeAt Go.RowKit Go.Joins Go.Deep
set_option linter.unusedVariables false

theorem array13 {α : Type} {cs : Array α} (h : cs.size = 13) : ∃ c0 c1 c2 c3 c4 c5 c6 c7 c8 c9 c10 c11 c12, cs = #[c0, c1, c2, c3, c4, c5, c6, c7, c8, c9, c10, c11, c12] := by
  obtain ⟨l⟩ := cs
  match l, h with
  | [c0, c1, c2, c3, c4, c5, c6, c7, c8, c9, c10, c11, c12], _ => exact ⟨c0, c1, c2, c3, c4, c5, c6, c7, c8, c9, c10, c11, c12, rfl⟩
theorem list13 {α : Type} {l : List α} (h : l.length = 13) : ∃ c0 c1 c2 c3 c4 c5 c6 c7 c8 c9 c10 c11 c12, l = [c0, c1, c2, c3, c4, c5, c6, c7, c8, c9, c10, c11, c12] := by
  match l, h with
  | [c0, c1, c2, c3, c4, c5, c6, c7, c8, c9, c10, c11, c12], _ => exact ⟨c0, c1, c2, c3, c4, c5, c6, c7, c8, c9, c10, c11, c12, rfl⟩
theorem mapM_mk {α β : Type} {g : α → Option β} : ∀ {l : List α} {xs : List β}, l.length = xs.length → (∀ (i : Nat) f, l[i]? = some f → g f = xs[i]?) → l.mapM g = some xs
  | [], [], _, _ => rfl
  | a :: l, x :: xs, h, k => by
    have h0 : g a = some x := k 0 a rfl
    have h1 := mapM_mk (l := l) (xs := xs) (by simpa using h) (fun i f hf => k (i + 1) f (by simpa using hf))
    simp [List.mapM_cons, h0, h1]
  | [], _ :: _, h, _ => by simp at h
  | _ :: _, [], h, _ => by simp at h
theorem ty_at {fs : Array Field} {tys : List TypeId} (hty : fs.toList.map (fun f => f.type) = tys) {i : Nat} {ti : TypeId} (h : tys[i]? = some ti) : ∃ f, fs[i]? = some f ∧ f.type = ti := by
  rw [← hty, List.getElem?_map] at h
  cases hf : fs.toList[i]? with
  | none => rw [hf] at h; cases h
  | some f => rw [hf] at h; exact ⟨f, by simpa using hf, Option.some.inj h⟩
theorem one_part {P : Program} {fs : Array Field} (hone : oneCellFields P fs = true) {i : Nat} {f : Field} (hf : fs[i]? = some f) {cs : List Value} {c : Value} (hc : cs[i]? = some c) : (cs.drop f.offset).take (P.cellsOf f.type) = [c] := by
  obtain ⟨o, k⟩ := hone_of hone i f hf
  rw [o, k, List.take_one, List.head?_drop, hc]
  rfl
theorem open_parts {H : Type} {enc : TypeId × Value → H} {P : Program} {w : World} {base : Nat} {spare : Nat → Bool} {held : Bool} {t : TypeId} {fs : Array Field} {tys : List TypeId} {fuel : Nat} {cs : List Value} {x : DataW H × List MemPlace}
    (hs : P.underlying t = some (.struct fs)) (hone : oneCellFields P fs = true) (hty : fs.toList.map (fun f => f.type) = tys) (hf : DataW.trod enc P w base spare held fuel t cs = some x) :
    ∃ (xs : List (DataW H × List MemPlace)) (n : Nat), x = (.agg (xs.map (·.1)), xs.flatMap (·.2)) ∧ xs.length = tys.length ∧ ∀ (i : Nat) (c : Value) (ti : TypeId), cs[i]? = some c → tys[i]? = some ti → DataW.trod enc P w base spare held n ti [c] = xs[i]? := by
  obtain ⟨xs, n, _, hx, _, hlen, hi⟩ := DataW.trod_struct hs hf
  refine ⟨xs, n, hx, by rw [hlen, ← hty]; simp, fun i c ti hc ht => ?_⟩
  obtain ⟨f, h1, rfl⟩ := ty_at hty ht
  rw [← one_part hone h1 hc]
  exact hi i f h1
theorem shut_parts {H : Type} {enc : TypeId × Value → H} {P : Program} {w : World} {base : Nat} {spare : Nat → Bool} {held : Bool} {t : TypeId} {fs : Array Field} {tys : List TypeId} {n : Nat} {cs : List Value} {xs : List (DataW H × List MemPlace)}
    (hs : P.underlying t = some (.struct fs)) (hone : oneCellFields P fs = true) (hty : fs.toList.map (fun f => f.type) = tys) (hC : cs.length = P.cellsOf t) (h1 : cs.length = tys.length) (h2 : xs.length = tys.length)
    (h : ∀ (i : Nat) (c : Value) (ti : TypeId), cs[i]? = some c → tys[i]? = some ti → DataW.trod enc P w base spare held n ti [c] = xs[i]?) :
    DataW.trod enc P w base spare held (n + 1) t cs = some (.agg (xs.map (·.1)), xs.flatMap (·.2)) := by
  refine trod_struct_mk hs hC (mapM_mk ?_ fun i f hf => ?_)
  · rw [h2, ← hty]; simp
  · have hf' : fs[i]? = some f := by simpa using hf
    have ht : tys[i]? = some f.type := by rw [← hty, List.getElem?_map, hf]; rfl
    have hlt : i < cs.length := by
      have := (List.getElem?_eq_some_iff.1 ht).1
      omega
    rw [one_part hone hf' (List.getElem?_eq_getElem hlt)]
    exact h i _ _ (List.getElem?_eq_getElem hlt) ht

theorem open_head {H : Type} {enc : TypeId × Value → H} {w : World} {base : Nat} {spare : Nat → Bool} {held : Bool} {r : Reach} {b0 : Nat} {v : Value} {d : DataW H} {p : List MemPlace}
    (hv : Value.okWide Try.prog w r b0 23 v) (h : DataW.Trod enc Try.prog w base spare held 23 v d p) :
    ∃ (x0 : ByteArray) (x1 : Int) (x2 : Int) (x3 : Int) (x4 : Int) (x5 : Int) (x6 : Int) (x7 : ByteArray) (x8 : ByteArray) (x9 : ByteArray) (x10 : Int) (x11 : Int) (x12 : ByteArray), v = .agg #[.string x0, .int .i64 x1, .int .i64 x2, .int .i64 x3, .int .i64 x4, .int .i64 x5, .int .u8 x6, .string x7, .string x8, .string x9, .int .i64 x10, .int .i64 x11, .string x12] ∧ d = .agg [.lit (.string x0.data.toList), .lit (.int .i64 x1), .lit (.int .i64 x2), .lit (.int .i64 x3), .lit (.int .i64 x4), .lit (.int .i64 x5), .lit (.int .u8 x6), .lit (.string x7.data.toList), .lit (.string x8.data.toList), .lit (.string x9.data.toList), .lit (.int .i64 x10), .lit (.int .i64 x11), .lit (.string x12.data.toList)] ∧ p = [] ∧ x0.size ≤ maxLen ∧ (Lit.int .i64 x1).wf = true ∧ (Lit.int .i64 x2).wf = true ∧ (Lit.int .i64 x3).wf = true ∧ (Lit.int .i64 x4).wf = true ∧ (Lit.int .i64 x5).wf = true ∧ (Lit.int .u8 x6).wf = true ∧ x7.size ≤ maxLen ∧ x8.size ≤ maxLen ∧ x9.size ≤ maxLen ∧ (Lit.int .i64 x10).wf = true ∧ (Lit.int .i64 x11).wf = true ∧ x12.size ≤ maxLen := by
  obtain ⟨cs, rfl, hsz⟩ := okWide_struct Try.underlying23 hv
  have hC : Try.prog.cellsOf 23 = 13 := by kernel_rfl
  obtain ⟨c0, c1, c2, c3, c4, c5, c6, c7, c8, c9, c10, c11, c12, rfl⟩ := array13 (hsz.trans hC)
  obtain ⟨fuel, hf⟩ := h
  obtain ⟨xs, n, hx, hlen, hi⟩ := open_parts (tys := [9, 3, 3, 3, 3, 3, 5, 9, 9, 9, 3, 3, 9]) Try.underlying23 (by kernel_rfl) (by kernel_rfl) hf
  obtain ⟨y0, y1, y2, y3, y4, y5, y6, y7, y8, y9, y10, y11, y12, rfl⟩ := list13 hlen
  have h0 := hi 0 c0 9 rfl rfl
  obtain ⟨x0, e0, z0, w0⟩ := DataW.trod_string Try.underlying9 h0
  have h1 := hi 1 c1 3 rfl rfl
  obtain ⟨x1, e1, z1, w1⟩ := DataW.trod_int Try.underlying3 h1
  have h2 := hi 2 c2 3 rfl rfl
  obtain ⟨x2, e2, z2, w2⟩ := DataW.trod_int Try.underlying3 h2
  have h3 := hi 3 c3 3 rfl rfl
  obtain ⟨x3, e3, z3, w3⟩ := DataW.trod_int Try.underlying3 h3
  have h4 := hi 4 c4 3 rfl rfl
  obtain ⟨x4, e4, z4, w4⟩ := DataW.trod_int Try.underlying3 h4
  have h5 := hi 5 c5 3 rfl rfl
  obtain ⟨x5, e5, z5, w5⟩ := DataW.trod_int Try.underlying3 h5
  have h6 := hi 6 c6 5 rfl rfl
  obtain ⟨x6, e6, z6, w6⟩ := DataW.trod_int Try.underlying5 h6
  have h7 := hi 7 c7 9 rfl rfl
  obtain ⟨x7, e7, z7, w7⟩ := DataW.trod_string Try.underlying9 h7
  have h8 := hi 8 c8 9 rfl rfl
  obtain ⟨x8, e8, z8, w8⟩ := DataW.trod_string Try.underlying9 h8
  have h9 := hi 9 c9 9 rfl rfl
  obtain ⟨x9, e9, z9, w9⟩ := DataW.trod_string Try.underlying9 h9
  have h10 := hi 10 c10 3 rfl rfl
  obtain ⟨x10, e10, z10, w10⟩ := DataW.trod_int Try.underlying3 h10
  have h11 := hi 11 c11 3 rfl rfl
  obtain ⟨x11, e11, z11, w11⟩ := DataW.trod_int Try.underlying3 h11
  have h12 := hi 12 c12 9 rfl rfl
  obtain ⟨x12, e12, z12, w12⟩ := DataW.trod_string Try.underlying9 h12
  obtain rfl : c0 = .string x0 := by injection e0
  obtain rfl : c1 = .int .i64 x1 := by injection e1
  obtain rfl : c2 = .int .i64 x2 := by injection e2
  obtain rfl : c3 = .int .i64 x3 := by injection e3
  obtain rfl : c4 = .int .i64 x4 := by injection e4
  obtain rfl : c5 = .int .i64 x5 := by injection e5
  obtain rfl : c6 = .int .u8 x6 := by injection e6
  obtain rfl : c7 = .string x7 := by injection e7
  obtain rfl : c8 = .string x8 := by injection e8
  obtain rfl : c9 = .string x9 := by injection e9
  obtain rfl : c10 = .int .i64 x10 := by injection e10
  obtain rfl : c11 = .int .i64 x11 := by injection e11
  obtain rfl : c12 = .string x12 := by injection e12
  obtain rfl : y0 = (.lit (.string x0.data.toList), []) := z0
  obtain rfl : y1 = (.lit (.int .i64 x1), []) := z1
  obtain rfl : y2 = (.lit (.int .i64 x2), []) := z2
  obtain rfl : y3 = (.lit (.int .i64 x3), []) := z3
  obtain rfl : y4 = (.lit (.int .i64 x4), []) := z4
  obtain rfl : y5 = (.lit (.int .i64 x5), []) := z5
  obtain rfl : y6 = (.lit (.int .u8 x6), []) := z6
  obtain rfl : y7 = (.lit (.string x7.data.toList), []) := z7
  obtain rfl : y8 = (.lit (.string x8.data.toList), []) := z8
  obtain rfl : y9 = (.lit (.string x9.data.toList), []) := z9
  obtain rfl : y10 = (.lit (.int .i64 x10), []) := z10
  obtain rfl : y11 = (.lit (.int .i64 x11), []) := z11
  obtain rfl : y12 = (.lit (.string x12.data.toList), []) := z12
  simp only [Prod.mk.injEq] at hx
  exact ⟨x0, x1, x2, x3, x4, x5, x6, x7, x8, x9, x10, x11, x12, rfl, hx.1, hx.2, w0, w1, w2, w3, w4, w5, w6, w7, w8, w9, w10, w11, w12⟩

theorem shut_head {H : Type} {enc : TypeId × Value → H} {w : World} {base : Nat} {spare : Nat → Bool} {held : Bool} (x0 : ByteArray) (x1 : Int) (x2 : Int) (x3 : Int) (x4 : Int) (x5 : Int) (x6 : Int) (x7 : ByteArray) (x8 : ByteArray) (x9 : ByteArray) (x10 : Int) (x11 : Int) (x12 : ByteArray) (w0 : x0.size ≤ maxLen) (w1 : (Lit.int .i64 x1).wf = true) (w2 : (Lit.int .i64 x2).wf = true) (w3 : (Lit.int .i64 x3).wf = true) (w4 : (Lit.int .i64 x4).wf = true) (w5 : (Lit.int .i64 x5).wf = true) (w6 : (Lit.int .u8 x6).wf = true) (w7 : x7.size ≤ maxLen) (w8 : x8.size ≤ maxLen) (w9 : x9.size ≤ maxLen) (w10 : (Lit.int .i64 x10).wf = true) (w11 : (Lit.int .i64 x11).wf = true) (w12 : x12.size ≤ maxLen) :
    DataW.Trod enc Try.prog w base spare held 23 (.agg #[.string x0, .int .i64 x1, .int .i64 x2, .int .i64 x3, .int .i64 x4, .int .i64 x5, .int .u8 x6, .string x7, .string x8, .string x9, .int .i64 x10, .int .i64 x11, .string x12]) (.agg [.lit (.string x0.data.toList), .lit (.int .i64 x1), .lit (.int .i64 x2), .lit (.int .i64 x3), .lit (.int .i64 x4), .lit (.int .i64 x5), .lit (.int .u8 x6), .lit (.string x7.data.toList), .lit (.string x8.data.toList), .lit (.string x9.data.toList), .lit (.int .i64 x10), .lit (.int .i64 x11), .lit (.string x12.data.toList)]) [] := by
  have hC : Try.prog.cellsOf 23 = 13 := by kernel_rfl
  have q0 : DataW.trod enc Try.prog w base spare held 1 9 [.string x0] = some (.lit (.string x0.data.toList), []) := by simp [DataW.trod, Try.underlying9, w0]
  have q1 : DataW.trod enc Try.prog w base spare held 1 3 [.int .i64 x1] = some (.lit (.int .i64 x1), []) := by simp [DataW.trod, Try.underlying3, w1]
  have q2 : DataW.trod enc Try.prog w base spare held 1 3 [.int .i64 x2] = some (.lit (.int .i64 x2), []) := by simp [DataW.trod, Try.underlying3, w2]
  have q3 : DataW.trod enc Try.prog w base spare held 1 3 [.int .i64 x3] = some (.lit (.int .i64 x3), []) := by simp [DataW.trod, Try.underlying3, w3]
  have q4 : DataW.trod enc Try.prog w base spare held 1 3 [.int .i64 x4] = some (.lit (.int .i64 x4), []) := by simp [DataW.trod, Try.underlying3, w4]
  have q5 : DataW.trod enc Try.prog w base spare held 1 3 [.int .i64 x5] = some (.lit (.int .i64 x5), []) := by simp [DataW.trod, Try.underlying3, w5]
  have q6 : DataW.trod enc Try.prog w base spare held 1 5 [.int .u8 x6] = some (.lit (.int .u8 x6), []) := by simp [DataW.trod, Try.underlying5, w6]
  have q7 : DataW.trod enc Try.prog w base spare held 1 9 [.string x7] = some (.lit (.string x7.data.toList), []) := by simp [DataW.trod, Try.underlying9, w7]
  have q8 : DataW.trod enc Try.prog w base spare held 1 9 [.string x8] = some (.lit (.string x8.data.toList), []) := by simp [DataW.trod, Try.underlying9, w8]
  have q9 : DataW.trod enc Try.prog w base spare held 1 9 [.string x9] = some (.lit (.string x9.data.toList), []) := by simp [DataW.trod, Try.underlying9, w9]
  have q10 : DataW.trod enc Try.prog w base spare held 1 3 [.int .i64 x10] = some (.lit (.int .i64 x10), []) := by simp [DataW.trod, Try.underlying3, w10]
  have q11 : DataW.trod enc Try.prog w base spare held 1 3 [.int .i64 x11] = some (.lit (.int .i64 x11), []) := by simp [DataW.trod, Try.underlying3, w11]
  have q12 : DataW.trod enc Try.prog w base spare held 1 9 [.string x12] = some (.lit (.string x12.data.toList), []) := by simp [DataW.trod, Try.underlying9, w12]
  have ts := shut_parts (enc := enc) (w := w) (base := base) (spare := spare) (held := held) (n := 1) (cs := [.string x0, .int .i64 x1, .int .i64 x2, .int .i64 x3, .int .i64 x4, .int .i64 x5, .int .u8 x6, .string x7, .string x8, .string x9, .int .i64 x10, .int .i64 x11, .string x12]) (xs := [(.lit (.string x0.data.toList), []), (.lit (.int .i64 x1), []), (.lit (.int .i64 x2), []), (.lit (.int .i64 x3), []), (.lit (.int .i64 x4), []), (.lit (.int .i64 x5), []), (.lit (.int .u8 x6), []), (.lit (.string x7.data.toList), []), (.lit (.string x8.data.toList), []), (.lit (.string x9.data.toList), []), (.lit (.int .i64 x10), []), (.lit (.int .i64 x11), []), (.lit (.string x12.data.toList), [])]) (tys := [9, 3, 3, 3, 3, 3, 5, 9, 9, 9, 3, 3, 9]) Try.underlying23 (by kernel_rfl) (by kernel_rfl) (by rw [hC]; rfl) rfl rfl (fun i c ti hc ht => by
    match i, hc, ht with
    | 0, hc, ht =>
      obtain rfl := Option.some.inj hc
      obtain rfl := Option.some.inj ht
      exact q0
    | 1, hc, ht =>
      obtain rfl := Option.some.inj hc
      obtain rfl := Option.some.inj ht
      exact q1
    | 2, hc, ht =>
      obtain rfl := Option.some.inj hc
      obtain rfl := Option.some.inj ht
      exact q2
    | 3, hc, ht =>
      obtain rfl := Option.some.inj hc
      obtain rfl := Option.some.inj ht
      exact q3
    | 4, hc, ht =>
      obtain rfl := Option.some.inj hc
      obtain rfl := Option.some.inj ht
      exact q4
    | 5, hc, ht =>
      obtain rfl := Option.some.inj hc
      obtain rfl := Option.some.inj ht
      exact q5
    | 6, hc, ht =>
      obtain rfl := Option.some.inj hc
      obtain rfl := Option.some.inj ht
      exact q6
    | 7, hc, ht =>
      obtain rfl := Option.some.inj hc
      obtain rfl := Option.some.inj ht
      exact q7
    | 8, hc, ht =>
      obtain rfl := Option.some.inj hc
      obtain rfl := Option.some.inj ht
      exact q8
    | 9, hc, ht =>
      obtain rfl := Option.some.inj hc
      obtain rfl := Option.some.inj ht
      exact q9
    | 10, hc, ht =>
      obtain rfl := Option.some.inj hc
      obtain rfl := Option.some.inj ht
      exact q10
    | 11, hc, ht =>
      obtain rfl := Option.some.inj hc
      obtain rfl := Option.some.inj ht
      exact q11
    | 12, hc, ht =>
      obtain rfl := Option.some.inj hc
      obtain rfl := Option.some.inj ht
      exact q12
    | k + 13, hc, _ => exact absurd (List.getElem?_eq_some_iff.1 hc).1 (by simp))
  exact ⟨_, by simpa [Value.cells] using ts⟩

theorem agg_weights {H : Type} {P : Program} {t : TypeId} {fs : Array Field} {tys : List TypeId} (hs : P.underlying t = some (.struct fs)) (hty : fs.toList.map (fun f => f.type) = tys) {l : List (DataW H)} {j : Nat} {ti : TypeId} {d : DataW H} (ht : tys[j]? = some ti) (hd : l[j]? = some d) {n : Nat} (hn : n ∈ d.weights P ti) : n ∈ (DataW.agg l).weights P t := by
  unfold DataW.weights
  rw [hs]
  simp only
  rw [hty]
  exact DataW.weights_mem_each ht hd n hn
/-- Each text of it is one that memory holds. -/
theorem head_weights {H : Type} {x0 : ByteArray} {x1 : Int} {x2 : Int} {x3 : Int} {x4 : Int} {x5 : Int} {x6 : Int} {x7 : ByteArray} {x8 : ByteArray} {x9 : ByteArray} {x10 : Int} {x11 : Int} {x12 : ByteArray} (hw : ∀ n ∈ (.agg [.lit (.string x0.data.toList), .lit (.int .i64 x1), .lit (.int .i64 x2), .lit (.int .i64 x3), .lit (.int .i64 x4), .lit (.int .i64 x5), .lit (.int .u8 x6), .lit (.string x7.data.toList), .lit (.string x8.data.toList), .lit (.string x9.data.toList), .lit (.int .i64 x10), .lit (.int .i64 x11), .lit (.string x12.data.toList)] : DataW H).weights Try.prog 23, n ≤ reachBytes) : x0.size ≤ 140737488351232 ∧ x12.size ≤ 140737488351232 := by
  have h2 : reachBytes = 140737488351232 := rfl
  rw [← h2]
  refine ⟨hw x0.data.toList.length (agg_weights (tys := [9, 3, 3, 3, 3, 3, 5, 9, 9, 9, 3, 3, 9]) (j := 0) (d := .lit (.string x0.data.toList)) Try.underlying23 (by kernel_rfl) rfl rfl (by simp [DataW.weights])), hw x12.data.toList.length (agg_weights (tys := [9, 3, 3, 3, 3, 3, 5, 9, 9, 9, 3, 3, 9]) (j := 12) (d := .lit (.string x12.data.toList)) Try.underlying23 (by kernel_rfl) rfl rfl (by simp [DataW.weights]))⟩
end Go.Proofs.Ytkkmhfgfkjeooaa
