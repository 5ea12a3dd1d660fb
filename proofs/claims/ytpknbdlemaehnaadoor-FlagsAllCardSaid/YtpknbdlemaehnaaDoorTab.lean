/- A listed table of structs and arrays of plain things: its cells are those of its datum, flat, one behind the other. -/
import Derived.Test.YtpknbdlemaehnaaDoorKit
import Derived.Test.YtpknbdlemaehnaaDoorRows
import Derived.Lib.LaidTab
import Derived.OpenShut
import Derived.ChangeOld
namespace Go.Proofs.YtpknbdlemaehnaaDoor
namespace TabM
open Go.ChangeShapes

/-- The cells of a datum of literals. -/
def flat {H : Type} : Nat → DataW H → List Value
  | 0, _ => []
  | n + 1, .agg ds => ds.flatMap (flat n)
  | _ + 1, .lit (.int k z) => [.int k z]
  | _ + 1, .lit (.bool b) => [.bool b]
  | _ + 1, .lit (.string l) => [.string ⟨l.toArray⟩]
  | _ + 1, _ => []
/-- The fields lie one behind the other. -/
def tiles (P : Program) : Nat → List Field → Nat → Bool
  | off, [], all => off == all
  | off, f :: fs, all => f.offset == off && tiles P (off + P.cellsOf f.type) fs all
/-- The datum is one of that type, of literals alone. -/
def fits {H : Type} (P : Program) : Nat → TypeId → DataW H → Bool
  | 0, _, _ => false
  | n + 1, t, .agg ds => match P.underlying t with
    | some (.array m e) => ds.length == m && P.cellsOf t == m * P.cellsOf e && ds.all (fits P n e)
    | some (.struct fs) => tiles P 0 fs.toList (P.cellsOf t) && ds.length == fs.size && ((fs.toList.zip ds).all fun x => fits P n x.1.type x.2)
    | _ => false
  | _ + 1, t, .lit (.int k _) => match P.underlying t with
    | some (.int k') => k == k'
    | _ => false
  | _ + 1, t, .lit (.bool _) => match P.underlying t with
    | some .bool => true
    | _ => false
  | _ + 1, t, .lit (.string _) => match P.underlying t with
    | some .string => true
    | _ => false
  | _ + 1, _, _ => false

theorem tiles_flat {P : Program} (cs : List Value) : ∀ (fs : List Field) (parts : List (List Value)) (off : Nat), tiles P off fs cs.length = true → parts.length = fs.length →
    (∀ (i : Nat) f, fs[i]? = some f → parts[i]? = some ((cs.drop f.offset).take (P.cellsOf f.type))) → cs.drop off = parts.flatten
  | [], parts, off, ht, hl, _ => by
    simp only [tiles, beq_iff_eq] at ht
    obtain rfl : parts = [] := List.eq_nil_of_length_eq_zero hl
    simp [ht]
  | f :: fs, parts, off, ht, hl, hf => by
    simp only [tiles, Bool.and_eq_true, beq_iff_eq] at ht
    obtain ⟨h0, ht⟩ := ht
    match parts, hl with
    | p :: ps, hl =>
      have ih := tiles_flat cs fs ps _ ht (by simpa using hl) (fun i g hg => by simpa using hf (i + 1) g (by simpa using hg))
      have hp := hf 0 f rfl
      simp only [List.getElem?_cons_zero, Option.some.injEq] at hp
      rw [List.flatten_cons, ← ih, hp, h0, ← List.drop_drop, List.take_append_drop]

theorem flat_of {H : Type} {enc : TypeId × Value → H} {P : Program} {w : World} {base : Nat} {sp : Nat → Bool} {held : Bool} : ∀ (n : Nat) (d : DataW H) (t : TypeId) (fuel : Nat) (cs : List Value) (p : List MemPlace),
    DataW.trod enc P w base sp held fuel t cs = some (d, p) → fits P n t d = true → cs = flat n d
  | 0, _, _, _, _, _, _, hf => by simp [fits] at hf
  | n + 1, .agg ds, t, fuel, cs, p, h, hf => by
    unfold fits at hf
    split at hf
    · rename_i m e hu
      obtain ⟨xs, q, _, hx, hl, hlen, hi⟩ := DataW.trod_array hu h
      simp only [Bool.and_eq_true, beq_iff_eq, List.all_eq_true] at hf
      obtain ⟨⟨h1, h2⟩, h3⟩ := hf
      obtain rfl : ds = xs.map (·.1) := by
        have := congrArg Prod.fst hx
        simpa using this
      have hpart : ∀ i, i < m → (cs.drop (i * P.cellsOf e)).take (P.cellsOf e) = flat n ((xs.map (·.1)).getD i (.agg [])) := by
        intro i hm
        have hi' := hi i hm
        have hxi : xs[i]? = some (xs[i]'(by omega)) := List.getElem?_eq_getElem (by omega)
        rw [hxi] at hi'
        have := flat_of n (xs[i]'(by omega)).1 e q _ (xs[i]'(by omega)).2 hi' (h3 _ (List.mem_map_of_mem (List.getElem_mem (by omega))))
        rw [this]
        simp [List.getD, hxi]
      show cs = (xs.map (·.1)).flatMap (flat n)
      have hgo : ∀ j, j ≤ m → cs.drop ((m - j) * P.cellsOf e) = ((xs.map (·.1)).drop (m - j)).flatMap (flat n) := by
        intro j
        induction j with
        | zero =>
          intro _
          rw [Nat.sub_zero, List.drop_eq_nil_of_le (by omega), List.drop_eq_nil_of_le (by simp; omega)]
          rfl
        | succ j ih =>
          intro hj
          have ih := ih (by omega)
          have e1 : m - j = (m - (j + 1)) + 1 := by omega
          rw [e1] at ih
          have hlt : m - (j + 1) < (xs.map (·.1)).length := by simp; omega
          rw [List.drop_eq_getElem_cons hlt, List.flatMap_cons, ← ih, Nat.add_mul, Nat.one_mul, ← List.drop_drop]
          have := hpart (m - (j + 1)) (by omega)
          rw [show (xs.map (·.1)).getD (m - (j + 1)) (.agg []) = (xs.map (·.1))[m - (j + 1)] by simp only [List.getD, List.getElem?_eq_getElem hlt, Option.getD_some]] at this
          rw [← this, List.take_append_drop]
      have := hgo m (Nat.le_refl _)
      simpa using this
    · rename_i fs hu
      obtain ⟨xs, q, _, hx, hl, hlen, hi⟩ := DataW.trod_struct hu h
      simp only [Bool.and_eq_true, beq_iff_eq, List.all_eq_true] at hf
      obtain ⟨⟨h1, h2⟩, h3⟩ := hf
      obtain rfl : ds = xs.map (·.1) := by
        have := congrArg Prod.fst hx
        simpa using this
      show cs = (xs.map (·.1)).flatMap (flat n)
      rw [← hl] at h1
      have := tiles_flat cs fs.toList ((xs.map (·.1)).map (flat n)) 0 h1 (by simpa using hlen) (by
        intro i f hfi
        have hfi' : fs[i]? = some f := by simpa using hfi
        have hi' := hi i f hfi'
        have hil : i < xs.length := by rw [hlen]; exact (Array.getElem?_eq_some_iff.1 hfi').1
        have hxi : xs[i]? = some xs[i] := List.getElem?_eq_getElem hil
        rw [hxi] at hi'
        have := flat_of n xs[i].1 f.type q _ xs[i].2 hi' (h3 (f, xs[i].1) (by
          rw [List.mem_iff_getElem?]
          exact ⟨i, by simp [List.getElem?_zip_eq_some, hfi', hxi]⟩))
        rw [this]
        simp [hxi])
      rw [List.drop_zero] at this
      rw [List.flatMap_def]
      exact this
    · cases hf
  | n + 1, .lit l, t, fuel, cs, p, h, hf => by
    cases l with
    | int k z =>
      unfold fits at hf
      split at hf
      · rename_i k' hu
        obtain ⟨z', hc, hx, _⟩ := DataW.trod_int hu h
        have hx := congrArg Prod.fst hx
        simp only [DataW.lit.injEq, Lit.int.injEq] at hx
        obtain ⟨rfl, rfl⟩ := hx
        exact hc
      · cases hf
    | bool b =>
      unfold fits at hf
      split at hf
      · rename_i hu
        obtain ⟨z', hc, hx⟩ := DataW.trod_bool hu h
        have hx := congrArg Prod.fst hx
        simp only [DataW.lit.injEq, Lit.bool.injEq] at hx
        obtain rfl := hx
        exact hc
      · cases hf
    | string l =>
      unfold fits at hf
      split at hf
      · rename_i hu
        obtain ⟨z', hc, hx, _⟩ := DataW.trod_string hu h
        have hx := congrArg Prod.fst hx
        simp only [DataW.lit.injEq, Lit.string.injEq] at hx
        obtain rfl := hx
        show cs = [Value.string ⟨z'.data.toList.toArray⟩]
        rw [hc]
      · cases hf
    | _ => simp [fits] at hf
  | _ + 1, .nil, _, _, _, _, _, hf | _ + 1, .ptr _, _, _, _, _, _, hf | _ + 1, .slice _ _, _, _, _, _, _, hf | _ + 1, .iface _ _, _, _, _, _, _, hf | _ + 1, .map _, _, _, _, _, _, hf | _ + 1, .held _, _, _, _, _, _, hf => by simp [fits] at hf

/-- From a row's condition to the variable's cells; the table stands first on the list. -/
theorem cells_of_head {P : Program} {W : World} {name : String} {d : DataW Unit} {rest : List (String × DataW Unit)} {g : Nat} {t : TypeId} (n : Nat)
    (hg : P.globalNamed name = some g) (hty : (P.globals[g]?).map (·.type) = some t) (hf : fits P n t d = true)
    (h : laidMet P ((name, d) :: rest) W) : ∀ i v, (flat n d)[i]? = some v → W.cell? ⟨g, i, none⟩ = some v := by
  obtain ⟨ps, ⟨g', t', cs, fuel, p, q, hg', ht', hvar, hd, _, _⟩, _⟩ := h
  obtain rfl := Option.some.inj (hg.symm.trans hg')
  obtain rfl := Option.some.inj (hty.symm.trans ht')
  intro i v hv
  rw [World.var?_cell hg hvar i]
  rw [← flat_of n d t fuel cs.toList p hd hf] at hv
  simpa using hv
end TabM
end Go.Proofs.YtpknbdlemaehnaaDoor
