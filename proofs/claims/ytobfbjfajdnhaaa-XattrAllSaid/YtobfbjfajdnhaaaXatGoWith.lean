/- Package xattr: one more in its place (with). -/
import Derived.Test.YtobfbjfajdnhaaaXatGoIns2
import Derived.Test.YtobfbjfajdnhaaaXatGoDec
namespace Go.Proofs.Ytobfbjfajdnhaaa
open Go.RowKit
open XatM
set_option linter.unusedVariables false

theorem put_at {l : List Xa} {a : Xa} : ∀ (i : Nat), i ≤ l.length → (∀ t (h : t < l.length), t < i → l[t].1 < a.1) → putX l a = l.take i ++ putX (l.drop i) a
  | 0, _, _ => by simp
  | i + 1, hi, h => put_step (by omega) (put_at i (by omega) (fun t ht hti => h t ht (by omega))) (h i (by omega) (by omega))
theorem put_hit {l : List Xa} {a : Xa} {i : Nat} (hs : Stand l a.1 i) (h : hitAt l a.1 i = true) : i < l.length ∧ putX l a = l.set i a := by
  obtain ⟨h1, h2, h3⟩ := hs
  by_cases hi : i < l.length
  · rw [hit_at hi, decide_eq_true_eq] at h
    refine ⟨hi, ?_⟩
    rw [put_same hi (put_at i h1 h2) h, List.drop_drop, List.set_eq_take_append_cons_drop, if_pos hi, List.append_assoc]
    rfl
  · rw [hit_no (by omega)] at h
    cases h
theorem put_new {l : List Xa} {a : Xa} {i : Nat} (hs : Stand l a.1 i) (h : hitAt l a.1 i = false) : putX l a = l.take i ++ [a] ++ l.drop i := by
  obtain ⟨h1, h2, h3⟩ := hs
  by_cases hi : i < l.length
  · rw [hit_at hi, decide_eq_false_iff_not] at h
    exact put_more hi (put_at i h1 h2) (h3 i hi (Nat.le_refl _)) h
  · rw [put_end (by omega) (put_at i h1 h2), List.drop_eq_nil_of_le (by omega)]
theorem cellsE_set (l : List Xa) (a : Xa) : ∀ (i : Nat), ((cellsE xatE l).set (i * 2) (.string (strOf a.1))).set (i * 2 + 1) (.string (strOf a.2)) = cellsE xatE (l.set i a) := by
  induction l with
  | nil => intro i; simp [cellsE]
  | cons x l ih =>
    intro i
    cases i with
    | zero => simp [cellsE, xatE]
    | succ i =>
      have e : (i + 1) * 2 = i * 2 + 2 := by omega
      have := ih i
      simp only [List.set_cons_succ, cellsE]
      rw [← this, e]
      simp [xatE]
theorem Row.set2 {B g n cap : Nat} {l : List Xa} {w : World} (h : Row xatE B (.slice (some ⟨g, 0, none⟩) n cap) l w) (hn : n = l.length) (i : Nat) (a : Xa) :
    Row xatE B (.slice (some ⟨g, 0, none⟩) n cap) (l.set i a) ((w.setCell ⟨g, i * 2, none⟩ (.string (strOf a.1))).setCell ⟨g, i * 2 + 1, none⟩ (.string (strOf a.2))) := by
  subst hn
  have h1 := (World.ownsRow.stored h (i * 2) (.string (strOf a.1))).1
  have h2 := (World.ownsRow.stored h1 (i * 2 + 1) (.string (strOf a.2))).1
  rw [cellsE_set] at h2
  unfold Row
  rw [List.length_set]
  exact h2
theorem Row.free {B g n cap : Nat} {l : List Xa} {w : World} (h : Row xatE B (.slice (some ⟨g, 0, none⟩) n cap) l w) (hn : n = l.length) (j : Nat) : w.frozen? ⟨g, j, none⟩ = false := by
  subst hn
  exact World.ownsRow.frozenAt h j
/-- How with ends. -/
def withEnd (B : Nat) (l : List Xa) (e : Ending) (w' : World) : Prop := if l.length ≤ 32 then ∃ v', e = .returned v' ∧ Row xatE B v' l w' else e = .panicked noXat
attribute [local irreducible] Row At

set_option maxHeartbeats 3200000 in
set_option maxRecDepth 100000 in
theorem with_any (B : Nat) (v : Value) (l : List Xa) (a : Xa) (w : World) (hrow : Row xatE B v l w) (hp : PW l) (hl : l.length ≤ 32) (hB : B ≤ w.heap.size) :
    Calls Try.prog 37 #[v, twoV a] w fun e w' => withEnd B (putX l a) e w' ∧ Below B w w' := by
  obtain ⟨N, hN⟩ : ∃ N, strOf a.1 = N := ⟨_, rfl⟩
  obtain ⟨V, hV⟩ : ∃ V, strOf a.2 = V := ⟨_, rfl⟩
  have hNl : N.data.toList = a.1 := by rw [← hN, strOf_list]
  have hx0 : Below w.heap.size w (w.alloc (.cells #[.string N, .string V] 42)) := gr_alloc (Below.refl _ _) _
  have hcs : (w.alloc (.cells #[.string N, .string V] 42)).cell? ⟨w.heap.size, 0, none⟩ = some (.string N)
    ∧ (w.alloc (.cells #[.string N, .string V] 42)).cell? ⟨w.heap.size, 1, none⟩ = some (.string V) := by simp [go_sem]
  have hse := Lib.hid (search_any cmpC v l N _ (hrow.at.call hx0) (by omega) hp)
  rw [hNl] at hse
  unfold twoV
  rw [hN, hV]
  have HN := Lib.hid hN
  have HV := Lib.hid hV
  clear hN hV hNl
  obtain ⟨p, cap, rfl, hcap⟩ := hrow.at.shape
  obtain ⟨n, hn⟩ : ∃ n, l.length = n := ⟨_, rfl⟩
  rw [hn] at hse hrow hcap hl ⊢
  have Hn := Lib.hid hn
  clear hn hp
  go_enter Try.func37, Try.ntmps37
  go_wp2_with fail
  refine (hse.out).mono ?_
  rintro e w2 ⟨⟨i, rfl, hst⟩, hb2⟩
  replace hrow := (hrow.call hx0).call hb2
  have hb : Below w.heap.size w w2 := gr_call hx0 hb2
  have c0 := cell_kept hb2 hcs.1
  have c1 := cell_kept hb2 hcs.2
  have hB2 : B ≤ w2.heap.size := Nat.le_trans hB hb.size
  have hbB := hb.mono hB
  clear hb2 hx0 hcs hse hb
  rcases hh : hitAt l a.1 i with _ | _
  case true =>
    obtain ⟨hi, hput⟩ := put_hit hst hh
    rcases hrow.kinds with ⟨_, e⟩ | ⟨g, cp, e⟩
    · rw [e] at hi; simp at hi
    simp only [Value.slice.injEq] at e
    obtain ⟨rfl, -, rfl⟩ := e
    obtain ⟨g', off, cp, e, _, hg, hj⟩ := two_open xat_two hrow.at (by intro e; rw [e] at hi; simp at hi)
    simp only [Value.slice.injEq, Option.some.injEq, Addr.mk.injEq, and_true] at e
    obtain ⟨⟨rfl, rfl⟩, -, rfl⟩ := e
    obtain ⟨d0, d1⟩ := hj i hi
    rw [Nat.zero_add] at d0 d1
    have z0 := hrow.free Hn.out.symm (i * 2)
    have z1 := hrow.free Hn.out.symm (i * 2 + 1)
    have hBg : B ≤ g := (hrow.lt g rfl).1
    have hR := hrow.set2 Hn.out.symm i a
    rw [HN.out, HV.out] at hR
    have hi0 : (0 : Int) ≤ (i : Int) := by omega
    have hi1 : (i : Int) < (n : Int) := by have := Hn.out; omega
    have hi2 : i < n := by have := Hn.out; omega
    have hbS : Below B w ((w2.setCell ⟨g, i * 2, none⟩ (.string N)).setCell ⟨g, i * 2 + 1, none⟩ (.string V)) := (hbB.setCell hBg _).setCell hBg _
    have HL := Lib.hid (show (putX l a).length ≤ 32 by rw [hput, List.length_set, Hn.out]; exact hl)
    have HP := Lib.hid hput
    clear hput hst hh hj hrow hbB hBg
    go_wp2_with fail
    go_ret
    refine ⟨?_, hbS⟩
    unfold withEnd
    rw [if_pos HL.out, HP.out]
    exact ⟨_, rfl, hR⟩
  case false =>
    have hput := put_new hst hh
    by_cases h32 : n = 32
    · have HE := Lib.hid (show ¬ (putX l a).length ≤ 32 by rw [hput]; simp; have := hst.1; have := Hn.out; omega)
      subst h32
      clear hput hst hh
      go_wp2_with fail
      exact ⟨rfl, by unfold withEnd; rw [if_neg HE.out]; rfl, hbB⟩
    · have f1 : ((n : Int) == 32) = false := by rw [beq_eq_false_iff_ne]; omega
      have f2 : (n == 32) = false := by rw [beq_eq_false_iff_ne]; exact h32
      have hi := hst.1
      have HL := Lib.hid (show (putX l a).length ≤ 32 by rw [hput]; simp; have := Hn.out; omega)
      have HP := Lib.hid hput
      clear hput hst hh
      have hB3 : Below B w2 (w2.alloc (.cells #[.string N, .string V] 42)) := (Below.refl B w2).alloc hB2 _
      have hins := Lib.hid (insert_any B (.slice p n cap) l i a w2.heap.size (w2.alloc (.cells #[.string N, .string V] 42)) (hrow.alloc _) hi (by rw [Hn.out]; omega) (by simp; omega)
        ⟨42, by rw [show (xaC a).toArray = #[.string N, .string V] by rw [← HN.out, ← HV.out]; rfl]; exact (show (w2.heap.push (Obj.cells #[.string N, .string V] 42 (0, 0)))[w2.heap.size]? = _ from Array.getElem?_push_size)⟩
        (fun e => by have := (hrow.lt _ e).2; omega))
      go_wp2_with fail
      refine (hins.out).mono ?_
      rintro e w3 ⟨⟨v', rfl, hR⟩, hb3⟩
      go_wp2_with fail
      go_ret
      refine ⟨?_, (hbB.trans hB3).trans hb3⟩
      unfold withEnd
      rw [if_pos HL.out, HP.out]
      exact ⟨_, rfl, hR⟩
end Go.Proofs.Ytobfbjfajdnhaaa
