/- Walks over package head: Split, Join; a path that is split, as plain mathematics. -/
import Derived.Test.YtkkmhfgfkjeooaaHeadAwake
import Derived.Laws.Tables
namespace Go.Proofs.Ytkkmhfgfkjeooaa
open Go.RowKit
open HeadM NumM
set_option linter.unusedVariables false

theorem empty_L (A : ByteArray) : A.toList.isEmpty = decide (L A = []) := by
  have e : A.toList = L A := Lib.toList_data A
  rw [e]
  cases L A <;> rfl
/-- Where a path is divided, behind its first hundred and one bytes from the end; none: nowhere. -/
def HeadM.slashAt (l : List UInt8) : Int := Lib.indexByte (l.drop (l.length - 101)) 47
/-- A path's prefix and name; none: it can't be split. -/
def HeadM.splitL (l : List UInt8) : Option (List UInt8 × List UInt8) :=
  if l.length ≤ 100 then some ([], l)
  else if slashAt l < 0 then none
  else
    let k := l.length - 101 + (slashAt l).toNat
    if k + 1 = l.length ∨ k = 0 ∨ 155 < k then none else some (l.take k, l.drop (k + 1))
def HeadM.splitV (l : List UInt8) : Value := match splitL l with
  | some (p, n) => .tuple #[.string (strOf p), .string (strOf n), .bool true]
  | none => .tuple #[.string ⟨#[]⟩, .string ⟨#[]⟩, .bool false]

theorem split_short (S : ByteArray) (h : S.size ≤ 100) (w : World) :
    Calls Try.prog 12 #[.string S] w fun e w' => e = .returned (.tuple #[.string ⟨#[]⟩, .string S, .bool true]) ∧ Below w.heap.size w w' := by
  have h1 : (S.size : Int) ≤ 100 := by omega
  go_enter Try.func12, Try.ntmps12
  go_wp2_with fail
  exact bodyPost_ret (v := .tuple #[.string ⟨#[]⟩, .string S, .bool true]) (by simp [results, Try.results12, go_sem, *]) rfl ⟨rfl, by (repeat' (first | exact Below.refl _ _ | assumption | refine gr_drew ?_ | refine gr_drewN ?_ _ | refine gr_alloc ?_ _ | refine gr_set ?_ ?_ _ | refine gr_call ?_ (by assumption)) <;> (try (simp; done)) <;> (try (simp; omega)) <;> (try omega))⟩

set_option maxHeartbeats 1000000 in
theorem split_long (S : ByteArray) (h : 100 < S.size) (hl : S.size ≤ 8000) (w : World) :
    Calls Try.prog 12 #[.string S] w fun e w' => e = .returned (splitV (L S)) ∧ Below w.heap.size w w' := by
  obtain ⟨n, hn⟩ : ∃ n, S.size = n := ⟨_, rfl⟩
  obtain ⟨m, hm⟩ : ∃ m, n = m + 101 := ⟨n - 101, by omega⟩
  have hm2 : (n : Int) - 100 - 1 = (m : Int) := by omega
  have hm3 : 0 ≤ (m : Int) := by omega
  have hm4 : (m : Int) ≤ (n : Int) := by omega
  have hmn : m ≤ n := by omega
  have hT : L (S.extract m n) = (L S).drop m := by
    show (S.extract m n).data.toList = _
    rw [Lib.extract_data]
    have : S.data.toList = L S := rfl
    rw [this, List.take_of_length_le (by rw [List.length_drop, size_L]; omega)]
  have hi := fun w => indexByte_any (S.extract m n) 47 47 rfl w
  rw [hT] at hi
  have hsl : slashAt (L S) = Lib.indexByte ((L S).drop m) 47 := by
    unfold slashAt
    rw [size_L, hn, hm, Nat.add_sub_cancel]
  rw [← hsl] at hi
  have hV : splitV (L S) = splitV (L S) := rfl
  by_cases hneg : slashAt (L S) < 0
  · have hv : splitV (L S) = .tuple #[.string ⟨#[]⟩, .string ⟨#[]⟩, .bool false] := by
      unfold splitV splitL
      rw [size_L, if_neg (by omega), if_pos hneg]
    rw [hv]
    obtain ⟨j, hj⟩ : ∃ j, slashAt (L S) = j := ⟨_, rfl⟩
    rw [hj] at hi hneg
    replace hi := Lib.hid hi
    have h1 : ¬ (n : Int) ≤ 100 := by omega
    clear hT hsl hV hv hj hm
    have hn' : S.size = n := hn
    go_enter Try.func12, Try.ntmps12
    go_wp2_with fail
    refine (hi.out _).mono ?_
    rintro e w' ⟨rfl, rfl⟩
    go_wp2_with fail
    exact bodyPost_ret (v := .tuple #[.string ⟨#[]⟩, .string ⟨#[]⟩, .bool false]) (by simp [results, Try.results12, go_sem, *]) rfl ⟨rfl, by (repeat' (first | exact Below.refl _ _ | assumption | refine gr_drew ?_ | refine gr_drewN ?_ _ | refine gr_alloc ?_ _ | refine gr_set ?_ ?_ _ | refine gr_call ?_ (by assumption)) <;> (try (simp; done)) <;> (try (simp; omega)) <;> (try omega))⟩
  · obtain ⟨j, hj⟩ : ∃ j : Nat, slashAt (L S) = (j : Int) := ⟨(slashAt (L S)).toNat, by omega⟩
    have hat := (Lib.indexByte_some (hsl ▸ hj)).1
    have hjl : j < 101 := by
      have := (List.getElem?_eq_some_iff.1 hat).1
      rw [List.length_drop, size_L] at this
      omega
    obtain ⟨k, hk⟩ : ∃ k, m + j = k := ⟨_, rfl⟩
    have e1 : S.extract 0 k = strOf ((L S).take k) := by
      apply str_L
      show (S.extract 0 k).data.toList = _
      rw [Lib.extract_data]
      simp [L]
    have e2 : S.extract (k + 1) n = strOf ((L S).drop (k + 1)) := by
      apply str_L
      show (S.extract (k + 1) n).data.toList = _
      rw [Lib.extract_data]
      have : S.data.toList = L S := rfl
      rw [this, List.take_of_length_le (by rw [List.length_drop, size_L]; omega)]
    have hv : splitV (L S) = if k + 1 = n ∨ k = 0 ∨ 155 < k then .tuple #[.string ⟨#[]⟩, .string ⟨#[]⟩, .bool false] else .tuple #[.string (S.extract 0 k), .string (S.extract (k + 1) n), .bool true] := by
      unfold splitV splitL
      rw [size_L, if_neg (by omega), if_neg hneg, hj, e1, e2]
      have ek : n - 101 + ((j : Int)).toNat = k := by rw [hm, Nat.add_sub_cancel]; simpa using hk
      simp only [hn, ek]
      by_cases hc : k + 1 = n ∨ k = 0 ∨ 155 < k
      · rw [if_pos hc, if_pos hc]
      · rw [if_neg hc, if_neg hc]
    have hz1 : (S.extract 0 k).size = k := by rw [e1, strOf_sz, List.length_take, size_L]; omega
    have hz2 : (S.extract (k + 1) n).size = n - (k + 1) := by rw [e2, strOf_sz, List.length_drop, size_L, hn]
    clear e1 e2
    rw [hj] at hi
    replace hi := Lib.hid hi
    have hv := Lib.hid hv
    have h1 : ¬ (n : Int) ≤ 100 := by omega
    have hsum : (m : Int) + (j : Int) = (k : Int) := by omega
    have hk0 : 0 ≤ (k : Int) := by omega
    have hk1 : (k : Int) ≤ (n : Int) := by omega
    have hk2 : (k : Int) + 1 ≤ (n : Int) := by omega
    have hj0 : ¬ (j : Int) < 0 := by omega
    have hN1 : k ≤ n := by omega
    have hN2 : k + 1 ≤ n := by omega
    have p1 : (S.extract (k + 1) n).toList.isEmpty = decide (k + 1 = n) := by
      rw [empty_L]
      apply decide_eq_decide.2
      constructor
      · intro h2
        have h3 := congrArg List.length h2
        rw [size_L, hz2] at h3
        have : ([] : List UInt8).length = 0 := rfl
        omega
      · intro h2
        apply List.eq_nil_of_length_eq_zero
        rw [size_L, hz2]; omega
    have p2 : (S.extract 0 k).toList.isEmpty = decide (k = 0) := by
      rw [empty_L]
      apply decide_eq_decide.2
      constructor
      · intro h2
        have h3 := congrArg List.length h2
        rw [size_L, hz1] at h3
        exact h3
      · intro h2
        apply List.eq_nil_of_length_eq_zero
        rw [size_L, hz1, h2]
    clear hT hsl hV hat hm hneg hk hj
    have hcase : (k + 1 = n ∨ k = 0 ∨ 155 < k) ∨ (¬ k + 1 = n ∧ ¬ k = 0 ∧ ¬ 155 < k) := by omega
    have hfin : ∀ (c : Bool), decide (k + 1 = n ∨ k = 0 ∨ 155 < k) = c → splitV (L S) = if c = true then .tuple #[.string ⟨#[]⟩, .string ⟨#[]⟩, .bool false] else .tuple #[.string (S.extract 0 k), .string (S.extract (k + 1) n), .bool true] := by
      intro c hc
      rw [hv.out, ← hc]
      by_cases h5 : k + 1 = n ∨ k = 0 ∨ 155 < k
      · rw [if_pos h5, decide_eq_true h5]; rfl
      · rw [if_neg h5, decide_eq_false h5]; rfl
    by_cases c1 : k + 1 = n
    · have hf := Lib.hid (hfin true (decide_eq_true (Or.inl c1)))
      rw [decide_eq_true c1] at p1
      clear hv hfin hcase c1 p2
      go_enter Try.func12, Try.ntmps12
      go_wp2_with fail
      refine (hi.out _).mono ?_
      rintro e w' ⟨rfl, rfl⟩
      go_wp2_with fail
      go_quiet (fail)
      go_wp2_with fail
      rw [hf.out]
      exact bodyPost_ret (v := .tuple #[.string ⟨#[]⟩, .string ⟨#[]⟩, .bool false]) (by simp [results, Try.results12, go_sem, *]) rfl ⟨rfl, by (repeat' (first | exact Below.refl _ _ | assumption | refine gr_drew ?_ | refine gr_drewN ?_ _ | refine gr_alloc ?_ _ | refine gr_set ?_ ?_ _ | refine gr_call ?_ (by assumption)) <;> (try (simp; done)) <;> (try (simp; omega)) <;> (try omega))⟩
    rw [decide_eq_false c1] at p1
    by_cases c2 : k = 0
    · have hf := Lib.hid (hfin true (decide_eq_true (Or.inr (Or.inl c2))))
      rw [decide_eq_true c2] at p2
      clear hv hfin hcase c1 c2
      go_enter Try.func12, Try.ntmps12
      go_wp2_with fail
      refine (hi.out _).mono ?_
      rintro e w' ⟨rfl, rfl⟩
      go_wp2_with fail
      go_quiet (fail)
      go_wp2_with fail
      rw [hf.out]
      exact bodyPost_ret (v := .tuple #[.string ⟨#[]⟩, .string ⟨#[]⟩, .bool false]) (by simp [results, Try.results12, go_sem, *]) rfl ⟨rfl, by (repeat' (first | exact Below.refl _ _ | assumption | refine gr_drew ?_ | refine gr_drewN ?_ _ | refine gr_alloc ?_ _ | refine gr_set ?_ ?_ _ | refine gr_call ?_ (by assumption)) <;> (try (simp; done)) <;> (try (simp; omega)) <;> (try omega))⟩
    rw [decide_eq_false c2] at p2
    by_cases c3 : 155 < k
    · have hf := Lib.hid (hfin true (decide_eq_true (Or.inr (Or.inr c3))))
      have c3' : (155 : Int) < (k : Int) := by omega
      clear hv hfin hcase c1 c2 c3
      go_enter Try.func12, Try.ntmps12
      go_wp2_with fail
      refine (hi.out _).mono ?_
      rintro e w' ⟨rfl, rfl⟩
      go_wp2_with fail
      go_quiet (fail)
      go_wp2_with fail
      rw [hf.out]
      exact bodyPost_ret (v := .tuple #[.string ⟨#[]⟩, .string ⟨#[]⟩, .bool false]) (by simp [results, Try.results12, go_sem, *]) rfl ⟨rfl, by (repeat' (first | exact Below.refl _ _ | assumption | refine gr_drew ?_ | refine gr_drewN ?_ _ | refine gr_alloc ?_ _ | refine gr_set ?_ ?_ _ | refine gr_call ?_ (by assumption)) <;> (try (simp; done)) <;> (try (simp; omega)) <;> (try omega))⟩
    · have hf := Lib.hid (hfin false (decide_eq_false (by omega)))
      have c3' : ¬ (155 : Int) < (k : Int) := by omega
      clear hv hfin hcase c1 c2 c3
      go_enter Try.func12, Try.ntmps12
      go_wp2_with fail
      refine (hi.out _).mono ?_
      rintro e w' ⟨rfl, rfl⟩
      go_wp2_with fail
      go_quiet (fail)
      go_wp2_with fail
      rw [hf.out]
      exact bodyPost_ret (v := .tuple #[.string (S.extract 0 k), .string (S.extract (k + 1) n), .bool true]) (by simp [results, Try.results12, go_sem, *]) rfl ⟨rfl, by (repeat' (first | exact Below.refl _ _ | assumption | refine gr_drew ?_ | refine gr_drewN ?_ _ | refine gr_alloc ?_ _ | refine gr_set ?_ ?_ _ | refine gr_call ?_ (by assumption)) <;> (try (simp; done)) <;> (try (simp; omega)) <;> (try omega))⟩
theorem split_any (S : ByteArray) (hl : S.size ≤ 8000) (w : World) :
    Calls Try.prog 12 #[.string S] w fun e w' => e = .returned (splitV (L S)) ∧ Below w.heap.size w w' := by
  by_cases h : S.size ≤ 100
  · have hv : splitV (L S) = .tuple #[.string ⟨#[]⟩, .string S, .bool true] := by
      unfold splitV splitL
      rw [size_L, if_pos h]
      show Value.tuple #[.string (strOf []), .string (strOf (L S)), .bool true] = _
      rw [strOf_L]
      rfl
    rw [hv]
    exact split_short S h w
  · exact split_long S (by omega) hl w

theorem join_any (h : Hd) (w : World) (h1 : h.name.size ≤ 1000000) (h2 : h.pre.size ≤ 1000000) :
    Calls Try.prog 19 #[.agg #[.string h.name, .int .i64 h.mode, .int .i64 h.uid, .int .i64 h.gid, .int .i64 h.size, .int .i64 h.mtime, .int .u8 (h.typ.toNat : Int), .string h.link, .string h.uname, .string h.gname, .int .i64 h.major, .int .i64 h.minor, .string h.pre]] w fun e w' => e = .returned (.string (strOf (if L h.pre = [] then L h.name else L h.pre ++ (47 :: L h.name)))) ∧ Below w.heap.size w w' := by
  have hp : h.pre.toList.isEmpty = decide (L h.pre = []) := empty_L _
  have hz : (⟨#[47]⟩ : ByteArray).size = 1 := rfl
  by_cases hc : L h.pre = []
  · rw [decide_eq_true hc] at hp
    rw [if_pos hc, strOf_L]
    clear hc
    go_enter Try.func19, Try.ntmps19
    go_wp2_with fail
    go_ret
    exact ⟨rfl, by (repeat' (first | exact Below.refl _ _ | assumption | refine gr_drew ?_ | refine gr_drewN ?_ _ | refine gr_alloc ?_ _ | refine gr_set ?_ ?_ _ | refine gr_call ?_ (by assumption)) <;> (try (simp; done)) <;> (try (simp; omega)) <;> (try omega))⟩
  · rw [decide_eq_false hc] at hp
    rw [if_neg hc]
    have HE := Lib.hid (show h.pre ++ ⟨#[47]⟩ ++ h.name = strOf (L h.pre ++ (47 :: L h.name)) from by
      apply str_L
      rw [L_app, L_app]
      have : L (ByteArray.mk #[47]) = [47] := rfl
      rw [this]
      simp)
    have q1 : ¬ 9223372036854775807 < h.pre.size + 1 := by omega
    have q2 : ¬ 9223372036854775807 < h.pre.size + 1 + h.name.size := by omega
    clear hc
    go_enter Try.func19, Try.ntmps19
    go_wp2_with fail
    go_ret
    exact ⟨ret_str HE.out, by (repeat' (first | exact Below.refl _ _ | assumption | refine gr_drew ?_ | refine gr_drewN ?_ _ | refine gr_alloc ?_ _ | refine gr_set ?_ ?_ _ | refine gr_call ?_ (by assumption)) <;> (try (simp; done)) <;> (try (simp; omega)) <;> (try omega))⟩
end Go.Proofs.Ytkkmhfgfkjeooaa
