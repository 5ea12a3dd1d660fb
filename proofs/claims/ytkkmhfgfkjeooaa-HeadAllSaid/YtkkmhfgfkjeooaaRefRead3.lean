/- Walks over the document's answer for package num: ReadField; what its readers say is what num's say. -/
import Derived.Test.YtkkmhfgfkjeooaaRefRead2
namespace Go.Proofs.Ytkkmhfgfkjeooaa
open Go.RowKit
open NumM
set_option linter.unusedVariables false

theorem refReadField_1 (s : ByteArray) (v : Int) (h1 : ∀ W, Calls Try.prog 43 #[.string s] W fun e w' => e = .returned (.agg #[.int .i64 v, .bool true]) ∧ Below W.heap.size W w') (w : World) :
    Calls Try.prog 27 #[.string s] w fun e w' => e = .returned (.agg #[.int .i64 v, .bool true]) ∧ Below w.heap.size w w' := by
  have H1 := Lib.hid h1; clear h1
  go_enter Try.func27, Try.ntmps27
  go_wp2_with fail
  refine (H1.out _).mono ?_
  rintro e w1 ⟨rfl, hb1⟩
  have hs1 := (BlkIs.made w 55 #[.int .i64 0, .bool false]).kept hb1 (by simp)
  have hb2 : Below w.heap.size w w1 := ((Below.refl _ _).alloc (Nat.le_refl _) _).trans (hb1.mono (by simp))
  have hsz := hs1.size
  have hc0 := hs1.cell_some 0 (.int .i64 0) rfl
  have hc1 := hs1.cell_some 1 (.bool false) rfl
  have hf0 := hs1.free 0
  have hf1 := hs1.free 1
  clear hb1 hs1
  go_wp2_with fail
  refine bodyPost_ret (v := .agg #[.int .i64 v, .bool true]) (by simp [results, Try.results27, go_sem, hc0, hc1, hsz]) rfl ⟨rfl, ?_⟩
  exact ((hb2.setCell (Nat.le_refl _) _).setCell (Nat.le_refl _) _).alloc (by simpa using hb2.size) _
theorem refReadField_2 (s : ByteArray) (h1 : ∀ W, Calls Try.prog 43 #[.string s] W fun e w' => e = .returned (.agg #[.int .i64 0, .bool false]) ∧ Below W.heap.size W w')
    (h2 : ∀ W, Calls Try.prog 44 #[.string s] W fun e w' => e = .returned (.agg #[.int .i64 0, .bool false]) ∧ Below W.heap.size W w') (w : World) :
    Calls Try.prog 27 #[.string s] w fun e w' => e = .returned (.agg #[.int .i64 0, .bool false]) ∧ Below w.heap.size w w' := by
  have H1 := Lib.hid h1; clear h1
  have H2 := Lib.hid h2; clear h2
  go_enter Try.func27, Try.ntmps27
  go_wp2_with fail
  refine (H1.out _).mono ?_
  rintro e w1 ⟨rfl, hb1⟩
  have hs1 := (BlkIs.made w 55 #[.int .i64 0, .bool false]).kept hb1 (by simp)
  have hb2 : Below w.heap.size w w1 := ((Below.refl _ _).alloc (Nat.le_refl _) _).trans (hb1.mono (by simp))
  have hsz := hs1.size
  clear hb1
  go_wp2_with fail
  refine (H2.out _).mono ?_
  rintro e w2 ⟨rfl, hb3⟩
  have hs2 := (hs1.alloc _).kept hb3 (by simp; omega)
  have hb4 : Below w.heap.size w w2 := (hb2.alloc hb2.size _).trans (hb3.mono (by simp; omega))
  have hsz2 := hs2.size
  have hc0 := hs2.cell_some 0 (.int .i64 0) rfl
  have hc1 := hs2.cell_some 1 (.bool false) rfl
  have hf0 := hs2.free 0
  have hf1 := hs2.free 1
  clear hb2 hb3 hs1 hs2 hsz
  go_wp2_with fail
  refine bodyPost_ret (v := .agg #[.int .i64 0, .bool false]) (by simp [results, Try.results27, go_sem, hc0, hc1, hsz2]) rfl ⟨rfl, ?_⟩
  exact ((hb4.setCell (Nat.le_refl _) _).setCell (Nat.le_refl _) _).alloc (by simpa using hb4.size) _
theorem refReadField_34 (s : ByteArray) (y : Int) (t : ByteArray) (is : Bool) (z : Int) (ok : Bool) (hcase : (is = false ∧ y = z ∧ ok = true) ∨ (is = true ∧ z = 0 ∧ ok = false)) (h1 : ∀ W, Calls Try.prog 43 #[.string s] W fun e w' => e = .returned (.agg #[.int .i64 0, .bool false]) ∧ Below W.heap.size W w')
    (h2 : ∀ W, Calls Try.prog 44 #[.string s] W fun e w' => e = .returned (.agg #[.int .i64 y, .bool true]) ∧ Below W.heap.size W w')
    (h3 : ∀ W, Calls Try.prog 36 #[.int .i64 y, .int .i64 (s.size : Int)] W fun e w' => e = .returned (.agg #[.string t, .bool is]) ∧ Below W.heap.size W w') (w : World) :
    Calls Try.prog 27 #[.string s] w fun e w' => e = .returned (.agg #[.int .i64 z, .bool ok]) ∧ Below w.heap.size w w' := by
  have H1 := Lib.hid h1; clear h1
  have H2 := Lib.hid h2; clear h2
  have H3 := Lib.hid h3; clear h3
  have hfd : ∀ (x : ByteArray) (b : Bool) (w : World), (Instr.field 48 (.agg #[.string x, .bool b]) 1).run Try.prog w = .ok (.bool b) w := fun _ _ _ => by kernel_rfl
  rcases hcase with ⟨rfl, rfl, rfl⟩ | ⟨rfl, rfl, rfl⟩
  all_goals
    go_enter Try.func27, Try.ntmps27
    go_wp2_with fail
    refine (H1.out _).mono ?_
    rintro e w1 ⟨rfl, hb1⟩
    have hs1 := (BlkIs.made w 55 #[.int .i64 0, .bool false]).kept hb1 (by simp)
    have hb2 : Below w.heap.size w w1 := ((Below.refl _ _).alloc (Nat.le_refl _) _).trans (hb1.mono (by simp))
    have hsz := hs1.size
    clear hb1
    go_wp2_with fail
    refine (H2.out _).mono ?_
    rintro e w2 ⟨rfl, hb3⟩
    have hs2 := (hs1.alloc _).kept hb3 (by simp; omega)
    have hb4 : Below w.heap.size w w2 := (hb2.alloc hb2.size _).trans (hb3.mono (by simp; omega))
    have hsz2 := hs2.size
    clear hb2 hb3 hs1 hsz
    go_wp2_with fail
    refine (H3.out _).mono ?_
    rintro e w3 ⟨rfl, hb5⟩
    have hy3 := (BlkIs.made w2 55 #[.int .i64 y, .bool true]).kept hb5 (by simp)
    have hs3 := (hs2.alloc _).kept hb5 (by simp; omega)
    have hb6 : Below w.heap.size w w3 := (hb4.alloc hb4.size _).trans (hb5.mono (by simp; omega))
    have hc0 := hs3.cell_some 0 (.int .i64 0) rfl
    have hc1 := hs3.cell_some 1 (.bool false) rfl
    have hf0 := hs3.free 0
    have hf1 := hs3.free 1
    have hy0 := hy3.cell_some 0 (.int .i64 y) rfl
    have hy1 := hy3.cell_some 1 (.bool true) rfl
    clear hb4 hb5 hs2 hs3 hy3
    go_wp2_with fail
  · refine bodyPost_ret (v := .agg #[.int .i64 y, .bool true]) (by simp [results, Try.results27, go_sem, hc0, hc1]) rfl ⟨rfl, ?_⟩
    exact (hb6.setCell (Nat.le_refl _) _).setCell (Nat.le_refl _) _
  · refine bodyPost_ret (v := .agg #[.int .i64 0, .bool false]) (by simp [results, Try.results27, go_sem, hc0, hc1]) rfl ⟨rfl, ?_⟩
    exact (hb6.setCell (Nat.le_refl _) _).setCell (Nat.le_refl _) _

theorem and7_digit (d : Nat) (h : d < 8) : ((UInt8.ofNat (48 + d)) &&& 7).toNat = d := by
  have : d = 0 ∨ d = 1 ∨ d = 2 ∨ d = 3 ∨ d = 4 ∨ d = 5 ∨ d = 6 ∨ d = 7 := by omega
  rcases this with rfl | rfl | rfl | rfl | rfl | rfl | rfl | rfl <;> decide
theorem rOctV_digs (k n : Nat) : rOctV (digs k n) = ((n % 8 ^ k : Nat) : Int) := by
  induction k generalizing n with
  | zero => simp [digs, rOctV, Nat.mod_one]
  | succ k ih =>
    have h1 : digs (k + 1) n = digs k (n / 8) ++ [UInt8.ofNat (48 + n % 8)] := rfl
    rw [h1, rOctV_snoc, ih, and7_digit _ (Nat.mod_lt _ (by decide)), Nat.pow_succ, Nat.mul_comm (8 ^ k) 8, Nat.mod_mul]
    omega
theorem rOctW_of {n v : Int} {l : List UInt8} (h : octO n v = some l) : rOctV (l.take (l.length - 1)) = n := by
  obtain ⟨m, d, rfl, _, _, hm, rfl⟩ := octO_form h
  rw [List.length_append, List.length_singleton, Nat.add_sub_cancel, List.take_left', rOctV_digs, Nat.mod_eq_of_lt hm]
  rfl
theorem rdO_eq (enc : Int → Int → Option (List UInt8)) (a b : Int) (l : List UInt8) (ha : ∀ n, enc n l.length = some l → a = n) (hb : ∀ n, enc n l.length = some l → b = n) : rdO enc a l = rdO enc b l := by
  unfold rdO
  by_cases h : enc a l.length = some l
  · have := hb a h
    subst this
    rfl
  · by_cases h2 : enc b l.length = some l
    · have := ha b h2
      subst this
      rfl
    · rw [if_neg h, if_neg h2]
theorem rOct'_eq (l : List UInt8) : rOct' l = rdOct l := rdO_eq _ _ _ _ (fun _ h => rOctW_of h) (fun _ h => octW_of h)

/-- What the document's ReadField says. -/
def rFld' (l : List UInt8) : Option Int :=
  match rdOct l with
  | some v => some v
  | none => match rdBas l with
    | none => none
    | some y => if (octO y l.length).isSome then none else some y

theorem rdOct_form {v : Int} {l : List UInt8} (h : rdOct l = some v) : octO v l.length = some l ∧ octW l = v := by
  unfold rdOct rdO at h
  split at h
  · injection h with h; subst h; exact ⟨by assumption, rfl⟩
  · cases h
theorem rdBas_form {v : Int} {l : List UInt8} (h : rdBas l = some v) : basO v l.length = some l ∧ basV l = v := by
  unfold rdBas rdO at h
  split at h
  · injection h with h; subst h; exact ⟨by assumption, rfl⟩
  · cases h
theorem rdOct_none {l : List UInt8} (h : rdOct l = none) (n : Int) : ¬ octO n l.length = some l := by
  intro hn
  have := octW_of hn
  unfold rdOct rdO at h
  rw [this, if_pos hn] at h
  cases h

theorem rFld'_eq (l : List UInt8) : rFld' l = rdFld l := by
  unfold rFld'
  rcases ho : rdOct l with _ | v
  · have hno := rdOct_none ho
    rcases hb : rdBas l with _ | y
    · show none = rdFld l
      rcases hf : rdFld l with _ | z
      · rfl
      · have h1 := rdFld_form hf
        rcases fieldO_cases h1 with h2 | ⟨_, h2⟩
        · exact (hno _ h2).elim
        · obtain ⟨c, r, hl, hc⟩ := basO_head h2
          have h128 : 128 ≤ c.toNat := by rcases hc with ⟨_, rfl⟩ | ⟨_, rfl⟩ <;> decide
          have h3 : fldV l = z := by
            unfold rdFld rdO at hf
            split at hf
            · injection hf
            · cases hf
          rw [fldV_bas hl h128] at h3
          unfold rdBas rdO at hb
          rw [h3, if_pos h2] at hb
          cases hb
    · obtain ⟨h1, h2⟩ := rdBas_form hb
      obtain ⟨c, r, hl, hc⟩ := basO_head h1
      have h128 : 128 ≤ c.toNat := by rcases hc with ⟨_, rfl⟩ | ⟨_, rfl⟩ <;> decide
      have h3 : fldV l = y := by rw [fldV_bas hl h128, h2]
      show (if (octO y l.length).isSome = true then none else some y) = rdFld l
      unfold rdFld rdO
      rw [h3]
      rcases hoy : octO y l.length with _ | t
      · have : fieldO y l.length = some l := by simp [fieldO, hoy, h1]
        rw [if_pos this]
        rfl
      · have hne : ¬ t = l := fun e => hno y (by rw [hoy, e])
        have : fieldO y l.length = some t := by simp [fieldO, hoy]
        rw [this, if_neg (fun e => hne (Option.some.inj e))]
        rfl
  · obtain ⟨h1, h2⟩ := rdOct_form ho
    obtain ⟨c, r, hl, h3, h4⟩ := octO_head h1
    show some v = rdFld l
    have h5 : fldV l = v := by rw [fldV_oct hl (by omega), h2]
    unfold rdFld rdO
    rw [h5, if_pos (by simp [fieldO, h1])]

theorem refReadField_any (s : ByteArray) (w : World) :
    Calls Try.prog 27 #[.string s] w fun e w' => e = .returned (numV (rdFld s.data.toList)) ∧ Below w.heap.size w w' := by
  have h1 := fun W => refReadOctal_any s W
  have h2 := fun W => refReadBase_any s W
  rw [← rFld'_eq]
  rw [rOct'_eq] at h1
  have hsz : s.data.toList.length = s.size := by simp
  unfold rFld'
  rcases ho : rdOct s.data.toList with _ | v
  · rw [ho] at h1
    rcases hb : rdBas s.data.toList with _ | y
    · rw [hb] at h2
      exact refReadField_2 s h1 h2 w
    · rw [hb] at h2
      have hy : y ≤ 9223372036854775807 := by rw [← (rdBas_form hb).2]; exact (basV_range _).2
      have h3 := fun W => refOctal_any y (s.size : Int) hy W
      show Calls _ _ _ _ fun e w' => e = .returned (numV (if (octO y s.data.toList.length).isSome = true then none else some y)) ∧ _
      rw [hsz]
      rcases hoy : octO y (s.size : Int) with _ | t
      · rw [hoy] at h3
        exact refReadField_34 s y _ _ y true (.inl ⟨rfl, rfl, rfl⟩) h1 h2 h3 w
      · rw [hoy] at h3
        exact refReadField_34 s y _ _ 0 false (.inr ⟨rfl, rfl, rfl⟩) h1 h2 h3 w
  · rw [ho] at h1
    exact refReadField_1 s v h1 w
end Go.Proofs.Ytkkmhfgfkjeooaa
