/- Walks over the document's answer for package num: ReadBase, ReadField. -/
import Derived.Test.YtkkmhfgfkjeooaaRefRead
namespace Go.Proofs.Ytkkmhfgfkjeooaa
open Go.RowKit
open NumM
set_option linter.unusedVariables false

theorem refReadBase_bad (s : ByteArray) (w : World) (h : isW (s.size : Int) = false) :
    Calls Try.prog 44 #[.string s] w fun e w' => e = .returned (numV none) ∧ Below w.heap.size w w' := by
  have h : (s.size : Int) ≠ 8 ∧ (s.size : Int) ≠ 12 := by simpa [isW] using h
  have h1 : ((s.size : Int) != 8) = true := by simpa using h.1
  have h2 : ((s.size : Int) != 12) = true := by simpa using h.2
  clear h
  go_enter Try.func44, Try.ntmps44
  go_wp2
  refine bodyPost_ret (v := .agg #[.int .i64 0, .bool false]) (by simp [results, Try.results44, go_sem]) rfl ⟨rfl, ?_⟩
  exact (Below.refl _ _).alloc (Nat.le_refl _) _

theorem basStart_cases (s : ByteArray) (h1 : 1 ≤ s.size) : ∃ a : Int, a = basStart s.data.toList ∧ ((((s[0]'(by omega)).toNat : Int) == 255) = true ∧ a = -1 ∨ (((s[0]'(by omega)).toNat : Int) == 255) = false ∧ a = 0) := by
  refine ⟨_, rfl, ?_⟩
  unfold basStart
  rw [head_is s h1]
  generalize s[0]'(by omega) = c
  by_cases h : c = 255
  · left; subst h; exact ⟨rfl, by simp⟩
  · right
    refine ⟨?_, by simp [h]⟩
    have : c.toNat ≠ 255 := fun e => h (UInt8.toNat_inj.1 e)
    simp; omega

set_option maxHeartbeats 1600000 in
theorem refReadBase_core (s b : ByteArray) (is : Bool) (w : World) (hz1 : 1 ≤ s.size) (hz2 : s.size ≤ 12) (hok : LenOk s)
    (h1 : ∀ W, Calls Try.prog 38 #[.int .i64 (basV s.data.toList), .int .i64 (s.size : Int)] W fun e w' => e = .returned (.agg #[.string b, .bool is]) ∧ Below W.heap.size W w')
    (o : Option Int) (hyes : is = true → (b.toList == s.toList) = true → o = some (basV s.data.toList)) (hno : is = false ∨ (b.toList == s.toList) = false → o = none) :
    Calls Try.prog 44 #[.string s] w fun e w' => e = .returned (numV o) ∧ Below w.heap.size w w' := by
  have H1 := Lib.hid h1; clear h1
  have Hyes := Lib.hid hyes; clear hyes
  have Hno := Lib.hid hno; clear hno
  have hl : ∃ l1 l2 : Bool, ((s.size : Int) != 8) = l1 ∧ ((s.size : Int) != 12) = l2 ∧ (l1 && l2) = false := by
    rcases hok with h | ⟨h, h'⟩
    · exact ⟨_, _, rfl, rfl, by rw [h]; rfl⟩
    · exact ⟨_, _, rfl, rfl, by rw [h']; simp⟩
  obtain ⟨a, ha, hcase⟩ := basStart_cases s hz1
  have Ha := Lib.hid ha; clear ha
  rcases hok with hl1 | ⟨hl1, hl2⟩ <;> rcases hcase with ⟨h0, hx⟩ | ⟨h0, hx⟩
  all_goals
    clear hl
    have Hx := Lib.hid hx; clear hx
    go_enter Try.func44, Try.ntmps44
    go_wp2_with fail
    go_loop [3, 4] (fun n i => ∃ k : Nat, 1 ≤ k ∧ k ≤ s.size ∧ i = .int .i64 k ∧ n = .int .i64 (basVs a ((s.data.toList.take k).drop 1))) (fun _ i => s.size - (intOf i).toNat)
    case atStart => exact ⟨1, Nat.le_refl _, hz1, rfl, by rw [List.drop_of_length_le (by simp; omega), ← Hx.out]; rfl⟩
    case round =>
      obtain ⟨k, hk1, hk, rfl, rfl⟩ := hrel
      by_cases hlt : k < s.size
      · have Hs := Lib.hid (basVs_snoc a ((s.data.toList.take k).drop 1) s[k])
        rw [← drop_take_more s k hk1 hlt] at Hs
        have hc := (s[k]'hlt).toNat_lt
        have hor := or_shift (basVs a ((s.data.toList.take k).drop 1)) (s[k]'hlt).toNat hc
        have hcc : ((s[k]'hlt).toNat : Int) ≤ 255 := by omega
        rw [← Hs.out] at hor
        clear Hs
        generalize basVs a ((s.data.toList.take k).drop 1) = m at *
        generalize hm' : basVs a ((s.data.toList.take (k + 1)).drop 1) = m' at *
        have Hm' := Lib.hid hm'; clear hm'
        go_wp2
        all_goals
          go_round
          case rel => exact ⟨k + 1, by omega, by omega, by go_num, by rw [Hm'.out]⟩
          case measure => simp [intOf]; omega
      · have hd : ¬ (k : Int) < (s.size : Int) := by omega
        have hm : basVs a ((s.data.toList.take k).drop 1) = basV s.data.toList := by
          have : k = s.size := by omega
          rw [basV, ← Ha.out, this, List.take_of_length_le (by simp), List.drop_one]
        rw [hm]
        generalize basV s.data.toList = m at *
        clear hlt hm
        go_wp2_with fail
        refine (H1.out _).mono ?_
        rintro e w1 ⟨rfl, hb1⟩
        have hs1 := (BlkIs.made w 55 #[.int .i64 0, .bool false]).kept hb1 (by simp)
        have hb2 : Below w.heap.size w w1 := ((Below.refl _ _).alloc (Nat.le_refl _) _).trans (hb1.mono (by simp))
        have hsz := hs1.size
        have hc0 := hs1.cell_some 0 (.int .i64 0) rfl
        have hc1 := hs1.cell_some 1 (.bool false) rfl
        have hf0 := hs1.free 0
        have hf1 := hs1.free 1
        clear hb1 hs1
        rcases is with _ | _
        · have ho := Hno.out (.inl rfl)
          subst ho
          go_wp2_with fail
          refine bodyPost_ret (v := .agg #[.int .i64 0, .bool false]) (by simp [results, Try.results44, go_sem, hc0, hc1, hsz]) rfl ⟨rfl, ?_⟩
          exact ((hb2.setCell (Nat.le_refl _) _).setCell (Nat.le_refl _) _).alloc (by simpa using hb2.size) _
        · rcases heq : (b.toList == s.toList) with _ | _
          · have ho := Hno.out (.inr heq)
            subst ho
            go_wp2_with fail
            refine bodyPost_ret (v := .agg #[.int .i64 0, .bool false]) (by simp [results, Try.results44, go_sem, hc0, hc1, hsz]) rfl ⟨rfl, ?_⟩
            exact ((hb2.setCell (Nat.le_refl _) _).setCell (Nat.le_refl _) _).alloc (by simpa using hb2.size) _
          · have ho := Hyes.out rfl heq
            subst ho
            go_wp2_with fail
            refine bodyPost_ret (v := .agg #[.int .i64 m, .bool true]) (by simp [results, Try.results44, go_sem, hc0, hc1, hsz]) rfl ⟨rfl, ?_⟩
            exact ((hb2.setCell (Nat.le_refl _) _).setCell (Nat.le_refl _) _).alloc (by simpa using hb2.size) _

theorem range_wrap (x : Int) : -9223372036854775808 ≤ wrap64 x ∧ wrap64 x ≤ 9223372036854775807 := by unfold wrap64; omega
theorem basV_range (l : List UInt8) : -9223372036854775808 ≤ basV l ∧ basV l ≤ 9223372036854775807 := by
  unfold basV
  have ha : basStart l = 0 ∨ basStart l = -1 := by unfold basStart; split <;> simp
  generalize basStart l = a at *
  rw [← List.reverse_reverse (l.drop 1)]
  generalize (l.drop 1).reverse = r
  rcases r with _ | ⟨c, r⟩
  · rcases ha with rfl | rfl <;> simp [basVs]
  · rw [List.reverse_cons, basVs_snoc]
    exact range_wrap _

/-- What the document's ReadOctal says. -/
def rOct' (l : List UInt8) : Option Int := rdO octO (rOctV (l.take (l.length - 1))) l

theorem refReadOctal_any (s : ByteArray) (w : World) :
    Calls Try.prog 43 #[.string s] w fun e w' => e = .returned (numV (rOct' s.data.toList)) ∧ Below w.heap.size w w' := by
  have hsz : s.data.toList.length = s.size := by simp
  rcases hw : isW (s.size : Int) with _ | _
  · have hr : rOct' s.data.toList = none := by
      unfold rOct' rdO
      rw [hsz, octO_bad _ _ hw]
      simp
    rw [hr]
    exact refReadOctal_bad s w hw
  · have hs := isW_size hw
    have hv := rOctV_small (s.data.toList.take (s.size - 1)) (by rw [List.length_take]; omega)
    have h1 := fun W => refOctal_any (rOctV (s.data.toList.take (s.size - 1))) (s.size : Int) (by omega) W
    refine refReadOctal_core s _ _ w hs.1 hs.2 (lenOk_of hw) h1 _ ?_ ?_
    · intro h2 h3
      unfold rOct' rdO
      rw [hsz]
      rcases ho : octO (rOctV (s.data.toList.take (s.size - 1))) (s.size : Int) with _ | t
      · rw [ho] at h2; cases h2
      · rw [ho, Lib.toList_data, Lib.toList_data] at h3
        have : t = s.data.toList := by simpa [bstr] using h3
        rw [this, if_pos rfl]
    · intro h
      unfold rOct' rdO
      rw [hsz]
      rcases ho : octO (rOctV (s.data.toList.take (s.size - 1))) (s.size : Int) with _ | t
      · simp
      · rw [ho] at h
        rcases h with h | h
        · cases h
        · rw [Lib.toList_data, Lib.toList_data] at h
          have : ¬ t = s.data.toList := by simpa [bstr] using h
          rw [if_neg (by simpa using this)]

theorem refReadBase_any (s : ByteArray) (w : World) :
    Calls Try.prog 44 #[.string s] w fun e w' => e = .returned (numV (rdBas s.data.toList)) ∧ Below w.heap.size w w' := by
  have hsz : s.data.toList.length = s.size := by simp
  rcases hw : isW (s.size : Int) with _ | _
  · have hr : rdBas s.data.toList = none := by
      unfold rdBas rdO
      rw [hsz, basO_bad _ _ hw]
      simp
    rw [hr]
    exact refReadBase_bad s w hw
  · have hs := isW_size hw
    have h1 := fun W => refBase_any (basV s.data.toList) (s.size : Int) (basV_range _) W
    refine refReadBase_core s _ _ w hs.1 hs.2 (lenOk_of hw) h1 _ ?_ ?_
    · intro h2 h3
      unfold rdBas rdO
      rw [hsz]
      rcases ho : basO (basV s.data.toList) (s.size : Int) with _ | t
      · rw [ho] at h2; cases h2
      · rw [ho, Lib.toList_data, Lib.toList_data] at h3
        have : t = s.data.toList := by simpa [bstr] using h3
        rw [this, if_pos rfl]
    · intro h
      unfold rdBas rdO
      rw [hsz]
      rcases ho : basO (basV s.data.toList) (s.size : Int) with _ | t
      · simp
      · rw [ho] at h
        rcases h with h | h
        · cases h
        · rw [Lib.toList_data, Lib.toList_data] at h
          have : ¬ t = s.data.toList := by simpa [bstr] using h
          rw [if_neg (by simpa using this)]
end Go.Proofs.Ytkkmhfgfkjeooaa
