/- Walks over the document's answer: Escape, nibble, GetEscape. -/
import Derived.Test.YtajjhndpdjfcpaaEscaPut
import Derived.Test.YtajjhndpdjfcpaaBytePack
import Derived.StillTailTactics
namespace Go.Proofs.Ytajjhndpdjfcpaa.EscW
open Go.RowKit
open EscM
set_option linter.unusedVariables false

theorem low4 (c : Nat) (h : c < 256) : bits .and .u8 (c : Int) 15 = ((c % 16 : Nat) : Int) := by
  rw [show (15 : Int) = ((15 : Nat) : Int) from rfl, and_u8 _ _ h (by decide)]
  rw [show (15 : Nat) = 2 ^ 4 - 1 from rfl, Nat.and_two_pow_sub_one_eq_mod]

set_option maxHeartbeats 1600000 in
theorem refEscape_any (s : ByteArray) (hs : s.size ≤ 20000) (w : World) :
    Calls Try.prog 45 #[.string s] w fun e w' => e = .returned (.string ⟨(put s.data.toList).toArray⟩) ∧ Below w.heap.size w w' := by
  obtain ⟨n, hn⟩ : ∃ n, s.size = n := ⟨_, rfl⟩
  rw [hn] at hs
  have hsl := Lib.hid (show s.data.toList.length = n by rw [← hn]; simp)
  obtain ⟨D, hD⟩ : ∃ D : ByteArray, D = ⟨#[48, 49, 50, 51, 52, 53, 54, 55, 56, 57, 65, 66, 67, 68, 69, 70]⟩ := ⟨_, rfl⟩
  have hxD : ∀ (k : Nat) (x : Int) (kd : IntKind), x = (k : Int) → k < 16 → ∀ w, (Instr.index 9 (.string D) (.int kd x)).run Try.prog w = .ok (.int .u8 ((H k).toNat : Int)) w := by
    rw [hD]
    exact idxH
  go_enter Try.func45, Try.ntmps45
  rw [← hD]
  clear hD
  have HxD := Lib.hid hxD
  clear hxD
  go_wp2_with fail
  go_loopw [3, 5] (fun ov iv wr => ∃ (i : Nat) (acc : List UInt8), iv = .int .i64 (i : Int) ∧ i ≤ n ∧ BRow w.heap.size ov acc wr ∧ Below w.heap.size w wr ∧ acc ++ put (s.data.toList.drop i) = put s.data.toList ∧ acc.length ≤ 3 * i) (fun _ iv _ => n - (intOf iv).toNat)
  case atStart => exact ⟨0, [], rfl, by omega, BRow.nil _ _, Below.refl _ _, by simp, by simp⟩
  case round =>
    obtain ⟨i, acc, rfl, hi, hR, hbl, hacc, hal⟩ := hrel
    have Hacc := Lib.hid hacc
    clear hacc
    by_cases hlt : i < n
    · obtain ⟨c, hc, hidx⟩ := idx_at Try.underlying9 s i (by omega)
      have hlt' : (i : Int) < (n : Int) := by omega
      have Hdr := Lib.hid (drop_at hc)
      have hc256 := c.toNat_lt
      have hx1 := HxD.out (c.toNat / 16) ((c.toNat : Int) / 16) .u8 (by omega) (by omega)
      have hx2 := HxD.out (c.toNat % 16) _ .u8 rfl (by omega)
      have hlow := low4 c.toNat hc256
      generalize ((c.toNat % 16 : Nat) : Int) = y at hx2 hlow
      obtain ⟨x, hx⟩ : ∃ x : Int, x = (c.toNat : Int) := ⟨_, rfl⟩
      rw [← hx] at hidx hx1 hlow
      by_cases hp : self c = true
      · have Hp := Lib.hid hp
        simp only [self, Bool.and_eq_true, decide_eq_true_eq] at hp
        obtain ⟨⟨⟨h1, h2⟩, h3⟩, h4⟩ := hp
        have g1 : ¬ x < 33 := by omega
        have g2 : ¬ 126 < x := by omega
        have g3 : (x == 37) = false := by rw [beq_eq_false_iff_ne]; omega
        have g4 : (x == 61) = false := by rw [beq_eq_false_iff_ne]; omega
        have HX := Lib.hid hx
        have hlen : acc.length + [c].length ≤ 1000000 := by simp only [List.length_singleton]; omega
        have hszw := hbl.size
        clear hx h1 h2 h3 h4 hc hx1 hx2 hlow
        go_wp2_with (at_builtin; refine wp_append rfl _ _ rfl w.heap.size _ _ wr [c] _ ?harr rfl (by exact hR) rfl hlen hszw ?_)
        case harr => rw [HX.out]; rfl
        intro v' w' hR' hb'
        have hbl' := hbl.trans hb'
        clear hR hbl hb' hidx
        go_wp2_with fail
        go_roundw
        case rel =>
          refine ⟨i + 1, _, rfl, by omega, hR', hbl', ?_, by simp; omega⟩
          have h5 := Hacc.out
          rw [Hdr.out, put_cons, enc, if_pos Hp.out] at h5
          rw [← h5]; simp
        case measure => simp only [intOf]; omega
      · have Hp := Lib.hid hp
        have hcase : (x < 33) ∨ (¬ x < 33 ∧ 126 < x) ∨ (¬ x < 33 ∧ ¬ 126 < x ∧ (x == 37) = true) ∨ (¬ x < 33 ∧ ¬ 126 < x ∧ (x == 37) = false ∧ (x == 61) = true) := by
          rw [beq_eq_false_iff_ne, beq_iff_eq, beq_iff_eq]
          simp only [self, Bool.and_eq_true, decide_eq_true_eq] at hp
          omega
        have hlen : acc.length + [37, H (c.toNat / 16), H (c.toNat % 16)].length ≤ 1000000 := by simp only [List.length_cons, List.length_nil]; omega
        have hszw := hbl.size
        generalize hd1 : H (c.toNat / 16) = d1 at hx1 hlen
        generalize hd2 : H (c.toNat % 16) = d2 at hx2 hlen
        have Hd1 := Lib.hid hd1
        have Hd2 := Lib.hid hd2
        clear hx hp hc hd1 hd2
        rcases hcase with h | ⟨h, h'⟩ | ⟨h, h', h''⟩ | ⟨h, h', h'', h'''⟩ <;>
        (go_wp2_with fail
         go_region_held3 (fun w' => True) (trivial)
           ((refine step_append_b rfl _ _ rfl w.heap.size _ _ [37, d1, d2] _ (by rfl) (by rfl) ((hR.alloc _).drew) _ (heap_alloc_new wr _) (by rfl) (Nat.succ_pos _) hlen (by simp; omega) w (gr_drew (gr_alloc hbl _)) ?_; intro v' w' hR' hbl'))
         all_goals
           clear hR hbl hidx hx1 hx2 hlow
           go_wp2_with fail
           go_roundw
           case rel =>
             refine ⟨i + 1, _, rfl, by omega, hR', hbl', ?_, by simp; omega⟩
             have h5 := Hacc.out
             rw [Hdr.out, put_cons, enc, if_neg Hp.out, Hd1.out, Hd2.out] at h5
             rw [← h5]; simp
           case measure => simp only [intOf]; omega)
    · have hlt' : ¬ (i : Int) < (n : Int) := by omega
      have h5 := Hacc.out
      rw [List.drop_eq_nil_of_le (by rw [hsl.out]; omega), put_nil, List.append_nil] at h5
      have Ha := Lib.hid h5
      have hst := hR.str
      clear h5
      go_wp2_with fail
      go_ret
      exact ⟨ret_str (by rw [Ha.out]), hbl⟩

end Go.Proofs.Ytajjhndpdjfcpaa.EscW
