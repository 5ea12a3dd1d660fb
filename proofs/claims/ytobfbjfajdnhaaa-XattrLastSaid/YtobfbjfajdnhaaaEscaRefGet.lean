/- Walk over the document's answer: GetEscape. -/
import Derived.Test.YtobfbjfajdnhaaaEscaRef
namespace Go.Proofs.Ytobfbjfajdnhaaa.EscW
open Go.RowKit
open EscM
set_option linter.unusedVariables false

/-- What GetEscape hands back. -/
def escSaid (o : Option (List UInt8)) : Value := match o with
  | some l => .agg #[.string ⟨l.toArray⟩, .bool true]
  | none => .agg #[.string ⟨#[]⟩, .bool false]

theorem orNib (A B : Nat) (hA : A ≤ 16) (hB : B ≤ 16) : bits .and .i64 (B : Int) 15 = ((B % 16 : Nat) : Int) ∧ bits .or .i64 ((A : Int) * 16) ((B % 16 : Nat) : Int) = ((A * 16 + B % 16 : Nat) : Int) := by
  constructor
  · rw [show (15 : Int) = ((15 : Nat) : Int) from rfl, and_i64 _ _ (by omega) (by decide)]
    rw [show (15 : Nat) = 2 ^ 4 - 1 from rfl, Nat.and_two_pow_sub_one_eq_mod]
  · rw [show (A : Int) * 16 = ((A * 16 : Nat) : Int) by omega, or_i64 _ _ (by omega) (by omega)]
    have h3 : A * 16 ||| B % 16 = A * 16 + B % 16 := by
      rw [Nat.mul_comm]
      exact (Nat.two_pow_add_eq_or_of_lt (i := 4) (Nat.mod_lt _ (by decide)) A).symm
    rw [h3]

set_option maxHeartbeats 1600000 in
theorem refGet_any (s : ByteArray) (hs : s.size ≤ 20000) (w : World) :
    Calls Try.prog 24 #[.string s] w fun e w' => e = .returned (escSaid (EscM.get s.data.toList)) ∧ Below w.heap.size w w' := by
  obtain ⟨n, hn⟩ : ∃ n, s.size = n := ⟨_, rfl⟩
  rw [hn] at hs
  have hsl := Lib.hid (show s.data.toList.length = n by rw [← hn]; simp)
  go_enter Try.func24, Try.ntmps24
  have hb0 : Below w.heap.size w (w.alloc (.cells #[.string ⟨#[]⟩, .bool false] 50)) := (Below.refl _ w).alloc (Nat.le_refl _) _
  have hs0 : w.heap.size < (w.alloc (.cells #[.string ⟨#[]⟩, .bool false] 50)).heap.size := by simp
  have hc0 : (w.alloc (.cells #[.string ⟨#[]⟩, .bool false] 50)).cell? ⟨w.heap.size, 0, none⟩ = some (.string ⟨#[]⟩) := by simp [go_sem]
  have hd0 : (w.alloc (.cells #[.string ⟨#[]⟩, .bool false] 50)).cell? ⟨w.heap.size, 1, none⟩ = some (.bool false) := by simp [go_sem]
  have hf0 : (w.alloc (.cells #[.string ⟨#[]⟩, .bool false] 50)).frozen? ⟨w.heap.size, 0, none⟩ = false := by simp [go_sem]
  have hg0 : (w.alloc (.cells #[.string ⟨#[]⟩, .bool false] 50)).frozen? ⟨w.heap.size, 1, none⟩ = false := by simp [go_sem]
  go_wp2_with fail
  generalize w.alloc (.cells #[.string ⟨#[]⟩, .bool false] 50) = W0 at *
  go_loopw [3, 4] (fun ov iv wr => ∃ (i : Nat) (acc : List UInt8), iv = .int .i64 (i : Int) ∧ i ≤ n ∧ BRow W0.heap.size ov acc wr ∧ Below W0.heap.size W0 wr ∧ acc ++ rdec (s.data.toList.drop i) = rdec s.data.toList ∧ acc.length ≤ i) (fun _ iv _ => n - (intOf iv).toNat)
  case atStart => exact ⟨0, [], rfl, by omega, BRow.nil _ _, Below.refl _ _, by simp, by simp⟩
  case round =>
    obtain ⟨i, acc, rfl, hi, hR, hbl, hacc, hal⟩ := hrel
    have Hacc := Lib.hid hacc
    clear hacc
    by_cases hlt : i < n
    · have hlt' : (i : Int) < (n : Int) := by omega
      obtain ⟨c, hc, hidx⟩ := idx_at Try.underlying9 s i (by omega)
      have Hdr := Lib.hid (drop_at hc)
      have hszw := hbl.size
      clear hc
      by_cases h2 : c.toNat = 37 ∧ i + 2 < n
      · obtain ⟨h37, h2⟩ := h2
        obtain ⟨a, ha, hidxa⟩ := idx_at Try.underlying9 s (i + 1) (by omega)
        obtain ⟨b, hb, hidxb⟩ := idx_at Try.underlying9 s (i + 2) (by omega)
        have Hdr3 := Lib.hid (show rdec (s.data.toList.drop i) = nibByte a b :: rdec (s.data.toList.drop (i + 3)) by rw [Hdr.out, drop_at ha, drop_at (i := i + 1 + 1) hb, rdec_two _ _ _ _ h37])
        obtain ⟨x, hx⟩ : ∃ x : Int, x = (c.toNat : Int) := ⟨_, rfl⟩
        rw [← hx] at hidx
        have g1 : (x == 37) = true := by rw [beq_iff_eq, hx]; omega
        obtain ⟨p1, hp1⟩ : ∃ p1 : Int, p1 = ((i + 1 : Nat) : Int) := ⟨_, rfl⟩
        obtain ⟨p2, hp2⟩ : ∃ p2 : Int, p2 = ((i + 2 : Nat) : Int) := ⟨_, rfl⟩
        have hw1 : IntKind.i64.wrap ((i : Int) + 1) = p1 := by rw [IntKind.wrap_i64]; omega
        have hw2 : IntKind.i64.wrap ((i : Int) + 2) = p2 := by rw [IntKind.wrap_i64]; omega
        have g2 : p2 < (n : Int) := by omega
        rw [← hp1] at hidxa
        rw [← hp2] at hidxb
        obtain ⟨o1, o2⟩ := orNib (nib a) (nib b) (nib_le a) (nib_le b)
        have hA16 := nib_le a
        have hV : ((nib a * 16 + nib b % 16 : Nat) : Int) % 256 = ((nibByte a b).toNat : Int) := by unfold nibByte; simp
        have hV' : IntKind.u8.wrap ((nib a * 16 + nib b % 16 : Nat) : Int) = ((nibByte a b).toNat : Int) := by rw [IntKind.wrap_u8]; exact hV
        obtain ⟨A16, hA, hwA⟩ : ∃ A16 : Int, (nib a : Int) * 16 = A16 ∧ IntKind.i64.wrap ((nib a : Int) * 16) = A16 := ⟨_, rfl, by rw [IntKind.wrap_i64]; omega⟩
        rw [hA] at o2
        clear hA
        generalize nibByte a b = d at *
        generalize ((nib b % 16 : Nat) : Int) = M at o1 o2
        generalize ((nib a * 16 + nib b % 16 : Nat) : Int) = V at o2 hV hV'
        have hlen : acc.length + [d].length ≤ 1000000 := by simp only [List.length_singleton]; omega
        have HI3 := Lib.hid (show i + 3 ≤ n by omega)
        clear ha hb hx h37 hp1 hp2 h2
        go_wp2_with fail
        go_region_held3 (fun w' => True) (trivial)
          (first
            | (go_at_call 38; refine (nibble_any _ _).mono ?_; rintro e w' ⟨rfl, rfl⟩)
            | (refine step_append_b rfl _ _ rfl W0.heap.size _ _ [d] _ (by rfl) (by rfl) ((hR.alloc _).drew) _ (heap_alloc_new wr _) (by rfl) (Nat.succ_pos _) hlen (by simp; omega) W0 (gr_drew (gr_alloc hbl _)) ?_; intro v' w' hR' hbl'))
        all_goals
          clear hR hbl hidx hidxa hidxb hw1 hw2 hwA o1 o2 hV hV' g1
          have hi3 : i + 3 ≤ n := HI3.out
          clear g2
          go_wp2_with fail
          go_roundw
          case rel =>
            refine ⟨i + 3, _, by congr 1, by omega, hR', hbl', ?_, by simp; omega⟩
            have h5 := Hacc.out
            rw [Hdr3.out] at h5
            rw [← h5]; simp
          case measure => simp only [intOf]; omega
      · have hg : (c.toNat : Int) ≠ 37 ∨ ((c.toNat : Int) = 37 ∧ ¬ (i : Int) + 2 < (n : Int)) := by omega
        have Hst := Lib.hid (show rdec (s.data.toList.drop i) = c :: rdec (s.data.toList.drop (i + 1)) by
          rw [Hdr.out, rdec_one]
          rw [List.length_drop, hsl.out]
          omega)
        have hlen : acc.length + [c].length ≤ 1000000 := by simp only [List.length_singleton]; omega
        obtain ⟨x, hx⟩ : ∃ x : Int, x = (c.toNat : Int) := ⟨_, rfl⟩
        rw [← hx] at hidx hg
        have HX := Lib.hid hx
        clear hx h2
        rcases hg with hg | ⟨hg, hg2⟩
        · have g1 : (x == 37) = false := by rw [beq_eq_false_iff_ne]; exact hg
          clear hg
          go_wp2_with (at_builtin; refine wp_append rfl _ _ rfl W0.heap.size _ _ wr [c] _ ?harr rfl (by exact hR) rfl hlen hszw ?_)
          case harr => rw [HX.out]; rfl
          intro v' w' hR' hb'
          have hbl' := hbl.trans hb'
          clear hR hbl hb' hidx
          go_wp2_with fail
          go_roundw
          case rel =>
            refine ⟨i + 1, _, rfl, by omega, hR', hbl', ?_, by simp; omega⟩
            have h5 := Hacc.out
            rw [Hst.out] at h5
            rw [← h5]; simp
          case measure => simp only [intOf]; omega
        · have g1 : (x == 37) = true := by rw [beq_iff_eq]; exact hg
          clear hg
          go_wp2_with (at_builtin; refine wp_append rfl _ _ rfl W0.heap.size _ _ wr [c] _ ?harr rfl (by exact hR) rfl hlen hszw ?_)
          case harr => rw [HX.out]; rfl
          intro v' w' hR' hb'
          have hbl' := hbl.trans hb'
          clear hR hbl hb' hidx
          go_wp2_with fail
          go_roundw
          case rel =>
            refine ⟨i + 1, _, rfl, by omega, hR', hbl', ?_, by simp; omega⟩
            have h5 := Hacc.out
            rw [Hst.out] at h5
            rw [← h5]; simp
          case measure => simp only [intOf]; omega
    · have hlt' : ¬ (i : Int) < (n : Int) := by omega
      have hacc := Hacc.out
      rw [List.drop_eq_nil_of_le (by rw [hsl.out]; omega), show rdec [] = [] from rfl, List.append_nil] at hacc
      have Ha := Lib.hid hacc
      have hst := hR.str
      obtain ⟨A, hA⟩ : ∃ A : ByteArray, A = ⟨acc.toArray⟩ := ⟨_, rfl⟩
      rw [← hA] at hst
      have hAl : A.data.toList = acc := by rw [hA]
      have hAs : A.size ≤ 20000 := by
        have h3 : A.data.toList.length = A.size := by simp
        rw [hAl] at h3
        omega
      have HA := Lib.hid hA
      have HAl := Lib.hid hAl
      have H1 := Lib.hid (fun W => refEscape_any A (by omega) W)
      clear hacc hA hAl
      go_wp2_with fail
      refine (H1.out _).mono ?_
      rintro e w2 ⟨rfl, hb2⟩
      have hR2 := hR.call hb2
      have hst2 := hR2.str
      have HA2 := Lib.hid (show (⟨acc.toArray⟩ : ByteArray) = A from HA.out.symm)
      rw [HA2.out] at hst2
      have hbl2 := gr_call hbl hb2
      have hw2 := hbl2.size
      have hc2 := (hbl2.cell (p := ⟨w.heap.size, 0, none⟩) hs0).trans hc0
      have hd2 := (hbl2.cell (p := ⟨w.heap.size, 1, none⟩) hs0).trans hd0
      have hf2 := (hbl2.frozen (p := ⟨w.heap.size, 0, none⟩) hs0).trans hf0
      have hg2 := (hbl2.frozen (p := ⟨w.heap.size, 1, none⟩) hs0).trans hg0
      have hb : Below w.heap.size w w2 := hb0.trans (hbl2.mono (Nat.le_of_lt hs0))
      clear hst hR hbl hb2 H1 hc0 hd0 hf0 hg0 hR2 hbl2 hb0
      obtain ⟨R, hRR⟩ : ∃ R : ByteArray, R = ⟨(put A.data.toList).toArray⟩ := ⟨_, rfl⟩
      rw [← hRR]
      have hRl : R.data.toList = put A.data.toList := by rw [hRR]
      have HRl := Lib.hid hRl
      clear hRR hRl
      by_cases heq : put (rdec s.data.toList) = s.data.toList
      · have hRs : R = s := bytes_ext (by rw [HRl.out, HAl.out, Ha.out, heq])
        subst hRs
        have Hend := Lib.hid (show EscM.get R.data.toList = some acc by rw [rget, if_pos heq, ← Ha.out])
        clear heq
        go_wp2_with fail
        refine bodyPost_ret (v := .agg #[.string A, .bool true]) (by simp [results, Try.results24, go_sem, hc2, hd2, hf2, hg2]) rfl ⟨?_, gr_set (gr_set hb (Nat.le_refl _) _) (Nat.le_refl _) _⟩
        rw [Hend.out, ← HA2.out]
        rfl
      · have hne : ¬ R.toList = s.toList := fun h3 => by
          rw [ByteArray.toList_eq, ByteArray.toList_eq, HRl.out, HAl.out, Ha.out] at h3
          exact heq h3
        have Hend := Lib.hid (show EscM.get s.data.toList = none by rw [rget, if_neg heq])
        clear heq
        have hne' : (R.toList == s.toList) = false := by rw [beq_eq_false_iff_ne]; exact hne
        clear hne
        go_wp2_with fail
        refine bodyPost_ret (v := .agg #[.string ⟨#[]⟩, .bool false]) (by simp [results, Try.results24, go_sem, hc2, hd2, hf2, hg2]) rfl ⟨?_, gr_set (gr_set hb (Nat.le_refl _) _) (Nat.le_refl _) _⟩
        rw [Hend.out]
        rfl
end Go.Proofs.Ytobfbjfajdnhaaa.EscW
