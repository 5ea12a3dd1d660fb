/- The walk of the law NumKinds. -/
import Derived.Test.YtdjphejeaonpgaaNumAwake
namespace Go.Proofs.Ytdjphejeaonpgaa
open Go.RowKit
open NumM

theorem digs_range (k n i : Nat) (h : i < k) : ∃ c, (digs k n)[i]? = some c ∧ 48 ≤ c.toNat ∧ c.toNat ≤ 55 := by
  induction k generalizing i with
  | zero => omega
  | succ k ih =>
    rw [digs_cons]
    rcases i with _ | i
    · exact ⟨_, rfl, by simp; omega, by simp; omega⟩
    · rw [List.getElem?_cons_succ]
      exact ih i (by omega)

theorem octO_some8 (n : Int) (h0 : 0 ≤ n) (h1 : n < 2097152) : octO n 8 = some (digs 7 n.toNat ++ [0]) := by
  simp [octO, isW, h0, h1]
theorem fieldO_of_oct {n v : Int} {l : List UInt8} (h : octO n v = some l) : fieldO n v = some l := by simp [fieldO, h]
theorem basO_some12 (n : Int) : basO n 12 = some ((if n < 0 then 255 else 128) :: bes 11 n) := by simp [basO, isW]

theorem numKinds_walk (a0 : Int) (a1 : Int) (w : World) (w0 : (Lit.int .u32 a0).wf = true) (_w1 : (Lit.int .i64 a1).wf = true) :
    Calls Try.prog 5 #[.int .u32 a0, .int .i64 a1] w fun e w' => e = .returned (.bool true) ∧ Below w.heap.size w w' := by
  have hb := boundsU32 w0
  obtain ⟨n, rfl⟩ := Int.eq_ofNat_of_zero_le hb.1
  obtain ⟨K, hK, hk1, hk2⟩ : ∃ K : Int, (n : Int) % 2097152 = K ∧ 0 ≤ K ∧ K < 2097152 := ⟨_, rfl, by omega, by omega⟩
  have ho := octO_some8 K hk1 hk2
  obtain ⟨s, hs⟩ : ∃ s : ByteArray, s = ⟨(digs 7 K.toNat ++ [0]).toArray⟩ := ⟨_, rfl⟩
  have hsl : s.data.toList = digs 7 K.toNat ++ [0] := by rw [hs]
  have hsz : s.size = 8 := by rw [hs]; show (digs 7 K.toNat ++ [0]).toArray.size = 8; simp [digs_length]
  have hs8 : s.size ≤ 8 := by omega
  have hs7 : 8 ≤ s.size := by omega
  have H1 := Lib.hid (fun W => hs ▸ Octal_yes K 8 _ ho W)
  have H2 := Lib.hid (fun W => hs ▸ Field_yes K 8 _ (fieldO_of_oct ho) W)
  have H3 := Lib.hid (fun W => Octal_no (2097152 + K) 8 (octO_big _ _ (show (2097152 : Int) ≤ 2097152 + K by omega)) W)
  have H5 := Lib.hid (fun W => Octal_no 5 9 (octO_bad _ _ (by decide)) W)
  have h4 := fun W => Base_yes a1 12 _ (basO_some12 a1) W
  have hdig : ∀ i, i < 7 → (h2 : i < s.size) → 48 ≤ s[i].toNat ∧ s[i].toNat ≤ 55 := by
    intro i h hz
    obtain ⟨c, hc, h1, h2⟩ := digs_range 7 K.toNat i h
    have e : s.data.toList[i]? = some c := by rw [hsl, List.getElem?_append_left (by simp [digs_length]; omega), hc]
    have e2 : s.data.toList[i]? = some s[i] := by rw [List.getElem?_eq_getElem (by simpa using hz)]; rfl
    rw [e2] at e
    injection e with e
    rw [e]; exact ⟨h1, h2⟩
  have hval : octV (s.data.toList.take 7) = K := by
    rw [hsl, List.take_left' (digs_length 7 _), octV_digs, Nat.mod_eq_of_lt (by omega)]
    omega
  have Hdig := Lib.hid hdig
  have Hval := Lib.hid hval
  have hlen : ((s.size : Int) == 8) = true := by simp [hsz]
  clear hs hsl hsz hdig hval ho
  have hg : ∃ (c : UInt8) (G : ByteArray), (∀ W, Calls Try.prog 10 #[.int .i64 a1, .int .i64 12] W fun e w' => e = .returned (.tuple #[.string G, .bool true]) ∧ Below W.heap.size W w') ∧
      ((G.size : Int) != 12) = false ∧ (∀ w, (Instr.index 9 (.string G) (.int .i64 0)).run Try.prog w = .ok (.int .u8 (c.toNat : Int)) w) ∧
      ((decide (a1 < 0) = true ∧ decide (0 ≤ a1) = false ∧ c = 255) ∨ (decide (a1 < 0) = false ∧ decide (0 ≤ a1) = true ∧ c = 128)) := by
    refine ⟨if a1 < 0 then 255 else 128, ⟨((if a1 < 0 then 255 else 128) :: bes 11 a1).toArray⟩, h4, ?_, idx_head _ _, ?_⟩
    · have : (⟨((if a1 < 0 then 255 else 128) :: bes 11 a1).toArray⟩ : ByteArray).size = 12 := by
        show ((if a1 < 0 then 255 else 128) :: bes 11 a1).toArray.size = 12
        simp [bes_length]
      rw [this]; rfl
    · by_cases h : a1 < 0
      · left; refine ⟨by simpa using h, by simpa using h, by simp [h]⟩
      · right; refine ⟨by simpa using h, by simpa using h, by simp [h]⟩
  obtain ⟨c, G, h4', hG, hidx, hc⟩ := hg
  have H4 := Lib.hid h4'
  clear h4 h4' w0
  rcases hc with ⟨hneg, hnn, rfl⟩ | ⟨hneg, hnn, rfl⟩
  all_goals
    simp only [show ((255 : UInt8).toNat : Int) = 255 from rfl, show ((128 : UInt8).toNat : Int) = 128 from rfl] at hidx
    go_enter Try.func5, Try.ntmps5
    go_wp2_with fail
    refine (H1.out _).mono ?_
    rintro e w1 ⟨rfl, hb1⟩
    go_wp2_with fail
    go_loop [8, 9] (fun vv iv => ∃ (i : Nat) (x : Int), i ≤ 7 ∧ iv = .int .i64 i ∧ vv = .int .i64 x ∧ Hid (x = octV (s.data.toList.take i))) (fun _ iv => 8 - (intOf iv).toNat)
    case atStart => exact ⟨0, 0, by omega, rfl, rfl, Lib.hid rfl⟩
    case round =>
      obtain ⟨i, x, hi, rfl, rfl, Hx⟩ := hrel
      by_cases hlt : i < 7
      · have hbd := octV_small (s.data.toList.take i) (by have := List.length_take_le i s.data.toList; omega)
        rw [← Hx.out] at hbd
        have Hs := Lib.hid (octV_snoc (s.data.toList.take i) (s[i]'(by omega)))
        rw [← take_more s i (by omega), ← Hx.out] at Hs
        have hd1 : (48 : Int) ≤ ((s[i]'(by omega)).toNat : Int) := by have := (Hdig.out i hlt (by omega)).1; omega
        have hd2 : ((s[i]'(by omega)).toNat : Int) ≤ 55 := by have := (Hdig.out i hlt (by omega)).2; omega
        go_wp2
        all_goals
          go_round
          case rel => exact ⟨i + 1, _, by omega, by go_num, rfl, by rw [Hid, Hs.out]; omega⟩
          case measure => simp [intOf]; omega
      · obtain rfl : i = 7 := by omega
        obtain rfl : x = K := by rw [Hx.out, Hval.out]
        clear hlt
        go_wp2_with fail
        refine (H2.out _).mono ?_
        rintro e w2 ⟨rfl, hb2⟩
        go_wp2_with fail
        refine (H3.out _).mono ?_
        rintro e w3 ⟨rfl, hb3⟩
        go_wp2_with fail
        refine (H4.out _).mono ?_
        rintro e w4 ⟨rfl, hb4⟩
        go_wp2_with fail
        refine (H5.out _).mono ?_
        rintro e w5 ⟨rfl, hb5⟩
        go_wp2_with fail
        refine (awake_true _).mono ?_
        rintro e w6 ⟨rfl, hb6⟩
        go_wp2_with fail
        go_ret
        exact ⟨rfl, bthen (bthen (bthen (bthen (bthen hb1 hb2) hb3) hb4) hb5) hb6⟩
end Go.Proofs.Ytdjphejeaonpgaa
