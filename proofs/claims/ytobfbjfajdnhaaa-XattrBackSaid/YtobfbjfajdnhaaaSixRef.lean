/- Walks over the document's answer: letters, Sixty. -/
import Derived.Test.YtobfbjfajdnhaaaSixSaid
import Derived.Test.YtobfbjfajdnhaaaBytes
namespace Go.Proofs.Ytobfbjfajdnhaaa.SixW
open Go.RowKit
open SixM
set_option linter.unusedVariables false

/-- The byte at a place, or 0. -/
def chB (l : List UInt8) (j : Nat) : Nat := match l[j]? with
  | some b => b.toNat
  | none => 0
def chN (l : List UInt8) : Nat → Nat
  | 0 => 0
  | j + 1 => chN l j * 256 + chB l j
def chL (k N j : Nat) : UInt8 := if j ≤ k then L (N / 2 ^ (18 - 6 * j) % 64) else 61
theorem chB_lt (l : List UInt8) (j : Nat) : chB l j < 256 := by
  unfold chB
  cases l[j]? with
  | none => decide
  | some b => exact b.toNat_lt
theorem chN3 (l : List UInt8) : chN l 3 = chB l 0 * 65536 + chB l 1 * 256 + chB l 2 := by simp only [chN]; omega
theorem chN_lt (l : List UInt8) (j : Nat) (hj : j ≤ 3) : chN l j < 16777216 := by
  have h0 := chB_lt l 0
  have h1 := chB_lt l 1
  have h2 := chB_lt l 2
  obtain rfl | rfl | rfl | rfl : j = 0 ∨ j = 1 ∨ j = 2 ∨ j = 3 := by omega
  all_goals simp only [chN]; omega
def chunk (k N : Nat) (j : Nat) : List UInt8 := (List.range j).map (chL k N)
theorem chunk_succ (k N j : Nat) : chunk k N (j + 1) = chunk k N j ++ [chL k N j] := by simp [chunk, List.range_succ]
theorem chunk_length (k N j : Nat) : (chunk k N j).length = j := by simp [chunk]
theorem chunk4 (k N : Nat) : chunk k N 4 = [chL k N 0, chL k N 1, chL k N 2, chL k N 3] := rfl
theorem p3_chunk (l : List UInt8) (hl : l ≠ []) : p3 l = chunk (min 3 l.length) (chN l 3) 4 ++ p3 (l.drop 3) := by
  rw [chunk4, chN3]
  match l, hl with
  | [a], _ =>
    have ha := a.toNat_lt
    show [L (a.toNat / 4), L (a.toNat % 4 * 16), 61, 61] = [L ((a.toNat * 65536 + 0 * 256 + 0) / 262144 % 64), L ((a.toNat * 65536 + 0 * 256 + 0) / 4096 % 64), 61, 61]
    rw [show (a.toNat * 65536 + 0 * 256 + 0) / 262144 % 64 = a.toNat / 4 by omega, show (a.toNat * 65536 + 0 * 256 + 0) / 4096 % 64 = a.toNat % 4 * 16 by omega]
  | [a, b], _ =>
    have ha := a.toNat_lt
    have hb := b.toNat_lt
    show [L (a.toNat / 4), L (a.toNat % 4 * 16 + b.toNat / 16), L (b.toNat % 16 * 4), 61] = [L ((a.toNat * 65536 + b.toNat * 256 + 0) / 262144 % 64), L ((a.toNat * 65536 + b.toNat * 256 + 0) / 4096 % 64), L ((a.toNat * 65536 + b.toNat * 256 + 0) / 64 % 64), 61]
    rw [show (a.toNat * 65536 + b.toNat * 256 + 0) / 262144 % 64 = a.toNat / 4 by omega, show (a.toNat * 65536 + b.toNat * 256 + 0) / 4096 % 64 = a.toNat % 4 * 16 + b.toNat / 16 by omega, show (a.toNat * 65536 + b.toNat * 256 + 0) / 64 % 64 = b.toNat % 16 * 4 by omega]
  | a :: b :: c :: r, _ =>
    have ha := a.toNat_lt
    have hb := b.toNat_lt
    have hc := c.toNat_lt
    have hk : min 3 (a :: b :: c :: r).length = 3 := by simp only [List.length_cons]; omega
    rw [hk]
    show L (a.toNat / 4) :: L (a.toNat % 4 * 16 + b.toNat / 16) :: L (b.toNat % 16 * 4 + c.toNat / 64) :: L (c.toNat % 64) :: p3 r = L ((a.toNat * 65536 + b.toNat * 256 + c.toNat) / 262144 % 64) :: L ((a.toNat * 65536 + b.toNat * 256 + c.toNat) / 4096 % 64) :: L ((a.toNat * 65536 + b.toNat * 256 + c.toNat) / 64 % 64) :: L ((a.toNat * 65536 + b.toNat * 256 + c.toNat) / 1 % 64) :: p3 r
    rw [show (a.toNat * 65536 + b.toNat * 256 + c.toNat) / 262144 % 64 = a.toNat / 4 by omega, show (a.toNat * 65536 + b.toNat * 256 + c.toNat) / 4096 % 64 = a.toNat % 4 * 16 + b.toNat / 16 by omega, show (a.toNat * 65536 + b.toNat * 256 + c.toNat) / 64 % 64 = b.toNat % 16 * 4 + c.toNat / 64 by omega, show (a.toNat * 65536 + b.toNat * 256 + c.toNat) / 1 % 64 = c.toNat % 64 by omega]
theorem orN (x c : Nat) (hc : c < 256) (hx : x < 16777216) : bits .or .i64 ((x : Int) * 256) (c : Int) = ((x * 256 + c : Nat) : Int) := by
  have h3 : x * 256 ||| c = x * 256 + c := by
    rw [Nat.mul_comm]
    exact (Nat.two_pow_add_eq_or_of_lt (i := 8) hc x).symm
  rw [show (x : Int) * 256 = ((x * 256 : Nat) : Int) by omega, or_i64 _ _ (by omega) (by omega), h3]
theorem andN (x k : Nat) (hx : x < 16777216) : bits .and .i64 ((x : Int) / 2 ^ k) 63 = ((x / 2 ^ k % 64 : Nat) : Int) := by
  have h1 : (x : Int) / 2 ^ k = ((x / 2 ^ k : Nat) : Int) := by simp
  have h2 : x / 2 ^ k < 16777216 := Nat.lt_of_le_of_lt (Nat.div_le_self _ _) hx
  rw [h1, show (63 : Int) = ((63 : Nat) : Int) from rfl, and_i64 _ _ (by omega) (by decide), nat_mask6]

theorem letters_any (w : World) :
    Calls Try.prog 35 #[] w fun e w' => e = .returned (.string ⟨#[65, 66, 67, 68, 69, 70, 71, 72, 73, 74, 75, 76, 77, 78, 79, 80, 81, 82, 83, 84, 85, 86, 87, 88, 89, 90, 97, 98, 99, 100, 101, 102, 103, 104, 105, 106, 107, 108, 109, 110, 111, 112, 113, 114, 115, 116, 117, 118, 119, 120, 121, 122, 48, 49, 50, 51, 52, 53, 54, 55, 56, 57, 43, 47]⟩) ∧ w' = w := by
  go_enter Try.func35, Try.ntmps35
  go_wp2_with fail
  go_ret
  exact ⟨rfl, rfl⟩

set_option maxHeartbeats 1600000 in
theorem refSixty_any (s : ByteArray) (hs : s.size ≤ 30000) (w : World) :
    Calls Try.prog 20 #[.string s] w fun e w' => e = .returned (.string ⟨(p3 s.data.toList).toArray⟩) ∧ Below w.heap.size w w' := by
  obtain ⟨n, hn⟩ : ∃ n, s.size = n := ⟨_, rfl⟩
  rw [hn] at hs
  have hsl := Lib.hid (show s.data.toList.length = n by rw [← hn]; simp)
  go_enter Try.func20, Try.ntmps20
  go_wp2_with fail
  refine (letters_any _).mono ?_
  rintro e w1 ⟨rfl, rfl⟩
  go_wp2_with fail
  go_loopw [4, 5] (fun ov iv wr => ∃ (i : Nat) (acc : List UInt8), iv = .int .i64 (i : Int) ∧ i ≤ n + 2 ∧ BRow w1.heap.size ov acc wr ∧ Below w1.heap.size w1 wr ∧ acc ++ p3 (s.data.toList.drop i) = p3 s.data.toList ∧ 3 * acc.length ≤ 4 * i) (fun _ iv _ => n + 3 - (intOf iv).toNat)
  case atStart => exact ⟨0, [], rfl, by omega, BRow.nil _ _, Below.refl _ _, by simp, by simp⟩
  case round =>
    obtain ⟨i, acc, rfl, hi, hR, hbl, hacc, hal⟩ := hrel
    have Hacc := Lib.hid hacc
    clear hacc
    by_cases hlt : i < n
    · have hlt' : (i : Int) < (n : Int) := by omega
      obtain ⟨l, hl⟩ : ∃ l, l = s.data.toList.drop i := ⟨_, rfl⟩
      have hll : l.length = n - i := by rw [hl, List.length_drop, hsl.out]
      obtain ⟨k, hk⟩ : ∃ k, k = min 3 l.length := ⟨_, rfl⟩
      have hmin : min 3 ((n : Int) - (i : Int)) = (k : Int) := by omega
      have hk3 : k ≤ 3 := by omega
      have hkn : i + k ≤ n := by omega
      have hgt : ∀ j, l[j]? = s.data.toList[i + j]? := fun j => by rw [hl, List.getElem?_drop]
      have hp3 := p3_chunk l (by intro h0; rw [h0] at hll; simp at hll; omega)
      rw [← hk] at hp3
      have hbk : ∀ j, k ≤ j → j < 3 → chB l j = 0 := fun j h1 h2 => by
        unfold chB
        rw [List.getElem?_eq_none (by omega)]
      have Hl := Lib.hid hl
      have Hgt := Lib.hid hgt
      have Hp3 := Lib.hid hp3
      have Hbk := Lib.hid hbk
      clear hl hll hk hgt hp3 hbk
      go_wp2_with fail
      go_loopw [6, 8] (fun nv jv wr' => ∃ j : Nat, j ≤ 3 ∧ nv = .int .i64 (chN l j : Int) ∧ jv = .int .i64 (j : Int) ∧ BRow w1.heap.size u4 acc wr' ∧ Below w1.heap.size w1 wr') (fun _ jv _ => 3 - (intOf jv).toNat)
      case atStart => exact ⟨0, by omega, rfl, rfl, hR, hbl⟩
      case round =>
        clear hR hbl
        obtain ⟨j, hj, rfl, rfl, hR, hbl⟩ := hrel
        have hNlt := chN_lt l j hj
        by_cases h3 : j < 3
        · have h3' : (j : Int) < 3 := by omega
          by_cases hjk : j < k
          · have hjk' : (j : Int) < (k : Int) := by omega
            obtain ⟨c, hc, hidx⟩ := idx_at Try.underlying9 s (i + j) (by omega)
            rw [Int.natCast_add] at hidx
            have hcB : chB l j = c.toNat := by unfold chB; rw [Hgt.out, hc]
            have hor := orN (chN l j) c.toNat c.toNat_lt hNlt
            have Hst := Lib.hid (show chN l (j + 1) = chN l j * 256 + c.toNat by rw [chN, hcB])
            rw [← Hst.out] at hor
            generalize chN l j = N at *
            have hw : wrap64 (c.toNat : Int) = (c.toNat : Int) := by have := c.toNat_lt; unfold wrap64; omega
            go_wp2_with fail
            go_roundw
            case rel => exact ⟨j + 1, by omega, rfl, rfl, hR, hbl⟩
            case measure => simp only [intOf]; omega
          · have hjk' : ¬ (j : Int) < (k : Int) := by omega
            have hst : (chN l j : Int) * 256 = (chN l (j + 1) : Int) := by rw [chN, Hbk.out j (by omega) h3]; omega
            generalize chN l j = N at *
            go_wp2_with fail
            go_roundw
            case rel => exact ⟨j + 1, by omega, rfl, rfl, hR, hbl⟩
            case measure => simp only [intOf]; omega
        · have h3' : ¬ (j : Int) < 3 := by omega
          obtain rfl : j = 3 := by omega
          generalize hNN : chN l 3 = N at *
          go_wp2_with fail
          go_loopw [4, 9] (fun ov jv wr' => ∃ j : Nat, j ≤ 4 ∧ jv = .int .i64 (j : Int) ∧ BRow w1.heap.size ov (acc ++ chunk k N j) wr' ∧ Below w1.heap.size w1 wr') (fun _ jv _ => 4 - (intOf jv).toNat)
          case atStart => exact ⟨0, by omega, rfl, by simpa [chunk] using hR, hbl⟩
          case round =>
            clear hR hbl
            obtain ⟨j, hj, rfl, hR, hbl⟩ := hrel
            by_cases h4 : j < 4
            · have h4' : (j : Int) < 4 := by omega
              by_cases hjk : j ≤ k
              · have hjk' : (j : Int) ≤ (k : Int) := by omega
                obtain ⟨e, he⟩ : ∃ e, e = 18 - 6 * j := ⟨_, rfl⟩
                have he' : (18 : Int) - 6 * (j : Int) = (e : Int) := by omega
                have he0 : (0 : Int) ≤ (e : Int) := by omega
                have hL := idxL _ _ .i64 (andN N e hNlt) (Nat.mod_lt _ (by decide))
                have Hch := Lib.hid (show chL k N j = L (N / 2 ^ e % 64) by unfold chL; rw [if_pos hjk, he])
                clear he
                generalize L (N / 2 ^ e % 64) = c at *
                have hlen : (acc ++ chunk k N j).length + [c].length ≤ 1000000 := by rw [List.length_append, chunk_length]; simp only [List.length_singleton]; omega
                have hszw := hbl.size
                go_wp2_with (at_builtin; refine wp_append rfl _ _ rfl w1.heap.size _ _ wr [c] _ ?harr rfl (by exact hR) rfl hlen hszw ?_)
                case harr => rfl
                intro v' w' hR' hb'
                have hbl' := hbl.trans hb'
                clear hL hR hbl hb'
                go_wp2_with fail
                go_roundw
                case rel => exact ⟨j + 1, by omega, rfl, by rw [chunk_succ, Hch.out]; exact hR', hbl'⟩
                case measure => simp only [intOf]; omega
              · have hjk' : ¬ (j : Int) ≤ (k : Int) := by omega
                have Hch := Lib.hid (show chL k N j = 61 by unfold chL; rw [if_neg hjk])
                have hlen : (acc ++ chunk k N j).length + [(61 : UInt8)].length ≤ 1000000 := by rw [List.length_append, chunk_length]; simp only [List.length_singleton]; omega
                have hszw := hbl.size
                go_wp2_with (at_builtin; refine wp_append rfl _ _ rfl w1.heap.size _ _ wr [61] _ ?harr rfl (by exact hR) rfl hlen hszw ?_)
                case harr => rfl
                intro v' w' hR' hb'
                have hbl' := hbl.trans hb'
                clear hR hbl hb'
                go_wp2_with fail
                go_roundw
                case rel => exact ⟨j + 1, by omega, rfl, by rw [chunk_succ, Hch.out]; exact hR', hbl'⟩
                case measure => simp only [intOf]; omega
            · have h4' : ¬ (j : Int) < 4 := by omega
              obtain rfl : j = 4 := by omega
              go_wp2_with fail
              go_roundw
              case rel =>
                refine ⟨i + 3, acc ++ chunk k N 4, rfl, by omega, hR, hbl, ?_, by rw [List.length_append, chunk_length]; omega⟩
                have h5 := Hp3.out
                have h6 : (s.data.toList.drop i).drop 3 = s.data.toList.drop (i + 3) := by rw [List.drop_drop]
                rw [Hl.out, h6] at h5
                rw [List.append_assoc, ← h5]
                exact Hacc.out
              case measure => simp only [intOf]; omega
    · have hlt' : ¬ (i : Int) < (n : Int) := by omega
      have hacc := Hacc.out
      rw [List.drop_eq_nil_of_le (by rw [hsl.out]; omega), p3, List.append_nil] at hacc
      have Ha := Lib.hid hacc
      have hst := hR.str
      clear hacc
      go_wp2_with fail
      go_ret
      exact ⟨ret_str (by rw [Ha.out]), hbl⟩
end Go.Proofs.Ytobfbjfajdnhaaa.SixW
