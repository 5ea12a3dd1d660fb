/- The document's answer: a text cut at a byte. -/
import Derived.Test.YtikdpoekjfbpaaaDoorWideAwake
import Derived.Deep.QuietTactic
namespace Go.Proofs.YtikdpoekjfbpaaaDoor
open Go.RowKit
open WideM
open AclM (cutAt cutAt_one cutAt_none)
set_option linter.unusedVariables false

theorem cut_hit {c : UInt8} {s : List UInt8} {acc : List (List UInt8)} {f i : Nat} (hf : f ≤ i) (hi : i < s.length) (h : cutAt c s = acc ++ cutAt c (s.drop f)) (hno : ∀ j, f ≤ j → j < i → s[j]? ≠ some c) (hc : s[i]? = some c) :
    cutAt c s = (acc ++ [(s.drop f).take (i - f)]) ++ cutAt c (s.drop (i + 1)) := by
  have e : s.drop f = (s.drop f).take (i - f) ++ c :: s.drop (i + 1) := by
    have h1 : (s.drop f).drop (i - f) = c :: s.drop (i + 1) := by
      rw [List.drop_drop, show f + (i - f) = i by omega]
      have hx : s[i] = c := by rw [List.getElem?_eq_getElem hi] at hc; exact Option.some.inj hc
      rw [List.drop_eq_getElem_cons hi, hx]
    rw [← h1, List.take_append_drop]
  have hm : c ∉ (s.drop f).take (i - f) := by
    intro hmem
    obtain ⟨j, hj, he⟩ := List.getElem_of_mem hmem
    rw [List.length_take, List.length_drop] at hj
    rw [List.getElem_take, List.getElem_drop] at he
    exact hno (f + j) (by omega) (by omega) (by rw [List.getElem?_eq_getElem (by omega), he])
  rw [h]
  conv => lhs; rw [e]
  rw [cutAt_one _ hm, List.append_assoc]
  rfl
theorem cut_end {c : UInt8} {s : List UInt8} {acc : List (List UInt8)} {f : Nat} (h : cutAt c s = acc ++ cutAt c (s.drop f)) (hno : ∀ j, f ≤ j → j < s.length → s[j]? ≠ some c) : cutAt c s = acc ++ [s.drop f] := by
  rw [h, cutAt_none]
  intro hmem
  obtain ⟨j, hj, he⟩ := List.getElem_of_mem hmem
  rw [List.length_drop] at hj
  rw [List.getElem_drop] at he
  exact hno (f + j) (by omega) (by omega) (by rw [List.getElem?_eq_getElem (by omega), he])
theorem extract_str (S : ByteArray) (f i : Nat) : S.extract f i = strOf ((S.data.toList.drop f).take (i - f)) := by
  refine str_eq ?_
  simp [ByteArray.data_extract, Array.toList_extract, List.extract]
attribute [local irreducible] Row At

set_option maxHeartbeats 3200000 in
set_option maxRecDepth 100000 in
theorem refCut_any (S : ByteArray) (c : UInt8) (x : Int) (hx : x = (c.toNat : Int)) (hS : S.size ≤ 100000) (w : World) :
    Calls Tryd.prog 19 #[.string S, .int .u8 x] w fun e w' => (∃ v, e = .returned v ∧ Row strE w.heap.size v (cutAt c S.data.toList) w') ∧ Below w.heap.size w w' := by
  subst hx
  obtain ⟨n, hn⟩ : ∃ n, S.size = n := ⟨_, rfl⟩
  have Hlen := Lib.hid (show S.data.toList.length = n by rw [len_list, hn])
  have Hidx := Lib.hid (fun i h => idxAt (P := Tryd.prog) Tryd.underlying9 S i (by rw [hn]; exact h))
  have Hext := Lib.hid (extract_str S)
  have hsl : ∀ (f i : Nat) (W : World), f ≤ i → i ≤ n → (Instr.slice 9 (.string S) (some (.int .i64 (f : Int))) (some (.int .i64 (i : Int))) none).run Tryd.prog W = .ok (.string (S.extract f i)) W := by
    intro f i W h1 h2
    simp [go_sem, hn, h1, h2]
  have Hsl := Lib.hid hsl
  rw [hn] at hS
  clear hsl
  go_enter Tryd.func19, Tryd.ntmps19
  go_wp2_with fail
  go_loopw [5, 6, 7] (fun lv fv iv wr => ∃ (i f : Nat) (acc : List (List UInt8)), iv = .int .i64 (i : Int) ∧ fv = .int .i64 (f : Int) ∧ i ≤ n + 1 ∧ f ≤ i ∧ Row strE w.heap.size lv acc wr ∧ Below w.heap.size w wr ∧ acc.length ≤ i ∧ Hid ((i ≤ n → cutAt c S.data.toList = acc ++ cutAt c (S.data.toList.drop f) ∧ ∀ j, f ≤ j → j < i → S.data.toList[j]? ≠ some c) ∧ (i = n + 1 → cutAt c S.data.toList = acc))) (fun _ _ iv _ => n + 1 - (intOf iv).toNat)
  case atStart => exact ⟨0, 0, [], rfl, rfl, by omega, by omega, Row.nil _ _, Below.refl _ _, by simp, Lib.hid ⟨fun _ => ⟨rfl, fun j h1 h2 => by omega⟩, fun h => by omega⟩⟩
  case round =>
    obtain ⟨i, f, acc, rfl, rfl, hi, hfi, hR, hbl, hacc, HR⟩ := hrel
    rename World => wr
    have hsz := hbl.size
    by_cases hlt : i < n
    · have e1 : decide ((i : Int) ≤ (n : Int)) = true := decide_eq_true (by omega)
      have e2 : ((i : Int) == (n : Int)) = false := beq_eq_false_iff_ne.2 (by omega)
      obtain ⟨u, hu, hidx⟩ := Hidx.out i hlt
      by_cases huc : u = c
      · subst huc
        have hs : ((u.toNat : Int) == (u.toNat : Int)) = true := beq_self_eq_true _
        have hq := HR.out.1 (by omega)
        have HN := Lib.hid (cut_hit hfi (by rw [Hlen.out]; exact hlt) hq.1 hq.2 hu)
        have hsl := fun W => Hsl.out f i W hfi (by omega)
        rw [Hext.out] at hsl
        generalize (S.data.toList.drop f).take (i - f) = P at *
        clear HR hq hu
        have hR2 := hR.alloc (.cells #[.string (strOf P)] 9)
        have hone := (one_str wr P 0 (Nat.zero_le _)).at
        have hl1 : acc.length + [P].length ≤ 1000000 := by simp; omega
        have hs1 : w.heap.size ≤ (wr.alloc (.cells #[.string (strOf P)] 9)).heap.size := by simp; omega
        go_wp2_with (at_builtin; refine wp_append_at strE rfl _ _ rfl w.heap.size _ (.slice (some ⟨wr.heap.size, 0, none⟩) 1 1) acc [P] (wr.alloc (.cells #[.string (strOf P)] 9)) rfl (by exact hR2) (by rfl) (by exact hone) hl1 hs1 ?_)
        intro v' w' hR' hb' _ _
        have hbl' : Below w.heap.size w w' := (gr_alloc hbl _).trans hb'
        clear hR hR2 hone hb' hbl
        go_wp2_with fail
        go_roundw
        case rel => exact ⟨i + 1, i + 1, _, rfl, rfl, by omega, by omega, hR', hbl', by simp; omega, Lib.hid ⟨fun _ => ⟨HN.out, fun j h1 h2 => by omega⟩, fun h => by omega⟩⟩
        case measure => simp only [intOf]; omega
      · have hs : ((u.toNat : Int) == (c.toNat : Int)) = false := toNat_ne huc
        have HN : Hid (cutAt c S.data.toList = acc ++ cutAt c (S.data.toList.drop f) ∧ ∀ j, f ≤ j → j < i + 1 → S.data.toList[j]? ≠ some c) := Lib.hid (by
          have hq := HR.out.1 (by omega)
          refine ⟨hq.1, fun j h1 h2 => ?_⟩
          by_cases hji : j = i
          · subst hji; rw [hu]; intro e; exact huc (Option.some.inj e)
          · exact hq.2 j h1 (by omega))
        clear HR hu
        go_wp2_with fail
        go_roundw
        case rel => exact ⟨i + 1, f, acc, rfl, rfl, by omega, by omega, hR, hbl, by omega, Lib.hid ⟨fun _ => HN.out, fun h => by omega⟩⟩
        case measure => simp only [intOf]; omega
    · by_cases hin : i = n
      · subst hin
        have e1 : decide ((i : Int) ≤ (i : Int)) = true := decide_eq_true (by omega)
        have e2 : ((i : Int) == (i : Int)) = true := beq_self_eq_true _
        have hq := HR.out.1 (by omega)
        have HN : Hid (cutAt c S.data.toList = acc ++ [(S.data.toList.drop f).take (i - f)]) := Lib.hid (by
          rw [List.take_of_length_le (by rw [List.length_drop, Hlen.out]; exact Nat.le_refl _)]
          exact cut_end hq.1 (fun j h1 h2 => hq.2 j h1 (by rw [Hlen.out] at h2; exact h2)))
        have hsl := fun W => Hsl.out f i W hfi (by omega)
        rw [Hext.out] at hsl
        generalize (S.data.toList.drop f).take (i - f) = P at *
        clear HR hq
        have hR2 := hR.alloc (.cells #[.string (strOf P)] 9)
        have hone := (one_str wr P 0 (Nat.zero_le _)).at
        have hl1 : acc.length + [P].length ≤ 1000000 := by simp; omega
        have hs1 : w.heap.size ≤ (wr.alloc (.cells #[.string (strOf P)] 9)).heap.size := by simp; omega
        go_wp2_with (at_builtin; refine wp_append_at strE rfl _ _ rfl w.heap.size _ (.slice (some ⟨wr.heap.size, 0, none⟩) 1 1) acc [P] (wr.alloc (.cells #[.string (strOf P)] 9)) rfl (by exact hR2) (by rfl) (by exact hone) hl1 hs1 ?_)
        intro v' w' hR' hb' _ _
        have hbl' : Below w.heap.size w w' := (gr_alloc hbl _).trans hb'
        clear hR hR2 hone hb' hbl
        go_wp2_with fail
        go_roundw
        case rel => exact ⟨i + 1, i + 1, _, rfl, rfl, by omega, by omega, hR', hbl', by simp; omega, Lib.hid ⟨fun h => by omega, fun _ => HN.out⟩⟩
        case measure => simp only [intOf]; omega
      · have hin2 : i = n + 1 := by omega
        have HE := Lib.hid (HR.out.2 hin2)
        have e1 : decide ((i : Int) ≤ (n : Int)) = false := decide_eq_false (by omega)
        have e1' : decide (i ≤ n) = false := decide_eq_false (by omega)
        clear HR hin2
        go_wp2_with fail
        go_ret
        exact ⟨by rw [HE.out]; exact ⟨_, rfl, hR⟩, hbl⟩
end Go.Proofs.YtikdpoekjfbpaaaDoor
