/- Walk over the law's own function Recs. -/
import Derived.Test.YtbjklpodkopgiaaDoorRecRow2
import Derived.Test.YtbjklpodkopgiaaDoorRecBack
import Derived.Deep.DeepCutAuto
import Derived.Deep.RegionHeld3
import Derived.Deep.RegionLaw
import Derived.Lib.ConvBytes
namespace Go.Proofs.YtbjklpodkopgiaaDoor
open Go.RowKit
open RecM
set_option linter.unusedVariables false

theorem fix_at (X : List UInt8) (j : Nat) (c : UInt8) (h : X[j]? = some c) : ((X.take j).map fixC ++ X.drop j)[j]? = some c := by
  have hj : j < X.length := (List.getElem?_eq_some_iff.1 h).1
  rw [List.getElem?_append_right (by rw [List.length_map, List.length_take]; omega), List.length_map, List.length_take, List.getElem?_drop, show j + (j - min j X.length) = j by omega]
  exact h
theorem fix_set (X : List UInt8) (j : Nat) (c : UInt8) (h : X[j]? = some c) : ((X.take j).map fixC ++ X.drop j).set j (fixC c) = (X.take (j + 1)).map fixC ++ X.drop (j + 1) := by
  have hj : j < X.length := (List.getElem?_eq_some_iff.1 h).1
  have hl : ((X.take j).map fixC).length = j := by rw [List.length_map, List.length_take]; omega
  rw [dropAt h, List.set_append_right _ _ (by omega), hl, Nat.sub_self, List.set_cons_zero]
  have hc : X[j] = c := by rw [List.getElem?_eq_getElem hj] at h; exact Option.some.inj h
  rw [List.take_succ_eq_append_getElem hj, List.map_append, hc]
  simp
theorem fix_skip (X : List UInt8) (j : Nat) (c : UInt8) (h : X[j]? = some c) (hc : fixC c = c) : (X.take j).map fixC ++ X.drop j = (X.take (j + 1)).map fixC ++ X.drop (j + 1) := by
  rw [← fix_set X j c h, hc]
  have h2 := fix_at X j c h
  obtain ⟨hj, he⟩ := List.getElem?_eq_some_iff.1 h2
  rw [← he, List.set_getElem_self]

set_option maxRecDepth 100000 in
set_option maxHeartbeats 3200000 in
theorem recs_any (a0 : Option Addr) (len0 cap0 : Nat) (ks : List ByteArray) (a1 : Option Addr) (len1 cap1 : Nat) (vs : List ByteArray) (w : World)
    (h0 : StrsAt w a0 len0 cap0 ks) (h1 : StrsAt w a1 len1 cap1 vs) :
    Calls Tryd.prog 19 #[.slice a0 len0 cap0, .slice a1 len1 cap1] w fun e w' => (∃ v, e = .returned v ∧ RecAt v (recsF (ks.map (·.data.toList)) (vs.map (·.data.toList))) w') ∧ Below w.heap.size w w' := by
  obtain ⟨R, hR⟩ : ∃ R, recsF (ks.map (·.data.toList)) (vs.map (·.data.toList)) = R := ⟨_, rfl⟩
  obtain ⟨N, hN⟩ : ∃ N, R.length = N := ⟨_, rfl⟩
  have hk := h0.1
  have hv := h1.1
  have hNm : N = min 20 (min len0 len1) := by rw [← hN, ← hR, recs_len, List.length_map, List.length_map, hk, hv]
  have Hat := Lib.hid (show ∀ i (h : i < N) (hi : i < ks.length) (hj : i < vs.length), R[i]? = some (recOf ks[i].data.toList vs[i].data.toList) by
    intro i h hi hj
    rw [List.getElem?_eq_getElem (by omega)]
    subst hR
    rw [recs_at _ _ i (by rw [List.length_map]; exact hi) (by rw [List.length_map]; exact hj) (by omega) (by omega)]
    simp)
  have H0 := Lib.hid h0
  have H1 := Lib.hid h1
  have Hk := Lib.hid hk
  have Hv := Lib.hid hv
  have HN := Lib.hid hN
  have HM := Lib.hid hNm
  rw [hR]
  clear h0 h1 hk hv hN hNm hR
  go_enter Tryd.func19, Tryd.ntmps19
  go_wp2_with fail
  go_loopw [5, 6] (fun lv iv wr => ∃ i : Nat, iv = .int .i64 (i : Int) ∧ i ≤ N ∧ RecRow w.heap.size lv (R.take i) wr ∧ Below w.heap.size w wr) (fun _ iv _ => N - (intOf iv).toNat)
  case atStart => exact ⟨0, rfl, by omega, RecRow.nil _ _, Below.refl _ _⟩
  case round =>
    obtain ⟨i, rfl, hi, hRow, hbl⟩ := hrel
    by_cases hlt : i < N
    · have hm := HM.out
      have t1 : decide ((i : Int) < (len0 : Int)) = true := decide_eq_true (by omega)
      have t1' : decide (i < len0) = true := decide_eq_true (by omega)
      have t2 : decide ((i : Int) < (len1 : Int)) = true := decide_eq_true (by omega)
      have t2' : decide (i < len1) = true := decide_eq_true (by omega)
      have t3 : decide ((i : Int) < 20) = true := decide_eq_true (by omega)
      have t3' : decide (i < 20) = true := decide_eq_true (by omega)
      have i0 : (0 : Int) ≤ (i : Int) := by omega
      have i1 : (i : Int) < (len0 : Int) := by omega
      have i2 : (i : Int) < (len1 : Int) := by omega
      have hik : i < ks.length := by rw [Hk.out]; omega
      have hiv : i < vs.length := by rw [Hv.out]; omega
      obtain ⟨b0, o0, e0, hc0, hg0, hj0⟩ : ∃ b off, a0 = some ⟨b, off, none⟩ ∧ len0 ≤ cap0 ∧ b < w.heap.size ∧ ∀ j (h : j < ks.length), w.cell? ⟨b, off + j, none⟩ = some (.string ks[j]) := by
        rcases H0.out.2.2 with h | h
        · omega
        · exact h
      obtain ⟨b1, o1, e1, hc1, hg1, hj1⟩ : ∃ b off, a1 = some ⟨b, off, none⟩ ∧ len1 ≤ cap1 ∧ b < w.heap.size ∧ ∀ j (h : j < vs.length), w.cell? ⟨b, off + j, none⟩ = some (.string vs[j]) := by
        rcases H1.out.2.2 with h | h
        · omega
        · exact h
      subst e0 e1
      have ck := cell_kept hbl (hj0 i hik)
      have cv := hj1 i hiv
      have hks := H0.out.2.1 ks[i] (List.getElem_mem hik)
      have hRi := Hat.out i hlt hik hiv
      have hRs : R.take (i + 1) = R.take i ++ [recOf ks[i].data.toList vs[i].data.toList] := by
        rw [List.take_add_one, hRi]; rfl
      obtain ⟨K, hK⟩ : ∃ K, ks[i] = K := ⟨_, rfl⟩
      obtain ⟨V, hV⟩ : ∃ V, vs[i] = V := ⟨_, rfl⟩
      rw [hK] at ck hks hRs
      rw [hV, ← strOf_self V] at cv
      rw [hV] at hRs
      obtain ⟨X, hX⟩ : ∃ X : ByteArray, (⟨#[107]⟩ : ByteArray) ++ K = X := ⟨_, rfl⟩
      have hXl : X.data.toList = 107 :: K.data.toList := by rw [← hX, bytes_list]; rfl
      obtain ⟨n, hn⟩ : ∃ n, X.size = n := ⟨_, rfl⟩
      have hn2 : n = 1 + K.size := by rw [← hn, ← len_list, hXl, List.length_cons, len_list]; omega
      have hnl : X.data.toList.length = n := by rw [len_list, hn]
      have q1 : ¬ 9223372036854775807 < 1 + K.size := by omega
      have hcv : ∀ W, (convert 9 46 (.string X)).run Tryd.prog W = .ok (.slice (some ⟨W.heap.size, 0, none⟩) n (grownCap W X.size 0 5)) (Lib.bytesWorld W 5 X) := fun W => by
        have := Lib.run_convert_string_bytes (P := Tryd.prog) W 9 46 5 X Tryd.underlying9 Tryd.underlying46 Tryd.underlying5
        rw [hn] at this ⊢
        exact this
      have hcw := hcv wr
      have hRo := RowIs.of wr 5 X
      have hbw := below_bytesWorld hbl hbl.size 5 X
      have hbr : Below wr.heap.size wr (Lib.bytesWorld wr 5 X) := below_bytesWorld (Below.refl _ _) (Nat.le_refl _) 5 X
      have hRow2 := hRow.kept hbr
      have hown := hRow.lt
      have hszw := hbl.size
      have HX := Lib.hid hXl
      have Hnl := Lib.hid hnl
      have HRs := Lib.hid hRs
      have Hn2 := Lib.hid hn2
      have hn9 : n ≤ 140737488351233 := by omega
      have Hcv := Lib.hid cv
      generalize grownCap wr X.size 0 5 = gc at *
      generalize Lib.bytesWorld wr 5 X = wb at *
      have hge : wr.heap.size < wb.heap.size := hRo.size
      obtain ⟨g, hg⟩ : ∃ g, wr.heap.size = g := ⟨_, rfl⟩
      rw [hg] at hRo hcw hge hszw hown
      clear hg
      have hlt3 : i + 1 ≤ N := hlt
      have hi9 : i ≤ 20 := by omega
      clear hRi hRs hK hV hXl hnl hn2 hn hcv hj0 hj1 hbr hRow hlt hm cv hks
      go_wp2_with fail
      go_loopw [8] (fun jv wj => ∃ j : Nat, jv = .int .i64 (j : Int) ∧ j ≤ n ∧ RowIs wj g 5 ((X.data.toList.take j).map fixC ++ X.data.toList.drop j) ∧ Below w.heap.size w wj ∧ RecRow w.heap.size u5 (R.take i) wj) (fun jv _ => n - (intOf jv).toNat)
      case atStart => exact ⟨0, rfl, by omega, by simpa using hRo, hbw, hRow2⟩
      case round =>
        obtain ⟨j, rfl, hj, hRj, hbj, hRowj⟩ := hrel
        by_cases hlj : j < n
        · have l1 : decide ((j : Int) < (n : Int)) = true := decide_eq_true (by omega)
          have l1' : decide (j < n) = true := decide_eq_true hlj
          have j0 : (0 : Int) ≤ (j : Int) := by omega
          have j1 : (j : Int) < (n : Int) := by omega
          have hjX : j < X.data.toList.length := by rw [Hnl.out]; exact hlj
          obtain ⟨c, hc⟩ : ∃ c, X.data.toList[j]? = some c := ⟨_, List.getElem?_eq_getElem hjX⟩
          have hfa := fix_at X.data.toList j c hc
          have hfl : j < ((X.data.toList.take j).map fixC ++ X.data.toList.drop j).length := (List.getElem?_eq_some_iff.1 hfa).1
          have hcell := hRj.cell j hfl
          rw [(List.getElem?_eq_some_iff.1 hfa).2] at hcell
          have hfree := hRj.free j hfl
          by_cases h0 : c = 0
          · have e0 : ((c.toNat : Int) == 0) = true := by rw [h0]; rfl
            have hset := hRj.put j 46
            rw [show (46 : UInt8) = fixC c by unfold fixC; rw [if_pos (Or.inl h0)], fix_set _ j c hc] at hset
            rw [show ((fixC c).toNat : Int) = 46 by unfold fixC; rw [if_pos (Or.inl h0)]; rfl] at hset
            have hb2 : Below w.heap.size w (wr.setCell ⟨g, j, none⟩ (.int .u8 46)) := hbj.setCell hszw _
            have hr2 : RecRow w.heap.size u5 (R.take i) (wr.setCell ⟨g, j, none⟩ (.int .u8 46)) := hRowj.other (by intro e; have := hown _ e; simp at this) _
            clear h0 hc hfa hfl hRj hbj hRowj hlj hjX
            go_wp2_with fail
            go_roundw
            case rel => exact ⟨j + 1, by go_num, by omega, hset, hb2, hr2⟩
            case measure => simp only [intOf]; omega
          · have e0 : ((c.toNat : Int) == 0) = false := by
              have h := toNat_ne h0
              exact h
            by_cases h61 : c = 61
            · have e1 : ((c.toNat : Int) == 61) = true := by rw [h61]; rfl
              have hset := hRj.put j 46
              rw [show (46 : UInt8) = fixC c by unfold fixC; rw [if_pos (Or.inr h61)], fix_set _ j c hc] at hset
              rw [show ((fixC c).toNat : Int) = 46 by unfold fixC; rw [if_pos (Or.inr h61)]; rfl] at hset
              have hb2 : Below w.heap.size w (wr.setCell ⟨g, j, none⟩ (.int .u8 46)) := hbj.setCell hszw _
              have hr2 : RecRow w.heap.size u5 (R.take i) (wr.setCell ⟨g, j, none⟩ (.int .u8 46)) := hRowj.other (by intro e; have := hown _ e; simp at this) _
              clear h0 h61 hc hfa hfl hRj hbj hRowj hlj hjX
              go_wp2_with fail
              go_roundw
              case rel => exact ⟨j + 1, by go_num, by omega, hset, hb2, hr2⟩
              case measure => simp only [intOf]; omega
            · have e1 : ((c.toNat : Int) == 61) = false := by
                have h := toNat_ne h61
                exact h
              have hsk := fix_skip X.data.toList j c hc (by unfold fixC; rw [if_neg (fun h => h.elim h0 h61)])
              rw [hsk] at hRj
              clear h0 h61 hc hfa hfl hlj hjX hsk
              go_wp2_with fail
              go_roundw
              case rel => exact ⟨j + 1, by go_num, by omega, hRj, hbj, hRowj⟩
              case measure => simp only [intOf]; omega
        · have l1 : decide ((j : Int) < (n : Int)) = false := decide_eq_false (by omega)
          have l1' : decide (j < n) = false := decide_eq_false hlj
          obtain rfl : j = n := by omega
          rw [List.take_of_length_le (by rw [Hnl.out]; omega), List.drop_eq_nil_of_le (by rw [Hnl.out]; omega), List.append_nil] at hRj
          have hcb := hRj.back (P := Tryd.prog) (src := 46) (dst := 9) gc Tryd.underlying46 Tryd.underlying5 Tryd.underlying9
          rw [List.length_map, Hnl.out] at hcb
          have hkey : (⟨(X.data.toList.map fixC).toArray⟩ : ByteArray) = strOf (recOf K.data.toList V.data.toList).1 := by rw [HX.out]; rfl
          rw [hkey] at hcb
          have hval : V.data.toList = (recOf K.data.toList V.data.toList).2 := rfl
          have cvj := cell_kept hbj Hcv.out
          rw [hval] at cvj
          obtain ⟨r, hr⟩ : ∃ r, recOf K.data.toList V.data.toList = r := ⟨_, rfl⟩
          rw [hr] at hcb cvj HRs
          have hlen : (R.take i).length + 1 ≤ 1000000 := by rw [List.length_take]; have := HM.out; omega
          have hsz2 := hbj.size
          have hcbd : (convert 46 9 (.slice (some ⟨g, 0, none⟩) j gc)).run Tryd.prog wr.drew = .ok (.string (strOf r.1)) wr.drew := by
            have h2 : RowIs wr.drew g 5 (X.data.toList.map fixC) := (show RowIs wr.drew g 5 (X.data.toList.map fixC) from hRj)
            have h3 := h2.back (P := Tryd.prog) (src := 46) (dst := 9) gc Tryd.underlying46 Tryd.underlying5 Tryd.underlying9
            rw [List.length_map, Hnl.out, hkey, hr] at h3
            exact h3
          have cvd : wr.drew.cell? ⟨b1, o1 + i, none⟩ = some (.string (strOf r.2)) := (show wr.cell? ⟨b1, o1 + i, none⟩ = some (.string (strOf r.2)) from cvj)
          clear hlj hkey hval hr hRj hcw hRo hRow2 hbw
          go_wp2_with fail
          go_region_law (first | (refine step_append_rec rfl _ _ rfl w.heap.size _ _ r (by rfl) ((hRowj.alloc _).drew) _ (heap_alloc_new wr _) (by rfl) hlen (by simp; omega) w (gr_drew (gr_alloc hbj _)) ?_; intro v' w' hR' hbl'))
          all_goals
            go_wp2_with fail
            go_roundw
            case rel => exact ⟨i + 1, by go_num, by omega, by rw [HRs.out]; exact hR', hbl'⟩
            case measure => simp only [intOf]; omega
    · obtain rfl : i = N := by omega
      have hm := HM.out
      rw [List.take_of_length_le (by rw [HN.out]; omega)] at hRow
      have hat := hRow.at
      obtain ⟨p, cap, ev⟩ := hat.shape
      subst ev
      by_cases h1 : i < len0
      · have t1 : decide ((i : Int) < (len0 : Int)) = true := decide_eq_true (by omega)
        have t1' : decide (i < len0) = true := decide_eq_true (by omega)
        by_cases h2 : i < len1
        · have t2 : decide ((i : Int) < (len1 : Int)) = true := decide_eq_true (by omega)
          have t2' : decide (i < len1) = true := decide_eq_true (by omega)
          have t3 : decide ((i : Int) < 20) = false := decide_eq_false (by omega)
          have t3' : decide (i < 20) = false := decide_eq_false (by omega)
          clear h1 h2 hm hlt
          go_wp2_with fail
          go_ret
          exact ⟨⟨_, rfl, hat⟩, hbl⟩
        · have t2 : decide ((i : Int) < (len1 : Int)) = false := decide_eq_false (by omega)
          have t2' : decide (i < len1) = false := decide_eq_false (by omega)
          clear h1 h2 hm hlt
          go_wp2_with fail
          go_ret
          exact ⟨⟨_, rfl, hat⟩, hbl⟩
      · have t1 : decide ((i : Int) < (len0 : Int)) = false := decide_eq_false (by omega)
        have t1' : decide (i < len0) = false := decide_eq_false (by omega)
        clear h1 hm hlt
        go_wp2_with fail
        go_ret
        exact ⟨⟨_, rfl, hat⟩, hbl⟩
end Go.Proofs.YtbjklpodkopgiaaDoor
