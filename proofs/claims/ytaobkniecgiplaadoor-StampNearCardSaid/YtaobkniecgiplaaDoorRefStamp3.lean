/- Walks over the document's answer for times: what a text that begins with a minus is. -/
import Derived.Test.YtaobkniecgiplaaDoorRefStamp2
namespace Go.Proofs.YtaobkniecgiplaaDoor
open Go.RowKit
open StampM
open DecM
open Go.Lib (decDigits itoa)
set_option maxRecDepth 100000 in
set_option maxHeartbeats 1000000 in
theorem refParse_neg (s : ByteArray) (w : World) (h1 : 1 ≤ s.size) (h30 : s.size ≤ 30) (hneg : rNeg s.data.toList = true) :
    Calls Tryd.prog 12 #[.string s] w fun e w' => e = .returned (timeOf s.data.toList) ∧ Below w.heap.size w w' := by
  obtain ⟨c0, hc0, hi0'⟩ := idx_at Tryd.underlying9 s 0 (by omega)
  have hi0 : ∀ w, (Instr.index 9 (.string s) (.int .i64 0)).run Tryd.prog w = .ok (.int .u8 (c0.toNat : Int)) w := hi0'
  have hq0 : ((c0.toNat : Int) == 45) = true := by
    unfold rNeg at hneg
    rw [List.head?_eq_getElem?, hc0] at hneg
    simp at hneg
    rw [hneg]; rfl
  have hr : rSize s.data.toList = s.data.toList.drop 1 := by unfold rSize; rw [hneg]; simp
  have HSt := Lib.hid (show ScanAt s.data.toList 1 0 from ⟨by omega, by omega, by rw [hr]⟩)
  have hz0 : ((s.size : Int) == 0) = false := by rw [beq_eq_false_iff_ne]; omega
  have Hneg := Lib.hid hneg
  clear hneg hc0 hr hi0'
  go_enter Tryd.func12, Tryd.ntmps12
  go_upto_block 0 with fail
  go_cut [3, 5] (fun s3 s5 wx => ∃ (i : Nat) (x : Int), s3 = .int .i64 x ∧ s5 = .int .i64 i ∧ i ≤ s.size ∧ Hid (ScanEnd s.data.toList i x) ∧ wx = w.alloc (.cells #[.int .i64 0, .int .i64 0, .bool false] 28))
  case first =>
    go_wp2_with fail
    go_loop [3, 5] (fun s3 s5 => ∃ (i : Nat) (x : Int), s3 = .int .i64 x ∧ s5 = .int .i64 i ∧ i ≤ s.size ∧ 0 ≤ x ∧ x ≤ 20000000000000 ∧ Hid (ScanAt s.data.toList i x)) (fun _ s5 => s.size - (intOf s5).toNat)
    case atStart => exact ⟨1, 0, rfl, rfl, by omega, by omega, by omega, HSt⟩
    case round =>
      obtain ⟨i, x, rfl, rfl, hi, hx0, hx1, HS⟩ := hrel
      by_cases hlt : i < s.size
      · have hc : s.data.toList[i]? = some s[i] := by rw [List.getElem?_eq_getElem (by simpa using hlt)]; rfl
        have hlt' : decide ((i : Int) < (s.size : Int)) = true := by simpa using hlt
        by_cases hd : isDig s[i] = true
        · have hd' := hd
          simp only [isDig, Bool.and_eq_true, decide_eq_true_eq] at hd'
          have hd1 : (48 : Int) ≤ (s[i].toNat : Int) := by omega
          have hd2 : (s[i].toNat : Int) ≤ 57 := by omega
          by_cases hx : x ≤ 1099511627776
          · have HT := Lib.hid (HS.out.step hc hd hx)
            have hTb := HT.out.2.1
            have hTc := HT.out.1
            clear hd hd' HS hc
            go_wp2
            go_round
            case rel => exact ⟨i + 1, _, rfl, by go_num, by omega, hTc, hTb, HT⟩
            case measure => simp [intOf]; omega
          · have HT := Lib.hid (HS.out.stop (.inr ⟨s[i], hc, by rw [hd]; simpa using hx⟩))
            clear hd hd' HS hc
            go_wp2
            go_meet
            exact ⟨i, x, rfl, rfl, hi, HT, rfl⟩
        · have HT := Lib.hid (HS.out.stop (.inr ⟨s[i], hc, by simp [hd]⟩))
          have hnd : ¬ ((48 : Int) ≤ (s[i].toNat : Int)) ∨ (((48 : Int) ≤ (s[i].toNat : Int)) ∧ ¬ ((s[i].toNat : Int) ≤ 57)) := by
            simp only [isDig, Bool.and_eq_true, decide_eq_true_eq] at hd; omega
          clear hd HS hc
          rcases hnd with hn1 | ⟨hn1, hn2⟩
          all_goals
            go_wp2
            go_meet
            exact ⟨i, x, rfl, rfl, hi, HT, rfl⟩
      · have hlt' : decide (i < s.size) = false := by simpa using hlt
        have HT := Lib.hid (HS.out.stop (.inl (List.getElem?_eq_none (by simp; omega))))
        clear hlt HS
        go_wp2
        go_meet
        exact ⟨i, x, rfl, rfl, hi, HT, rfl⟩
  case rest =>
    obtain ⟨i, x, rfl, rfl, hi, HE, rfl⟩ := hcut
    have hx0 := HE.out.2.2.1
    have hx1 := HE.out.2.2.2
    obtain ⟨dt, hdt⟩ : ∃ dt : Bool, dt = decide (s.data.toList[i]? = some 46) := ⟨_, rfl⟩
    have Hdt := Lib.hid hdt
    clear hdt
    go_upto_region 9 with fail
    go_cut [59] (fun s59 wx => s59 = .bool dt ∧ wx = w.alloc (.cells #[.int .i64 0, .int .i64 0, .bool false] 28))
    case first =>
      by_cases hlt : i < s.size
      · have hc : s.data.toList[i]? = some s[i] := by rw [List.getElem?_eq_getElem (by simpa using hlt)]; rfl
        rw [hc] at Hdt
        rcases hd : (((s[i]).toNat : Int) == 46) with _ | _
        · have Hf := Lib.hid (show dt = false by
            rw [Hdt.out, decide_eq_false_iff_not]; intro e; injection e with e
            rw [beq_eq_false_iff_ne] at hd; apply hd; rw [e]; rfl)
          clear hc Hdt
          go_wp2
          go_meet
          exact ⟨by rw [Hf.out], rfl⟩
        · have Hf := Lib.hid (show dt = true by
            rw [Hdt.out, decide_eq_true_eq]
            rw [beq_iff_eq] at hd
            exact congrArg some (UInt8.toNat_inj.1 (by have : (46 : UInt8).toNat = 46 := rfl; omega)))
          clear hc Hdt
          go_wp2
          go_meet
          exact ⟨by rw [Hf.out], rfl⟩
      · have Hf := Lib.hid (show dt = false by
          rw [Hdt.out, decide_eq_false_iff_not, List.getElem?_eq_none (by simp; omega)]; simp)
        have hlt' : decide (i < s.size) = false := by simpa using hlt
        clear Hdt
        go_wp2
        go_meet
        exact ⟨by rw [Hf.out], rfl⟩
    case rest =>
      obtain ⟨rfl, rfl⟩ := hcut
      have HN := Lib.hid (rNan_dot HE.out.2.1)
      go_upto_if 59 with fail
      go_cut [4] (fun s4 wx => s4 = .int .i64 (rNan s.data.toList) ∧ wx = w.alloc (.cells #[.int .i64 0, .int .i64 0, .bool false] 28))
      case first =>
        cases dt
        · have H0 := Lib.hid (show rNan s.data.toList = 0 by
            have := Hdt.out
            rw [eq_comm, decide_eq_false_iff_not] at this
            rw [HN.out, if_neg this])
          clear HN Hdt
          go_wp2
          go_meet
          exact ⟨by rw [H0.out], rfl⟩
        · have H0 := Lib.hid (show rNan s.data.toList = nano9 (s.data.toList.drop (i + 1)) 9 by
            have := Hdt.out
            rw [eq_comm, decide_eq_true_eq] at this
            rw [HN.out, if_pos this])
          clear HN Hdt
          go_wp2_with fail
          go_loop [4, 6] (fun s4 s6 => ∃ (j : Nat) (y : Int), j ≤ 9 ∧ s6 = .int .i64 ((j : Int) + 1) ∧ s4 = .int .i64 y ∧ 0 ≤ y ∧ y ≤ 1000000000 ∧ Hid (y = nano9 (s.data.toList.drop (i + 1)) j)) (fun _ s6 => 10 - (intOf s6).toNat)
          case atStart => exact ⟨0, 0, by omega, rfl, rfl, by omega, by omega, Lib.hid rfl⟩
          case round =>
            obtain ⟨j, y, hj, rfl, rfl, hy0, hy1, Hy⟩ := hrel
            by_cases hj9 : j < 9
            · have hb := nano9_bd (s.data.toList.drop (i + 1)) (j + 1) (by omega)
              have hbj := nano9_bd (s.data.toList.drop (i + 1)) j (by omega)
              have hp : (10 : Int) ^ (j + 1) ≤ 1000000000 := by
                have h1 : (10 : Nat) ^ (j + 1) ≤ 10 ^ 9 := Nat.pow_le_pow_right (by omega) (by omega)
                have h2 : ((10 ^ (j + 1) : Nat) : Int) = (10 : Int) ^ (j + 1) := by push_cast; rfl
                have h3 : (10 : Nat) ^ 9 = 1000000000 := by decide
                omega
              have hpj : (10 : Int) ^ (j + 1) = 10 ^ j * 10 := Int.pow_succ ..
              rw [← Hy.out] at hbj
              have hy2 : y ≤ 99999999 := by omega
              have hat : digAt (s.data.toList.drop (i + 1)) j = digO (s.data.toList[i + (j + 1)]?) := by
                unfold digAt; rw [List.getElem?_drop, show i + 1 + j = i + (j + 1) by omega]
              by_cases hin : i + (j + 1) < s.size
              · have hc : s.data.toList[i + (j + 1)]? = some s[i + (j + 1)] := by rw [List.getElem?_eq_getElem (by simpa using hin)]; rfl
                rw [hc] at hat
                by_cases hd : isDig s[i + (j + 1)] = true
                · have hd' := hd
                  simp only [isDig, Bool.and_eq_true, decide_eq_true_eq] at hd'
                  have hd1 : (48 : Int) ≤ (s[i + (j + 1)].toNat : Int) := by omega
                  have hd2 : (s[i + (j + 1)].toNat : Int) ≤ 57 := by omega
                  have HT := Lib.hid (show y * 10 + ((s[i + (j + 1)].toNat : Int) - 48) = nano9 (s.data.toList.drop (i + 1)) (j + 1) by
                    rw [nano9, hat, Hy.out, digO, if_pos hd])
                  clear hd hd' hc hat hb hbj hp hpj
                  go_wp2
                  go_round
                  case rel => exact ⟨j + 1, _, by omega, by go_num, rfl, by omega, by omega, HT⟩
                  case measure => simp [intOf]; omega
                · have HT := Lib.hid (show y * 10 = nano9 (s.data.toList.drop (i + 1)) (j + 1) by
                    rw [nano9, hat, Hy.out, digO, if_neg hd]; simp)
                  have hnd : ¬ ((48 : Int) ≤ (s[i + (j + 1)].toNat : Int)) ∨ (((48 : Int) ≤ (s[i + (j + 1)].toNat : Int)) ∧ ¬ ((s[i + (j + 1)].toNat : Int) ≤ 57)) := by
                    simp only [isDig, Bool.and_eq_true, decide_eq_true_eq] at hd; omega
                  clear hd hc hat hb hbj hp hpj
                  rcases hnd with hn1 | ⟨hn1, hn2⟩
                  all_goals
                    go_wp2
                    go_round
                    case rel => exact ⟨j + 1, _, by omega, by go_num, rfl, by omega, by omega, HT⟩
                    case measure => simp [intOf]; omega
              · rw [List.getElem?_eq_none (by simp; omega)] at hat
                have HT := Lib.hid (show y * 10 = nano9 (s.data.toList.drop (i + 1)) (j + 1) by
                  rw [nano9, hat, Hy.out, digO]; simp)
                have hin' : ¬ ((i : Int) + ((j : Int) + 1) < (s.size : Int)) := by omega
                clear hat hb hbj hp hpj
                go_wp2
                go_round
                case rel => exact ⟨j + 1, _, by omega, by go_num, rfl, by omega, by omega, HT⟩
                case measure => simp [intOf]; omega
            · obtain rfl : j = 9 := by omega
              have HT := Lib.hid (show y = rNan s.data.toList by rw [H0.out, Hy.out])
              clear hj9 Hy
              go_wp2
              go_meet
              exact ⟨by rw [HT.out], rfl⟩
      case rest =>
        obtain ⟨rfl, rfl⟩ := hcut
        have hneg2 := Hneg.out
        have HX := Lib.hid HE.out.1
        have hbN := rNan_bd s.data.toList
        have hB0 : BlkIs (w.alloc (.cells #[.int .i64 0, .int .i64 0, .bool false] 28)) w.heap.size 28 #[.int .i64 0, .int .i64 0, .bool false] := BlkIs.made _ _ _
        have hB1 := hB0.alloc (.cells #[.int .i64 x, .int .i64 (rNan s.data.toList)] 23)
        have hB2 : BlkIs ((w.alloc (.cells #[.int .i64 0, .int .i64 0, .bool false] 28)).alloc (.cells #[.int .i64 x, .int .i64 (rNan s.data.toList)] 23)) (w.heap.size + 1) 23 #[.int .i64 x, .int .i64 (rNan s.data.toList)] := BlkIs.made_at _ _ _ _ _ (by simp) rfl
        have HB1 := Lib.hid hB1
        have HB2 := Lib.hid hB2
        have HSS := Lib.hid (show rS s.data.toList = (if 0 < rNan s.data.toList then -rSec s.data.toList - 1 else -rSec s.data.toList) by unfold rS; rw [if_pos hneg2])
        clear hB0 hB1 hB2 hneg2
        go_upto_if 102 with fail
        go_cut [103] (fun _ wx => BlkIs wx w.heap.size 28 #[.int .i64 0, .int .i64 0, .bool false] ∧ BlkIs wx (w.heap.size + 1) 23 #[.int .i64 (rS s.data.toList), .int .i64 (rN s.data.toList)] ∧ Below w.heap.size w wx)
        case first =>
          rcases hp : decide (0 < rNan s.data.toList) with _ | _
          · have H1 := Lib.hid (show rS s.data.toList = -x by rw [HSS.out, if_neg (by simpa using hp), HX.out])
            have H2 := Lib.hid (show rN s.data.toList = rNan s.data.toList by unfold rN; rw [if_neg (by intro h; have := h.2; simp at hp; omega)])
            have g0 := HB2.out.cell_some 0 _ rfl
            have g1 := HB2.out.cell_some 1 _ rfl
            have e0 := HB2.out.free 0
            generalize rNan s.data.toList = N at *
            go_wp2
            go_meet
            exact ⟨(BlkIs.made _ _ _).alloc _, BlkIs.made_at _ _ _ _ _ (by simp) (by rw [H1.out, H2.out]), by (repeat' (first | exact Below.refl _ _ | assumption | refine gr_drew ?_ | refine gr_drewN ?_ _ | refine gr_alloc ?_ _ | refine gr_set ?_ ?_ _ | refine gr_call ?_ (by assumption)) <;> (try (simp; done)) <;> (try (simp; omega)) <;> (try omega))⟩
          · have H1 := Lib.hid (show rS s.data.toList = -x - 1 by rw [HSS.out, if_pos (by simpa using hp), HX.out])
            have H2 := Lib.hid (show rN s.data.toList = 1000000000 - rNan s.data.toList by unfold rN; rw [if_pos ⟨Hneg.out, by simpa using hp⟩])
            have g0 := HB2.out.cell_some 0 _ rfl
            have g1 := HB2.out.cell_some 1 _ rfl
            have e0 := HB2.out.free 0
            have e1 := HB2.out.free 1
            generalize rNan s.data.toList = N at *
            go_wp2
            go_meet
            exact ⟨(BlkIs.made _ _ _).alloc _, BlkIs.made_at _ _ _ _ _ (by simp) (by rw [H1.out, H2.out]), by (repeat' (first | exact Below.refl _ _ | assumption | refine gr_drew ?_ | refine gr_drewN ?_ _ | refine gr_alloc ?_ _ | refine gr_set ?_ ?_ _ | refine gr_call ?_ (by assumption)) <;> (try (simp; done)) <;> (try (simp; omega)) <;> (try omega))⟩
        case rest =>
          obtain ⟨hT, hS, hbl⟩ := hcut
          clear HX HE HB1 HB2 HSS Hneg hbN Hdt HN
          have k0 : wc.cell? ⟨w.heap.size, 0, none⟩ = some (.int .i64 0) := hT.cell_some 0 _ rfl
          have k1 : wc.cell? ⟨w.heap.size, 1, none⟩ = some (.int .i64 0) := hT.cell_some 1 _ rfl
          have k2 : wc.cell? ⟨w.heap.size, 2, none⟩ = some (.bool false) := hT.cell_some 2 _ rfl
          have f0 := hT.free 0
          have f1 := hT.free 1
          have f2 := hT.free 2
          have d0 : wc.cell? ⟨w.heap.size + 1, 0, none⟩ = some (.int .i64 (rS s.data.toList)) := hS.cell_some 0 _ rfl
          have d1 : wc.cell? ⟨w.heap.size + 1, 1, none⟩ = some (.int .i64 (rN s.data.toList)) := hS.cell_some 1 _ rfl
          have e0 := hS.free 0
          have e1 := hS.free 1
          have zz := hT.size
          have zz2 := hS.size
          clear hT hS
          rcases hm : mayF (rS s.data.toList) (rN s.data.toList) with _ | _
          · have HM := Lib.hid (fun W => refMay_no _ _ W hm)
            have HO := Lib.hid (show timeOf s.data.toList = .agg #[.int .i64 0, .int .i64 0, .bool false] by unfold timeOf rOk; rw [hm]; rfl)
            clear hm
            generalize rS s.data.toList = S at *
            generalize rN s.data.toList = N at *
            go_wp2_with fail
            refine (HM.out _).mono ?_
            rintro e w2 ⟨rfl, hbw2⟩
            have hzw2 := hbw2.size
            try simp at hzw2
            have : w.heap.size < w2.heap.size := by omega
            have : w.heap.size ≤ w2.heap.size := by omega
            have : w2.cell? ⟨w.heap.size, 0, none⟩ = some (.int .i64 0) := cell_kept hbw2 (by simp [go_sem, *])
            have : w2.frozen? ⟨w.heap.size, 0, none⟩ = false := free_kept hbw2 (v := .int .i64 0) (by simp [go_sem, *]) (by simp [go_sem, *])
            have : w.heap.size < w2.heap.size := by omega
            have : w.heap.size ≤ w2.heap.size := by omega
            have : w2.cell? ⟨w.heap.size, 1, none⟩ = some (.int .i64 0) := cell_kept hbw2 (by simp [go_sem, *])
            have : w2.frozen? ⟨w.heap.size, 1, none⟩ = false := free_kept hbw2 (v := .int .i64 0) (by simp [go_sem, *]) (by simp [go_sem, *])
            have : w.heap.size < w2.heap.size := by omega
            have : w.heap.size ≤ w2.heap.size := by omega
            have : w2.cell? ⟨w.heap.size, 2, none⟩ = some (.bool false) := cell_kept hbw2 (by simp [go_sem, *])
            have : w2.frozen? ⟨w.heap.size, 2, none⟩ = false := free_kept hbw2 (v := .bool false) (by simp [go_sem, *]) (by simp [go_sem, *])
            have : w.heap.size + 1 < w2.heap.size := by omega
            have : w.heap.size + 1 ≤ w2.heap.size := by omega
            have : w2.cell? ⟨w.heap.size + 1, 0, none⟩ = some (.int .i64 S) := cell_kept hbw2 (by simp [go_sem, *])
            have : w2.frozen? ⟨w.heap.size + 1, 0, none⟩ = false := free_kept hbw2 (v := .int .i64 S) (by simp [go_sem, *]) (by simp [go_sem, *])
            have : w.heap.size + 1 < w2.heap.size := by omega
            have : w.heap.size + 1 ≤ w2.heap.size := by omega
            have : w2.cell? ⟨w.heap.size + 1, 1, none⟩ = some (.int .i64 N) := cell_kept hbw2 (by simp [go_sem, *])
            have : w2.frozen? ⟨w.heap.size + 1, 1, none⟩ = false := free_kept hbw2 (v := .int .i64 N) (by simp [go_sem, *]) (by simp [go_sem, *])
            go_wp2_with fail
            exact bodyPost_ret (v := .agg #[.int .i64 0, .int .i64 0, .bool false]) (by simp [results, Tryd.results12, go_sem, *]) rfl ⟨by rw [HO.out], by (repeat' (first | exact Below.refl _ _ | assumption | refine gr_drew ?_ | refine gr_drewN ?_ _ | refine gr_alloc ?_ _ | refine gr_set ?_ ?_ _ | refine gr_call ?_ (by assumption)) <;> (try (simp; done)) <;> (try (simp; omega)) <;> (try omega))⟩
          · have HM := Lib.hid (fun W => refMay_yes _ _ W hm)
            have HT := Lib.hid (fun W => refText_any _ _ W hm)
            rcases ht : decide (textF (rS s.data.toList) (rN s.data.toList) = s.data.toList) with _ | _
            · have HO := Lib.hid (show timeOf s.data.toList = .agg #[.int .i64 0, .int .i64 0, .bool false] by unfold timeOf rOk; rw [hm, ht]; rfl)
              have h1 : (textF (rS s.data.toList) (rN s.data.toList) == s.toList) = false := by rw [ByteArray.toList_eq]; simpa using ht
              clear hm ht
              generalize textF (rS s.data.toList) (rN s.data.toList) = T at *
              generalize rS s.data.toList = S at *
              generalize rN s.data.toList = N at *
              go_wp2_with fail
              refine (HM.out _).mono ?_
              rintro e w2 ⟨rfl, hbw2⟩
              have hzw2 := hbw2.size
              try simp at hzw2
              have : w.heap.size < w2.heap.size := by omega
              have : w.heap.size ≤ w2.heap.size := by omega
              have : w2.cell? ⟨w.heap.size, 0, none⟩ = some (.int .i64 0) := cell_kept hbw2 (by simp [go_sem, *])
              have : w2.frozen? ⟨w.heap.size, 0, none⟩ = false := free_kept hbw2 (v := .int .i64 0) (by simp [go_sem, *]) (by simp [go_sem, *])
              have : w.heap.size < w2.heap.size := by omega
              have : w.heap.size ≤ w2.heap.size := by omega
              have : w2.cell? ⟨w.heap.size, 1, none⟩ = some (.int .i64 0) := cell_kept hbw2 (by simp [go_sem, *])
              have : w2.frozen? ⟨w.heap.size, 1, none⟩ = false := free_kept hbw2 (v := .int .i64 0) (by simp [go_sem, *]) (by simp [go_sem, *])
              have : w.heap.size < w2.heap.size := by omega
              have : w.heap.size ≤ w2.heap.size := by omega
              have : w2.cell? ⟨w.heap.size, 2, none⟩ = some (.bool false) := cell_kept hbw2 (by simp [go_sem, *])
              have : w2.frozen? ⟨w.heap.size, 2, none⟩ = false := free_kept hbw2 (v := .bool false) (by simp [go_sem, *]) (by simp [go_sem, *])
              have : w.heap.size + 1 < w2.heap.size := by omega
              have : w.heap.size + 1 ≤ w2.heap.size := by omega
              have : w2.cell? ⟨w.heap.size + 1, 0, none⟩ = some (.int .i64 S) := cell_kept hbw2 (by simp [go_sem, *])
              have : w2.frozen? ⟨w.heap.size + 1, 0, none⟩ = false := free_kept hbw2 (v := .int .i64 S) (by simp [go_sem, *]) (by simp [go_sem, *])
              have : w.heap.size + 1 < w2.heap.size := by omega
              have : w.heap.size + 1 ≤ w2.heap.size := by omega
              have : w2.cell? ⟨w.heap.size + 1, 1, none⟩ = some (.int .i64 N) := cell_kept hbw2 (by simp [go_sem, *])
              have : w2.frozen? ⟨w.heap.size + 1, 1, none⟩ = false := free_kept hbw2 (v := .int .i64 N) (by simp [go_sem, *]) (by simp [go_sem, *])
              go_wp2_with fail
              refine (HT.out _).mono ?_
              rintro e w3 ⟨rfl, hbw3⟩
              have hzw3 := hbw3.size
              try simp at hzw3
              have : w.heap.size < w3.heap.size := by omega
              have : w.heap.size ≤ w3.heap.size := by omega
              have : w3.cell? ⟨w.heap.size, 0, none⟩ = some (.int .i64 0) := cell_kept hbw3 (by simp [go_sem, *])
              have : w3.frozen? ⟨w.heap.size, 0, none⟩ = false := free_kept hbw3 (v := .int .i64 0) (by simp [go_sem, *]) (by simp [go_sem, *])
              have : w.heap.size < w3.heap.size := by omega
              have : w.heap.size ≤ w3.heap.size := by omega
              have : w3.cell? ⟨w.heap.size, 1, none⟩ = some (.int .i64 0) := cell_kept hbw3 (by simp [go_sem, *])
              have : w3.frozen? ⟨w.heap.size, 1, none⟩ = false := free_kept hbw3 (v := .int .i64 0) (by simp [go_sem, *]) (by simp [go_sem, *])
              have : w.heap.size < w3.heap.size := by omega
              have : w.heap.size ≤ w3.heap.size := by omega
              have : w3.cell? ⟨w.heap.size, 2, none⟩ = some (.bool false) := cell_kept hbw3 (by simp [go_sem, *])
              have : w3.frozen? ⟨w.heap.size, 2, none⟩ = false := free_kept hbw3 (v := .bool false) (by simp [go_sem, *]) (by simp [go_sem, *])
              have : w.heap.size + 1 < w3.heap.size := by omega
              have : w.heap.size + 1 ≤ w3.heap.size := by omega
              have : w3.cell? ⟨w.heap.size + 1, 0, none⟩ = some (.int .i64 S) := cell_kept hbw3 (by simp [go_sem, *])
              have : w3.frozen? ⟨w.heap.size + 1, 0, none⟩ = false := free_kept hbw3 (v := .int .i64 S) (by simp [go_sem, *]) (by simp [go_sem, *])
              have : w.heap.size + 1 < w3.heap.size := by omega
              have : w.heap.size + 1 ≤ w3.heap.size := by omega
              have : w3.cell? ⟨w.heap.size + 1, 1, none⟩ = some (.int .i64 N) := cell_kept hbw3 (by simp [go_sem, *])
              have : w3.frozen? ⟨w.heap.size + 1, 1, none⟩ = false := free_kept hbw3 (v := .int .i64 N) (by simp [go_sem, *]) (by simp [go_sem, *])
              go_wp2_with fail
              exact bodyPost_ret (v := .agg #[.int .i64 0, .int .i64 0, .bool false]) (by simp [results, Tryd.results12, go_sem, *]) rfl ⟨by rw [HO.out], by (repeat' (first | exact Below.refl _ _ | assumption | refine gr_drew ?_ | refine gr_drewN ?_ _ | refine gr_alloc ?_ _ | refine gr_set ?_ ?_ _ | refine gr_call ?_ (by assumption)) <;> (try (simp; done)) <;> (try (simp; omega)) <;> (try omega))⟩
            · have HO := Lib.hid (show timeOf s.data.toList = .agg #[.int .i64 (rS s.data.toList), .int .i64 (rN s.data.toList), .bool true] by unfold timeOf rOk; rw [hm, ht]; rfl)
              have h1 : (textF (rS s.data.toList) (rN s.data.toList) == s.toList) = true := by rw [ByteArray.toList_eq]; simpa using ht
              clear hm ht
              generalize textF (rS s.data.toList) (rN s.data.toList) = T at *
              generalize rS s.data.toList = S at *
              generalize rN s.data.toList = N at *
              go_wp2_with fail
              refine (HM.out _).mono ?_
              rintro e w2 ⟨rfl, hbw2⟩
              have hzw2 := hbw2.size
              try simp at hzw2
              have : w.heap.size < w2.heap.size := by omega
              have : w.heap.size ≤ w2.heap.size := by omega
              have : w2.cell? ⟨w.heap.size, 0, none⟩ = some (.int .i64 0) := cell_kept hbw2 (by simp [go_sem, *])
              have : w2.frozen? ⟨w.heap.size, 0, none⟩ = false := free_kept hbw2 (v := .int .i64 0) (by simp [go_sem, *]) (by simp [go_sem, *])
              have : w.heap.size < w2.heap.size := by omega
              have : w.heap.size ≤ w2.heap.size := by omega
              have : w2.cell? ⟨w.heap.size, 1, none⟩ = some (.int .i64 0) := cell_kept hbw2 (by simp [go_sem, *])
              have : w2.frozen? ⟨w.heap.size, 1, none⟩ = false := free_kept hbw2 (v := .int .i64 0) (by simp [go_sem, *]) (by simp [go_sem, *])
              have : w.heap.size < w2.heap.size := by omega
              have : w.heap.size ≤ w2.heap.size := by omega
              have : w2.cell? ⟨w.heap.size, 2, none⟩ = some (.bool false) := cell_kept hbw2 (by simp [go_sem, *])
              have : w2.frozen? ⟨w.heap.size, 2, none⟩ = false := free_kept hbw2 (v := .bool false) (by simp [go_sem, *]) (by simp [go_sem, *])
              have : w.heap.size + 1 < w2.heap.size := by omega
              have : w.heap.size + 1 ≤ w2.heap.size := by omega
              have : w2.cell? ⟨w.heap.size + 1, 0, none⟩ = some (.int .i64 S) := cell_kept hbw2 (by simp [go_sem, *])
              have : w2.frozen? ⟨w.heap.size + 1, 0, none⟩ = false := free_kept hbw2 (v := .int .i64 S) (by simp [go_sem, *]) (by simp [go_sem, *])
              have : w.heap.size + 1 < w2.heap.size := by omega
              have : w.heap.size + 1 ≤ w2.heap.size := by omega
              have : w2.cell? ⟨w.heap.size + 1, 1, none⟩ = some (.int .i64 N) := cell_kept hbw2 (by simp [go_sem, *])
              have : w2.frozen? ⟨w.heap.size + 1, 1, none⟩ = false := free_kept hbw2 (v := .int .i64 N) (by simp [go_sem, *]) (by simp [go_sem, *])
              go_wp2_with fail
              refine (HT.out _).mono ?_
              rintro e w3 ⟨rfl, hbw3⟩
              have hzw3 := hbw3.size
              try simp at hzw3
              have : w.heap.size < w3.heap.size := by omega
              have : w.heap.size ≤ w3.heap.size := by omega
              have : w3.cell? ⟨w.heap.size, 0, none⟩ = some (.int .i64 0) := cell_kept hbw3 (by simp [go_sem, *])
              have : w3.frozen? ⟨w.heap.size, 0, none⟩ = false := free_kept hbw3 (v := .int .i64 0) (by simp [go_sem, *]) (by simp [go_sem, *])
              have : w.heap.size < w3.heap.size := by omega
              have : w.heap.size ≤ w3.heap.size := by omega
              have : w3.cell? ⟨w.heap.size, 1, none⟩ = some (.int .i64 0) := cell_kept hbw3 (by simp [go_sem, *])
              have : w3.frozen? ⟨w.heap.size, 1, none⟩ = false := free_kept hbw3 (v := .int .i64 0) (by simp [go_sem, *]) (by simp [go_sem, *])
              have : w.heap.size < w3.heap.size := by omega
              have : w.heap.size ≤ w3.heap.size := by omega
              have : w3.cell? ⟨w.heap.size, 2, none⟩ = some (.bool false) := cell_kept hbw3 (by simp [go_sem, *])
              have : w3.frozen? ⟨w.heap.size, 2, none⟩ = false := free_kept hbw3 (v := .bool false) (by simp [go_sem, *]) (by simp [go_sem, *])
              have : w.heap.size + 1 < w3.heap.size := by omega
              have : w.heap.size + 1 ≤ w3.heap.size := by omega
              have : w3.cell? ⟨w.heap.size + 1, 0, none⟩ = some (.int .i64 S) := cell_kept hbw3 (by simp [go_sem, *])
              have : w3.frozen? ⟨w.heap.size + 1, 0, none⟩ = false := free_kept hbw3 (v := .int .i64 S) (by simp [go_sem, *]) (by simp [go_sem, *])
              have : w.heap.size + 1 < w3.heap.size := by omega
              have : w.heap.size + 1 ≤ w3.heap.size := by omega
              have : w3.cell? ⟨w.heap.size + 1, 1, none⟩ = some (.int .i64 N) := cell_kept hbw3 (by simp [go_sem, *])
              have : w3.frozen? ⟨w.heap.size + 1, 1, none⟩ = false := free_kept hbw3 (v := .int .i64 N) (by simp [go_sem, *]) (by simp [go_sem, *])
              go_wp2_with fail
              exact bodyPost_ret (v := .agg #[.int .i64 S, .int .i64 N, .bool true]) (by simp [results, Tryd.results12, go_sem, *]) rfl ⟨by rw [HO.out], by (repeat' (first | exact Below.refl _ _ | assumption | refine gr_drew ?_ | refine gr_drewN ?_ _ | refine gr_alloc ?_ _ | refine gr_set ?_ ?_ _ | refine gr_call ?_ (by assumption)) <;> (try (simp; done)) <;> (try (simp; omega)) <;> (try omega))⟩
theorem refParse_short (s : ByteArray) (w : World) (h : s.size = 0 ∨ 30 < s.size) :
    Calls Tryd.prog 12 #[.string s] w fun e w' => e = .returned (.agg #[.int .i64 0, .int .i64 0, .bool false]) ∧ Below w.heap.size w w' := by
  rcases hz : (((s.size : Nat) : Int) == 0) with _ | _
  · have h30 : 30 < s.size := by
      rcases h with h | h
      · rw [beq_eq_false_iff_ne] at hz; omega
      · exact h
    have h30' : decide ((30 : Int) < (s.size : Int)) = true := by simp; omega
    clear h
    go_enter Tryd.func12, Tryd.ntmps12
    go_wp2
    exact bodyPost_ret (v := .agg #[.int .i64 0, .int .i64 0, .bool false]) (by simp [results, Tryd.results12, go_sem, *]) rfl ⟨rfl, by (repeat' (first | exact Below.refl _ _ | assumption | refine gr_drew ?_ | refine gr_drewN ?_ _ | refine gr_alloc ?_ _ | refine gr_set ?_ ?_ _ | refine gr_call ?_ (by assumption)) <;> (try (simp; done)) <;> (try (simp; omega)) <;> (try omega))⟩
  · clear h
    go_enter Tryd.func12, Tryd.ntmps12
    go_wp2
    exact bodyPost_ret (v := .agg #[.int .i64 0, .int .i64 0, .bool false]) (by simp [results, Tryd.results12, go_sem, *]) rfl ⟨rfl, by (repeat' (first | exact Below.refl _ _ | assumption | refine gr_drew ?_ | refine gr_drewN ?_ _ | refine gr_alloc ?_ _ | refine gr_set ?_ ?_ _ | refine gr_call ?_ (by assumption)) <;> (try (simp; done)) <;> (try (simp; omega)) <;> (try omega))⟩
/-- What any text is, in the document's answer. -/
theorem refParse_yes (s : ByteArray) (w : World) (hok : parseOk s.data.toList = true) :
    Calls Tryd.prog 12 #[.string s] w fun e w' => e = .returned (.agg #[.int .i64 (guessS s.data.toList), .int .i64 (guessN s.data.toList), .bool true]) ∧ Below w.heap.size w w' := by
  have hl : ¬ (s.data.toList.length = 0 ∨ 30 < s.data.toList.length) := by
    intro h; rw [parse_len h] at hok; cases hok
  have hsz : s.data.toList.length = s.size := by simp
  obtain ⟨h1, h2, h3⟩ := rOk_of hok
  have ht : timeOf s.data.toList = .agg #[.int .i64 (guessS s.data.toList), .int .i64 (guessN s.data.toList), .bool true] := by
    unfold timeOf; rw [h1, h2, h3]; rfl
  rw [← ht]
  rcases hn : rNeg s.data.toList with _ | _
  · exact refParse_pos s w (by omega) (by omega) hn
  · exact refParse_neg s w (by omega) (by omega) hn
theorem refParse_no (s : ByteArray) (w : World) (hok : parseOk s.data.toList = false) :
    Calls Tryd.prog 12 #[.string s] w fun e w' => e = .returned (.agg #[.int .i64 0, .int .i64 0, .bool false]) ∧ Below w.heap.size w w' := by
  have ht : timeOf s.data.toList = .agg #[.int .i64 0, .int .i64 0, .bool false] := by
    unfold timeOf; rw [rOk_not hok]; rfl
  by_cases hl : s.size = 0 ∨ 30 < s.size
  · exact refParse_short s w hl
  · rw [← ht]
    rcases hn : rNeg s.data.toList with _ | _
    · exact refParse_pos s w (by omega) (by omega) hn
    · exact refParse_neg s w (by omega) (by omega) hn
end Go.Proofs.YtaobkniecgiplaaDoor
