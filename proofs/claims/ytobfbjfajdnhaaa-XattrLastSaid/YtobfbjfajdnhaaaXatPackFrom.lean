/- Bundle of 4 texts. -/
import Derived.Test.YtobfbjfajdnhaaaXatGoRecs
import Derived.Test.YtobfbjfajdnhaaaXatMath2
import Derived.Test.YtobfbjfajdnhaaaRegionRQ
import Derived.Test.YtobfbjfajdnhaaaSixSaid
import Derived.Test.YtobfbjfajdnhaaaEscaGet
import Derived.Test.YtobfbjfajdnhaaaXatPackIns
import Derived.Test.YtobfbjfajdnhaaaXatPackMay
import Derived.Test.YtobfbjfajdnhaaaXatRefFrom
import Derived.Defers
import Derived.Recover
/- Package xattr: what a record says (decoded, decode). -/
namespace Go.Proofs.Ytobfbjfajdnhaaa
open Go.RowKit
open XatM
set_option linter.unusedVariables false

/-- What the reading panics with. -/
def noXat : List PanicEntry := [{ v := .iface 61 (.agg #[]), recovered := false }]
/-- How a record's reading ends. -/
def decEnd (o : Option (Option Xa)) (e : Ending) : Prop := match o with
  | none => e = .returned (.tuple #[.agg #[.string ⟨#[]⟩, .string ⟨#[]⟩], .bool false])
  | some none => e = .panicked noXat
  | some (some x) => e = .returned (.tuple #[twoV x, .bool true])
theorem pre_split {k p : List UInt8} (h : Lib.hasPrefix k p = true) : k = p ++ Lib.trimPrefix k p := by
  obtain ⟨t, rfl⟩ := List.isPrefixOf_iff_prefix.1 h
  rw [Lib.trimPrefix, if_pos h, List.drop_left' rfl]
theorem recX_no {k v : List UInt8} (h1 : Lib.hasPrefix k sK = false) (h2 : Lib.hasPrefix k lK = false) : recX (k, v) = none := by
  unfold recX
  have e1 : (decide (13 ≤ k.length) && decide (k.take 13 = sK)) = false := by
    rw [← h1, ← Lib.hasPrefix_of_take, Bool.eq_iff_iff]
    simp [show sK.length = 13 from rfl]
  have e2 : (decide (17 ≤ k.length) && decide (k.take 17 = lK)) = false := by
    rw [← h2, ← Lib.hasPrefix_of_take, Bool.eq_iff_iff]
    simp [show lK.length = 17 from rfl]
  have : isX k = false := by unfold isX; rw [e1, e2]; rfl
  simp only [this]
  rfl
theorem decoded_any (s : ByteArray) (b : Bool) (w : World) :
    Calls Try.prog 48 #[.string s, .bool b] w fun e w' => (match b with | true => e = .returned (.string s) | false => e = .panicked noXat) ∧ w' = w := by
  rcases b with _ | _
  · go_enter Try.func48, Try.ntmps48
    go_wp2_with fail
    exact ⟨rfl, rfl, rfl⟩
  · go_enter Try.func48, Try.ntmps48
    go_wp2_with fail
    go_ret
    exact ⟨rfl, rfl⟩
theorem buildX (a b : ByteArray) (w : World) : (Instr.build 42 #[(0, .string a), (1, .string b)]).run Try.prog w = .ok (.agg #[.string a, .string b]) w :=
  run_build w _ _ _ (by kernel_rfl)
theorem ret_one (o : Option (List UInt8)) : ∃ (NS : ByteArray) (b : Bool), (match o with | some l => Value.tuple #[.string ⟨l.toArray⟩, .bool true] | none => Value.tuple #[.string ⟨#[]⟩, .bool false]) = .tuple #[.string NS, .bool b] ∧ ((b = false → o = none) ∧ (b = true → o = some NS.data.toList)) := by
  cases o with
  | none => exact ⟨⟨#[]⟩, false, rfl, fun _ => rfl, (fun h => nomatch h)⟩
  | some l => exact ⟨⟨l.toArray⟩, true, rfl, (fun h => nomatch h), fun _ => rfl⟩
attribute [local irreducible] Row At

set_option maxHeartbeats 6400000 in
set_option maxRecDepth 100000 in
theorem decode_go (K V : ByteArray) (hK : K.size ≤ 30000) (hV : V.size ≤ 30000) (w : World) :
    Calls Try.prog 36 #[.agg #[.string K, .string V]] w fun e w' => decEnd (recX (K.data.toList, V.data.toList)) e ∧ Below w.heap.size w w' := by
  obtain ⟨SK, hSK⟩ : ∃ O : ByteArray, (⟨#[83, 67, 72, 73, 76, 89, 46, 120, 97, 116, 116, 114, 46]⟩ : ByteArray) = O := ⟨_, rfl⟩
  obtain ⟨LK, hLK⟩ : ∃ O : ByteArray, (⟨#[76, 73, 66, 65, 82, 67, 72, 73, 86, 69, 46, 120, 97, 116, 116, 114, 46]⟩ : ByteArray) = O := ⟨_, rfl⟩
  have HC1 := Lib.hid (cutPrefix_go K SK)
  have HC2 := Lib.hid (cutPrefix_go K LK)
  have hs : SK.data.toList = sK := by rw [← hSK]; rfl
  have hl : LK.data.toList = lK := by rw [← hLK]; rfl
  rw [hs] at HC1
  rw [hl] at HC2
  obtain ⟨k, hk⟩ : ∃ k, K.data.toList = k := ⟨_, rfl⟩
  obtain ⟨v, hv⟩ : ∃ v, V.data.toList = v := ⟨_, rfl⟩
  have hkl : k.length ≤ 30000 := by rw [← hk, len_list]; exact hK
  rw [hk] at HC1 HC2
  rw [hk, hv]
  clear hs hl
  have hx0 : Below w.heap.size w ((w.alloc (.cells #[.string K, .string V] 27)).alloc (.cells #[.string ⟨#[]⟩, .string ⟨#[]⟩] 42)) := by (repeat' (first | exact Below.refl _ _ | assumption | refine gr_drew ?_ | refine gr_drewN ?_ _ | refine gr_alloc ?_ _ | refine gr_set ?_ ?_ _ | refine gr_call ?_ (by assumption)) <;> (try (simp; done)) <;> (try (simp; omega)) <;> (try omega))
  have hcs : ((w.alloc (.cells #[.string K, .string V] 27)).alloc (.cells #[.string ⟨#[]⟩, .string ⟨#[]⟩] 42)).cell? ⟨w.heap.size, 1, none⟩ = some (.string V)
    ∧ ((w.alloc (.cells #[.string K, .string V] 27)).alloc (.cells #[.string ⟨#[]⟩, .string ⟨#[]⟩] 42)).cell? ⟨w.heap.size, 0, none⟩ = some (.string K)
    ∧ ((w.alloc (.cells #[.string K, .string V] 27)).alloc (.cells #[.string ⟨#[]⟩, .string ⟨#[]⟩] 42)).cell? ⟨w.heap.size + 1, 0, none⟩ = some (.string ⟨#[]⟩)
    ∧ ((w.alloc (.cells #[.string K, .string V] 27)).alloc (.cells #[.string ⟨#[]⟩, .string ⟨#[]⟩] 42)).cell? ⟨w.heap.size + 1, 1, none⟩ = some (.string ⟨#[]⟩)
    ∧ ((w.alloc (.cells #[.string K, .string V] 27)).alloc (.cells #[.string ⟨#[]⟩, .string ⟨#[]⟩] 42)).frozen? ⟨w.heap.size + 1, 0, none⟩ = false
    ∧ ((w.alloc (.cells #[.string K, .string V] 27)).alloc (.cells #[.string ⟨#[]⟩, .string ⟨#[]⟩] 42)).frozen? ⟨w.heap.size + 1, 1, none⟩ = false := by simp [go_sem]
  rcases h1 : Lib.hasPrefix k sK with _ | _
  case true =>
    have hsp := pre_split h1
    obtain ⟨t, ht⟩ : ∃ t, Lib.trimPrefix k sK = t := ⟨_, rfl⟩
    rw [ht] at hsp HC1
    rw [h1] at HC1
    obtain ⟨KS, hKS⟩ : ∃ O : ByteArray, (⟨t.toArray⟩ : ByteArray) = O := ⟨_, rfl⟩
    have htl : KS.data.toList = t := by rw [← hKS]
    have hts : KS.size ≤ 30000 := by
      rw [← len_list, htl]
      have := congrArg List.length hsp
      rw [List.length_append] at this
      omega
    have HF : Hid (decEnd (recX (k, v)) (.returned (.tuple #[.agg #[.string KS, .string V], .bool true]))) := Lib.hid (by
      rw [hsp, recX_s]
      show _ = _
      unfold twoV
      rw [← htl, ← hv, strOf_self, strOf_self])
    rw [hKS] at HC1
    have HCl1 := Lib.hid (fun w => clone_go KS w (by omega))
    have HCl2 := Lib.hid (fun w => clone_go V w (by omega))
    clear h1 hsp ht hKS htl hts hk hv hkl HC2
    go_enter Try.func36, Try.ntmps36
    simp only [hSK, hLK]
    clear hSK hLK
    go_wp2_with fail
    refine (HC1.out _).mono ?_
    rintro e w2 ⟨rfl, hw2⟩
    rw [← hw2] at hx0 hcs
    clear hw2
    have hB := hx0
    obtain ⟨C1, C0, D0, D1, Z0, Z1⟩ := hcs
    clear hx0 HC1
    go_wp2_with fail
    refine region_twoRQL (S := fun W => Below w2.heap.size w2 W) 6 (fun _ => false)
      [(fun W v => v = .string KS),
         (fun W v => v = .string KS),
         (fun W v => v = .pointer (some ⟨w.heap.size, 1, none⟩)),
         (fun W v => v = .string V),
         (fun W v => v = .string V),
         (fun W v => v = .agg #[.string KS, .string V])] (by rfl) (by kernel_rfl) (by kernel_rfl) (by kernel_rfl) (by kernel_rfl) (by rfl) (by rfl) (by kernel_rfl) (by kernel_rfl) (by kernel_rfl) ?hS ?hp ?hs ?he
    case hS => exact gr_drew (Below.refl _ _)
    case hp => repeat' (first | exact trivial | refine ⟨fun _ _ _ _ h => h, ?_⟩ | refine ⟨fun _ _ _ hb h => ?_, ?_⟩)
    case hs =>
      simp only [List.take_succ_cons, List.take_zero]
      refine ⟨?_, ?_, ?_, ?_, ?_, ?_, trivial⟩
      · refine ⟨met_none rfl, ?_⟩
        intro a W K hS hd hD hf hK
        have e4 : a.tmps.getD 4 undef = .string KS := hf 4 (by kernel_rfl)
        clear hd hf hD
        go_simp
        exact hK _ _ (Below.refl _ _) hS rfl (fun h => absurd h (by decide))
      · refine ⟨met_none rfl, ?_⟩
        intro a W K hS hd hD hf hK
        have e15 : a.tmps.getD 15 undef = .string KS := hd ⟨0, .data⟩ (by simp) rfl
        clear hd hf hD
        go_simp
        go_at_call 30
        refine (HCl1.out _).mono ?_
        rintro e w3 ⟨rfl, hb⟩
        exact hK _ _ hb (gr_call hS hb) rfl (fun h => absurd h (by decide))
      · refine ⟨met_none rfl, ?_⟩
        intro a W K hS hd hD hf hK
        have e1 : a.tmps.getD 1 undef = .pointer (some ⟨w.heap.size, 0, none⟩) := hf 1 (by kernel_rfl)
        clear hd hf hD
        go_simp
        exact hK _ _ (Below.refl _ _) hS rfl (fun h => absurd h (by decide))
      · refine ⟨met_none rfl, ?_⟩
        intro a W K hS hd hD hf hK
        have e17 : a.tmps.getD 17 undef = .pointer (some ⟨w.heap.size, 1, none⟩) := hd ⟨2, .data⟩ (by simp) rfl
        have c0 := cell_kept hS C1
        clear hd hf hD
        go_simp
        exact hK _ _ (Below.refl _ _) hS rfl (fun h => absurd h (by decide))
      · refine ⟨met_none rfl, ?_⟩
        intro a W K hS hd hD hf hK
        have e18 : a.tmps.getD 18 undef = .string V := hd ⟨3, .data⟩ (by simp) rfl
        clear hd hf hD
        go_simp
        go_at_call 30
        refine (HCl2.out _).mono ?_
        rintro e w3 ⟨rfl, hb⟩
        exact hK _ _ hb (gr_call hS hb) rfl (fun h => absurd h (by decide))
      · refine ⟨met_none rfl, ?_⟩
        intro a W K hS hd hD hf hK
        have e16 : a.tmps.getD 16 undef = .string KS := hd ⟨1, .data⟩ (by simp) rfl
        have e19 : a.tmps.getD 19 undef = .string V := hd ⟨4, .data⟩ (by simp) rfl
        have f1 := e16
        rw [Array.getD_eq_getD_getElem?] at f1
        have f2 := e19
        rw [Array.getD_eq_getD_getElem?] at f2
        have hbd := buildX KS V
        clear hd hf hD
        go_simp
        exact hK _ _ (Below.refl _ _) hS rfl (fun h => absurd h (by decide))
    case he =>
      intro vals w7 K' hS7 hV _ hK
      have eX := hV 5 (by omega)
      clear hV
      simp only [List.getD_cons_succ, List.getD_cons_zero] at eX
      skip
      have d0 := cell_kept hS7 D0
      have d1 := cell_kept hS7 D1
      have z0 := free_kept hS7 D0 Z0
      have z1 := free_kept hS7 D1 Z1
      have hb7 := gr_call hB hS7
      clear hS7
      refine Later.mk ?_
      simp only [List.append_eq, List.cons_append, List.nil_append, setN, Nat.reduceAdd, List.setIfInBounds_toArray, List.set_cons_succ, List.set_cons_zero]
      rw [eX]
      go_simp
      refine hK _ _ ?_
      clear hK
      intro K'' hK'
      go_simp
      refine hK' _ _ ?_
      clear hK'
      go_wp2_with fail
      have hbz : Below w.heap.size w ((w7.setCell ⟨w.heap.size + 1, 0, none⟩ (.string KS)).setCell ⟨w.heap.size + 1, 1, none⟩ (.string V)) := gr_set (gr_set hb7 (p := ⟨w.heap.size + 1, 0, none⟩) (by show _ ≤ w.heap.size + 1; omega) _) (p := ⟨w.heap.size + 1, 1, none⟩) (by show _ ≤ w.heap.size + 1; omega) _
      refine bodyPost_ret (v := .tuple #[.agg #[.string KS, .string V], .bool true]) (by simp [results, Try.results36, go_sem, d0, d1, z0, z1]) rfl ⟨HF.out, hbz⟩
  rcases h2 : Lib.hasPrefix k lK with _ | _
  case true =>
    have hsp := pre_split h2
    obtain ⟨t, ht⟩ : ∃ t, Lib.trimPrefix k lK = t := ⟨_, rfl⟩
    rw [ht] at hsp HC2
    rw [h2] at HC2
    rw [h1] at HC1
    obtain ⟨KS, hKS⟩ : ∃ O : ByteArray, (⟨t.toArray⟩ : ByteArray) = O := ⟨_, rfl⟩
    have htl : KS.data.toList = t := by rw [← hKS]
    have hts : KS.size ≤ 30000 := by
      rw [← len_list, htl]
      have := congrArg List.length hsp
      rw [List.length_append] at this
      omega
    rw [hKS] at HC2
    have HG1' := Lib.hid (fun w => EscW.Get_any KS (by omega) w)
    have HG2' := Lib.hid (fun w => SixW.Get_any V (by omega) w)
    rw [htl] at HG1'
    rw [hv] at HG2'
    have hr := recX_l t v
    obtain ⟨NS, bn, hn1, hn2⟩ := ret_one (EscM.get t)
    obtain ⟨VS, bv, hv1, hv2⟩ := ret_one (SixM.get v)
    have HG1 : Hid (∀ w, Calls Try.prog 49 #[.string KS] w fun e w' => e = .returned (.tuple #[.string NS, .bool bn]) ∧ Below w.heap.size w w') := Lib.hid (fun w => by
      have h := HG1'.out w
      rw [show EscW.getRet (EscM.get t) = .tuple #[.string NS, .bool bn] from hn1] at h
      exact h)
    have HG2 : Hid (∀ w, Calls Try.prog 50 #[.string V] w fun e w' => e = .returned (.tuple #[.string VS, .bool bv]) ∧ Below w.heap.size w w') := Lib.hid (fun w => by
      have h := HG2'.out w
      rw [show SixW.getRet (SixM.get v) = .tuple #[.string VS, .bool bv] from hv1] at h
      exact h)
    rw [← hsp] at hr
    have HN : Hid (bn = false ∨ bv = false → recX (k, v) = some none) := Lib.hid (fun h => by
      rw [hr]
      rcases h with h | h
      · rw [hn2.1 h]
      · rw [hv2.1 h]; cases EscM.get t <;> rfl)
    have HY : Hid (bn = true → bv = true → decEnd (recX (k, v)) (.returned (.tuple #[.agg #[.string NS, .string VS], .bool true]))) := Lib.hid (fun h g => by
      rw [hr, hn2.2 h, hv2.2 g]
      show _ = _
      unfold twoV
      rw [strOf_self, strOf_self])
    obtain ⟨o, ho⟩ : ∃ o, recX (k, v) = o := ⟨_, rfl⟩
    rw [ho] at HN HY ⊢
    clear h1 h2 hsp ht hKS htl hts hk hv hkl HG1' HG2' hr hn1 hn2 hv1 hv2 ho
    go_enter Try.func36, Try.ntmps36
    simp only [hSK, hLK]
    clear hSK hLK
    go_wp2_with fail
    refine (HC1.out _).mono ?_
    rintro e w2 ⟨rfl, hw2⟩
    rw [← hw2] at hx0 hcs
    clear hw2
    have hB := hx0
    obtain ⟨C1, C0, D0, D1, Z0, Z1⟩ := hcs
    go_wp2_with fail
    refine (HC2.out _).mono ?_
    rintro e w2 ⟨rfl, rfl⟩
    clear hx0 HC1 HC2
    go_wp2_with fail
    refine region_twoRQL (S := fun W => Below w2.heap.size w2 W) 12 (fun _ => false)
      [(fun W v => v = .string KS),
         (fun W v => v = .tuple #[.string NS, .bool bn]),
         (fun W v => v = .string NS),
         (fun W v => v = .bool bn),
         (fun W v => bn = true ∧ v = .string NS),
         (fun W v => v = .pointer (some ⟨w.heap.size, 1, none⟩)),
         (fun W v => v = .string V),
         (fun W v => v = .tuple #[.string VS, .bool bv]),
         (fun W v => v = .string VS),
         (fun W v => v = .bool bv),
         (fun W v => bv = true ∧ v = .string VS),
         (fun W v => bn = true ∧ bv = true ∧ v = .agg #[.string NS, .string VS])] (by rfl) (by kernel_rfl) (by kernel_rfl) (by kernel_rfl) (by kernel_rfl) (by rfl) (by rfl) (by kernel_rfl) (by kernel_rfl) (by kernel_rfl) ?hS ?hp ?hs ?he
    case hS => exact gr_drew (Below.refl _ _)
    case hp => repeat' (first | exact trivial | refine ⟨fun _ _ _ _ h => h, ?_⟩ | refine ⟨fun _ _ _ hb h => ?_, ?_⟩)
    case hs =>
      simp only [List.take_succ_cons, List.take_zero]
      refine ⟨?_, ?_, ?_, ?_, ?_, ?_, ?_, ?_, ?_, ?_, ?_, ?_, trivial⟩
      · refine ⟨met_none rfl, ?_⟩
        intro a W K hS hd hD hf hK
        have e6 : a.tmps.getD 6 undef = .string KS := hf 6 (by kernel_rfl)
        clear hd hf hD
        go_simp
        exact hK _ _ (Below.refl _ _) hS rfl (fun h => absurd h (by decide))
      · refine ⟨met_none rfl, ?_⟩
        intro a W K hS hd hD hf hK
        have e28 : a.tmps.getD 28 undef = .string KS := hd ⟨0, .data⟩ (by simp) rfl
        clear hd hf hD
        go_simp
        go_at_call 49
        refine (HG1.out _).mono ?_
        rintro e w3 ⟨rfl, hb⟩
        exact hK _ _ hb (gr_call hS hb) rfl (fun h => absurd h (by decide))
      · refine ⟨met_none rfl, ?_⟩
        intro a W K hS hd hD hf hK
        have e29 : a.tmps.getD 29 undef = .tuple #[.string NS, .bool bn] := hd ⟨1, .data⟩ (by simp) rfl
        clear hd hf hD
        go_simp
        exact hK _ _ (Below.refl _ _) hS rfl (fun h => absurd h (by decide))
      · refine ⟨met_none rfl, ?_⟩
        intro a W K hS hd hD hf hK
        have e29 : a.tmps.getD 29 undef = .tuple #[.string NS, .bool bn] := hd ⟨1, .data⟩ (by simp) rfl
        clear hd hf hD
        go_simp
        exact hK _ _ (Below.refl _ _) hS rfl (fun h => absurd h (by decide))
      · refine ⟨met_none rfl, ?_⟩
        intro a W K hS hd hD hf hK
        have e30 : a.tmps.getD 30 undef = .string NS := hd ⟨2, .data⟩ (by simp) rfl
        have e31 : a.tmps.getD 31 undef = .bool bn := hd ⟨3, .data⟩ (by simp) rfl
        have HD := Lib.hid hD
        clear hd hf hD
        go_simp
        go_at_call 48
        refine (decoded_any NS bn _).mono ?_
        rintro e w3 ⟨he, rfl⟩
        rcases bn with _ | _
        · obtain rfl : e = .panicked noXat := he
          refine (show _ ∧ _ ∧ _ from ⟨HD.out, ?_, ?_⟩)
          · rw [HN.out (by simp)]; rfl
          · exact gr_call hB hS
        · obtain rfl : e = .returned (.string NS) := he
          exact hK _ _ (Below.refl _ _) hS ⟨rfl, rfl⟩ (fun h => absurd h (by decide))
      · refine ⟨met_none rfl, ?_⟩
        intro a W K hS hd hD hf hK
        have e1 : a.tmps.getD 1 undef = .pointer (some ⟨w.heap.size, 0, none⟩) := hf 1 (by kernel_rfl)
        clear hd hf hD
        go_simp
        exact hK _ _ (Below.refl _ _) hS rfl (fun h => absurd h (by decide))
      · refine ⟨met_none rfl, ?_⟩
        intro a W K hS hd hD hf hK
        have e33 : a.tmps.getD 33 undef = .pointer (some ⟨w.heap.size, 1, none⟩) := hd ⟨5, .data⟩ (by simp) rfl
        have c0 := cell_kept hS C1
        clear hd hf hD
        go_simp
        exact hK _ _ (Below.refl _ _) hS rfl (fun h => absurd h (by decide))
      · refine ⟨met_none rfl, ?_⟩
        intro a W K hS hd hD hf hK
        have e34 : a.tmps.getD 34 undef = .string V := hd ⟨6, .data⟩ (by simp) rfl
        clear hd hf hD
        go_simp
        go_at_call 50
        refine (HG2.out _).mono ?_
        rintro e w3 ⟨rfl, hb⟩
        exact hK _ _ hb (gr_call hS hb) rfl (fun h => absurd h (by decide))
      · refine ⟨met_none rfl, ?_⟩
        intro a W K hS hd hD hf hK
        have e35 : a.tmps.getD 35 undef = .tuple #[.string VS, .bool bv] := hd ⟨7, .data⟩ (by simp) rfl
        clear hd hf hD
        go_simp
        exact hK _ _ (Below.refl _ _) hS rfl (fun h => absurd h (by decide))
      · refine ⟨met_none rfl, ?_⟩
        intro a W K hS hd hD hf hK
        have e35 : a.tmps.getD 35 undef = .tuple #[.string VS, .bool bv] := hd ⟨7, .data⟩ (by simp) rfl
        clear hd hf hD
        go_simp
        exact hK _ _ (Below.refl _ _) hS rfl (fun h => absurd h (by decide))
      · refine ⟨met_none rfl, ?_⟩
        intro a W K hS hd hD hf hK
        have e36 : a.tmps.getD 36 undef = .string VS := hd ⟨8, .data⟩ (by simp) rfl
        have e37 : a.tmps.getD 37 undef = .bool bv := hd ⟨9, .data⟩ (by simp) rfl
        have HD := Lib.hid hD
        clear hd hf hD
        go_simp
        go_at_call 48
        refine (decoded_any VS bv _).mono ?_
        rintro e w3 ⟨he, rfl⟩
        rcases bv with _ | _
        · obtain rfl : e = .panicked noXat := he
          refine (show _ ∧ _ ∧ _ from ⟨HD.out, ?_, ?_⟩)
          · rw [HN.out (by simp)]; rfl
          · exact gr_call hB hS
        · obtain rfl : e = .returned (.string VS) := he
          exact hK _ _ (Below.refl _ _) hS ⟨rfl, rfl⟩ (fun h => absurd h (by decide))
      · refine ⟨met_none rfl, ?_⟩
        intro a W K hS hd hD hf hK
        have p32 := hd ⟨4, .data⟩ (by simp) rfl
        have p38 := hd ⟨10, .data⟩ (by simp) rfl
        obtain ⟨q1, e32⟩ := p32
        obtain ⟨q2, e38⟩ := p38
        replace e32 : a.tmps.getD 32 undef = .string NS := e32
        replace e38 : a.tmps.getD 38 undef = .string VS := e38
        have f1 := e32
        rw [Array.getD_eq_getD_getElem?] at f1
        have f2 := e38
        rw [Array.getD_eq_getD_getElem?] at f2
        have hbd := buildX NS VS
        clear hd hf hD
        go_simp
        exact hK _ _ (Below.refl _ _) hS ⟨q1, q2, rfl⟩ (fun h => absurd h (by decide))
    case he =>
      intro vals w7 K' hS7 hV _ hK
      have eX := hV 11 (by omega)
      clear hV
      simp only [List.getD_cons_succ, List.getD_cons_zero] at eX
      obtain ⟨q1, q2, eX⟩ := eX
      subst q1 q2
      have HF := Lib.hid (HY.out rfl rfl)
      clear HN HY
      have d0 := cell_kept hS7 D0
      have d1 := cell_kept hS7 D1
      have z0 := free_kept hS7 D0 Z0
      have z1 := free_kept hS7 D1 Z1
      have hb7 := gr_call hB hS7
      clear hS7
      refine Later.mk ?_
      simp only [List.append_eq, List.cons_append, List.nil_append, setN, Nat.reduceAdd, List.setIfInBounds_toArray, List.set_cons_succ, List.set_cons_zero]
      rw [eX]
      go_simp
      refine hK _ _ ?_
      clear hK
      intro K'' hK'
      go_simp
      refine hK' _ _ ?_
      clear hK'
      go_wp2_with fail
      have hbz : Below w.heap.size w ((w7.setCell ⟨w.heap.size + 1, 0, none⟩ (.string NS)).setCell ⟨w.heap.size + 1, 1, none⟩ (.string VS)) := gr_set (gr_set hb7 (p := ⟨w.heap.size + 1, 0, none⟩) (by show _ ≤ w.heap.size + 1; omega) _) (p := ⟨w.heap.size + 1, 1, none⟩) (by show _ ≤ w.heap.size + 1; omega) _
      refine bodyPost_ret (v := .tuple #[.agg #[.string NS, .string VS], .bool true]) (by simp [results, Try.results36, go_sem, d0, d1, z0, z1]) rfl ⟨HF.out, hbz⟩
  have HE := Lib.hid (recX_no (v := v) h1 h2)
  rw [h1] at HC1
  rw [h2] at HC2
  rw [HE.out]
  clear h1 h2 HE hk hv hcs
  go_enter Try.func36, Try.ntmps36
  simp only [hSK, hLK]
  clear hSK hLK
  go_wp2_with fail
  refine (HC1.out _).mono ?_
  rintro e w2 ⟨rfl, rfl⟩
  go_wp2_with fail
  refine (HC2.out _).mono ?_
  rintro e w2 ⟨rfl, rfl⟩
  go_wp2_with fail
  refine bodyPost_ret (v := .tuple #[.agg #[.string ⟨#[]⟩, .string ⟨#[]⟩], .bool false]) (by simp [results, Try.results36, go_sem]) rfl ⟨rfl, hx0⟩
end Go.Proofs.Ytobfbjfajdnhaaa

/- Package xattr: one more in its place (with). -/
namespace Go.Proofs.Ytobfbjfajdnhaaa
open Go.RowKit
open XatM
set_option linter.unusedVariables false

theorem put_at {l : List Xa} {a : Xa} : ∀ (i : Nat), i ≤ l.length → (∀ t (h : t < l.length), t < i → l[t].1 < a.1) → putX l a = l.take i ++ putX (l.drop i) a
  | 0, _, _ => by simp
  | i + 1, hi, h => put_step (by omega) (put_at i (by omega) (fun t ht hti => h t ht (by omega))) (h i (by omega) (by omega))
theorem put_hit {l : List Xa} {a : Xa} {i : Nat} (hs : Stand l a.1 i) (h : hitAt l a.1 i = true) : i < l.length ∧ putX l a = l.set i a := by
  obtain ⟨h1, h2, h3⟩ := hs
  by_cases hi : i < l.length
  · rw [hit_at hi, decide_eq_true_eq] at h
    refine ⟨hi, ?_⟩
    rw [put_same hi (put_at i h1 h2) h, List.drop_drop, List.set_eq_take_append_cons_drop, if_pos hi, List.append_assoc]
    rfl
  · rw [hit_no (by omega)] at h
    cases h
theorem put_new {l : List Xa} {a : Xa} {i : Nat} (hs : Stand l a.1 i) (h : hitAt l a.1 i = false) : putX l a = l.take i ++ [a] ++ l.drop i := by
  obtain ⟨h1, h2, h3⟩ := hs
  by_cases hi : i < l.length
  · rw [hit_at hi, decide_eq_false_iff_not] at h
    exact put_more hi (put_at i h1 h2) (h3 i hi (Nat.le_refl _)) h
  · rw [put_end (by omega) (put_at i h1 h2), List.drop_eq_nil_of_le (by omega)]
theorem cellsE_set (l : List Xa) (a : Xa) : ∀ (i : Nat), ((cellsE xatE l).set (i * 2) (.string (strOf a.1))).set (i * 2 + 1) (.string (strOf a.2)) = cellsE xatE (l.set i a) := by
  induction l with
  | nil => intro i; simp [cellsE]
  | cons x l ih =>
    intro i
    cases i with
    | zero => simp [cellsE, xatE]
    | succ i =>
      have e : (i + 1) * 2 = i * 2 + 2 := by omega
      have := ih i
      simp only [List.set_cons_succ, cellsE]
      rw [← this, e]
      simp [xatE]
theorem Row.set2 {B g n cap : Nat} {l : List Xa} {w : World} (h : Row xatE B (.slice (some ⟨g, 0, none⟩) n cap) l w) (hn : n = l.length) (i : Nat) (a : Xa) :
    Row xatE B (.slice (some ⟨g, 0, none⟩) n cap) (l.set i a) ((w.setCell ⟨g, i * 2, none⟩ (.string (strOf a.1))).setCell ⟨g, i * 2 + 1, none⟩ (.string (strOf a.2))) := by
  subst hn
  have h1 := (World.ownsRow.stored h (i * 2) (.string (strOf a.1))).1
  have h2 := (World.ownsRow.stored h1 (i * 2 + 1) (.string (strOf a.2))).1
  rw [cellsE_set] at h2
  unfold Row
  rw [List.length_set]
  exact h2
theorem Row.free {B g n cap : Nat} {l : List Xa} {w : World} (h : Row xatE B (.slice (some ⟨g, 0, none⟩) n cap) l w) (hn : n = l.length) (j : Nat) : w.frozen? ⟨g, j, none⟩ = false := by
  subst hn
  exact World.ownsRow.frozenAt h j
/-- How with ends. -/
def withEnd (B : Nat) (l : List Xa) (e : Ending) (w' : World) : Prop := if l.length ≤ 32 then ∃ v', e = .returned v' ∧ Row xatE B v' l w' else e = .panicked noXat
attribute [local irreducible] Row At

set_option maxHeartbeats 3200000 in
set_option maxRecDepth 100000 in
theorem with_any (B : Nat) (v : Value) (l : List Xa) (a : Xa) (w : World) (hrow : Row xatE B v l w) (hp : PW l) (hl : l.length ≤ 32) (hB : B ≤ w.heap.size) :
    Calls Try.prog 37 #[v, twoV a] w fun e w' => withEnd B (putX l a) e w' ∧ Below B w w' := by
  obtain ⟨N, hN⟩ : ∃ N, strOf a.1 = N := ⟨_, rfl⟩
  obtain ⟨V, hV⟩ : ∃ V, strOf a.2 = V := ⟨_, rfl⟩
  have hNl : N.data.toList = a.1 := by rw [← hN, strOf_list]
  have hx0 : Below w.heap.size w (w.alloc (.cells #[.string N, .string V] 42)) := gr_alloc (Below.refl _ _) _
  have hcs : (w.alloc (.cells #[.string N, .string V] 42)).cell? ⟨w.heap.size, 0, none⟩ = some (.string N)
    ∧ (w.alloc (.cells #[.string N, .string V] 42)).cell? ⟨w.heap.size, 1, none⟩ = some (.string V) := by simp [go_sem]
  have hse := Lib.hid (search_any cmpC v l N _ (hrow.at.call hx0) (by omega) hp)
  rw [hNl] at hse
  unfold twoV
  rw [hN, hV]
  have HN := Lib.hid hN
  have HV := Lib.hid hV
  clear hN hV hNl
  obtain ⟨p, cap, rfl, hcap⟩ := hrow.at.shape
  obtain ⟨n, hn⟩ : ∃ n, l.length = n := ⟨_, rfl⟩
  rw [hn] at hse hrow hcap hl ⊢
  have Hn := Lib.hid hn
  clear hn hp
  go_enter Try.func37, Try.ntmps37
  go_wp2_with fail
  refine (hse.out).mono ?_
  rintro e w2 ⟨⟨i, rfl, hst⟩, hb2⟩
  replace hrow := (hrow.call hx0).call hb2
  have hb : Below w.heap.size w w2 := gr_call hx0 hb2
  have c0 := cell_kept hb2 hcs.1
  have c1 := cell_kept hb2 hcs.2
  have hB2 : B ≤ w2.heap.size := Nat.le_trans hB hb.size
  have hbB := hb.mono hB
  clear hb2 hx0 hcs hse hb
  rcases hh : hitAt l a.1 i with _ | _
  case true =>
    obtain ⟨hi, hput⟩ := put_hit hst hh
    rcases hrow.kinds with ⟨_, e⟩ | ⟨g, cp, e⟩
    · rw [e] at hi; simp at hi
    simp only [Value.slice.injEq] at e
    obtain ⟨rfl, -, rfl⟩ := e
    obtain ⟨g', off, cp, e, _, hg, hj⟩ := two_open xat_two hrow.at (by intro e; rw [e] at hi; simp at hi)
    simp only [Value.slice.injEq, Option.some.injEq, Addr.mk.injEq, and_true] at e
    obtain ⟨⟨rfl, rfl⟩, -, rfl⟩ := e
    obtain ⟨d0, d1⟩ := hj i hi
    rw [Nat.zero_add] at d0 d1
    have z0 := hrow.free Hn.out.symm (i * 2)
    have z1 := hrow.free Hn.out.symm (i * 2 + 1)
    have hBg : B ≤ g := (hrow.lt g rfl).1
    have hR := hrow.set2 Hn.out.symm i a
    rw [HN.out, HV.out] at hR
    have hi0 : (0 : Int) ≤ (i : Int) := by omega
    have hi1 : (i : Int) < (n : Int) := by have := Hn.out; omega
    have hi2 : i < n := by have := Hn.out; omega
    have hbS : Below B w ((w2.setCell ⟨g, i * 2, none⟩ (.string N)).setCell ⟨g, i * 2 + 1, none⟩ (.string V)) := (hbB.setCell hBg _).setCell hBg _
    have HL := Lib.hid (show (putX l a).length ≤ 32 by rw [hput, List.length_set, Hn.out]; exact hl)
    have HP := Lib.hid hput
    clear hput hst hh hj hrow hbB hBg
    go_wp2_with fail
    go_ret
    refine ⟨?_, hbS⟩
    unfold withEnd
    rw [if_pos HL.out, HP.out]
    exact ⟨_, rfl, hR⟩
  case false =>
    have hput := put_new hst hh
    by_cases h32 : n = 32
    · have HE := Lib.hid (show ¬ (putX l a).length ≤ 32 by rw [hput]; simp; have := hst.1; have := Hn.out; omega)
      subst h32
      clear hput hst hh
      go_wp2_with fail
      exact ⟨rfl, by unfold withEnd; rw [if_neg HE.out]; rfl, hbB⟩
    · have f1 : ((n : Int) == 32) = false := by rw [beq_eq_false_iff_ne]; omega
      have f2 : (n == 32) = false := by rw [beq_eq_false_iff_ne]; exact h32
      have hi := hst.1
      have HL := Lib.hid (show (putX l a).length ≤ 32 by rw [hput]; simp; have := Hn.out; omega)
      have HP := Lib.hid hput
      clear hput hst hh
      have hB3 : Below B w2 (w2.alloc (.cells #[.string N, .string V] 42)) := (Below.refl B w2).alloc hB2 _
      have hins := Lib.hid (insert_any B (.slice p n cap) l i a w2.heap.size (w2.alloc (.cells #[.string N, .string V] 42)) (hrow.alloc _) hi (by rw [Hn.out]; omega) (by simp; omega)
        ⟨42, by rw [show (xaC a).toArray = #[.string N, .string V] by rw [← HN.out, ← HV.out]; rfl]; exact (show (w2.heap.push (Obj.cells #[.string N, .string V] 42 (0, 0)))[w2.heap.size]? = _ from Array.getElem?_push_size)⟩
        (fun e => by have := (hrow.lt _ e).2; omega))
      go_wp2_with fail
      refine (hins.out).mono ?_
      rintro e w3 ⟨⟨v', rfl, hR⟩, hb3⟩
      go_wp2_with fail
      go_ret
      refine ⟨?_, (hbB.trans hB3).trans hb3⟩
      unfold withEnd
      rw [if_pos HL.out, HP.out]
      exact ⟨_, rfl, hR⟩
end Go.Proofs.Ytobfbjfajdnhaaa

/- Package xattr: read. -/
namespace Go.Proofs.Ytobfbjfajdnhaaa
open Go.RowKit
open XatM
set_option linter.unusedVariables false

theorem put_ge (l : List Xa) (a : Xa) : l.length ≤ (putX l a).length := by
  induction l with
  | nil => simp
  | cons y l ih =>
    unfold putX
    split
    · simp only [List.length_cons]; omega
    · split <;> simp only [List.length_cons] <;> omega
theorem from_ge {acc l : List Xa} {rs : List Xa} (hf : fromGo acc rs = some l) : acc.length ≤ l.length := by
  induction rs generalizing acc with
  | nil => obtain rfl := Option.some.inj hf; exact Nat.le_refl _
  | cons r rs ih =>
    rcases hr : recX r with _ | _ | x
    · rw [from_cons_none hr] at hf; exact ih hf
    · rw [from_cons_bad hr] at hf; cases hf
    · rw [from_cons_some hr] at hf
      exact Nat.le_trans (put_ge acc x) (ih hf)
/-- What is left to say. -/
def restL (acc rs : List Xa) : Option (List Xa) := match fromGo acc rs with
  | some l => if mayL l then some l else none
  | none => none
theorem rest_none {acc rs : List Xa} {r : Xa} (h : recX r = none) : restL acc (r :: rs) = restL acc rs := by unfold restL; rw [from_cons_none h]
theorem rest_bad {acc rs : List Xa} {r : Xa} (h : recX r = some none) : restL acc (r :: rs) = none := by unfold restL; rw [from_cons_bad h]
theorem rest_some {acc rs : List Xa} {r x : Xa} (h : recX r = some (some x)) : restL acc (r :: rs) = restL (putX acc x) rs := by unfold restL; rw [from_cons_some h]
theorem rest_more {acc rs : List Xa} (h : ¬ acc.length ≤ 32) : restL acc rs = none := by
  unfold restL
  rcases hf : fromGo acc rs with _ | l
  · rfl
  · have := from_ge hf
    have hm : mayL l = false := by unfold mayL; rw [decide_eq_false (by omega)]; rfl
    simp only [hm]
    rfl
theorem rest_nil (acc : List Xa) : restL acc [] = if mayL acc then some acc else none := rfl
/-- How read ends. -/
def readEnd (B : Nat) (o : Option (List Xa)) (e : Ending) (w' : World) : Prop := match o with
  | some l => ∃ v, e = .returned v ∧ Row xatE B v l w'
  | none => e = .panicked noXat
attribute [local irreducible] Row At

set_option maxHeartbeats 3200000 in
set_option maxRecDepth 100000 in
theorem read_go (v : Value) (rs : List Xa) (w : World) (hat : At recE v rs w) (hl : rs.length ≤ 1000000) (hsz : ∀ x ∈ rs, x.1.length ≤ 20000 ∧ x.2.length ≤ 20000) :
    Calls Try.prog 22 #[v] w fun e w' => readEnd w.heap.size (fromL rs) e w' ∧ Below w.heap.size w w' := by
  obtain ⟨o, ho⟩ : ∃ o, fromL rs = o := ⟨_, rfl⟩
  have Ho := Lib.hid (show restL [] (rs.drop 0) = o by rw [List.drop_zero]; exact ho)
  rw [ho]
  clear ho
  obtain ⟨z, hz⟩ : ∃ z, rs.length = z := ⟨_, rfl⟩
  obtain ⟨p, cap, rfl, hcap, hcell⟩ := two_look rec_two hat
  rw [hz] at hl hcap hat ⊢
  have Hcell := Lib.hid hcell
  have Hz := Lib.hid hz
  have Hsz := Lib.hid hsz
  clear hcell hz hat hsz
  go_enter Try.func22, Try.ntmps22
  go_wp2_with fail
  go_loopw [3, 10] (fun lv iv wr => ∃ (i : Nat) (acc : List Xa), iv = .int .i64 (i : Int) ∧ i ≤ z ∧ Row xatE w.heap.size lv acc wr ∧ Below w.heap.size w wr ∧ acc.length ≤ 32 ∧ Hid (PW acc) ∧ Hid (restL acc (rs.drop i) = o)) (fun _ iv _ => z - (intOf iv).toNat)
  case atStart => exact ⟨0, [], rfl, by omega, Row.nil _ _, Below.refl _ _, by simp, Lib.hid List.Pairwise.nil, Lib.hid Ho.out⟩
  case round =>
    obtain ⟨i, acc, rfl, hi, hR, hbl, hacc, HP, HR⟩ := hrel
    rename World => wr
    obtain ⟨q, cp, hsh, _⟩ := hR.at.shape
    obtain ⟨j, hj⟩ : ∃ j, acc.length = j := ⟨_, rfl⟩
    rw [hj] at hsh
    clear hj
    subst hsh
    by_cases hlt : i < z
    · have hlt' : decide ((i : Int) < (z : Int)) = true := decide_eq_true (by omega)
      have hlt2 : decide (i < z) = true := decide_eq_true hlt
      have hi' : i < rs.length := by rw [Hz.out]; exact hlt
      obtain ⟨g, off, rfl, hg, c0, c1⟩ := Hcell.out i hi'
      replace c0 := cell_kept hbl c0
      replace c1 := cell_kept hbl c1
      obtain ⟨s0, s1⟩ := Hsz.out rs[i] (List.getElem_mem hi')
      have HD := Lib.hid (List.drop_eq_getElem_cons hi')
      obtain ⟨r, hr⟩ : ∃ r, rs[i] = r := ⟨_, rfl⟩
      rw [hr] at c0 c1 s0 s1 HD
      obtain ⟨K, hK⟩ : ∃ O, strOf r.1 = O := ⟨_, rfl⟩
      obtain ⟨V, hV⟩ : ∃ O, strOf r.2 = O := ⟨_, rfl⟩
      have hKV : (K.data.toList, V.data.toList) = r := by rw [← hK, ← hV, strOf_list, strOf_list]
      have hd := Lib.hid (fun W => decode_go K V (by rw [← hK, strOf_size]; omega) (by rw [← hV, strOf_size]; omega) W)
      rw [hKV] at hd
      rw [hK] at c0
      rw [hV] at c1
      clear hK hV hKV hr hi' s0 s1
      rcases hrec : recX r with _ | _ | x
      · have HN := Lib.hid (show restL acc (rs.drop (i + 1)) = o by rw [← HR.out, HD.out, rest_none hrec])
        rw [hrec] at hd
        clear hrec HD HR
        go_wp2_with fail
        refine (hd.out _).mono ?_
        rintro e w2 ⟨he, hb2⟩
        obtain rfl : e = .returned (.tuple #[.agg #[.string ⟨#[]⟩, .string ⟨#[]⟩], .bool false]) := he
        have hb3 : Below wr.heap.size wr w2 := (gr_alloc (Below.refl _ _) _).trans (hb2.mono (by simp))
        replace hR := hR.call hb3
        replace hbl := gr_call hbl hb3
        clear hb2 hb3 hd
        go_wp2_with fail
        go_roundw
        case rel => exact ⟨i + 1, acc, rfl, by omega, hR.alloc _, gr_alloc hbl _, hacc, HP, HN⟩
        case measure => simp only [intOf]; omega
      · have HN := Lib.hid (show none = o by rw [← HR.out, HD.out, rest_bad hrec])
        rw [hrec] at hd
        clear hrec HD HR
        go_wp2_with fail
        refine (hd.out _).mono ?_
        rintro e w2 ⟨he, hb2⟩
        obtain rfl : e = .panicked noXat := he
        have hb3 : Below wr.heap.size wr w2 := (gr_alloc (Below.refl _ _) _).trans (hb2.mono (by simp))
        replace hbl := gr_call hbl hb3
        clear hb2 hb3 hd
        go_wp2_with fail
        exact ⟨rfl, by rw [← HN.out]; rfl, hbl⟩
      · have HN := Lib.hid (show restL (putX acc x) (rs.drop (i + 1)) = o by rw [← HR.out, HD.out, rest_some hrec])
        have HP2 := Lib.hid (put_pw (a := x) HP.out)
        rw [hrec] at hd
        clear hrec HD HR
        have hw := Lib.hid (fun W (h : Row xatE w.heap.size (.slice q j cp) acc W) (hb : w.heap.size ≤ W.heap.size) => with_any w.heap.size (.slice q j cp) acc x W h HP.out hacc hb)
        obtain ⟨N, hN⟩ : ∃ O, strOf x.1 = O := ⟨_, rfl⟩
        obtain ⟨U, hU⟩ : ∃ O, strOf x.2 = O := ⟨_, rfl⟩
        have htv : twoV x = .agg #[.string N, .string U] := by unfold twoV; rw [hN, hU]
        have hd2 : Hid (∀ W, Calls Try.prog 36 #[.agg #[.string K, .string V]] W fun e w' => e = .returned (.tuple #[.agg #[.string N, .string U], .bool true]) ∧ Below W.heap.size W w') := Lib.hid (fun W => by
          have h := hd.out W
          rw [← htv]
          exact h)
        rw [htv] at hw
        clear hN hU htv hd
        go_wp2_with fail
        refine (hd2.out _).mono ?_
        rintro e w2 ⟨rfl, hb2⟩
        have hb3 : Below wr.heap.size wr w2 := (gr_alloc (Below.refl _ _) _).trans (hb2.mono (by simp))
        replace hR := hR.call hb3
        replace hbl := gr_call hbl hb3
        clear hb2 hb3 hd2
        have hw2 := Lib.hid (hw.out _ (hR.alloc (.cells #[.string N, .string U] 42)) (by have := hbl.size; simp; omega))
        have hbA : Below w.heap.size w (w2.alloc (.cells #[.string N, .string U] 42)) := gr_alloc hbl _
        clear hw hbl hR
        go_wp2_with fail
        refine (hw2.out).mono ?_
        rintro e w3 ⟨he, hb3⟩
        replace hbA := hbA.trans hb3
        clear hb3 hw2
        unfold withEnd at he
        by_cases h32 : (putX acc x).length ≤ 32
        · rw [if_pos h32] at he
          obtain ⟨v', rfl, hR⟩ := he
          go_wp2_with fail
          go_roundw
          case rel => exact ⟨i + 1, _, rfl, by omega, hR, hbA, h32, HP2, HN⟩
          case measure => simp only [intOf]; omega
        · rw [if_neg h32] at he
          subst he
          have HE := Lib.hid (show none = o by rw [← HN.out, rest_more h32])
          clear h32 HN
          go_wp2_with fail
          exact ⟨rfl, by rw [← HE.out]; rfl, hbA⟩
    · have hlt' : decide ((i : Int) < (z : Int)) = false := decide_eq_false (by omega)
      have hlt2 : decide (i < z) = false := decide_eq_false hlt
      have HN := Lib.hid (show (if mayL acc then some acc else none) = o by rw [← HR.out, List.drop_eq_nil_of_le (by rw [Hz.out]; omega), rest_nil])
      have hm := Lib.hid (MayX_go EscW.Put_any (.slice q j cp) acc wr hR.at (by omega))
      clear HR
      rcases hmy : mayL acc with _ | _
      · rw [hmy] at hm HN
        have HE : Hid (none = o) := Lib.hid HN.out
        clear HN hmy
        go_wp2_with fail
        refine (hm.out).mono ?_
        rintro e w2 ⟨rfl, hb2⟩
        replace hbl := gr_call hbl hb2
        clear hb2
        go_wp2_with fail
        exact ⟨rfl, by rw [← HE.out]; rfl, hbl⟩
      · rw [hmy] at hm HN
        have HE : Hid (some acc = o) := Lib.hid HN.out
        clear HN hmy
        go_wp2_with fail
        refine (hm.out).mono ?_
        rintro e w2 ⟨rfl, hb2⟩
        replace hbl := gr_call hbl hb2
        replace hR := hR.call hb2
        clear hb2
        go_wp2_with fail
        go_ret
        exact ⟨by rw [← HE.out]; exact ⟨_, rfl, hR⟩, hbl⟩
end Go.Proofs.Ytobfbjfajdnhaaa

/- Package xattr: From, its panic caught. -/
namespace Go.Proofs.Ytobfbjfajdnhaaa
open Go.RowKit
open XatM
set_option linter.unusedVariables false
attribute [local irreducible] Row At

theorem catch_panic (p : Addr) (x : Int) (u : TypeId) (pv : Value) (older : List PanicEntry) (w : World) (hc : w.cell? p = some (.int .i64 x)) (hz : w.frozen? p = false) :
    CallsD Try.prog 21 #[.pointer (some p)] (.panicking ({ v := .iface u pv, recovered := false } :: older)) w fun e u' w' =>
      e = .returned (.tuple #[]) ∧ u' = .panicking ({ v := .iface u pv, recovered := true } :: older) ∧ w' = w.setCell p (.int .i64 4) := by
  refine callsD_of_wpS Try.func21 rfl fun c₀ cs hu => ?_
  apply wpS_seq
  apply wpS_region
  simp [wpOpsS, go_sem, recoverD, hu, Try.ntmps21, Exit.thenS]
  refine wpS_cond (t := true) (by simp [Act.eval, Array.replicate]) ?_
  simp only [if_true]
  apply wpS_region
  simp [wpOpsS, go_sem, hc, hz, bodyPostS, results, Try.results21]
theorem catch_idle (p : Addr) (w : World) :
    CallsD Try.prog 21 #[.pointer (some p)] .returning w fun e u' w' => e = .returned (.tuple #[]) ∧ u' = .returning ∧ w' = w := by
  refine callsD_of_wpS Try.func21 rfl fun c₀ cs hu => ?_
  apply wpS_seq
  apply wpS_region
  simp [wpOpsS, go_sem, recoverD, hu, Try.ntmps21, Exit.thenS]
  refine wpS_cond (t := false) (by simp [Act.eval, Array.replicate]) ?_
  simp only [Bool.false_eq_true, if_false]
  refine wpS_of_wp (wp_skip ?_)
  cases c₀
  simp_all [bodyPostS, results, Try.results21]

/-- What From hands back. -/
def fromGoEnd (B : Nat) (o : Option (List Xa)) (e : Ending) (w' : World) : Prop := match o with
  | some l => ∃ v, e = .returned (.tuple #[v, .int .i64 0]) ∧ Row xatE B v l w'
  | none => e = .returned (.tuple #[.slice none 0 0, .int .i64 4])

set_option maxHeartbeats 1600000 in
theorem From_go (v : Value) (rs : List Xa) (w : World) (hat : At recE v rs w) (hl : rs.length ≤ 1000000) (hsz : ∀ x ∈ rs, x.1.length ≤ 20000 ∧ x.2.length ≤ 20000) :
    Calls Try.prog 9 #[v] w fun e w' => fromGoEnd w.heap.size (fromL rs) e w' ∧ Below w.heap.size w w' := by
  have hmf : ∀ (fn : Fn) (first cap : Array Value) (w : World), (Instr.makeFunc fn first cap).run Try.prog w = .ok (.func fn first cap) w := fun _ _ _ _ => rfl
  have hx0 : Below w.heap.size w (w.alloc (.cells #[.int .i64 0] 28)) := gr_alloc (Below.refl _ _) _
  have hp := Lib.hid (read_go v rs _ (hat.call hx0) hl hsz)
  clear hat hl hsz
  generalize fromL rs = o at *
  go_enter_defers Try.func9, Try.ntmps9
  go_wp2_with fail
  refine (hp.out).mono ?_
  rintro e w2 ⟨he, hb2⟩
  have hc2 : w2.cell? ⟨w.heap.size, 0, none⟩ = some (.int .i64 0) := cell_kept hb2 (by simp [go_sem])
  have hf2 : w2.frozen? ⟨w.heap.size, 0, none⟩ = false := free_kept hb2 (v := .int .i64 0) (by simp [go_sem]) (by simp [go_sem])
  have hs2 := hb2.size
  have hb : Below w.heap.size w w2 := gr_call hx0 hb2
  clear hp hx0
  rcases o with _ | l
  · obtain rfl : e = .panicked noXat := he
    clear hb2
    go_wp2_with fail
    refine leaves_cons (f := 21) (args := #[.pointer (some ⟨w.heap.size, 0, none⟩)]) (by simp) (by simp [go_sem]) ?_
    refine (catch_panic ⟨w.heap.size, 0, none⟩ 0 _ _ [] w2 hc2 hf2).mono ?_
    rintro e u' w'' ⟨rfl, rfl, rfl⟩
    simp [Leaves, settle, results, Try.results9, go_sem, noXat, hc2, hf2, fromGoEnd]
    exact hb.setCell (Nat.le_refl _) _
  · obtain ⟨v', rfl, hR⟩ := he
    have hR' := hR.mono (B' := w.heap.size + 1) (by simp)
    have hown : v'.ownBlock ≠ some w.heap.size := by
      intro e
      have := (hR'.lt _ e).1
      omega
    clear hb2 hR
    go_wp2_with fail
    refine leaves_cons (f := 21) (args := #[.pointer (some ⟨w.heap.size, 0, none⟩)]) (by simp) (by simp [go_sem]) ?_
    refine (catch_idle ⟨w.heap.size, 0, none⟩ _).mono ?_
    rintro e u' w'' ⟨rfl, rfl, rfl⟩
    simp [Leaves, settle, results, Try.results9, go_sem, hc2, hf2, fromGoEnd]
    exact ⟨(hR'.mono (Nat.le_succ _)).other (a := ⟨w.heap.size, 0, none⟩) hown _, hb.setCell (Nat.le_refl _) _⟩
end Go.Proofs.Ytobfbjfajdnhaaa
