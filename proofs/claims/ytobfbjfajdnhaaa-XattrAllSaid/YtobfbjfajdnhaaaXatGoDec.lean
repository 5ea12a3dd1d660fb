/- Package xattr: what a record says (decoded, decode). -/
import Derived.Test.YtobfbjfajdnhaaaXatGoRecs
import Derived.Test.YtobfbjfajdnhaaaXatMath2
import Derived.Test.YtobfbjfajdnhaaaRegionRQ
import Derived.Test.YtobfbjfajdnhaaaSixSaid
import Derived.Test.YtobfbjfajdnhaaaEscaGet
namespace Go.Proofs.Ytobfbjfajdnhaaa
open Go.RowKit
open XatM
set_option linter.unusedVariables false

/-- What the reading panics with. -/
def noXat : List PanicEntry := [{ v := .iface 61 (.agg #[]), recovered := false }]
/-- How a record's reading ends. -/
def decEnd (o : Option (Option Xa)) (e : Ending) : Prop := match o with
  | none => e = .returned (.tuple #[.agg #[.string ⟨#[]⟩, .string ⟨#[]⟩], .bool false])
  | some none => e = .panicked noXat
  | some (some x) => e = .returned (.tuple #[twoV x, .bool true])
theorem pre_split {k p : List UInt8} (h : Lib.hasPrefix k p = true) : k = p ++ Lib.trimPrefix k p := by
  obtain ⟨t, rfl⟩ := List.isPrefixOf_iff_prefix.1 h
  rw [Lib.trimPrefix, if_pos h, List.drop_left' rfl]
theorem recX_no {k v : List UInt8} (h1 : Lib.hasPrefix k sK = false) (h2 : Lib.hasPrefix k lK = false) : recX (k, v) = none := by
  unfold recX
  have e1 : (decide (13 ≤ k.length) && decide (k.take 13 = sK)) = false := by
    rw [← h1, ← Lib.hasPrefix_of_take, Bool.eq_iff_iff]
    simp [show sK.length = 13 from rfl]
  have e2 : (decide (17 ≤ k.length) && decide (k.take 17 = lK)) = false := by
    rw [← h2, ← Lib.hasPrefix_of_take, Bool.eq_iff_iff]
    simp [show lK.length = 17 from rfl]
  have : isX k = false := by unfold isX; rw [e1, e2]; rfl
  simp only [this]
  rfl
theorem decoded_any (s : ByteArray) (b : Bool) (w : World) :
    Calls Try.prog 48 #[.string s, .bool b] w fun e w' => (match b with | true => e = .returned (.string s) | false => e = .panicked noXat) ∧ w' = w := by
  rcases b with _ | _
  · go_enter Try.func48, Try.ntmps48
    go_wp2_with fail
    exact ⟨rfl, rfl, rfl⟩
  · go_enter Try.func48, Try.ntmps48
    go_wp2_with fail
    go_ret
    exact ⟨rfl, rfl⟩
theorem buildX (a b : ByteArray) (w : World) : (Instr.build 42 #[(0, .string a), (1, .string b)]).run Try.prog w = .ok (.agg #[.string a, .string b]) w :=
  run_build w _ _ _ (by kernel_rfl)
theorem ret_one (o : Option (List UInt8)) : ∃ (NS : ByteArray) (b : Bool), (match o with | some l => Value.tuple #[.string ⟨l.toArray⟩, .bool true] | none => Value.tuple #[.string ⟨#[]⟩, .bool false]) = .tuple #[.string NS, .bool b] ∧ ((b = false → o = none) ∧ (b = true → o = some NS.data.toList)) := by
  cases o with
  | none => exact ⟨⟨#[]⟩, false, rfl, fun _ => rfl, (fun h => nomatch h)⟩
  | some l => exact ⟨⟨l.toArray⟩, true, rfl, (fun h => nomatch h), fun _ => rfl⟩
attribute [local irreducible] Row At

set_option maxHeartbeats 6400000 in
set_option maxRecDepth 100000 in
theorem decode_go (K V : ByteArray) (hK : K.size ≤ 30000) (hV : V.size ≤ 30000) (w : World) :
    Calls Try.prog 36 #[.agg #[.string K, .string V]] w fun e w' => decEnd (recX (K.data.toList, V.data.toList)) e ∧ Below w.heap.size w w' := by
  obtain ⟨SK, hSK⟩ : ∃ O : ByteArray, (⟨#[83, 67, 72, 73, 76, 89, 46, 120, 97, 116, 116, 114, 46]⟩ : ByteArray) = O := ⟨_, rfl⟩
  obtain ⟨LK, hLK⟩ : ∃ O : ByteArray, (⟨#[76, 73, 66, 65, 82, 67, 72, 73, 86, 69, 46, 120, 97, 116, 116, 114, 46]⟩ : ByteArray) = O := ⟨_, rfl⟩
  have HC1 := Lib.hid (cutPrefix_go K SK)
  have HC2 := Lib.hid (cutPrefix_go K LK)
  have hs : SK.data.toList = sK := by rw [← hSK]; rfl
  have hl : LK.data.toList = lK := by rw [← hLK]; rfl
  rw [hs] at HC1
  rw [hl] at HC2
  obtain ⟨k, hk⟩ : ∃ k, K.data.toList = k := ⟨_, rfl⟩
  obtain ⟨v, hv⟩ : ∃ v, V.data.toList = v := ⟨_, rfl⟩
  have hkl : k.length ≤ 30000 := by rw [← hk, len_list]; exact hK
  rw [hk] at HC1 HC2
  rw [hk, hv]
  clear hs hl
  have hx0 : Below w.heap.size w ((w.alloc (.cells #[.string K, .string V] 27)).alloc (.cells #[.string ⟨#[]⟩, .string ⟨#[]⟩] 42)) := by (repeat' (first | exact Below.refl _ _ | assumption | refine gr_drew ?_ | refine gr_drewN ?_ _ | refine gr_alloc ?_ _ | refine gr_set ?_ ?_ _ | refine gr_call ?_ (by assumption)) <;> (try (simp; done)) <;> (try (simp; omega)) <;> (try omega))
  have hcs : ((w.alloc (.cells #[.string K, .string V] 27)).alloc (.cells #[.string ⟨#[]⟩, .string ⟨#[]⟩] 42)).cell? ⟨w.heap.size, 1, none⟩ = some (.string V)
    ∧ ((w.alloc (.cells #[.string K, .string V] 27)).alloc (.cells #[.string ⟨#[]⟩, .string ⟨#[]⟩] 42)).cell? ⟨w.heap.size, 0, none⟩ = some (.string K)
    ∧ ((w.alloc (.cells #[.string K, .string V] 27)).alloc (.cells #[.string ⟨#[]⟩, .string ⟨#[]⟩] 42)).cell? ⟨w.heap.size + 1, 0, none⟩ = some (.string ⟨#[]⟩)
    ∧ ((w.alloc (.cells #[.string K, .string V] 27)).alloc (.cells #[.string ⟨#[]⟩, .string ⟨#[]⟩] 42)).cell? ⟨w.heap.size + 1, 1, none⟩ = some (.string ⟨#[]⟩)
    ∧ ((w.alloc (.cells #[.string K, .string V] 27)).alloc (.cells #[.string ⟨#[]⟩, .string ⟨#[]⟩] 42)).frozen? ⟨w.heap.size + 1, 0, none⟩ = false
    ∧ ((w.alloc (.cells #[.string K, .string V] 27)).alloc (.cells #[.string ⟨#[]⟩, .string ⟨#[]⟩] 42)).frozen? ⟨w.heap.size + 1, 1, none⟩ = false := by simp [go_sem]
  rcases h1 : Lib.hasPrefix k sK with _ | _
  case true =>
    have hsp := pre_split h1
    obtain ⟨t, ht⟩ : ∃ t, Lib.trimPrefix k sK = t := ⟨_, rfl⟩
    rw [ht] at hsp HC1
    rw [h1] at HC1
    obtain ⟨KS, hKS⟩ : ∃ O : ByteArray, (⟨t.toArray⟩ : ByteArray) = O := ⟨_, rfl⟩
    have htl : KS.data.toList = t := by rw [← hKS]
    have hts : KS.size ≤ 30000 := by
      rw [← len_list, htl]
      have := congrArg List.length hsp
      rw [List.length_append] at this
      omega
    have HF : Hid (decEnd (recX (k, v)) (.returned (.tuple #[.agg #[.string KS, .string V], .bool true]))) := Lib.hid (by
      rw [hsp, recX_s]
      show _ = _
      unfold twoV
      rw [← htl, ← hv, strOf_self, strOf_self])
    rw [hKS] at HC1
    have HCl1 := Lib.hid (fun w => clone_go KS w (by omega))
    have HCl2 := Lib.hid (fun w => clone_go V w (by omega))
    clear h1 hsp ht hKS htl hts hk hv hkl HC2
    go_enter Try.func36, Try.ntmps36
    simp only [hSK, hLK]
    clear hSK hLK
    go_wp2_with fail
    refine (HC1.out _).mono ?_
    rintro e w2 ⟨rfl, hw2⟩
    rw [← hw2] at hx0 hcs
    clear hw2
    have hB := hx0
    obtain ⟨C1, C0, D0, D1, Z0, Z1⟩ := hcs
    clear hx0 HC1
    go_wp2_with fail
    refine region_twoRQL (S := fun W => Below w2.heap.size w2 W) 6 (fun _ => false)
      [(fun W v => v = .string KS),
         (fun W v => v = .string KS),
         (fun W v => v = .pointer (some ⟨w.heap.size, 1, none⟩)),
         (fun W v => v = .string V),
         (fun W v => v = .string V),
         (fun W v => v = .agg #[.string KS, .string V])] (by rfl) (by kernel_rfl) (by kernel_rfl) (by kernel_rfl) (by kernel_rfl) (by rfl) (by rfl) (by kernel_rfl) (by kernel_rfl) (by kernel_rfl) ?hS ?hp ?hs ?he
    case hS => exact gr_drew (Below.refl _ _)
    case hp => repeat' (first | exact trivial | refine ⟨fun _ _ _ _ h => h, ?_⟩ | refine ⟨fun _ _ _ hb h => ?_, ?_⟩)
    case hs =>
      simp only [List.take_succ_cons, List.take_zero]
      refine ⟨?_, ?_, ?_, ?_, ?_, ?_, trivial⟩
      · refine ⟨met_none rfl, ?_⟩
        intro a W K hS hd hD hf hK
        have e4 : a.tmps.getD 4 undef = .string KS := hf 4 (by kernel_rfl)
        clear hd hf hD
        go_simp
        exact hK _ _ (Below.refl _ _) hS rfl (fun h => absurd h (by decide))
      · refine ⟨met_none rfl, ?_⟩
        intro a W K hS hd hD hf hK
        have e15 : a.tmps.getD 15 undef = .string KS := hd ⟨0, .data⟩ (by simp) rfl
        clear hd hf hD
        go_simp
        go_at_call 30
        refine (HCl1.out _).mono ?_
        rintro e w3 ⟨rfl, hb⟩
        exact hK _ _ hb (gr_call hS hb) rfl (fun h => absurd h (by decide))
      · refine ⟨met_none rfl, ?_⟩
        intro a W K hS hd hD hf hK
        have e1 : a.tmps.getD 1 undef = .pointer (some ⟨w.heap.size, 0, none⟩) := hf 1 (by kernel_rfl)
        clear hd hf hD
        go_simp
        exact hK _ _ (Below.refl _ _) hS rfl (fun h => absurd h (by decide))
      · refine ⟨met_none rfl, ?_⟩
        intro a W K hS hd hD hf hK
        have e17 : a.tmps.getD 17 undef = .pointer (some ⟨w.heap.size, 1, none⟩) := hd ⟨2, .data⟩ (by simp) rfl
        have c0 := cell_kept hS C1
        clear hd hf hD
        go_simp
        exact hK _ _ (Below.refl _ _) hS rfl (fun h => absurd h (by decide))
      · refine ⟨met_none rfl, ?_⟩
        intro a W K hS hd hD hf hK
        have e18 : a.tmps.getD 18 undef = .string V := hd ⟨3, .data⟩ (by simp) rfl
        clear hd hf hD
        go_simp
        go_at_call 30
        refine (HCl2.out _).mono ?_
        rintro e w3 ⟨rfl, hb⟩
        exact hK _ _ hb (gr_call hS hb) rfl (fun h => absurd h (by decide))
      · refine ⟨met_none rfl, ?_⟩
        intro a W K hS hd hD hf hK
        have e16 : a.tmps.getD 16 undef = .string KS := hd ⟨1, .data⟩ (by simp) rfl
        have e19 : a.tmps.getD 19 undef = .string V := hd ⟨4, .data⟩ (by simp) rfl
        have f1 := e16
        rw [Array.getD_eq_getD_getElem?] at f1
        have f2 := e19
        rw [Array.getD_eq_getD_getElem?] at f2
        have hbd := buildX KS V
        clear hd hf hD
        go_simp
        exact hK _ _ (Below.refl _ _) hS rfl (fun h => absurd h (by decide))
    case he =>
      intro vals w7 K' hS7 hV _ hK
      have eX := hV 5 (by omega)
      clear hV
      simp only [List.getD_cons_succ, List.getD_cons_zero] at eX
      skip
      have d0 := cell_kept hS7 D0
      have d1 := cell_kept hS7 D1
      have z0 := free_kept hS7 D0 Z0
      have z1 := free_kept hS7 D1 Z1
      have hb7 := gr_call hB hS7
      clear hS7
      refine Later.mk ?_
      simp only [List.append_eq, List.cons_append, List.nil_append, setN, Nat.reduceAdd, List.setIfInBounds_toArray, List.set_cons_succ, List.set_cons_zero]
      rw [eX]
      go_simp
      refine hK _ _ ?_
      clear hK
      intro K'' hK'
      go_simp
      refine hK' _ _ ?_
      clear hK'
      go_wp2_with fail
      have hbz : Below w.heap.size w ((w7.setCell ⟨w.heap.size + 1, 0, none⟩ (.string KS)).setCell ⟨w.heap.size + 1, 1, none⟩ (.string V)) := gr_set (gr_set hb7 (p := ⟨w.heap.size + 1, 0, none⟩) (by show _ ≤ w.heap.size + 1; omega) _) (p := ⟨w.heap.size + 1, 1, none⟩) (by show _ ≤ w.heap.size + 1; omega) _
      refine bodyPost_ret (v := .tuple #[.agg #[.string KS, .string V], .bool true]) (by simp [results, Try.results36, go_sem, d0, d1, z0, z1]) rfl ⟨HF.out, hbz⟩
  rcases h2 : Lib.hasPrefix k lK with _ | _
  case true =>
    have hsp := pre_split h2
    obtain ⟨t, ht⟩ : ∃ t, Lib.trimPrefix k lK = t := ⟨_, rfl⟩
    rw [ht] at hsp HC2
    rw [h2] at HC2
    rw [h1] at HC1
    obtain ⟨KS, hKS⟩ : ∃ O : ByteArray, (⟨t.toArray⟩ : ByteArray) = O := ⟨_, rfl⟩
    have htl : KS.data.toList = t := by rw [← hKS]
    have hts : KS.size ≤ 30000 := by
      rw [← len_list, htl]
      have := congrArg List.length hsp
      rw [List.length_append] at this
      omega
    rw [hKS] at HC2
    have HG1' := Lib.hid (fun w => EscW.Get_any KS (by omega) w)
    have HG2' := Lib.hid (fun w => SixW.Get_any V (by omega) w)
    rw [htl] at HG1'
    rw [hv] at HG2'
    have hr := recX_l t v
    obtain ⟨NS, bn, hn1, hn2⟩ := ret_one (EscM.get t)
    obtain ⟨VS, bv, hv1, hv2⟩ := ret_one (SixM.get v)
    have HG1 : Hid (∀ w, Calls Try.prog 49 #[.string KS] w fun e w' => e = .returned (.tuple #[.string NS, .bool bn]) ∧ Below w.heap.size w w') := Lib.hid (fun w => by
      have h := HG1'.out w
      rw [show EscW.getRet (EscM.get t) = .tuple #[.string NS, .bool bn] from hn1] at h
      exact h)
    have HG2 : Hid (∀ w, Calls Try.prog 50 #[.string V] w fun e w' => e = .returned (.tuple #[.string VS, .bool bv]) ∧ Below w.heap.size w w') := Lib.hid (fun w => by
      have h := HG2'.out w
      rw [show SixW.getRet (SixM.get v) = .tuple #[.string VS, .bool bv] from hv1] at h
      exact h)
    rw [← hsp] at hr
    have HN : Hid (bn = false ∨ bv = false → recX (k, v) = some none) := Lib.hid (fun h => by
      rw [hr]
      rcases h with h | h
      · rw [hn2.1 h]
      · rw [hv2.1 h]; cases EscM.get t <;> rfl)
    have HY : Hid (bn = true → bv = true → decEnd (recX (k, v)) (.returned (.tuple #[.agg #[.string NS, .string VS], .bool true]))) := Lib.hid (fun h g => by
      rw [hr, hn2.2 h, hv2.2 g]
      show _ = _
      unfold twoV
      rw [strOf_self, strOf_self])
    obtain ⟨o, ho⟩ : ∃ o, recX (k, v) = o := ⟨_, rfl⟩
    rw [ho] at HN HY ⊢
    clear h1 h2 hsp ht hKS htl hts hk hv hkl HG1' HG2' hr hn1 hn2 hv1 hv2 ho
    go_enter Try.func36, Try.ntmps36
    simp only [hSK, hLK]
    clear hSK hLK
    go_wp2_with fail
    refine (HC1.out _).mono ?_
    rintro e w2 ⟨rfl, hw2⟩
    rw [← hw2] at hx0 hcs
    clear hw2
    have hB := hx0
    obtain ⟨C1, C0, D0, D1, Z0, Z1⟩ := hcs
    go_wp2_with fail
    refine (HC2.out _).mono ?_
    rintro e w2 ⟨rfl, rfl⟩
    clear hx0 HC1 HC2
    go_wp2_with fail
    refine region_twoRQL (S := fun W => Below w2.heap.size w2 W) 12 (fun _ => false)
      [(fun W v => v = .string KS),
         (fun W v => v = .tuple #[.string NS, .bool bn]),
         (fun W v => v = .string NS),
         (fun W v => v = .bool bn),
         (fun W v => bn = true ∧ v = .string NS),
         (fun W v => v = .pointer (some ⟨w.heap.size, 1, none⟩)),
         (fun W v => v = .string V),
         (fun W v => v = .tuple #[.string VS, .bool bv]),
         (fun W v => v = .string VS),
         (fun W v => v = .bool bv),
         (fun W v => bv = true ∧ v = .string VS),
         (fun W v => bn = true ∧ bv = true ∧ v = .agg #[.string NS, .string VS])] (by rfl) (by kernel_rfl) (by kernel_rfl) (by kernel_rfl) (by kernel_rfl) (by rfl) (by rfl) (by kernel_rfl) (by kernel_rfl) (by kernel_rfl) ?hS ?hp ?hs ?he
    case hS => exact gr_drew (Below.refl _ _)
    case hp => repeat' (first | exact trivial | refine ⟨fun _ _ _ _ h => h, ?_⟩ | refine ⟨fun _ _ _ hb h => ?_, ?_⟩)
    case hs =>
      simp only [List.take_succ_cons, List.take_zero]
      refine ⟨?_, ?_, ?_, ?_, ?_, ?_, ?_, ?_, ?_, ?_, ?_, ?_, trivial⟩
      · refine ⟨met_none rfl, ?_⟩
        intro a W K hS hd hD hf hK
        have e6 : a.tmps.getD 6 undef = .string KS := hf 6 (by kernel_rfl)
        clear hd hf hD
        go_simp
        exact hK _ _ (Below.refl _ _) hS rfl (fun h => absurd h (by decide))
      · refine ⟨met_none rfl, ?_⟩
        intro a W K hS hd hD hf hK
        have e28 : a.tmps.getD 28 undef = .string KS := hd ⟨0, .data⟩ (by simp) rfl
        clear hd hf hD
        go_simp
        go_at_call 49
        refine (HG1.out _).mono ?_
        rintro e w3 ⟨rfl, hb⟩
        exact hK _ _ hb (gr_call hS hb) rfl (fun h => absurd h (by decide))
      · refine ⟨met_none rfl, ?_⟩
        intro a W K hS hd hD hf hK
        have e29 : a.tmps.getD 29 undef = .tuple #[.string NS, .bool bn] := hd ⟨1, .data⟩ (by simp) rfl
        clear hd hf hD
        go_simp
        exact hK _ _ (Below.refl _ _) hS rfl (fun h => absurd h (by decide))
      · refine ⟨met_none rfl, ?_⟩
        intro a W K hS hd hD hf hK
        have e29 : a.tmps.getD 29 undef = .tuple #[.string NS, .bool bn] := hd ⟨1, .data⟩ (by simp) rfl
        clear hd hf hD
        go_simp
        exact hK _ _ (Below.refl _ _) hS rfl (fun h => absurd h (by decide))
      · refine ⟨met_none rfl, ?_⟩
        intro a W K hS hd hD hf hK
        have e30 : a.tmps.getD 30 undef = .string NS := hd ⟨2, .data⟩ (by simp) rfl
        have e31 : a.tmps.getD 31 undef = .bool bn := hd ⟨3, .data⟩ (by simp) rfl
        have HD := Lib.hid hD
        clear hd hf hD
        go_simp
        go_at_call 48
        refine (decoded_any NS bn _).mono ?_
        rintro e w3 ⟨he, rfl⟩
        rcases bn with _ | _
        · obtain rfl : e = .panicked noXat := he
          refine (show _ ∧ _ ∧ _ from ⟨HD.out, ?_, ?_⟩)
          · rw [HN.out (by simp)]; rfl
          · exact gr_call hB hS
        · obtain rfl : e = .returned (.string NS) := he
          exact hK _ _ (Below.refl _ _) hS ⟨rfl, rfl⟩ (fun h => absurd h (by decide))
      · refine ⟨met_none rfl, ?_⟩
        intro a W K hS hd hD hf hK
        have e1 : a.tmps.getD 1 undef = .pointer (some ⟨w.heap.size, 0, none⟩) := hf 1 (by kernel_rfl)
        clear hd hf hD
        go_simp
        exact hK _ _ (Below.refl _ _) hS rfl (fun h => absurd h (by decide))
      · refine ⟨met_none rfl, ?_⟩
        intro a W K hS hd hD hf hK
        have e33 : a.tmps.getD 33 undef = .pointer (some ⟨w.heap.size, 1, none⟩) := hd ⟨5, .data⟩ (by simp) rfl
        have c0 := cell_kept hS C1
        clear hd hf hD
        go_simp
        exact hK _ _ (Below.refl _ _) hS rfl (fun h => absurd h (by decide))
      · refine ⟨met_none rfl, ?_⟩
        intro a W K hS hd hD hf hK
        have e34 : a.tmps.getD 34 undef = .string V := hd ⟨6, .data⟩ (by simp) rfl
        clear hd hf hD
        go_simp
        go_at_call 50
        refine (HG2.out _).mono ?_
        rintro e w3 ⟨rfl, hb⟩
        exact hK _ _ hb (gr_call hS hb) rfl (fun h => absurd h (by decide))
      · refine ⟨met_none rfl, ?_⟩
        intro a W K hS hd hD hf hK
        have e35 : a.tmps.getD 35 undef = .tuple #[.string VS, .bool bv] := hd ⟨7, .data⟩ (by simp) rfl
        clear hd hf hD
        go_simp
        exact hK _ _ (Below.refl _ _) hS rfl (fun h => absurd h (by decide))
      · refine ⟨met_none rfl, ?_⟩
        intro a W K hS hd hD hf hK
        have e35 : a.tmps.getD 35 undef = .tuple #[.string VS, .bool bv] := hd ⟨7, .data⟩ (by simp) rfl
        clear hd hf hD
        go_simp
        exact hK _ _ (Below.refl _ _) hS rfl (fun h => absurd h (by decide))
      · refine ⟨met_none rfl, ?_⟩
        intro a W K hS hd hD hf hK
        have e36 : a.tmps.getD 36 undef = .string VS := hd ⟨8, .data⟩ (by simp) rfl
        have e37 : a.tmps.getD 37 undef = .bool bv := hd ⟨9, .data⟩ (by simp) rfl
        have HD := Lib.hid hD
        clear hd hf hD
        go_simp
        go_at_call 48
        refine (decoded_any VS bv _).mono ?_
        rintro e w3 ⟨he, rfl⟩
        rcases bv with _ | _
        · obtain rfl : e = .panicked noXat := he
          refine (show _ ∧ _ ∧ _ from ⟨HD.out, ?_, ?_⟩)
          · rw [HN.out (by simp)]; rfl
          · exact gr_call hB hS
        · obtain rfl : e = .returned (.string VS) := he
          exact hK _ _ (Below.refl _ _) hS ⟨rfl, rfl⟩ (fun h => absurd h (by decide))
      · refine ⟨met_none rfl, ?_⟩
        intro a W K hS hd hD hf hK
        have p32 := hd ⟨4, .data⟩ (by simp) rfl
        have p38 := hd ⟨10, .data⟩ (by simp) rfl
        obtain ⟨q1, e32⟩ := p32
        obtain ⟨q2, e38⟩ := p38
        replace e32 : a.tmps.getD 32 undef = .string NS := e32
        replace e38 : a.tmps.getD 38 undef = .string VS := e38
        have f1 := e32
        rw [Array.getD_eq_getD_getElem?] at f1
        have f2 := e38
        rw [Array.getD_eq_getD_getElem?] at f2
        have hbd := buildX NS VS
        clear hd hf hD
        go_simp
        exact hK _ _ (Below.refl _ _) hS ⟨q1, q2, rfl⟩ (fun h => absurd h (by decide))
    case he =>
      intro vals w7 K' hS7 hV _ hK
      have eX := hV 11 (by omega)
      clear hV
      simp only [List.getD_cons_succ, List.getD_cons_zero] at eX
      obtain ⟨q1, q2, eX⟩ := eX
      subst q1 q2
      have HF := Lib.hid (HY.out rfl rfl)
      clear HN HY
      have d0 := cell_kept hS7 D0
      have d1 := cell_kept hS7 D1
      have z0 := free_kept hS7 D0 Z0
      have z1 := free_kept hS7 D1 Z1
      have hb7 := gr_call hB hS7
      clear hS7
      refine Later.mk ?_
      simp only [List.append_eq, List.cons_append, List.nil_append, setN, Nat.reduceAdd, List.setIfInBounds_toArray, List.set_cons_succ, List.set_cons_zero]
      rw [eX]
      go_simp
      refine hK _ _ ?_
      clear hK
      intro K'' hK'
      go_simp
      refine hK' _ _ ?_
      clear hK'
      go_wp2_with fail
      have hbz : Below w.heap.size w ((w7.setCell ⟨w.heap.size + 1, 0, none⟩ (.string NS)).setCell ⟨w.heap.size + 1, 1, none⟩ (.string VS)) := gr_set (gr_set hb7 (p := ⟨w.heap.size + 1, 0, none⟩) (by show _ ≤ w.heap.size + 1; omega) _) (p := ⟨w.heap.size + 1, 1, none⟩) (by show _ ≤ w.heap.size + 1; omega) _
      refine bodyPost_ret (v := .tuple #[.agg #[.string NS, .string VS], .bool true]) (by simp [results, Try.results36, go_sem, d0, d1, z0, z1]) rfl ⟨HF.out, hbz⟩
  have HE := Lib.hid (recX_no (v := v) h1 h2)
  rw [h1] at HC1
  rw [h2] at HC2
  rw [HE.out]
  clear h1 h2 HE hk hv hcs
  go_enter Try.func36, Try.ntmps36
  simp only [hSK, hLK]
  clear hSK hLK
  go_wp2_with fail
  refine (HC1.out _).mono ?_
  rintro e w2 ⟨rfl, rfl⟩
  go_wp2_with fail
  refine (HC2.out _).mono ?_
  rintro e w2 ⟨rfl, rfl⟩
  go_wp2_with fail
  refine bodyPost_ret (v := .tuple #[.agg #[.string ⟨#[]⟩, .string ⟨#[]⟩], .bool false]) (by simp [results, Try.results36, go_sem]) rfl ⟨rfl, hx0⟩
end Go.Proofs.Ytobfbjfajdnhaaa
