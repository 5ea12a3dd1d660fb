/- The document's answer: the records of names with values. -/
import Derived.Test.YtobfbjfajdnhaaaXatRefMay
import Derived.Test.YtobfbjfajdnhaaaXatMath2
import Derived.Test.YtobfbjfajdnhaaaRegionR
import Derived.Test.YtobfbjfajdnhaaaSixRef
namespace Go.Proofs.Ytobfbjfajdnhaaa
open Go.RowKit
open XatM
set_option linter.unusedVariables false

theorem build_rec (a b : ByteArray) (w : World) : (Instr.build 27 #[(0, .string a), (1, .string b)]).run Try.prog w = .ok (.agg #[.string a, .string b]) w :=
  run_build w _ _ _ (by kernel_rfl)
theorem one_bytes (W : World) (a b : ByteArray) : At recE (.slice (some ⟨W.heap.size, 0, none⟩) 1 1) [(a.data.toList, b.data.toList)] (W.alloc (.cells #[.string a, .string b] 27)) := by
  have h := (one_rec W (a.data.toList, b.data.toList) 0 (Nat.zero_le _)).at
  simp only [strOf_self] at h
  exact h
theorem cell_below {B : Nat} {w w' : World} (hb : Below B w w') {a : Addr} {v : Value} (ha : a.block < B) (hc : w.cell? a = some v) : w'.cell? a = some v := by
  rw [World.cell?_of_block (hb.block a.block ha)]; exact hc
theorem flat_succ {l : List Xa} {i : Nat} (h : i < l.length) : (l.take (i + 1)).flatMap recOf = (l.take i).flatMap recOf ++ recOf l[i] := by
  rw [List.take_succ_eq_append_getElem h, List.flatMap_append]
  simp
attribute [local irreducible] Row At

set_option maxHeartbeats 6400000 in
set_option maxRecDepth 100000 in
theorem refRecsX_any (v : Value) (l : List Xa) (w : World) (hat : At xatE v l w) (hl : l.length ≤ 1000000) :
    Calls Try.prog 15 #[v] w fun e w' => (∃ v', e = .returned v' ∧ Row recE w.heap.size v' (recsL l) w') ∧ Below w.heap.size w w' := by
  have hm := Lib.hid (refMayX_any v l w hat hl)
  rcases hmay : mayL l with _ | _
  · rw [hmay] at hm
    have HE := Lib.hid (show recsL l = [] by unfold recsL; rw [hmay]; rfl)
    clear hmay
    go_enter Try.func15, Try.ntmps15
    go_wp2_with fail
    refine (hm.out).mono ?_
    rintro e w1 ⟨rfl, hb1⟩
    go_wp2_with fail
    go_ret
    exact ⟨⟨_, rfl, by rw [HE.out]; exact Row.nil _ _⟩, hb1⟩
  rw [hmay] at hm
  obtain ⟨hm1, hm2, _⟩ := may_parts hmay
  have Hok := Lib.hid (fun x (h : x ∈ l) => okX_parts (hm2 x h))
  have HE := Lib.hid (show recsL l = l.flatMap recOf by unfold recsL; rw [hmay]; rfl)
  obtain ⟨z, hz⟩ : ∃ z, l.length = z := ⟨_, rfl⟩
  obtain ⟨p0, cap, rfl, hcap, hcell⟩ := two_look xat_two hat
  rw [hz] at hl hm1 hcap hat hm ⊢
  have Hcell := Lib.hid hcell
  have Hz := Lib.hid hz
  have HT1 := Lib.hid (fun (N : ByteArray) (h : N.size ≤ 238) w => refHasAny_any N ⟨#[61]⟩ (by omega) (by decide) w)
  have HT2 := Lib.hid (fun (N : ByteArray) (h : N.size ≤ 238) w => EscW.refEscape_any N (by omega) w)
  have HT3 := Lib.hid (fun (N : ByteArray) (h : N.size ≤ 4096) w => SixW.refSixty_any N (by omega) w)
  obtain ⟨Z0, hZ0⟩ : ∃ O : ByteArray, (⟨#[61]⟩ : ByteArray) = O := ⟨_, rfl⟩
  have HZl := Lib.hid (show Z0.data.toList = [61] by rw [← hZ0])
  obtain ⟨SK, hSK⟩ : ∃ O : ByteArray, (⟨#[83, 67, 72, 73, 76, 89, 46, 120, 97, 116, 116, 114, 46]⟩ : ByteArray) = O := ⟨_, rfl⟩
  obtain ⟨LK, hLK⟩ : ∃ O : ByteArray, (⟨#[76, 73, 66, 65, 82, 67, 72, 73, 86, 69, 46, 120, 97, 116, 116, 114, 46]⟩ : ByteArray) = O := ⟨_, rfl⟩
  have HSl := Lib.hid (show SK.data.toList = sK ∧ SK.size = 13 by rw [← hSK]; exact ⟨rfl, rfl⟩)
  have HLl := Lib.hid (show LK.data.toList = lK ∧ LK.size = 17 by rw [← hLK]; exact ⟨rfl, rfl⟩)
  rw [hZ0] at HT1
  clear hcell hz hat hm2 hmay
  go_enter Try.func15, Try.ntmps15
  simp only [hZ0, hSK, hLK]
  clear hZ0 hSK hLK
  go_wp2_with fail
  refine (hm.out).mono ?_
  rintro e w1 ⟨rfl, hb1⟩
  clear hm
  go_wp2_with fail
  go_loopw [3, 4] (fun lv iv wr => ∃ (i : Nat) (acc : List Xa), iv = .int .i64 (i : Int) ∧ i ≤ z ∧ Row recE w.heap.size lv acc wr ∧ Below w.heap.size w wr ∧ acc.length ≤ 2 * i ∧ Hid ((l.take i).flatMap recOf = acc)) (fun _ iv _ => z - (intOf iv).toNat)
  case atStart => exact ⟨0, [], rfl, by omega, Row.nil _ _, hb1, by simp, Lib.hid (by simp)⟩
  case round =>
    clear hb1
    obtain ⟨i, acc, rfl, hi, hR, hbl, hacc, HR⟩ := hrel
    rename World => wr
    by_cases hlt : i < z
    · have hlt' : decide ((i : Int) < (z : Int)) = true := decide_eq_true (by omega)
      have hlt2 : decide (i < z) = true := decide_eq_true hlt
      have e3 : (i : Int) < (z : Int) := by omega
      have hi' : i < l.length := by rw [Hz.out]; exact hlt
      obtain ⟨g, off, rfl, hg, c0, c1⟩ := Hcell.out i hi'
      replace c0 := cell_kept hbl c0
      replace c1 := cell_kept hbl c1
      have hok := Hok.out l[i] (List.getElem_mem hi')
      have HF := Lib.hid (flat_succ hi')
      generalize l[i] = x at *
      obtain ⟨N, hN⟩ : ∃ N, strOf x.1 = N := ⟨_, rfl⟩
      obtain ⟨V, hV⟩ : ∃ V, strOf x.2 = V := ⟨_, rfl⟩
      have hNl : N.data.toList = x.1 := by rw [← hN, strOf_list]
      have hVl : V.data.toList = x.2 := by rw [← hV, strOf_list]
      have hNs : N.size ≤ 238 := by rw [← hN, strOf_size]; exact hok.2.2.2.2
      have hVs : V.size ≤ 4096 := by rw [← hV, strOf_size]; exact hok.2.2.2.1
      rw [hN] at c0
      rw [hV] at c1
      have ht1 := Lib.hid (HT1.out N hNs)
      rw [HZl.out, any_one] at ht1
      have ht2 := Lib.hid (HT2.out N hNs)
      have ht3 := Lib.hid (HT3.out V hVs)
      have hp1 : (EscM.put N.data.toList).length ≤ 238 := by rw [hNl]; exact hok.2.2.1
      obtain ⟨E1, hE1e⟩ : ∃ P : ByteArray, ⟨(EscM.put N.data.toList).toArray⟩ = P := ⟨_, rfl⟩
      obtain ⟨S1, hS1e⟩ : ∃ P : ByteArray, ⟨(SixM.p3 V.data.toList).toArray⟩ = P := ⟨_, rfl⟩
      have hE1l : E1.data.toList = EscM.put x.1 := by rw [← hE1e, ← hNl]
      have hS1l : S1.data.toList = SixM.p3 x.2 := by rw [← hS1e, ← hVl]
      have hE1s : E1.size ≤ 238 := by rw [← len_list, hE1l, ← hNl]; exact hp1
      rw [hE1e] at ht2
      rw [hS1e] at ht3
      have hE1 : Hid (∀ w, Calls Try.prog 28 #[.string N] w fun e w' => e = .returned (.string E1) ∧ Below w.heap.size w w') := Lib.hid ht2.out
      have hS1 : Hid (∀ w, Calls Try.prog 20 #[.string V] w fun e w' => e = .returned (.string S1) ∧ Below w.heap.size w w') := Lib.hid ht3.out
      obtain ⟨KN, hKN⟩ : ∃ P : ByteArray, SK ++ N = P := ⟨_, rfl⟩
      obtain ⟨KE, hKE⟩ : ∃ P : ByteArray, LK ++ E1 = P := ⟨_, rfl⟩
      have hKNl : KN.data.toList = sK ++ x.1 := by rw [← hKN, bytes_list, HSl.out.1, hNl]
      have hKEl : KE.data.toList = lK ++ EscM.put x.1 := by rw [← hKE, bytes_list, HLl.out.1, hE1l]
      have s1 := HSl.out.2
      have s2 := HLl.out.2
      have q1 : ¬ 9223372036854775807 < SK.size + N.size := by omega
      have q2 : ¬ 9223372036854775807 < LK.size + E1.size := by omega
      have HLL : Hid (((l.take (i + 1)).flatMap recOf).length ≤ 2 * (i + 1)) := Lib.hid (by
        have := flat_len (l.take (i + 1))
        rw [List.length_take] at this
        omega)
      have Hj : Hid (acc.length ≤ 70) := Lib.hid (by omega)
      have HL8 := HLL
      clear hN hV hE1e hS1e ht2 ht3 hp1 hok hi' s1 s2 hacc
      rw [hNl] at ht1
      rcases hb : x.1.contains 61 with _ | _
      · rw [hb] at ht1
        have HXB : Hid ((l.take (i + 1)).flatMap recOf = (acc ++ [((KN.data.toList, V.data.toList) : Xa)]) ++ [((KE.data.toList, S1.data.toList) : Xa)]) := Lib.hid (by
          rw [HF.out, HR.out, hKNl, hVl, hKEl, hS1l]
          unfold recOf
          rw [hb]
          simp)
        clear hb hNl hVl hE1l hS1l hKNl hKEl HF HR
        go_wp2_with fail
        refine (ht1.out _).mono ?_
        rintro e w2 ⟨rfl, hb2⟩
        replace hR := hR.call hb2
        replace hbl := gr_call hbl hb2
        replace c0 := cell_kept hb2 c0
        replace c1 := cell_kept hb2 c1
        clear hb2 ht1
        obtain ⟨p, cp, hsh, _⟩ := hR.at.shape
        obtain ⟨j, hj⟩ : ∃ j, acc.length = j := ⟨_, rfl⟩
        rw [hj] at hsh
        clear hj
        subst hsh
        go_wp2_with fail
        refine region_twoRL (S := fun W => Below w2.heap.size w2 W) 14 (fun _ => false)
          [(fun W v => v = .slice p j cp),
             (fun W v => v = .slice (some ⟨g, off, none⟩) z cap),
             (fun W v => v = .int .i64 (i : Nat)),
             (fun W v => v = .pointer (some ⟨g, off + i * 2, none⟩)),
             (fun W v => v = .pointer (some ⟨g, off + i * 2, none⟩)),
             (fun W v => v = .string N),
             (fun W v => v = .string KN),
             (fun W v => v = .slice (some ⟨g, off, none⟩) z cap),
             (fun W v => v = .int .i64 (i : Nat)),
             (fun W v => v = .pointer (some ⟨g, off + i * 2, none⟩)),
             (fun W v => v = .pointer (some ⟨g, off + i * 2 + 1, none⟩)),
             (fun W v => v = .string V),
             (fun W v => v = .agg #[.string KN, .string V]),
             (fun W v => At recE v [(KN.data.toList, V.data.toList)] W)] (by rfl) (by kernel_rfl) (by kernel_rfl) (by kernel_rfl) (by kernel_rfl) (by rfl) (by rfl) (by kernel_rfl) (by kernel_rfl) (by kernel_rfl) ?hS ?hp ?hs ?he
        case hS => exact gr_drew (Below.refl _ _)
        case hp => repeat' (first | exact trivial | refine ⟨fun _ _ _ _ h => h, ?_⟩ | refine ⟨fun _ _ _ hb h => ?_, ?_⟩ | exact h.call hb)
        case hs =>
          simp only [List.take_succ_cons, List.take_zero]
          have C0 := c0
          have C1 := c1
          refine ⟨?_, ?_, ?_, ?_, ?_, ?_, ?_, ?_, ?_, ?_, ?_, ?_, ?_, ?_, trivial⟩
          · refine ⟨met_none rfl, ?_⟩
            intro a W K hS hd hf hK
            have e3 : a.tmps.getD 3 undef = .slice p j cp := hf 3 (by kernel_rfl)
            clear hd hf
            go_simp
            exact hK _ _ (Below.refl _ _) hS rfl (fun h => absurd h (by decide))
          · refine ⟨met_none rfl, ?_⟩
            intro a W K hS hd hf hK
            have e0 : a.tmps.getD 0 undef = .slice (some ⟨g, off, none⟩) z cap := hf 0 (by kernel_rfl)
            clear hd hf
            go_simp
            exact hK _ _ (Below.refl _ _) hS rfl (fun h => absurd h (by decide))
          · refine ⟨met_none rfl, ?_⟩
            intro a W K hS hd hf hK
            have e4 : a.tmps.getD 4 undef = .int .i64 (i : Nat) := hf 4 (by kernel_rfl)
            clear hd hf
            go_simp
            exact hK _ _ (Below.refl _ _) hS rfl (fun h => absurd h (by decide))
          · refine ⟨met_none rfl, ?_⟩
            intro a W K hS hd hf hK
            have e22 : a.tmps.getD 22 undef = .slice (some ⟨g, off, none⟩) z cap := hd ⟨1, .data⟩ (by simp) rfl
            have e23 : a.tmps.getD 23 undef = .int .i64 (i : Nat) := hd ⟨2, .data⟩ (by simp) rfl
            clear hd hf
            go_simp
            exact hK _ _ (Below.refl _ _) hS rfl (fun h => absurd h (by decide))
          · refine ⟨met_none rfl, ?_⟩
            intro a W K hS hd hf hK
            have e24 : a.tmps.getD 24 undef = .pointer (some ⟨g, off + i * 2, none⟩) := hd ⟨3, .data⟩ (by simp) rfl
            clear hd hf
            go_simp
            exact hK _ _ (Below.refl _ _) hS rfl (fun h => absurd h (by decide))
          · refine ⟨met_none rfl, ?_⟩
            intro a W K hS hd hf hK
            have e25 : a.tmps.getD 25 undef = .pointer (some ⟨g, off + i * 2, none⟩) := hd ⟨4, .data⟩ (by simp) rfl
            have c0 := cell_kept hS C0
            clear hd hf
            go_simp
            exact hK _ _ (Below.refl _ _) hS rfl (fun h => absurd h (by decide))
          · refine ⟨met_none rfl, ?_⟩
            intro a W K hS hd hf hK
            have e26 : a.tmps.getD 26 undef = .string N := hd ⟨5, .data⟩ (by simp) rfl
            clear hd hf
            go_simp
            exact hK _ _ (Below.refl _ _) hS rfl (fun h => absurd h (by decide))
          · refine ⟨met_none rfl, ?_⟩
            intro a W K hS hd hf hK
            have e0 : a.tmps.getD 0 undef = .slice (some ⟨g, off, none⟩) z cap := hf 0 (by kernel_rfl)
            clear hd hf
            go_simp
            exact hK _ _ (Below.refl _ _) hS rfl (fun h => absurd h (by decide))
          · refine ⟨met_none rfl, ?_⟩
            intro a W K hS hd hf hK
            have e4 : a.tmps.getD 4 undef = .int .i64 (i : Nat) := hf 4 (by kernel_rfl)
            clear hd hf
            go_simp
            exact hK _ _ (Below.refl _ _) hS rfl (fun h => absurd h (by decide))
          · refine ⟨met_none rfl, ?_⟩
            intro a W K hS hd hf hK
            have e28 : a.tmps.getD 28 undef = .slice (some ⟨g, off, none⟩) z cap := hd ⟨7, .data⟩ (by simp) rfl
            have e29 : a.tmps.getD 29 undef = .int .i64 (i : Nat) := hd ⟨8, .data⟩ (by simp) rfl
            clear hd hf
            go_simp
            exact hK _ _ (Below.refl _ _) hS rfl (fun h => absurd h (by decide))
          · refine ⟨met_none rfl, ?_⟩
            intro a W K hS hd hf hK
            have e30 : a.tmps.getD 30 undef = .pointer (some ⟨g, off + i * 2, none⟩) := hd ⟨9, .data⟩ (by simp) rfl
            clear hd hf
            go_simp
            exact hK _ _ (Below.refl _ _) hS rfl (fun h => absurd h (by decide))
          · refine ⟨met_none rfl, ?_⟩
            intro a W K hS hd hf hK
            have e31 : a.tmps.getD 31 undef = .pointer (some ⟨g, off + i * 2 + 1, none⟩) := hd ⟨10, .data⟩ (by simp) rfl
            have c0 := cell_kept hS C1
            clear hd hf
            go_simp
            exact hK _ _ (Below.refl _ _) hS rfl (fun h => absurd h (by decide))
          · refine ⟨met_none rfl, ?_⟩
            intro a W K hS hd hf hK
            have e27 : a.tmps.getD 27 undef = .string KN := hd ⟨6, .data⟩ (by simp) rfl
            have e32 : a.tmps.getD 32 undef = .string V := hd ⟨11, .data⟩ (by simp) rfl
            have f1 := e27
            rw [Array.getD_eq_getD_getElem?] at f1
            have f2 := e32
            rw [Array.getD_eq_getD_getElem?] at f2
            have hbd := build_rec KN V
            clear hd hf
            go_simp
            exact hK _ _ (Below.refl _ _) hS rfl (fun h => absurd h (by decide))
          · refine ⟨met_none rfl, ?_⟩
            intro a W K hS hd hf hK
            have e33 : a.tmps.getD 33 undef = .agg #[.string KN, .string V] := hd ⟨12, .data⟩ (by simp) rfl
            have f1 := e33
            rw [Array.getD_eq_getD_getElem?] at f1
            clear hd hf
            go_simp
            exact hK _ _ ((Below.refl _ _).alloc (Nat.le_refl _) _) (gr_alloc hS _) (one_bytes W KN V) (fun h => absurd h (by decide))
        case he =>
          intro vals w7 K hS7 hV _ hK
          have eR := hV 0 (by omega)
          have aX := hV 13 (by omega)
          clear hV
          simp only [List.getD_cons_succ, List.getD_cons_zero] at eR aX
          have hR7 := hR.call hS7
          replace hbl := gr_call hbl hS7
          have hsz7 := hbl.size
          have hl7 : acc.length + [((KN.data.toList, V.data.toList) : Xa)].length ≤ 1000000 := by have := Hj.out; simp; omega
          replace c0 := cell_kept hS7 c0
          replace c1 := cell_kept hS7 c1
          clear hR hS7
          refine Later.mk ?_
          simp only [List.append_eq, List.cons_append, List.nil_append, setN, Nat.reduceAdd, List.setIfInBounds_toArray, List.set_cons_succ, List.set_cons_zero]
          rw [eR]
          refine wp_append_row recE (.tmp 21) (.tmp 34) rfl w.heap.size (.slice p j cp) (vals 13) acc [((KN.data.toList, V.data.toList) : Xa)] w7 (by rfl) hR7 (by rfl) aX hl7 hsz7 ?_
          intro v' w8 hR8 hb8 _ _
          clear eR aX
          replace c0 := cell_below hb8 (show (⟨g, off + i * 2, none⟩ : Addr).block < w.heap.size from hg) c0
          replace c1 := cell_below hb8 (show (⟨g, off + i * 2 + 1, none⟩ : Addr).block < w.heap.size from hg) c1
          replace hbl := hbl.trans hb8
          clear hR7 hb8
          refine hK _ _ ?_
          clear hK
          intro K' hK'
          go_simp
          refine hK' _ _ ?_
          clear hK'
          obtain ⟨acc2, hacc2⟩ : ∃ a, acc ++ [((KN.data.toList, V.data.toList) : Xa)] = a := ⟨_, rfl⟩
          rw [hacc2] at hR8
          have HX : Hid ((l.take (i + 1)).flatMap recOf = acc2 ++ [((KE.data.toList, S1.data.toList) : Xa)]) := Lib.hid (by rw [HXB.out, hacc2])
          have Hj2 : Hid (acc2.length ≤ 71) := Lib.hid (by rw [← hacc2, List.length_append]; have := Hj.out; simp; omega)
          clear hacc2 Hj HXB
          obtain ⟨p2, cp2, hsh2, _⟩ := hR8.at.shape
          obtain ⟨j2, hj2⟩ : ∃ j, acc2.length = j := ⟨_, rfl⟩
          rw [hj2] at hsh2
          clear hj2
          subst hsh2
          go_wp2_with fail
          refine region_twoRL (S := fun W => Below w8.heap.size w8 W) 16 (fun _ => false)
            [(fun W v => v = .slice p2 j2 cp2),
               (fun W v => v = .slice (some ⟨g, off, none⟩) z cap),
               (fun W v => v = .int .i64 (i : Nat)),
               (fun W v => v = .pointer (some ⟨g, off + i * 2, none⟩)),
               (fun W v => v = .pointer (some ⟨g, off + i * 2, none⟩)),
               (fun W v => v = .string N),
               (fun W v => v = .string E1),
               (fun W v => v = .string KE),
               (fun W v => v = .slice (some ⟨g, off, none⟩) z cap),
               (fun W v => v = .int .i64 (i : Nat)),
               (fun W v => v = .pointer (some ⟨g, off + i * 2, none⟩)),
               (fun W v => v = .pointer (some ⟨g, off + i * 2 + 1, none⟩)),
               (fun W v => v = .string V),
               (fun W v => v = .string S1),
               (fun W v => v = .agg #[.string KE, .string S1]),
               (fun W v => At recE v [(KE.data.toList, S1.data.toList)] W)] (by rfl) (by kernel_rfl) (by kernel_rfl) (by kernel_rfl) (by kernel_rfl) (by rfl) (by rfl) (by kernel_rfl) (by kernel_rfl) (by kernel_rfl) ?hS ?hp ?hs ?he
          case hS => exact gr_drew (Below.refl _ _)
          case hp => repeat' (first | exact trivial | refine ⟨fun _ _ _ _ h => h, ?_⟩ | refine ⟨fun _ _ _ hb h => ?_, ?_⟩ | exact h.call hb)
          case hs =>
            simp only [List.take_succ_cons, List.take_zero]
            have C0 := c0
            have C1 := c1
            refine ⟨?_, ?_, ?_, ?_, ?_, ?_, ?_, ?_, ?_, ?_, ?_, ?_, ?_, ?_, ?_, ?_, trivial⟩
            · refine ⟨met_none rfl, ?_⟩
              intro a W K hS hd hf hK
              have e3 : a.tmps.getD 3 undef = .slice p2 j2 cp2 := hf 3 (by kernel_rfl)
              clear hd hf
              go_simp
              exact hK _ _ (Below.refl _ _) hS rfl (fun h => absurd h (by decide))
            · refine ⟨met_none rfl, ?_⟩
              intro a W K hS hd hf hK
              have e0 : a.tmps.getD 0 undef = .slice (some ⟨g, off, none⟩) z cap := hf 0 (by kernel_rfl)
              clear hd hf
              go_simp
              exact hK _ _ (Below.refl _ _) hS rfl (fun h => absurd h (by decide))
            · refine ⟨met_none rfl, ?_⟩
              intro a W K hS hd hf hK
              have e4 : a.tmps.getD 4 undef = .int .i64 (i : Nat) := hf 4 (by kernel_rfl)
              clear hd hf
              go_simp
              exact hK _ _ (Below.refl _ _) hS rfl (fun h => absurd h (by decide))
            · refine ⟨met_none rfl, ?_⟩
              intro a W K hS hd hf hK
              have e37 : a.tmps.getD 37 undef = .slice (some ⟨g, off, none⟩) z cap := hd ⟨1, .data⟩ (by simp) rfl
              have e38 : a.tmps.getD 38 undef = .int .i64 (i : Nat) := hd ⟨2, .data⟩ (by simp) rfl
              clear hd hf
              go_simp
              exact hK _ _ (Below.refl _ _) hS rfl (fun h => absurd h (by decide))
            · refine ⟨met_none rfl, ?_⟩
              intro a W K hS hd hf hK
              have e39 : a.tmps.getD 39 undef = .pointer (some ⟨g, off + i * 2, none⟩) := hd ⟨3, .data⟩ (by simp) rfl
              clear hd hf
              go_simp
              exact hK _ _ (Below.refl _ _) hS rfl (fun h => absurd h (by decide))
            · refine ⟨met_none rfl, ?_⟩
              intro a W K hS hd hf hK
              have e40 : a.tmps.getD 40 undef = .pointer (some ⟨g, off + i * 2, none⟩) := hd ⟨4, .data⟩ (by simp) rfl
              have c0 := cell_kept hS C0
              clear hd hf
              go_simp
              exact hK _ _ (Below.refl _ _) hS rfl (fun h => absurd h (by decide))
            · refine ⟨met_none rfl, ?_⟩
              intro a W K hS hd hf hK
              have e41 : a.tmps.getD 41 undef = .string N := hd ⟨5, .data⟩ (by simp) rfl
              clear hd hf
              go_simp
              go_at_call 28
              refine (hE1.out _).mono ?_
              rintro e w1 ⟨rfl, hb⟩
              exact hK _ _ hb (gr_call hS hb) rfl (fun h => absurd h (by decide))
            · refine ⟨met_none rfl, ?_⟩
              intro a W K hS hd hf hK
              have e42 : a.tmps.getD 42 undef = .string E1 := hd ⟨6, .data⟩ (by simp) rfl
              clear hd hf
              go_simp
              exact hK _ _ (Below.refl _ _) hS rfl (fun h => absurd h (by decide))
            · refine ⟨met_none rfl, ?_⟩
              intro a W K hS hd hf hK
              have e0 : a.tmps.getD 0 undef = .slice (some ⟨g, off, none⟩) z cap := hf 0 (by kernel_rfl)
              clear hd hf
              go_simp
              exact hK _ _ (Below.refl _ _) hS rfl (fun h => absurd h (by decide))
            · refine ⟨met_none rfl, ?_⟩
              intro a W K hS hd hf hK
              have e4 : a.tmps.getD 4 undef = .int .i64 (i : Nat) := hf 4 (by kernel_rfl)
              clear hd hf
              go_simp
              exact hK _ _ (Below.refl _ _) hS rfl (fun h => absurd h (by decide))
            · refine ⟨met_none rfl, ?_⟩
              intro a W K hS hd hf hK
              have e44 : a.tmps.getD 44 undef = .slice (some ⟨g, off, none⟩) z cap := hd ⟨8, .data⟩ (by simp) rfl
              have e45 : a.tmps.getD 45 undef = .int .i64 (i : Nat) := hd ⟨9, .data⟩ (by simp) rfl
              clear hd hf
              go_simp
              exact hK _ _ (Below.refl _ _) hS rfl (fun h => absurd h (by decide))
            · refine ⟨met_none rfl, ?_⟩
              intro a W K hS hd hf hK
              have e46 : a.tmps.getD 46 undef = .pointer (some ⟨g, off + i * 2, none⟩) := hd ⟨10, .data⟩ (by simp) rfl
              clear hd hf
              go_simp
              exact hK _ _ (Below.refl _ _) hS rfl (fun h => absurd h (by decide))
            · refine ⟨met_none rfl, ?_⟩
              intro a W K hS hd hf hK
              have e47 : a.tmps.getD 47 undef = .pointer (some ⟨g, off + i * 2 + 1, none⟩) := hd ⟨11, .data⟩ (by simp) rfl
              have c0 := cell_kept hS C1
              clear hd hf
              go_simp
              exact hK _ _ (Below.refl _ _) hS rfl (fun h => absurd h (by decide))
            · refine ⟨met_none rfl, ?_⟩
              intro a W K hS hd hf hK
              have e48 : a.tmps.getD 48 undef = .string V := hd ⟨12, .data⟩ (by simp) rfl
              clear hd hf
              go_simp
              go_at_call 20
              refine (hS1.out _).mono ?_
              rintro e w1 ⟨rfl, hb⟩
              exact hK _ _ hb (gr_call hS hb) rfl (fun h => absurd h (by decide))
            · refine ⟨met_none rfl, ?_⟩
              intro a W K hS hd hf hK
              have e43 : a.tmps.getD 43 undef = .string KE := hd ⟨7, .data⟩ (by simp) rfl
              have e49 : a.tmps.getD 49 undef = .string S1 := hd ⟨13, .data⟩ (by simp) rfl
              have f1 := e43
              rw [Array.getD_eq_getD_getElem?] at f1
              have f2 := e49
              rw [Array.getD_eq_getD_getElem?] at f2
              have hbd := build_rec KE S1
              clear hd hf
              go_simp
              exact hK _ _ (Below.refl _ _) hS rfl (fun h => absurd h (by decide))
            · refine ⟨met_none rfl, ?_⟩
              intro a W K hS hd hf hK
              have e50 : a.tmps.getD 50 undef = .agg #[.string KE, .string S1] := hd ⟨14, .data⟩ (by simp) rfl
              have f1 := e50
              rw [Array.getD_eq_getD_getElem?] at f1
              clear hd hf
              go_simp
              exact hK _ _ ((Below.refl _ _).alloc (Nat.le_refl _) _) (gr_alloc hS _) (one_bytes W KE S1) (fun h => absurd h (by decide))
          case he =>
            intro vals w9 K hS9 hV _ hK
            have eR := hV 0 (by omega)
            have aX := hV 15 (by omega)
            clear hV
            simp only [List.getD_cons_succ, List.getD_cons_zero] at eR aX
            have hR9 := hR8.call hS9
            replace hbl := gr_call hbl hS9
            have hsz9 := hbl.size
            have hl9 : acc2.length + [((KE.data.toList, S1.data.toList) : Xa)].length ≤ 1000000 := by have := Hj2.out; simp; omega
            replace c0 := cell_kept hS9 c0
            replace c1 := cell_kept hS9 c1
            clear hR8 hS9
            refine Later.mk ?_
            simp only [List.append_eq, List.cons_append, List.nil_append, setN, Nat.reduceAdd, List.setIfInBounds_toArray, List.set_cons_succ, List.set_cons_zero]
            rw [eR]
            refine wp_append_row recE (.tmp 36) (.tmp 51) rfl w.heap.size (.slice p2 j2 cp2) (vals 15) acc2 [((KE.data.toList, S1.data.toList) : Xa)] w9 (by rfl) hR9 (by rfl) aX hl9 hsz9 ?_
            intro v' w10 hR10 hb10 _ _
            clear eR aX
            have hbl10 := hbl.trans hb10
            rw [← HX.out] at hR10
            have hl10 := HL8.out
            clear hR9 hbl hb10 c0 c1
            refine hK _ _ ?_
            clear hK
            intro K' hK'
            go_simp
            refine hK' _ _ ?_
            clear hK'
            go_wp2_with fail
            go_roundw
            case rel => exact ⟨i + 1, _, rfl, by omega, hR10, hbl10, hl10, Lib.hid rfl⟩
            case measure => simp only [intOf]; omega
      · rw [hb] at ht1
        have HX : Hid ((l.take (i + 1)).flatMap recOf = acc ++ [((KE.data.toList, S1.data.toList) : Xa)]) := Lib.hid (by
          rw [HF.out, HR.out, hKEl, hS1l]
          unfold recOf
          rw [hb]
          simp)
        clear hb hNl hVl hE1l hS1l hKNl hKEl HF HR
        go_wp2_with fail
        refine (ht1.out _).mono ?_
        rintro e w2 ⟨rfl, hb2⟩
        replace hR := hR.call hb2
        replace hbl := gr_call hbl hb2
        replace c0 := cell_kept hb2 c0
        replace c1 := cell_kept hb2 c1
        clear hb2 ht1
        obtain ⟨p, cp, hsh, _⟩ := hR.at.shape
        obtain ⟨j, hj⟩ : ∃ j, acc.length = j := ⟨_, rfl⟩
        rw [hj] at hsh
        clear hj
        subst hsh
        go_wp2_with fail
        refine region_twoRL (S := fun W => Below w2.heap.size w2 W) 16 (fun _ => false)
          [(fun W v => v = .slice p j cp),
             (fun W v => v = .slice (some ⟨g, off, none⟩) z cap),
             (fun W v => v = .int .i64 (i : Nat)),
             (fun W v => v = .pointer (some ⟨g, off + i * 2, none⟩)),
             (fun W v => v = .pointer (some ⟨g, off + i * 2, none⟩)),
             (fun W v => v = .string N),
             (fun W v => v = .string E1),
             (fun W v => v = .string KE),
             (fun W v => v = .slice (some ⟨g, off, none⟩) z cap),
             (fun W v => v = .int .i64 (i : Nat)),
             (fun W v => v = .pointer (some ⟨g, off + i * 2, none⟩)),
             (fun W v => v = .pointer (some ⟨g, off + i * 2 + 1, none⟩)),
             (fun W v => v = .string V),
             (fun W v => v = .string S1),
             (fun W v => v = .agg #[.string KE, .string S1]),
             (fun W v => At recE v [(KE.data.toList, S1.data.toList)] W)] (by rfl) (by kernel_rfl) (by kernel_rfl) (by kernel_rfl) (by kernel_rfl) (by rfl) (by rfl) (by kernel_rfl) (by kernel_rfl) (by kernel_rfl) ?hS ?hp ?hs ?he
        case hS => exact gr_drew (Below.refl _ _)
        case hp => repeat' (first | exact trivial | refine ⟨fun _ _ _ _ h => h, ?_⟩ | refine ⟨fun _ _ _ hb h => ?_, ?_⟩ | exact h.call hb)
        case hs =>
          simp only [List.take_succ_cons, List.take_zero]
          have C0 := c0
          have C1 := c1
          refine ⟨?_, ?_, ?_, ?_, ?_, ?_, ?_, ?_, ?_, ?_, ?_, ?_, ?_, ?_, ?_, ?_, trivial⟩
          · refine ⟨met_none rfl, ?_⟩
            intro a W K hS hd hf hK
            have e3 : a.tmps.getD 3 undef = .slice p j cp := hf 3 (by kernel_rfl)
            clear hd hf
            go_simp
            exact hK _ _ (Below.refl _ _) hS rfl (fun h => absurd h (by decide))
          · refine ⟨met_none rfl, ?_⟩
            intro a W K hS hd hf hK
            have e0 : a.tmps.getD 0 undef = .slice (some ⟨g, off, none⟩) z cap := hf 0 (by kernel_rfl)
            clear hd hf
            go_simp
            exact hK _ _ (Below.refl _ _) hS rfl (fun h => absurd h (by decide))
          · refine ⟨met_none rfl, ?_⟩
            intro a W K hS hd hf hK
            have e4 : a.tmps.getD 4 undef = .int .i64 (i : Nat) := hf 4 (by kernel_rfl)
            clear hd hf
            go_simp
            exact hK _ _ (Below.refl _ _) hS rfl (fun h => absurd h (by decide))
          · refine ⟨met_none rfl, ?_⟩
            intro a W K hS hd hf hK
            have e37 : a.tmps.getD 37 undef = .slice (some ⟨g, off, none⟩) z cap := hd ⟨1, .data⟩ (by simp) rfl
            have e38 : a.tmps.getD 38 undef = .int .i64 (i : Nat) := hd ⟨2, .data⟩ (by simp) rfl
            clear hd hf
            go_simp
            exact hK _ _ (Below.refl _ _) hS rfl (fun h => absurd h (by decide))
          · refine ⟨met_none rfl, ?_⟩
            intro a W K hS hd hf hK
            have e39 : a.tmps.getD 39 undef = .pointer (some ⟨g, off + i * 2, none⟩) := hd ⟨3, .data⟩ (by simp) rfl
            clear hd hf
            go_simp
            exact hK _ _ (Below.refl _ _) hS rfl (fun h => absurd h (by decide))
          · refine ⟨met_none rfl, ?_⟩
            intro a W K hS hd hf hK
            have e40 : a.tmps.getD 40 undef = .pointer (some ⟨g, off + i * 2, none⟩) := hd ⟨4, .data⟩ (by simp) rfl
            have c0 := cell_kept hS C0
            clear hd hf
            go_simp
            exact hK _ _ (Below.refl _ _) hS rfl (fun h => absurd h (by decide))
          · refine ⟨met_none rfl, ?_⟩
            intro a W K hS hd hf hK
            have e41 : a.tmps.getD 41 undef = .string N := hd ⟨5, .data⟩ (by simp) rfl
            clear hd hf
            go_simp
            go_at_call 28
            refine (hE1.out _).mono ?_
            rintro e w1 ⟨rfl, hb⟩
            exact hK _ _ hb (gr_call hS hb) rfl (fun h => absurd h (by decide))
          · refine ⟨met_none rfl, ?_⟩
            intro a W K hS hd hf hK
            have e42 : a.tmps.getD 42 undef = .string E1 := hd ⟨6, .data⟩ (by simp) rfl
            clear hd hf
            go_simp
            exact hK _ _ (Below.refl _ _) hS rfl (fun h => absurd h (by decide))
          · refine ⟨met_none rfl, ?_⟩
            intro a W K hS hd hf hK
            have e0 : a.tmps.getD 0 undef = .slice (some ⟨g, off, none⟩) z cap := hf 0 (by kernel_rfl)
            clear hd hf
            go_simp
            exact hK _ _ (Below.refl _ _) hS rfl (fun h => absurd h (by decide))
          · refine ⟨met_none rfl, ?_⟩
            intro a W K hS hd hf hK
            have e4 : a.tmps.getD 4 undef = .int .i64 (i : Nat) := hf 4 (by kernel_rfl)
            clear hd hf
            go_simp
            exact hK _ _ (Below.refl _ _) hS rfl (fun h => absurd h (by decide))
          · refine ⟨met_none rfl, ?_⟩
            intro a W K hS hd hf hK
            have e44 : a.tmps.getD 44 undef = .slice (some ⟨g, off, none⟩) z cap := hd ⟨8, .data⟩ (by simp) rfl
            have e45 : a.tmps.getD 45 undef = .int .i64 (i : Nat) := hd ⟨9, .data⟩ (by simp) rfl
            clear hd hf
            go_simp
            exact hK _ _ (Below.refl _ _) hS rfl (fun h => absurd h (by decide))
          · refine ⟨met_none rfl, ?_⟩
            intro a W K hS hd hf hK
            have e46 : a.tmps.getD 46 undef = .pointer (some ⟨g, off + i * 2, none⟩) := hd ⟨10, .data⟩ (by simp) rfl
            clear hd hf
            go_simp
            exact hK _ _ (Below.refl _ _) hS rfl (fun h => absurd h (by decide))
          · refine ⟨met_none rfl, ?_⟩
            intro a W K hS hd hf hK
            have e47 : a.tmps.getD 47 undef = .pointer (some ⟨g, off + i * 2 + 1, none⟩) := hd ⟨11, .data⟩ (by simp) rfl
            have c0 := cell_kept hS C1
            clear hd hf
            go_simp
            exact hK _ _ (Below.refl _ _) hS rfl (fun h => absurd h (by decide))
          · refine ⟨met_none rfl, ?_⟩
            intro a W K hS hd hf hK
            have e48 : a.tmps.getD 48 undef = .string V := hd ⟨12, .data⟩ (by simp) rfl
            clear hd hf
            go_simp
            go_at_call 20
            refine (hS1.out _).mono ?_
            rintro e w1 ⟨rfl, hb⟩
            exact hK _ _ hb (gr_call hS hb) rfl (fun h => absurd h (by decide))
          · refine ⟨met_none rfl, ?_⟩
            intro a W K hS hd hf hK
            have e43 : a.tmps.getD 43 undef = .string KE := hd ⟨7, .data⟩ (by simp) rfl
            have e49 : a.tmps.getD 49 undef = .string S1 := hd ⟨13, .data⟩ (by simp) rfl
            have f1 := e43
            rw [Array.getD_eq_getD_getElem?] at f1
            have f2 := e49
            rw [Array.getD_eq_getD_getElem?] at f2
            have hbd := build_rec KE S1
            clear hd hf
            go_simp
            exact hK _ _ (Below.refl _ _) hS rfl (fun h => absurd h (by decide))
          · refine ⟨met_none rfl, ?_⟩
            intro a W K hS hd hf hK
            have e50 : a.tmps.getD 50 undef = .agg #[.string KE, .string S1] := hd ⟨14, .data⟩ (by simp) rfl
            have f1 := e50
            rw [Array.getD_eq_getD_getElem?] at f1
            clear hd hf
            go_simp
            exact hK _ _ ((Below.refl _ _).alloc (Nat.le_refl _) _) (gr_alloc hS _) (one_bytes W KE S1) (fun h => absurd h (by decide))
        case he =>
          intro vals w7 K hS7 hV _ hK
          have eR := hV 0 (by omega)
          have aX := hV 15 (by omega)
          clear hV
          simp only [List.getD_cons_succ, List.getD_cons_zero] at eR aX
          have hR7 := hR.call hS7
          replace hbl := gr_call hbl hS7
          have hsz7 := hbl.size
          have hl7 : acc.length + [((KE.data.toList, S1.data.toList) : Xa)].length ≤ 1000000 := by have := Hj.out; simp; omega
          replace c0 := cell_kept hS7 c0
          replace c1 := cell_kept hS7 c1
          clear hR hS7
          refine Later.mk ?_
          simp only [List.append_eq, List.cons_append, List.nil_append, setN, Nat.reduceAdd, List.setIfInBounds_toArray, List.set_cons_succ, List.set_cons_zero]
          rw [eR]
          refine wp_append_row recE (.tmp 36) (.tmp 51) rfl w.heap.size (.slice p j cp) (vals 15) acc [((KE.data.toList, S1.data.toList) : Xa)] w7 (by rfl) hR7 (by rfl) aX hl7 hsz7 ?_
          intro v' w8 hR8 hb8 _ _
          clear eR aX
          have hbl8 := hbl.trans hb8
          rw [← HX.out] at hR8
          have hl8 := HL8.out
          clear hR7 hbl hb8 c0 c1
          refine hK _ _ ?_
          clear hK
          intro K' hK'
          go_simp
          refine hK' _ _ ?_
          clear hK'
          go_wp2_with fail
          go_roundw
          case rel => exact ⟨i + 1, _, rfl, by omega, hR8, hbl8, hl8, Lib.hid rfl⟩
          case measure => simp only [intOf]; omega
    · have hlt' : decide ((i : Int) < (z : Int)) = false := decide_eq_false (by omega)
      have hlt2 : decide (i < z) = false := decide_eq_false hlt
      have HN := Lib.hid (show recsL l = acc by rw [HE.out, ← HR.out, List.take_of_length_le (by rw [Hz.out]; omega)])
      clear HR Hcell
      go_wp2_with fail
      go_ret
      exact ⟨⟨_, rfl, by rw [HN.out]; exact hR⟩, hbl⟩
end Go.Proofs.Ytobfbjfajdnhaaa
