/- Bundle of 3 texts. -/
import Derived.Test.YtbhnhoenjoagbaaGreatDoorPk18
import Derived.Test.YtbhnhoenjoagbaaGreatDoorPk19
import Derived.Test.YtbhnhoenjoagbaaGreatDoorPk20
import Derived.Test.YtbhnhoenjoagbaaGreatDoorPk12
import Derived.Test.YtbhnhoenjoagbaaGreatDoorPk14
import Derived.Test.YtbhnhoenjoagbaaGreatDoorPk16
/- Package xattr: Recs. -/
namespace Go.Proofs.YtbhnhoenjoagbaaGreatDoor.XatW
open Go.RowKit
open XatM
set_option linter.unusedVariables false

theorem cell_far_go {w w1 : World} {v : Value} {a : Addr} {u : Value} (hb : w.grownBy w1 v.ownBlock) (h : ∀ k, v.ownBlock = some k → k < a.block) (hc : w.cell? a = some u) : w1.cell? a = some u := by
  rw [World.grownBy.cell_far hb a (block_lt_of_cell hc) (fun e => by have := h _ e.symm; omega)]
  exact hc
attribute [local irreducible] Row At

set_option maxHeartbeats 6400000 in
set_option maxRecDepth 100000 in
theorem RecsX_go (v : Value) (l : List Xa) (w : World) (hat : At xatE v l w) (hl : l.length ≤ 1000000) :
    Calls Tryz.prog 72 #[v] w fun e w' => (∃ v', e = .returned v' ∧ Row recE w.heap.size v' (recsL l) w') ∧ Below w.heap.size w w' := by
  have hm := Lib.hid (MayX_go EscW.Put_any v l w hat hl)
  rcases hmay : mayL l with _ | _
  · rw [hmay] at hm
    have HE := Lib.hid (show recsL l = [] by unfold recsL; rw [hmay]; rfl)
    clear hmay
    go_enter Tryz.func72, Tryz.ntmps72
    go_wp2_with fail
    refine (hm.out).mono ?_
    rintro e w1 ⟨rfl, hb1⟩
    go_wp2_with fail
    go_ret
    exact ⟨⟨_, rfl, by rw [HE.out]; exact Row.nil _ _⟩, hb1⟩
  rw [hmay] at hm
  obtain ⟨hm1, hm2, _⟩ := may_parts hmay
  have Hok := Lib.hid (fun x (h : x ∈ l) => okX_parts (hm2 x h))
  have HE := Lib.hid (show recsL l = l.flatMap recOf by unfold recsL; rw [hmay]; rfl)
  obtain ⟨z, hz⟩ : ∃ z, l.length = z := ⟨_, rfl⟩
  obtain ⟨p0, cap, rfl, hcap, hcell⟩ := two_look xat_two hat
  rw [hz] at hl hm1 hcap hat hm ⊢
  have Hcell := Lib.hid hcell
  have Hz := Lib.hid hz
  have HT1 := Lib.hid (fun (N : ByteArray) w => indexByte_go N 61 w)
  have HT2 := Lib.hid (fun (N : ByteArray) (h : N.size ≤ 238) w => EscW.Put_any N (by omega) w)
  have HT3 := Lib.hid (fun (N : ByteArray) (h : N.size ≤ 4096) w => SixW.Put_any N (by omega) w)
  obtain ⟨SK, hSK⟩ : ∃ O : ByteArray, (⟨#[83, 67, 72, 73, 76, 89, 46, 120, 97, 116, 116, 114, 46]⟩ : ByteArray) = O := ⟨_, rfl⟩
  obtain ⟨LK, hLK⟩ : ∃ O : ByteArray, (⟨#[76, 73, 66, 65, 82, 67, 72, 73, 86, 69, 46, 120, 97, 116, 116, 114, 46]⟩ : ByteArray) = O := ⟨_, rfl⟩
  have HSl := Lib.hid (show SK.data.toList = sK ∧ SK.size = 13 by rw [← hSK]; exact ⟨rfl, rfl⟩)
  have HLl := Lib.hid (show LK.data.toList = lK ∧ LK.size = 17 by rw [← hLK]; exact ⟨rfl, rfl⟩)
  clear hcell hz hat hm2 hmay
  go_enter Tryz.func72, Tryz.ntmps72
  simp only [hSK, hLK]
  clear hSK hLK
  go_wp2_with fail
  refine (hm.out).mono ?_
  rintro e w1 ⟨rfl, hb1⟩
  clear hm
  go_wp2_with fail
  go_loopw [3, 11] (fun lv iv wr => ∃ (i : Nat) (acc : List Xa), iv = .int .i64 (i : Int) ∧ i ≤ z ∧ Row recE w.heap.size lv acc wr ∧ Below w.heap.size w wr ∧ acc.length ≤ 2 * i ∧ Hid ((l.take i).flatMap recOf = acc)) (fun _ iv _ => z - (intOf iv).toNat)
  case atStart => exact ⟨0, [], rfl, by omega, Row.nil _ _, hb1, by simp, Lib.hid (by simp)⟩
  case round =>
    clear hb1
    obtain ⟨i, acc, rfl, hi, hR, hbl, hacc, HR⟩ := hrel
    rename World => wr
    by_cases hlt : i < z
    · have hlt' : decide ((i : Int) < (z : Int)) = true := decide_eq_true (by omega)
      have hlt2 : decide (i < z) = true := decide_eq_true hlt
      have e3 : (i : Int) < (z : Int) := by omega
      have hi' : i < l.length := by rw [Hz.out]; exact hlt
      obtain ⟨g, off, rfl, hg, c0, c1⟩ := Hcell.out i hi'
      replace c0 := cell_kept hbl c0
      replace c1 := cell_kept hbl c1
      have hok := Hok.out l[i] (List.getElem_mem hi')
      have HF := Lib.hid (flat_succ hi')
      generalize l[i] = x at *
      obtain ⟨N, hN⟩ : ∃ N, strOf x.1 = N := ⟨_, rfl⟩
      obtain ⟨V, hV⟩ : ∃ V, strOf x.2 = V := ⟨_, rfl⟩
      have hNl : N.data.toList = x.1 := by rw [← hN, strOf_list]
      have hVl : V.data.toList = x.2 := by rw [← hV, strOf_list]
      have hNs : N.size ≤ 238 := by rw [← hN, strOf_size]; exact hok.2.2.2.2
      have hVs : V.size ≤ 4096 := by rw [← hV, strOf_size]; exact hok.2.2.2.1
      rw [hN] at c0
      rw [hV] at c1
      have ht1 := Lib.hid (HT1.out N)
      have hqn := index_neg N.data.toList (61 : Int).toNat.toUInt8
      obtain ⟨q, hqi⟩ : ∃ q, Lib.indexByte N.data.toList (61 : Int).toNat.toUInt8 = q := ⟨_, rfl⟩
      rw [hqi] at ht1 hqn
      rw [show (61 : Int).toNat.toUInt8 = (61 : UInt8) from rfl] at hqn
      clear hqi
      have hCl : Hid (∀ w, Calls Tryz.prog 63 #[.string V] w fun e w' => e = .returned (.string V) ∧ Below w.heap.size w w') := Lib.hid (fun w => clone_go V w (by omega))
      have ht2 := Lib.hid (HT2.out N hNs)
      have ht3 := Lib.hid (HT3.out V hVs)
      have hp1 : (EscM.put N.data.toList).length ≤ 238 := by rw [hNl]; exact hok.2.2.1
      obtain ⟨E1, hE1e⟩ : ∃ P : ByteArray, ⟨(EscM.put N.data.toList).toArray⟩ = P := ⟨_, rfl⟩
      obtain ⟨S1, hS1e⟩ : ∃ P : ByteArray, ⟨(SixM.p3 V.data.toList).toArray⟩ = P := ⟨_, rfl⟩
      have hE1l : E1.data.toList = EscM.put x.1 := by rw [← hE1e, ← hNl]
      have hS1l : S1.data.toList = SixM.p3 x.2 := by rw [← hS1e, ← hVl]
      have hE1s : E1.size ≤ 238 := by rw [← len_list, hE1l, ← hNl]; exact hp1
      rw [hE1e] at ht2
      rw [hS1e] at ht3
      have hE1 : Hid (∀ w, Calls Tryz.prog 145 #[.string N] w fun e w' => e = .returned (.string E1) ∧ Below w.heap.size w w') := Lib.hid ht2.out
      have hS1 : Hid (∀ w, Calls Tryz.prog 70 #[.string V] w fun e w' => e = .returned (.string S1) ∧ Below w.heap.size w w') := Lib.hid ht3.out
      obtain ⟨KN, hKN⟩ : ∃ P : ByteArray, SK ++ N = P := ⟨_, rfl⟩
      obtain ⟨KE, hKE⟩ : ∃ P : ByteArray, LK ++ E1 = P := ⟨_, rfl⟩
      have hKNl : KN.data.toList = sK ++ x.1 := by rw [← hKN, bytes_list, HSl.out.1, hNl]
      have hKEl : KE.data.toList = lK ++ EscM.put x.1 := by rw [← hKE, bytes_list, HLl.out.1, hE1l]
      have s1 := HSl.out.2
      have s2 := HLl.out.2
      have q1 : ¬ 9223372036854775807 < SK.size + N.size := by omega
      have q2 : ¬ 9223372036854775807 < LK.size + E1.size := by omega
      have HLL : Hid (((l.take (i + 1)).flatMap recOf).length ≤ 2 * (i + 1)) := Lib.hid (by
        have := flat_len (l.take (i + 1))
        rw [List.length_take] at this
        omega)
      have Hj : Hid (acc.length ≤ 70) := Lib.hid (by omega)
      have HL8 := HLL
      clear hN hV hE1e hS1e ht2 ht3 hp1 hok hi' s1 s2 hacc
      rw [hNl] at hqn
      rcases hb : x.1.contains 61 with _ | _
      · have hq2 : decide (q < 0) = true := decide_eq_true (hqn.2 hb)
        clear hqn
        have HXB : Hid ((l.take (i + 1)).flatMap recOf = (acc ++ [((KN.data.toList, V.data.toList) : Xa)]) ++ [((KE.data.toList, S1.data.toList) : Xa)]) := Lib.hid (by
          rw [HF.out, HR.out, hKNl, hVl, hKEl, hS1l]
          unfold recOf
          rw [hb]
          simp)
        clear hb hNl hVl hE1l hS1l hKNl hKEl HF HR
        go_wp2_with fail
        refine (ht1.out _).mono ?_
        rintro e w2 ⟨rfl, hw2⟩
        have hb2 : Below wr.heap.size wr w2 := by rw [hw2]; exact gr_alloc (Below.refl _ _) _
        have HP := Lib.hid (fun k h => (hR.lt k h).2)
        replace hR := hR.call hb2
        replace hbl := gr_call hbl hb2
        replace c0 : w2.cell? ⟨wr.heap.size, 0, none⟩ = some (.string N) := by rw [hw2, World.cell?_alloc_at (w := wr) _ _ wr.heap.size 0 rfl]; rfl
        replace c1 : w2.cell? ⟨wr.heap.size, 1, none⟩ = some (.string V) := by rw [hw2, World.cell?_alloc_at (w := wr) _ _ wr.heap.size 1 rfl]; rfl
        clear hb2 ht1 hw2
        obtain ⟨p, cp, hsh, _⟩ := hR.at.shape
        obtain ⟨j, hj⟩ : ∃ j, acc.length = j := ⟨_, rfl⟩
        rw [hj] at hsh
        clear hj
        subst hsh
        go_wp2_with fail
        refine region_twoRL (S := fun W => Below w2.heap.size w2 W) 9 (fun _ => false)
          [(fun W v => v = .slice p j cp),
             (fun W v => v = .pointer (some ⟨wr.heap.size, 0, none⟩)),
             (fun W v => v = .string N),
             (fun W v => v = .string KN),
             (fun W v => v = .pointer (some ⟨wr.heap.size, 1, none⟩)),
             (fun W v => v = .string V),
             (fun W v => v = .string V),
             (fun W v => v = .agg #[.string KN, .string V]),
             (fun W v => At recE v [(KN.data.toList, V.data.toList)] W)] (by rfl) (by kernel_rfl) (by kernel_rfl) (by kernel_rfl) (by kernel_rfl) (by rfl) (by rfl) (by kernel_rfl) (by kernel_rfl) (by kernel_rfl) ?hS ?hp ?hs ?he
        case hS => exact gr_drew (Below.refl _ _)
        case hp => repeat' (first | exact trivial | refine ⟨fun _ _ _ _ h => h, ?_⟩ | refine ⟨fun _ _ _ hb h => ?_, ?_⟩ | exact h.call hb)
        case hs =>
          simp only [List.take_succ_cons, List.take_zero]
          have C0 := c0
          have C1 := c1
          refine ⟨?_, ?_, ?_, ?_, ?_, ?_, ?_, ?_, ?_, trivial⟩
          · refine ⟨met_none rfl, ?_⟩
            intro a W K hS hd hf hK
            have e3 : a.tmps.getD 3 undef = .slice p j cp := hf 3 (by kernel_rfl)
            clear hd hf
            go_simp
            exact hK _ _ (Below.refl _ _) hS rfl (fun h => absurd h (by decide))
          · refine ⟨met_none rfl, ?_⟩
            intro a W K hS hd hf hK
            have e5 : a.tmps.getD 5 undef = .pointer (some ⟨wr.heap.size, 0, none⟩) := hf 5 (by kernel_rfl)
            clear hd hf
            go_simp
            exact hK _ _ (Below.refl _ _) hS rfl (fun h => absurd h (by decide))
          · refine ⟨met_none rfl, ?_⟩
            intro a W K hS hd hf hK
            have e20 : a.tmps.getD 20 undef = .pointer (some ⟨wr.heap.size, 0, none⟩) := hd ⟨1, .data⟩ (by simp) rfl
            have c0 := cell_kept hS C0
            clear hd hf
            go_simp
            exact hK _ _ (Below.refl _ _) hS rfl (fun h => absurd h (by decide))
          · refine ⟨met_none rfl, ?_⟩
            intro a W K hS hd hf hK
            have e21 : a.tmps.getD 21 undef = .string N := hd ⟨2, .data⟩ (by simp) rfl
            clear hd hf
            go_simp
            exact hK _ _ (Below.refl _ _) hS rfl (fun h => absurd h (by decide))
          · refine ⟨met_none rfl, ?_⟩
            intro a W K hS hd hf hK
            have e5 : a.tmps.getD 5 undef = .pointer (some ⟨wr.heap.size, 0, none⟩) := hf 5 (by kernel_rfl)
            clear hd hf
            go_simp
            exact hK _ _ (Below.refl _ _) hS rfl (fun h => absurd h (by decide))
          · refine ⟨met_none rfl, ?_⟩
            intro a W K hS hd hf hK
            have e23 : a.tmps.getD 23 undef = .pointer (some ⟨wr.heap.size, 1, none⟩) := hd ⟨4, .data⟩ (by simp) rfl
            have c0 := cell_kept hS C1
            clear hd hf
            go_simp
            exact hK _ _ (Below.refl _ _) hS rfl (fun h => absurd h (by decide))
          · refine ⟨met_none rfl, ?_⟩
            intro a W K hS hd hf hK
            have e24 : a.tmps.getD 24 undef = .string V := hd ⟨5, .data⟩ (by simp) rfl
            clear hd hf
            go_simp
            go_at_call 63
            refine (hCl.out _).mono ?_
            rintro e w1 ⟨rfl, hb⟩
            exact hK _ _ hb (gr_call hS hb) rfl (fun h => absurd h (by decide))
          · refine ⟨met_none rfl, ?_⟩
            intro a W K hS hd hf hK
            have e22 : a.tmps.getD 22 undef = .string KN := hd ⟨3, .data⟩ (by simp) rfl
            have e25 : a.tmps.getD 25 undef = .string V := hd ⟨6, .data⟩ (by simp) rfl
            have f1 := e22
            rw [Array.getD_eq_getD_getElem?] at f1
            have f2 := e25
            rw [Array.getD_eq_getD_getElem?] at f2
            have hbd := build_rec KN V
            clear hd hf
            go_simp
            exact hK _ _ (Below.refl _ _) hS rfl (fun h => absurd h (by decide))
          · refine ⟨met_none rfl, ?_⟩
            intro a W K hS hd hf hK
            have e26 : a.tmps.getD 26 undef = .agg #[.string KN, .string V] := hd ⟨7, .data⟩ (by simp) rfl
            have f1 := e26
            rw [Array.getD_eq_getD_getElem?] at f1
            clear hd hf
            go_simp
            exact hK _ _ ((Below.refl _ _).alloc (Nat.le_refl _) _) (gr_alloc hS _) (one_bytes W KN V) (fun h => absurd h (by decide))
        case he =>
          intro vals w7 K hS7 hV _ hK
          have eR := hV 0 (by omega)
          have aX := hV 8 (by omega)
          clear hV
          simp only [List.getD_cons_succ, List.getD_cons_zero] at eR aX
          have hR7 := hR.call hS7
          replace hbl := gr_call hbl hS7
          have hsz7 := hbl.size
          have hl7 : acc.length + [((KN.data.toList, V.data.toList) : Xa)].length ≤ 1000000 := by have := Hj.out; simp; omega
          replace c0 := cell_kept hS7 c0
          replace c1 := cell_kept hS7 c1
          clear hR hS7
          refine Later.mk ?_
          simp only [List.append_eq, List.cons_append, List.nil_append, setN, Nat.reduceAdd, List.setIfInBounds_toArray, List.set_cons_succ, List.set_cons_zero]
          rw [eR]
          refine wp_append_row recE (.tmp 19) (.tmp 27) rfl w.heap.size (.slice p j cp) (vals 8) acc [((KN.data.toList, V.data.toList) : Xa)] w7 (by rfl) hR7 (by rfl) aX hl7 hsz7 ?_
          intro v' w8 hR8 hb8 hg8 _
          clear eR aX
          replace c0 := cell_far_go hg8 HP.out c0
          replace c1 := cell_far_go hg8 HP.out c1
          replace hbl := hbl.trans hb8
          clear hR7 hb8
          refine hK _ _ ?_
          clear hK
          intro K' hK'
          go_simp
          refine hK' _ _ ?_
          clear hK'
          obtain ⟨acc2, hacc2⟩ : ∃ a, acc ++ [((KN.data.toList, V.data.toList) : Xa)] = a := ⟨_, rfl⟩
          rw [hacc2] at hR8
          have HX : Hid ((l.take (i + 1)).flatMap recOf = acc2 ++ [((KE.data.toList, S1.data.toList) : Xa)]) := Lib.hid (by rw [HXB.out, hacc2])
          have Hj2 : Hid (acc2.length ≤ 71) := Lib.hid (by rw [← hacc2, List.length_append]; have := Hj.out; simp; omega)
          clear hacc2 Hj HXB
          obtain ⟨p2, cp2, hsh2, _⟩ := hR8.at.shape
          obtain ⟨j2, hj2⟩ : ∃ j, acc2.length = j := ⟨_, rfl⟩
          rw [hj2] at hsh2
          clear hj2
          subst hsh2
          go_wp2_with fail
          refine region_twoRL (S := fun W => Below w8.heap.size w8 W) 10 (fun _ => false)
            [(fun W v => v = .slice p2 j2 cp2),
               (fun W v => v = .pointer (some ⟨wr.heap.size, 0, none⟩)),
               (fun W v => v = .string N),
               (fun W v => v = .string E1),
               (fun W v => v = .string KE),
               (fun W v => v = .pointer (some ⟨wr.heap.size, 1, none⟩)),
               (fun W v => v = .string V),
               (fun W v => v = .string S1),
               (fun W v => v = .agg #[.string KE, .string S1]),
               (fun W v => At recE v [(KE.data.toList, S1.data.toList)] W)] (by rfl) (by kernel_rfl) (by kernel_rfl) (by kernel_rfl) (by kernel_rfl) (by rfl) (by rfl) (by kernel_rfl) (by kernel_rfl) (by kernel_rfl) ?hS ?hp ?hs ?he
          case hS => exact gr_drew (Below.refl _ _)
          case hp => repeat' (first | exact trivial | refine ⟨fun _ _ _ _ h => h, ?_⟩ | refine ⟨fun _ _ _ hb h => ?_, ?_⟩ | exact h.call hb)
          case hs =>
            simp only [List.take_succ_cons, List.take_zero]
            have C0 := c0
            have C1 := c1
            refine ⟨?_, ?_, ?_, ?_, ?_, ?_, ?_, ?_, ?_, ?_, trivial⟩
            · refine ⟨met_none rfl, ?_⟩
              intro a W K hS hd hf hK
              have e3 : a.tmps.getD 3 undef = .slice p2 j2 cp2 := hf 3 (by kernel_rfl)
              clear hd hf
              go_simp
              exact hK _ _ (Below.refl _ _) hS rfl (fun h => absurd h (by decide))
            · refine ⟨met_none rfl, ?_⟩
              intro a W K hS hd hf hK
              have e5 : a.tmps.getD 5 undef = .pointer (some ⟨wr.heap.size, 0, none⟩) := hf 5 (by kernel_rfl)
              clear hd hf
              go_simp
              exact hK _ _ (Below.refl _ _) hS rfl (fun h => absurd h (by decide))
            · refine ⟨met_none rfl, ?_⟩
              intro a W K hS hd hf hK
              have e30 : a.tmps.getD 30 undef = .pointer (some ⟨wr.heap.size, 0, none⟩) := hd ⟨1, .data⟩ (by simp) rfl
              have c0 := cell_kept hS C0
              clear hd hf
              go_simp
              exact hK _ _ (Below.refl _ _) hS rfl (fun h => absurd h (by decide))
            · refine ⟨met_none rfl, ?_⟩
              intro a W K hS hd hf hK
              have e31 : a.tmps.getD 31 undef = .string N := hd ⟨2, .data⟩ (by simp) rfl
              clear hd hf
              go_simp
              go_at_call 145
              refine (hE1.out _).mono ?_
              rintro e w1 ⟨rfl, hb⟩
              exact hK _ _ hb (gr_call hS hb) rfl (fun h => absurd h (by decide))
            · refine ⟨met_none rfl, ?_⟩
              intro a W K hS hd hf hK
              have e32 : a.tmps.getD 32 undef = .string E1 := hd ⟨3, .data⟩ (by simp) rfl
              clear hd hf
              go_simp
              exact hK _ _ (Below.refl _ _) hS rfl (fun h => absurd h (by decide))
            · refine ⟨met_none rfl, ?_⟩
              intro a W K hS hd hf hK
              have e5 : a.tmps.getD 5 undef = .pointer (some ⟨wr.heap.size, 0, none⟩) := hf 5 (by kernel_rfl)
              clear hd hf
              go_simp
              exact hK _ _ (Below.refl _ _) hS rfl (fun h => absurd h (by decide))
            · refine ⟨met_none rfl, ?_⟩
              intro a W K hS hd hf hK
              have e34 : a.tmps.getD 34 undef = .pointer (some ⟨wr.heap.size, 1, none⟩) := hd ⟨5, .data⟩ (by simp) rfl
              have c0 := cell_kept hS C1
              clear hd hf
              go_simp
              exact hK _ _ (Below.refl _ _) hS rfl (fun h => absurd h (by decide))
            · refine ⟨met_none rfl, ?_⟩
              intro a W K hS hd hf hK
              have e35 : a.tmps.getD 35 undef = .string V := hd ⟨6, .data⟩ (by simp) rfl
              clear hd hf
              go_simp
              go_at_call 70
              refine (hS1.out _).mono ?_
              rintro e w1 ⟨rfl, hb⟩
              exact hK _ _ hb (gr_call hS hb) rfl (fun h => absurd h (by decide))
            · refine ⟨met_none rfl, ?_⟩
              intro a W K hS hd hf hK
              have e33 : a.tmps.getD 33 undef = .string KE := hd ⟨4, .data⟩ (by simp) rfl
              have e36 : a.tmps.getD 36 undef = .string S1 := hd ⟨7, .data⟩ (by simp) rfl
              have f1 := e33
              rw [Array.getD_eq_getD_getElem?] at f1
              have f2 := e36
              rw [Array.getD_eq_getD_getElem?] at f2
              have hbd := build_rec KE S1
              clear hd hf
              go_simp
              exact hK _ _ (Below.refl _ _) hS rfl (fun h => absurd h (by decide))
            · refine ⟨met_none rfl, ?_⟩
              intro a W K hS hd hf hK
              have e37 : a.tmps.getD 37 undef = .agg #[.string KE, .string S1] := hd ⟨8, .data⟩ (by simp) rfl
              have f1 := e37
              rw [Array.getD_eq_getD_getElem?] at f1
              clear hd hf
              go_simp
              exact hK _ _ ((Below.refl _ _).alloc (Nat.le_refl _) _) (gr_alloc hS _) (one_bytes W KE S1) (fun h => absurd h (by decide))
          case he =>
            intro vals w9 K hS9 hV _ hK
            have eR := hV 0 (by omega)
            have aX := hV 9 (by omega)
            clear hV
            simp only [List.getD_cons_succ, List.getD_cons_zero] at eR aX
            have hR9 := hR8.call hS9
            replace hbl := gr_call hbl hS9
            have hsz9 := hbl.size
            have hl9 : acc2.length + [((KE.data.toList, S1.data.toList) : Xa)].length ≤ 1000000 := by have := Hj2.out; simp; omega
            replace c0 := cell_kept hS9 c0
            replace c1 := cell_kept hS9 c1
            clear hR8 hS9
            refine Later.mk ?_
            simp only [List.append_eq, List.cons_append, List.nil_append, setN, Nat.reduceAdd, List.setIfInBounds_toArray, List.set_cons_succ, List.set_cons_zero]
            rw [eR]
            refine wp_append_row recE (.tmp 29) (.tmp 38) rfl w.heap.size (.slice p2 j2 cp2) (vals 9) acc2 [((KE.data.toList, S1.data.toList) : Xa)] w9 (by rfl) hR9 (by rfl) aX hl9 hsz9 ?_
            intro v' w10 hR10 hb10 hg10 _
            clear eR aX
            have hbl10 := hbl.trans hb10
            rw [← HX.out] at hR10
            have hl10 := HL8.out
            clear hR9 hbl hb10 c0 c1
            refine hK _ _ ?_
            clear hK
            intro K' hK'
            go_simp
            refine hK' _ _ ?_
            clear hK'
            go_wp2_with fail
            go_roundw
            case rel => exact ⟨i + 1, _, rfl, by omega, hR10, hbl10, hl10, Lib.hid rfl⟩
            case measure => simp only [intOf]; omega
      · have hq2 : decide (q < 0) = false := decide_eq_false (fun h => by rw [hqn.1 h] at hb; cases hb)
        clear hqn
        have HX : Hid ((l.take (i + 1)).flatMap recOf = acc ++ [((KE.data.toList, S1.data.toList) : Xa)]) := Lib.hid (by
          rw [HF.out, HR.out, hKEl, hS1l]
          unfold recOf
          rw [hb]
          simp)
        clear hb hNl hVl hE1l hS1l hKNl hKEl HF HR
        go_wp2_with fail
        refine (ht1.out _).mono ?_
        rintro e w2 ⟨rfl, hw2⟩
        have hb2 : Below wr.heap.size wr w2 := by rw [hw2]; exact gr_alloc (Below.refl _ _) _
        have HP := Lib.hid (fun k h => (hR.lt k h).2)
        replace hR := hR.call hb2
        replace hbl := gr_call hbl hb2
        replace c0 : w2.cell? ⟨wr.heap.size, 0, none⟩ = some (.string N) := by rw [hw2, World.cell?_alloc_at (w := wr) _ _ wr.heap.size 0 rfl]; rfl
        replace c1 : w2.cell? ⟨wr.heap.size, 1, none⟩ = some (.string V) := by rw [hw2, World.cell?_alloc_at (w := wr) _ _ wr.heap.size 1 rfl]; rfl
        clear hb2 ht1 hw2
        obtain ⟨p, cp, hsh, _⟩ := hR.at.shape
        obtain ⟨j, hj⟩ : ∃ j, acc.length = j := ⟨_, rfl⟩
        rw [hj] at hsh
        clear hj
        subst hsh
        go_wp2_with fail
        refine region_twoRL (S := fun W => Below w2.heap.size w2 W) 10 (fun _ => false)
          [(fun W v => v = .slice p j cp),
             (fun W v => v = .pointer (some ⟨wr.heap.size, 0, none⟩)),
             (fun W v => v = .string N),
             (fun W v => v = .string E1),
             (fun W v => v = .string KE),
             (fun W v => v = .pointer (some ⟨wr.heap.size, 1, none⟩)),
             (fun W v => v = .string V),
             (fun W v => v = .string S1),
             (fun W v => v = .agg #[.string KE, .string S1]),
             (fun W v => At recE v [(KE.data.toList, S1.data.toList)] W)] (by rfl) (by kernel_rfl) (by kernel_rfl) (by kernel_rfl) (by kernel_rfl) (by rfl) (by rfl) (by kernel_rfl) (by kernel_rfl) (by kernel_rfl) ?hS ?hp ?hs ?he
        case hS => exact gr_drew (Below.refl _ _)
        case hp => repeat' (first | exact trivial | refine ⟨fun _ _ _ _ h => h, ?_⟩ | refine ⟨fun _ _ _ hb h => ?_, ?_⟩ | exact h.call hb)
        case hs =>
          simp only [List.take_succ_cons, List.take_zero]
          have C0 := c0
          have C1 := c1
          refine ⟨?_, ?_, ?_, ?_, ?_, ?_, ?_, ?_, ?_, ?_, trivial⟩
          · refine ⟨met_none rfl, ?_⟩
            intro a W K hS hd hf hK
            have e3 : a.tmps.getD 3 undef = .slice p j cp := hf 3 (by kernel_rfl)
            clear hd hf
            go_simp
            exact hK _ _ (Below.refl _ _) hS rfl (fun h => absurd h (by decide))
          · refine ⟨met_none rfl, ?_⟩
            intro a W K hS hd hf hK
            have e5 : a.tmps.getD 5 undef = .pointer (some ⟨wr.heap.size, 0, none⟩) := hf 5 (by kernel_rfl)
            clear hd hf
            go_simp
            exact hK _ _ (Below.refl _ _) hS rfl (fun h => absurd h (by decide))
          · refine ⟨met_none rfl, ?_⟩
            intro a W K hS hd hf hK
            have e30 : a.tmps.getD 30 undef = .pointer (some ⟨wr.heap.size, 0, none⟩) := hd ⟨1, .data⟩ (by simp) rfl
            have c0 := cell_kept hS C0
            clear hd hf
            go_simp
            exact hK _ _ (Below.refl _ _) hS rfl (fun h => absurd h (by decide))
          · refine ⟨met_none rfl, ?_⟩
            intro a W K hS hd hf hK
            have e31 : a.tmps.getD 31 undef = .string N := hd ⟨2, .data⟩ (by simp) rfl
            clear hd hf
            go_simp
            go_at_call 145
            refine (hE1.out _).mono ?_
            rintro e w1 ⟨rfl, hb⟩
            exact hK _ _ hb (gr_call hS hb) rfl (fun h => absurd h (by decide))
          · refine ⟨met_none rfl, ?_⟩
            intro a W K hS hd hf hK
            have e32 : a.tmps.getD 32 undef = .string E1 := hd ⟨3, .data⟩ (by simp) rfl
            clear hd hf
            go_simp
            exact hK _ _ (Below.refl _ _) hS rfl (fun h => absurd h (by decide))
          · refine ⟨met_none rfl, ?_⟩
            intro a W K hS hd hf hK
            have e5 : a.tmps.getD 5 undef = .pointer (some ⟨wr.heap.size, 0, none⟩) := hf 5 (by kernel_rfl)
            clear hd hf
            go_simp
            exact hK _ _ (Below.refl _ _) hS rfl (fun h => absurd h (by decide))
          · refine ⟨met_none rfl, ?_⟩
            intro a W K hS hd hf hK
            have e34 : a.tmps.getD 34 undef = .pointer (some ⟨wr.heap.size, 1, none⟩) := hd ⟨5, .data⟩ (by simp) rfl
            have c0 := cell_kept hS C1
            clear hd hf
            go_simp
            exact hK _ _ (Below.refl _ _) hS rfl (fun h => absurd h (by decide))
          · refine ⟨met_none rfl, ?_⟩
            intro a W K hS hd hf hK
            have e35 : a.tmps.getD 35 undef = .string V := hd ⟨6, .data⟩ (by simp) rfl
            clear hd hf
            go_simp
            go_at_call 70
            refine (hS1.out _).mono ?_
            rintro e w1 ⟨rfl, hb⟩
            exact hK _ _ hb (gr_call hS hb) rfl (fun h => absurd h (by decide))
          · refine ⟨met_none rfl, ?_⟩
            intro a W K hS hd hf hK
            have e33 : a.tmps.getD 33 undef = .string KE := hd ⟨4, .data⟩ (by simp) rfl
            have e36 : a.tmps.getD 36 undef = .string S1 := hd ⟨7, .data⟩ (by simp) rfl
            have f1 := e33
            rw [Array.getD_eq_getD_getElem?] at f1
            have f2 := e36
            rw [Array.getD_eq_getD_getElem?] at f2
            have hbd := build_rec KE S1
            clear hd hf
            go_simp
            exact hK _ _ (Below.refl _ _) hS rfl (fun h => absurd h (by decide))
          · refine ⟨met_none rfl, ?_⟩
            intro a W K hS hd hf hK
            have e37 : a.tmps.getD 37 undef = .agg #[.string KE, .string S1] := hd ⟨8, .data⟩ (by simp) rfl
            have f1 := e37
            rw [Array.getD_eq_getD_getElem?] at f1
            clear hd hf
            go_simp
            exact hK _ _ ((Below.refl _ _).alloc (Nat.le_refl _) _) (gr_alloc hS _) (one_bytes W KE S1) (fun h => absurd h (by decide))
        case he =>
          intro vals w7 K hS7 hV _ hK
          have eR := hV 0 (by omega)
          have aX := hV 9 (by omega)
          clear hV
          simp only [List.getD_cons_succ, List.getD_cons_zero] at eR aX
          have hR7 := hR.call hS7
          replace hbl := gr_call hbl hS7
          have hsz7 := hbl.size
          have hl7 : acc.length + [((KE.data.toList, S1.data.toList) : Xa)].length ≤ 1000000 := by have := Hj.out; simp; omega
          replace c0 := cell_kept hS7 c0
          replace c1 := cell_kept hS7 c1
          clear hR hS7
          refine Later.mk ?_
          simp only [List.append_eq, List.cons_append, List.nil_append, setN, Nat.reduceAdd, List.setIfInBounds_toArray, List.set_cons_succ, List.set_cons_zero]
          rw [eR]
          refine wp_append_row recE (.tmp 29) (.tmp 38) rfl w.heap.size (.slice p j cp) (vals 9) acc [((KE.data.toList, S1.data.toList) : Xa)] w7 (by rfl) hR7 (by rfl) aX hl7 hsz7 ?_
          intro v' w8 hR8 hb8 hg8 _
          clear eR aX
          have hbl8 := hbl.trans hb8
          rw [← HX.out] at hR8
          have hl8 := HL8.out
          clear hR7 hbl hb8 c0 c1
          refine hK _ _ ?_
          clear hK
          intro K' hK'
          go_simp
          refine hK' _ _ ?_
          clear hK'
          go_wp2_with fail
          go_roundw
          case rel => exact ⟨i + 1, _, rfl, by omega, hR8, hbl8, hl8, Lib.hid rfl⟩
          case measure => simp only [intOf]; omega
    · have hlt' : decide ((i : Int) < (z : Int)) = false := decide_eq_false (by omega)
      have hlt2 : decide (i < z) = false := decide_eq_false hlt
      have HN := Lib.hid (show recsL l = acc by rw [HE.out, ← HR.out, List.take_of_length_le (by rw [Hz.out]; omega)])
      clear HR Hcell
      go_wp2_with fail
      go_ret
      exact ⟨⟨_, rfl, by rw [HN.out]; exact hR⟩, hbl⟩
end Go.Proofs.YtbhnhoenjoagbaaGreatDoor.XatW

/- What is said of a node: which may be, in plain Lean. -/
namespace Go.Proofs.YtbhnhoenjoagbaaGreatDoor
namespace MetaM

structure Mt where
  mode : Int
  uid : Int
  gid : Int
  sec : Int
  nano : Int
  acl : List AclM.Ace
  dfl : List AclM.Ace
  xat : List XatM.Xa
  cap : CapsM.Cap
  flags : Int
def idOk (n : Int) : Bool := decide (0 ≤ n) && decide (n ≤ 2147483647)
def stampOk (s n : Int) : Bool := decide (-1099511627776 ≤ s) && decide (s ≤ 1099511627776) && decide (0 ≤ n) && decide (n ≤ 999999999)
def flagsOk (n : Int) : Bool := decide (0 ≤ n) && decide (n ≤ 15)
def kindIn (k : Int) : Bool := decide (k = 1) || (decide (3 ≤ k) && decide (k ≤ 7))
def modeOk (n : Int) : Bool := decide (0 ≤ n) && decide (n ≤ 4095)
def aclOk (l : List AclM.Ace) (mode : Int) : Bool := decide (l.length = 0) || (AclM.may l && decide (AclW.modeL l = mode % 512))
def dflOk (l : List AclM.Ace) (k : Int) : Bool := decide (l.length = 0) || (decide (k = 6) && AclM.may l)
def capOk (c : CapsM.Cap) (k : Int) : Bool := CapsM.may c && (decide (c.v = 0) || decide (k = 1))
def symOk (m : Mt) (k : Int) : Bool := decide (k ≠ 3) || (decide (m.mode = 511) && decide (m.acl.length = 0) && decide (m.flags = 0))
def mayM (m : Mt) (k : Int) : Bool :=
  kindIn k && modeOk m.mode && idOk m.uid && idOk m.gid && stampOk m.sec m.nano && flagsOk m.flags && XatM.mayL m.xat &&
    aclOk m.acl m.mode && dflOk m.dfl k && capOk m.cap k && symOk m k
end MetaM
end Go.Proofs.YtbhnhoenjoagbaaGreatDoor

/- Capabilities as a value. -/
namespace Go.Proofs.YtbhnhoenjoagbaaGreatDoor
open Go.RowKit
open MetaM
open CapsM in
def capV (c : Cap) : Value := .agg #[.int .i64 c.v, .int .u64 (c.p : Int), .int .u64 (c.i : Int), .bool c.e, .int .i64 c.r]
end Go.Proofs.YtbhnhoenjoagbaaGreatDoor
