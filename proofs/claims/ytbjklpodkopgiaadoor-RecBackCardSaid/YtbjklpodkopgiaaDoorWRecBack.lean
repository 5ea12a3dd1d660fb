/- The law RecBack, walked. -/
import Derived.Test.YtbjklpodkopgiaaDoorWRecs
import Derived.Test.YtbjklpodkopgiaaDoorRecJoin
import Derived.Test.YtbjklpodkopgiaaDoorRecAwake
import Derived.Test.YtbjklpodkopgiaaDoorRefAll
namespace Go.Proofs.YtbjklpodkopgiaaDoor
open Go.RowKit
open RecM
set_option linter.unusedVariables false

theorem xor_byte (a b : UInt8) : bits .xor .u8 (a.toNat : Int) (b.toNat : Int) = ((a ^^^ b).toNat : Int) := by
  rw [u8_xor_nat _ _ a.toNat_lt b.toNat_lt, UInt8.toNat_xor]
/-- All, where it finds them. -/
theorem all_yes (S : ByteArray) (hS : S.size ≤ 65536) (l : List (List UInt8 × List UInt8)) (hl : allF S.data.toList = some l) (w : World) (hA : Amb w) :
    Calls Tryd.prog 11 #[.string S] w fun e w' => (∃ p cap, e = .returned (.tuple #[.slice p l.length cap, .int .i64 0]) ∧ RecAt (.slice p l.length cap) l w') ∧ Below w.heap.size w w' := by
  refine (all_any S hS w hA).mono ?_
  rintro e w' ⟨h1, h2⟩
  rw [hl] at h1
  obtain ⟨v, rfl, hat⟩ := h1
  obtain ⟨p, cap, rfl⟩ := hat.shape
  exact ⟨⟨p, cap, rfl, hat⟩, h2⟩
theorem all_no (S : ByteArray) (hS : S.size ≤ 65536) (hl : allF S.data.toList = none) (w : World) (hA : Amb w) :
    Calls Tryd.prog 11 #[.string S] w fun e w' => e = .returned (.tuple #[.slice none 0 0, .int .i64 4]) ∧ Below w.heap.size w w' := by
  refine (all_any S hS w hA).mono ?_
  rintro e w' ⟨h1, h2⟩
  rw [hl] at h1
  exact ⟨h1, h2⟩

set_option maxRecDepth 100000 in
set_option maxHeartbeats 3200000 in
theorem recBack_walk (a0 : Option Addr) (len0 cap0 : Nat) (ks : List ByteArray) (a1 : Option Addr) (len1 cap1 : Nat) (vs : List ByteArray) (a2 : Int) (a3 : Int) (w : World) (hA : Amb w)
    (h0 : StrsAt w a0 len0 cap0 ks) (h1 : StrsAt w a1 len1 cap1 vs) (w2 : (Lit.int .u16 a2).wf = true) (w3 : (Lit.int .u8 a3).wf = true) :
    Calls Tryd.prog 4 #[.slice a0 len0 cap0, .slice a1 len1 cap1, .int .u16 a2, .int .u8 a3] w fun e w' => e = .returned (.bool true) ∧ Below w.heap.size w w' := by
  have ha2 : 0 ≤ a2 ∧ a2 ≤ 65535 := by simpa [Lit.wf, IntKind.min, IntKind.max, IntKind.signed, IntKind.bits] using w2
  have ha3 : 0 ≤ a3 ∧ a3 ≤ 255 := by simpa [Lit.wf, IntKind.min, IntKind.max, IntKind.signed, IntKind.bits] using w3
  have hrec := Lib.hid (recs_any a0 len0 cap0 ks a1 len1 cap1 vs w h0 h1)
  have hlen := recs_len (ks.map (·.data.toList)) (vs.map (·.data.toList))
  have hmem := Lib.hid (fun r h => @recs_mem (ks.map (·.data.toList)) (vs.map (·.data.toList)) r h)
  generalize recsF (ks.map (·.data.toList)) (vs.map (·.data.toList)) = R at *
  obtain ⟨n, hn⟩ : ∃ n, R.length = n := ⟨_, rfl⟩
  have hn20 : n ≤ 20 := by omega
  have HN := Lib.hid hn
  have p0 := ha2.1
  have p1 := ha2.2
  have p2 := ha3.1
  have p3 := ha3.2
  clear h0 h1 w2 w3 ha2 ha3 hlen
  go_enter Tryd.func4, Tryd.ntmps4
  go_wp2_with fail
  refine hrec.out.mono ?_
  rintro e w1 ⟨⟨v, rfl, hat⟩, hb1⟩
  obtain ⟨pv, cv, rfl⟩ := hat.shape
  rw [hn] at hat ⊢
  have Hat := Lib.hid hat
  clear hat hn hrec
  go_wp2_with fail
  go_loopw [10] (fun iv wj => ∃ i : Nat, iv = .int .i64 (i : Int) ∧ i ≤ n ∧ Below w1.heap.size w1 wj ∧ Hid (∀ r ∈ R.take i, r.1.length ≤ 200 ∧ r.2.length ≤ 300)) (fun iv _ => n - (intOf iv).toNat)
  case atStart => exact ⟨0, rfl, by omega, Below.refl _ _, Lib.hid (fun r hr => by simp at hr)⟩
  case round =>
    obtain ⟨i, rfl, hi, hbl, HT⟩ := hrel
    by_cases hlt : i < n
    · have l1 : decide ((i : Int) < (n : Int)) = true := decide_eq_true (by omega)
      have l1' : decide (i < n) = true := decide_eq_true hlt
      have i0 : (0 : Int) ≤ (i : Int) := by omega
      have i1 : (i : Int) < (n : Int) := by omega
      have hiR : i < R.length := by rw [HN.out]; exact hlt
      obtain ⟨g, cap', ev, hc, hg, hj⟩ := Hat.out.open (by intro e; rw [e] at hiR; simp at hiR)
      rw [HN.out] at ev hc
      simp only [Value.slice.injEq] at ev
      obtain ⟨rfl, _, rfl⟩ := ev
      have c0 := cell_kept hbl (hj i hiR).1
      have c1 := cell_kept hbl (hj i hiR).2
      rw [Nat.mul_comm 2 i] at c0 c1
      obtain ⟨r, hr⟩ : ∃ r, R[i] = r := ⟨_, rfl⟩
      rw [hr] at c0 c1
      have HTs := Lib.hid (show r.1.length ≤ 200 → r.2.length ≤ 300 → ∀ y ∈ R.take (i + 1), y.1.length ≤ 200 ∧ y.2.length ≤ 300 by
        intro h1 h2 y hy
        rw [List.take_succ_eq_append_getElem hiR, hr] at hy
        rcases List.mem_append.1 hy with hy | hy
        · exact HT.out y hy
        · rw [List.mem_singleton] at hy; subst hy; exact ⟨h1, h2⟩)
      have z0 : (strOf r.1).size = r.1.length := strOf_size _
      have z1 : (strOf r.2).size = r.2.length := strOf_size _
      generalize strOf r.1 = K at *
      generalize strOf r.2 = V at *
      have hbw : Below w.heap.size w wr := hb1.trans (hbl.mono hb1.size)
      by_cases hk : 200 < K.size
      · have k1 : decide (200 < (K.size : Int)) = true := decide_eq_true (by omega)
        have k1' : decide (200 < K.size) = true := decide_eq_true hk
        clear hj hr z0 z1 HTs HT hk hlt hiR
        go_wp2_with fail
        refine (awake_true _ (hA.on hbw)).mono ?_
        rintro e w4 ⟨rfl, hb4⟩
        go_wp2_with fail
        go_ret
        exact ⟨rfl, gr_call hbw hb4⟩
      · have k1 : decide (200 < (K.size : Int)) = false := decide_eq_false (by omega)
        have k1' : decide (200 < K.size) = false := decide_eq_false hk
        by_cases hv : 300 < V.size
        · have k2 : decide (300 < (V.size : Int)) = true := decide_eq_true (by omega)
          have k2' : decide (300 < V.size) = true := decide_eq_true hv
          clear hj hr z0 z1 HTs HT hk hv hlt hiR
          go_wp2_with fail
          refine (awake_true _ (hA.on hbw)).mono ?_
          rintro e w4 ⟨rfl, hb4⟩
          go_wp2_with fail
          go_ret
          exact ⟨rfl, gr_call hbw hb4⟩
        · have k2 : decide (300 < (V.size : Int)) = false := decide_eq_false (by omega)
          have k2' : decide (300 < V.size) = false := decide_eq_false hv
          have HT2 := Lib.hid (HTs.out (by omega) (by omega))
          clear hj hr z0 z1 HTs HT hk hv hiR
          go_wp2_with fail
          go_roundw
          case rel => exact ⟨i + 1, by go_num, by omega, hbl, HT2⟩
          case measure => simp only [intOf]; omega
    · have l1 : decide ((i : Int) < (n : Int)) = false := decide_eq_false (by omega)
      have l1' : decide (i < n) = false := decide_eq_false hlt
      have HS := HT.out
      rw [List.take_of_length_le (by rw [HN.out]; omega)] at HS
      obtain rfl : i = n := by omega
      have hmayR : allMay R := fun r hr => by
        obtain ⟨k, v, rfl⟩ := hmem.out r hr
        exact rec_may k v (HS _ hr).1 (HS _ hr).2
      have hj1000 : ∀ r ∈ R, r.1.length + r.2.length ≤ 1000 := fun r hr => by have := HS r hr; omega
      have hjl := join_len R hj1000
      rw [HN.out] at hjl
      have hallR := all_join R hmayR
      have hbw : Below w.heap.size w wr := hb1.trans (hbl.mono hb1.size)
      have hatw := Hat.out.call hbl
      obtain ⟨S, hS⟩ : ∃ S : ByteArray, strOf (joinF R) = S := ⟨_, rfl⟩
      have hSl : S.data.toList = joinF R := by rw [← hS, strOf_list]
      obtain ⟨z, hz⟩ : ∃ z, S.size = z := ⟨_, rfl⟩
      have hzl : (joinF R).length = z := by rw [← hSl, len_list, hz]
      have hz9 : z ≤ 20180 := by omega
      have HJ := Lib.hid (fun W h hat => join_any (.slice pv i cv) R W h hat hj1000 (by rw [HN.out]; omega))
      rw [hS] at HJ
      have HA1 := Lib.hid (fun W h => all_yes S (by omega) R (by rw [hSl]; exact hallR) W h)
      rw [HN.out] at HA1
      have HR9 := Lib.hid (show R.length ≤ 1000000 by rw [HN.out]; omega)
      clear HS HT hlt hmem Hat hb1 hbl
      by_cases hnil : R = []
      · have hi0 : i = 0 := by rw [← HN.out, hnil]; rfl
        have hz0 : z = 0 := by rw [← hzl, hnil]; rfl
        have n0 : ((i : Int) == 0) = true := by rw [hi0]; rfl
        have z0 : ((z : Int) == 0) = true := by rw [hz0]; rfl
        have Hnil := Lib.hid hnil
        clear hnil hi0 hz0 hallR hmayR hj1000 hjl hS hSl hzl
        go_wp2_with fail
        refine (HJ.out _ (hA.on hbw) hatw).mono ?_
        rintro e w2 ⟨rfl, hb2⟩
        have hB2 := gr_call hbw hb2
        have hat2 := hatw.call hb2
        go_wp2_with fail
        refine (HA1.out _ (hA.on hB2)).mono ?_
        rintro e w3 ⟨⟨p4, c4, rfl, hat3⟩, hb3⟩
        have hB3 := gr_call hB2 hb3
        have hatv3 := hat2.call hb3
        go_wp2_with fail
        refine (same_any _ _ R R _ hat3 hatv3 HR9.out HR9.out).mono ?_
        rintro e w4 ⟨rfl, hb4⟩
        have hB4 := gr_call hB3 hb4
        rw [decide_eq_true rfl]
        clear hat2 hat3 hatv3 hatw hb2 hb3 hb4
        go_wp2_with fail
        refine (err_any _ _).mono ?_
        rintro e w' ⟨rfl, rfl⟩
        go_wp2_with fail
        refine (awake_true _ (hA.on hB4)).mono ?_
        rintro e w5 ⟨rfl, hb5⟩
        go_wp2_with fail
        go_ret
        exact ⟨rfl, gr_call hB4 hb5⟩
      · obtain ⟨k0, v0, R', hRc⟩ : ∃ k0 v0 R', R = (k0, v0) :: R' := by
          cases R with
          | nil => exact absurd rfl hnil
          | cons r R' => exact ⟨r.1, r.2, R', rfl⟩
        have hcut := all_cut R hmayR hnil
        have hz1 : 1 ≤ z := by rw [← hzl]; exact List.length_pos_iff.2 hcut.2
        obtain ⟨zz, hzz⟩ : ∃ zz, z = zz + 1 := ⟨z - 1, by omega⟩
        have hzz2 : (z : Int) - 1 = (zz : Int) := by omega
        have hzz3 : zz ≤ z := by omega
        have z0 : ((z : Int) == 0) = false := by rw [beq_eq_false_iff_ne]; omega
        have hz0 : ¬ (z : Int) = 0 := by omega
        have HA2 := Lib.hid (fun W h => all_no (S.extract 0 zz) (by rw [← len_list, ext_take, List.length_take]; omega) (by
          rw [ext_take, hSl, show zz = (joinF R).length - 1 by omega, ← List.dropLast_eq_take]
          exact hcut.1) W h)
        have hfirst : getF (joinF R) = some (k0, v0, (putF k0 v0).length) := by
          rw [hRc] at hmayR ⊢
          exact get_first k0 v0 R' hmayR
        have HG := Lib.hid (fun W h => get_any S 0 (by omega) (by omega) W h)
        rw [List.drop_zero, hSl, hfirst] at HG
        have hr0 := hj1000 (k0, v0) (by rw [hRc]; exact List.mem_cons_self ..)
        have HP := Lib.hid (fun W h => put_any (strOf k0) (strOf v0) (by rw [strOf_size, strOf_size]; dsimp only at hr0; omega) W h)
        rw [strOf_list, strOf_list] at HP
        have hPs : (strOf (putF k0 v0)).size = (putF k0 v0).length := strOf_size _
        generalize (putF k0 v0).length = m0 at *
        generalize strOf (putF k0 v0) = P0 at *
        obtain ⟨I, hI, hI2⟩ : ∃ I : Nat, a2 % (z : Int) = (I : Int) ∧ I < z := ⟨(a2 % (z : Int)).toNat, by have := Int.emod_nonneg a2 (b := (z : Int)) (by omega); omega, by have := Int.emod_nonneg a2 (b := (z : Int)) (by omega); have := Int.emod_lt_of_pos a2 (b := (z : Int)) (by omega); omega⟩
        have hIt : a2.tmod (z : Int) = (I : Int) := by rw [Int.tmod_eq_emod_of_nonneg p0]; exact hI
        have hI0 : (0 : Int) ≤ (I : Int) := by omega
        have hIN : (I : Int) < (z : Int) := by omega
        obtain ⟨d, hd⟩ : ∃ d : UInt8, (d.toNat : Int) = a3 := ⟨UInt8.ofNat a3.toNat, by simp; omega⟩
        have hlt : I < S.data.toList.length := by rw [hSl, hzl]; exact hI2
        obtain ⟨x, hx⟩ : ∃ x, S.data.toList[I]? = some x := ⟨_, List.getElem?_eq_getElem hlt⟩
        have hxo : bits .xor .u8 (x.toNat : Int) a3 = ((x ^^^ d).toNat : Int) := by rw [← hd]; exact xor_byte x d
        have hturn : d ≠ 0 → allF (S.data.toList.set I (x ^^^ d)) ≠ some R := by
          intro hd0
          have h3 := turned (l := R) (p := I) (x := x) (y := d) (by rw [← hSl]; exact hx) hd0
          rw [← hSl] at h3
          exact h3
        have hdz : (a3 == 0) = decide (d = 0) := by
          by_cases h : d = 0
          · rw [decide_eq_true h, ← hd, h]; rfl
          · rw [decide_eq_false h, ← hd]; exact toNat_ne h
        obtain ⟨U, hU⟩ : ∃ U : ByteArray, U = ⟨(S.data.toList.set I (x ^^^ d)).toArray⟩ := ⟨_, rfl⟩
        have hUl : U.data.toList = S.data.toList.set I (x ^^^ d) := by rw [hU]
        have hUs : U.size ≤ 65536 := by rw [← len_list, hUl, List.length_set, len_list]; omega
        rw [← hUl] at hturn
        have hcv : ∀ W, (convert 9 46 (.string S)).run Tryd.prog W = .ok (.slice (some ⟨W.heap.size, 0, none⟩) z (grownCap W S.size 0 5)) (Lib.bytesWorld W 5 S) := fun W => by
          have := Lib.run_convert_string_bytes (P := Tryd.prog) W 9 46 5 S Tryd.underlying9 Tryd.underlying46 Tryd.underlying5
          rw [hz] at this ⊢
          exact this
        have HRc := Lib.hid hRc
        have Hturn := Lib.hid hturn
        have Hdz := Lib.hid hdz
        have HU := Lib.hid hUl
        have HSz := Lib.hid (show S.data.toList.length = z by rw [hSl, hzl])
        have Hx := Lib.hid hx
        have Hlt := Lib.hid hlt
        have Hxo := Lib.hid hxo
        have Hi1 := Lib.hid (show 1 ≤ i by rw [← HN.out, hRc]; simp)
        have i1 : (0 : Int) < (i : Int) := by have := Hi1.out; omega
        clear hnil hRc hcut hzz hfirst hr0 hd hlt hx hxo hturn hdz hU hUl hallR hmayR hj1000 hjl hS hSl hzl
        go_wp2_with fail
        refine (HJ.out _ (hA.on hbw) hatw).mono ?_
        rintro e w2 ⟨rfl, hb2⟩
        have hB2 := gr_call hbw hb2
        have hat2 := hatw.call hb2
        go_wp2_with fail
        refine (HA1.out _ (hA.on hB2)).mono ?_
        rintro e w3 ⟨⟨p4, c4, rfl, hat3⟩, hb3⟩
        have hB3 := gr_call hB2 hb3
        have hatv3 := hat2.call hb3
        go_wp2_with fail
        refine (same_any _ _ R R _ hat3 hatv3 HR9.out HR9.out).mono ?_
        rintro e w4 ⟨rfl, hb4⟩
        have hB4 := gr_call hB3 hb4
        have hatv4 := hatv3.call hb4
        rw [decide_eq_true rfl]
        clear hat2 hat3 hatv3 hatw hb2 hb3 hb4
        go_wp2_with fail
        refine (err_any _ _).mono ?_
        rintro e w' ⟨rfl, rfl⟩
        go_wp2_with fail
        refine (HA2.out _ (hA.on hB4)).mono ?_
        rintro e w5 ⟨rfl, hb5⟩
        have hB5 := gr_call hB4 hb5
        have hatv5 := hatv4.call hb5
        have hR := RowIs.of w5 5 S
        have hb6 := below_bytesWorld hB5 hB5.size 5 S
        have hb56 : Below w5.heap.size w5 (Lib.bytesWorld w5 5 S) := below_bytesWorld (Below.refl _ _) (Nat.le_refl _) 5 S
        have hcv5 := hcv w5
        have hsz5 := hB5.size
        clear hcv hb5 hatv4
        generalize Lib.bytesWorld w5 5 S = w6 at *
        have hc := hR.cell I Hlt.out
        rw [(List.getElem?_eq_some_iff.1 Hx.out).2] at hc
        have hf := hR.free I Hlt.out
        have hR7 := hR.put I (x ^^^ d)
        rw [← Hxo.out] at hR7
        generalize hy : bits .xor .u8 (x.toNat : Int) a3 = y at *
        have hb7 : Below w.heap.size w (w6.setCell ⟨w5.heap.size, I, none⟩ (.int .u8 y)) := hb6.setCell hsz5 _
        have hcb := fun cap => hR7.back (P := Tryd.prog) (src := 46) (dst := 9) cap Tryd.underlying46 Tryd.underlying5 Tryd.underlying9
        rw [List.length_set, HSz.out, ← HU.out] at hcb
        rw [show (⟨U.data.toList.toArray⟩ : ByteArray) = U from strOf_self U] at hcb
        have hb57 : Below w5.heap.size w5 (w6.setCell ⟨w5.heap.size, I, none⟩ (.int .u8 y)) := hb56.setCell (p := ⟨w5.heap.size, I, none⟩) (Nat.le_refl _) _
        have hatv7 := hatv5.call hb57
        clear hR hR7 hb6 hb56 hb57 hatv5
        go_wp2_with fail
        generalize w6.setCell ⟨w5.heap.size, I, none⟩ (.int .u8 y) = w7 at *
        clear hcb hc hf hcv5
        have hRn : R ≠ [] := by rw [HRc.out]; simp
        obtain ⟨g, cp, ev, hic, hg, hj⟩ := hatv7.open hRn
        rw [HN.out] at ev
        simp only [Value.slice.injEq] at ev
        obtain ⟨rfl, _, rfl⟩ := ev
        have c0 : w7.cell? ⟨g, 0, none⟩ = some (.string (strOf k0)) := by
          have h := (hj 0 (by rw [HRc.out]; simp)).1
          have e0 : R[0]'(by rw [HRc.out]; simp) = (k0, v0) := by simp [HRc.out]
          rw [e0] at h; exact h
        have c1 : w7.cell? ⟨g, 1, none⟩ = some (.string (strOf v0)) := by
          have h := (hj 0 (by rw [HRc.out]; simp)).2
          have e0 : R[0]'(by rw [HRc.out]; simp) = (k0, v0) := by simp [HRc.out]
          rw [e0] at h; exact h
        have hic2 : i ≤ cv := by rw [HN.out] at hic; exact hic
        have hm0 : (0 : Int) + (m0 : Int) = (m0 : Int) := by omega
        have hyv : True := trivial
        clear hj hic hy hg hRn
        rcases hal : allF U.data.toList with _ | l'
        · have HAU := Lib.hid (fun W h => all_no U hUs hal W h)
          clear hal
          refine (HAU.out _ (hA.on hb7)).mono ?_
          rintro e wa ⟨rfl, hba⟩
          have hBa := gr_call hb7 hba
          have ca0 := cell_kept hba c0
          have ca1 := cell_kept hba c1
          clear hba c0 c1 hb7 hatv7
          by_cases hd0 : d = 0
          · have hz3 : (a3 == 0) = true := by rw [Hdz.out, decide_eq_true hd0]
            clear hd0
            go_wp2_with fail
            refine (HG.out _ (hA.on hBa)).mono ?_
            rintro e w8 ⟨rfl, hb8⟩
            simp only [getV]
            have hB8 := gr_call hBa hb8
            have e0 := cell_kept hb8 ca0
            have e1 := cell_kept hb8 ca1
            have hg8 : g < w8.heap.size := block_lt e0
            have hb89 : Below w8.heap.size w8 (w8.alloc (.cells #[.string (strOf k0), .string (strOf v0)] 23)) := by (repeat' (first | exact Below.refl _ _ | assumption | refine gr_drew ?_ | refine gr_drewN ?_ _ | refine gr_alloc ?_ _ | refine gr_set ?_ ?_ _ | refine gr_call ?_ (by assumption)) <;> (try (simp; done)) <;> (try (simp; omega)) <;> (try omega))
            have f0 := cell_kept hb89 e0
            have f1 := cell_kept hb89 e1
            have hB9 := gr_call hB8 hb89
            clear hb8 e0 e1 hb89 ca0 ca1 hBa hB8
            go_wp2_with fail
            refine (err_any _ _).mono ?_
            rintro e w' ⟨rfl, rfl⟩
            go_wp2_with fail
            refine (err_any _ _).mono ?_
            rintro e w' ⟨rfl, rfl⟩
            go_wp2_with fail
            refine (HP.out _ (hA.on hB9)).mono ?_
            rintro e w11 ⟨rfl, hb11⟩
            have hB11 := gr_call hB9 hb11
            go_wp2_with fail
            refine (awake_true _ (hA.on hB11)).mono ?_
            rintro e w12 ⟨rfl, hb12⟩
            go_wp2_with fail
            go_ret
            exact ⟨rfl, gr_call hB11 hb12⟩
          · have hz3 : (a3 == 0) = false := by rw [Hdz.out, decide_eq_false hd0]
            clear hd0
            go_wp2_with fail
            refine (HG.out _ (hA.on hBa)).mono ?_
            rintro e w8 ⟨rfl, hb8⟩
            simp only [getV]
            have hB8 := gr_call hBa hb8
            have e0 := cell_kept hb8 ca0
            have e1 := cell_kept hb8 ca1
            have hg8 : g < w8.heap.size := block_lt e0
            have hb89 : Below w8.heap.size w8 (w8.alloc (.cells #[.string (strOf k0), .string (strOf v0)] 23)) := by (repeat' (first | exact Below.refl _ _ | assumption | refine gr_drew ?_ | refine gr_drewN ?_ _ | refine gr_alloc ?_ _ | refine gr_set ?_ ?_ _ | refine gr_call ?_ (by assumption)) <;> (try (simp; done)) <;> (try (simp; omega)) <;> (try omega))
            have f0 := cell_kept hb89 e0
            have f1 := cell_kept hb89 e1
            have hB9 := gr_call hB8 hb89
            clear hb8 e0 e1 hb89 ca0 ca1 hBa hB8
            go_wp2_with fail
            refine (err_any _ _).mono ?_
            rintro e w' ⟨rfl, rfl⟩
            go_wp2_with fail
            refine (err_any _ _).mono ?_
            rintro e w' ⟨rfl, rfl⟩
            go_wp2_with fail
            refine (err_any _ _).mono ?_
            rintro e w' ⟨rfl, rfl⟩
            go_wp2_with fail
            refine (HP.out _ (hA.on hB9)).mono ?_
            rintro e w11 ⟨rfl, hb11⟩
            have hB11 := gr_call hB9 hb11
            go_wp2_with fail
            refine (awake_true _ (hA.on hB11)).mono ?_
            rintro e w12 ⟨rfl, hb12⟩
            go_wp2_with fail
            go_ret
            exact ⟨rfl, gr_call hB11 hb12⟩
        · have hll : l'.length ≤ 1000000 := by have := all_length hal; rw [len_list] at this; omega
          have hne' : d ≠ 0 → ¬ l' = R := fun h e => Hturn.out h (by rw [hal, e])
          have HAU := Lib.hid (fun W h => all_yes U hUs l' hal W h)
          clear hal
          refine (HAU.out _ (hA.on hb7)).mono ?_
          rintro e wa ⟨⟨pl, cl, rfl, hla⟩, hba⟩
          have hBa := gr_call hb7 hba
          have hva := hatv7.call hba
          have ca0 := cell_kept hba c0
          have ca1 := cell_kept hba c1
          clear hba c0 c1 hb7 hatv7
          by_cases hd0 : d = 0
          · have hz3 : (a3 == 0) = true := by rw [Hdz.out, decide_eq_true hd0]
            clear hd0 hla hva
            go_wp2_with fail
            refine (HG.out _ (hA.on hBa)).mono ?_
            rintro e w8 ⟨rfl, hb8⟩
            simp only [getV]
            have hB8 := gr_call hBa hb8
            have e0 := cell_kept hb8 ca0
            have e1 := cell_kept hb8 ca1
            have hg8 : g < w8.heap.size := block_lt e0
            have hb89 : Below w8.heap.size w8 (w8.alloc (.cells #[.string (strOf k0), .string (strOf v0)] 23)) := by (repeat' (first | exact Below.refl _ _ | assumption | refine gr_drew ?_ | refine gr_drewN ?_ _ | refine gr_alloc ?_ _ | refine gr_set ?_ ?_ _ | refine gr_call ?_ (by assumption)) <;> (try (simp; done)) <;> (try (simp; omega)) <;> (try omega))
            have f0 := cell_kept hb89 e0
            have f1 := cell_kept hb89 e1
            have hB9 := gr_call hB8 hb89
            clear hb8 e0 e1 hb89 ca0 ca1 hBa hB8
            go_wp2_with fail
            refine (err_any _ _).mono ?_
            rintro e w' ⟨rfl, rfl⟩
            go_wp2_with fail
            refine (err_any _ _).mono ?_
            rintro e w' ⟨rfl, rfl⟩
            go_wp2_with fail
            refine (HP.out _ (hA.on hB9)).mono ?_
            rintro e w11 ⟨rfl, hb11⟩
            have hB11 := gr_call hB9 hb11
            go_wp2_with fail
            refine (awake_true _ (hA.on hB11)).mono ?_
            rintro e w12 ⟨rfl, hb12⟩
            go_wp2_with fail
            go_ret
            exact ⟨rfl, gr_call hB11 hb12⟩
          · have hz3 : (a3 == 0) = false := by rw [Hdz.out, decide_eq_false hd0]
            have hne := hne' hd0
            clear hd0
            go_wp2_with fail
            refine (HG.out _ (hA.on hBa)).mono ?_
            rintro e w8 ⟨rfl, hb8⟩
            simp only [getV]
            have hB8 := gr_call hBa hb8
            have e0 := cell_kept hb8 ca0
            have e1 := cell_kept hb8 ca1
            have hg8 : g < w8.heap.size := block_lt e0
            have hb89 : Below w8.heap.size w8 (w8.alloc (.cells #[.string (strOf k0), .string (strOf v0)] 23)) := by (repeat' (first | exact Below.refl _ _ | assumption | refine gr_drew ?_ | refine gr_drewN ?_ _ | refine gr_alloc ?_ _ | refine gr_set ?_ ?_ _ | refine gr_call ?_ (by assumption)) <;> (try (simp; done)) <;> (try (simp; omega)) <;> (try omega))
            have f0 := cell_kept hb89 e0
            have f1 := cell_kept hb89 e1
            have hB9 := gr_call hB8 hb89
            have hv9 := (hva.call hb8).call hb89
            have hl9 := (hla.call hb8).call hb89
            clear hb8 e0 e1 hb89 ca0 ca1 hBa hB8
            go_wp2_with fail
            refine (err_any _ _).mono ?_
            rintro e w' ⟨rfl, rfl⟩
            go_wp2_with fail
            refine (err_any _ _).mono ?_
            rintro e w' ⟨rfl, rfl⟩
            go_wp2_with fail
            refine (same_any _ _ l' R _ hl9 hv9 hll HR9.out).mono ?_
            rintro e w10 ⟨rfl, hb10⟩
            rw [decide_eq_false hne]
            have hB10 := gr_call hB9 hb10
            have g0 := cell_kept hb10 f0
            have g1 := cell_kept hb10 f1
            clear hb10 f0 f1 hB9 hv9 hl9
            go_wp2_with fail
            refine (err_any _ _).mono ?_
            rintro e w' ⟨rfl, rfl⟩
            go_wp2_with fail
            refine (HP.out _ (hA.on hB10)).mono ?_
            rintro e w11 ⟨rfl, hb11⟩
            have hB11 := gr_call hB10 hb11
            go_wp2_with fail
            refine (awake_true _ (hA.on hB11)).mono ?_
            rintro e w12 ⟨rfl, hb12⟩
            go_wp2_with fail
            go_ret
            exact ⟨rfl, gr_call hB11 hb12⟩
end Go.Proofs.YtbjklpodkopgiaaDoor
