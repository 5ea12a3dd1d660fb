/- The law PadBack, walked. -/
import Derived.Test.YtkklgdefliinoaaDoorPadFacts
import Derived.Test.YtkklgdefliinoaaDoorPadAmb
import Derived.Test.YtkklgdefliinoaaDoorByteRow
namespace Go.Proofs.YtkklgdefliinoaaDoor
open Go.RowKit
open PadM
set_option linter.unusedVariables false

set_option maxHeartbeats 3200000 in
set_option maxRecDepth 100000 in
theorem padBack_walk (a0 : ByteArray) (a1 : ByteArray) (a2 : ByteArray) (a3 : Int) (w : World) (hA : Amb w) (w0 : a0.size ≤ maxLen) (w1 : a1.size ≤ maxLen) (w2 : a2.size ≤ maxLen) (w3 : (Lit.int .u16 a3).wf = true) :
    Calls Tryd.prog 4 #[.string a0, .string a1, .string a2, .int .u16 a3] w fun e w' => e = .returned (.bool true) ∧ Below w.heap.size w w' := by
  have haw := awake_true
  have hb0 : 0 ≤ a3 ∧ a3 ≤ 65535 := by simpa [Lit.wf, IntKind.min, IntKind.max, IntKind.signed, IntKind.bits] using w3
  obtain ⟨t, rfl⟩ : ∃ t : Nat, a3 = (t : Int) := ⟨a3.toNat, by omega⟩
  have ht9 : t ≤ 65535 := by omega
  clear w0 w1 w2 w3 hb0 hA
  by_cases h1 : 1500 < a0.size
  · have d1 : decide (1500 < (a0.size : Int)) = true := decide_eq_true (by omega)
    have d1' : decide (1500 < a0.size) = true := decide_eq_true (by omega)
    clear h1
    go_enter Tryd.func4, Tryd.ntmps4
    go_wp2_with fail
    refine (haw _).mono ?_
    rintro e w1 ⟨rfl, hb1⟩
    go_wp2_with fail
    go_ret
    exact ⟨rfl, hb1⟩
  have d1 : decide (1500 < (a0.size : Int)) = false := decide_eq_false (by omega)
  have d1' : decide (1500 < a0.size) = false := decide_eq_false (by omega)
  by_cases h2 : 100 < a1.size
  · have d2 : decide (100 < (a1.size : Int)) = true := decide_eq_true (by omega)
    have d2' : decide (100 < a1.size) = true := decide_eq_true (by omega)
    clear h1 h2
    go_enter Tryd.func4, Tryd.ntmps4
    go_wp2_with fail
    refine (haw _).mono ?_
    rintro e w1 ⟨rfl, hb1⟩
    go_wp2_with fail
    go_ret
    exact ⟨rfl, hb1⟩
  have d2 : decide (100 < (a1.size : Int)) = false := decide_eq_false (by omega)
  have d2' : decide (100 < a1.size) = false := decide_eq_false (by omega)
  by_cases h3 : 100 < a2.size
  · have d3 : decide (100 < (a2.size : Int)) = true := decide_eq_true (by omega)
    have d3' : decide (100 < a2.size) = true := decide_eq_true (by omega)
    clear h1 h2 h3
    go_enter Tryd.func4, Tryd.ntmps4
    go_wp2_with fail
    refine (haw _).mono ?_
    rintro e w1 ⟨rfl, hb1⟩
    go_wp2_with fail
    go_ret
    exact ⟨rfl, hb1⟩
  have d3 : decide (100 < (a2.size : Int)) = false := decide_eq_false (by omega)
  have d3' : decide (100 < a2.size) = false := decide_eq_false (by omega)
  obtain ⟨n, hn⟩ : ∃ n, a0.size = n := ⟨_, rfl⟩
  obtain ⟨k, hk⟩ : ∃ k, a1.size = k := ⟨_, rfl⟩
  obtain ⟨r, hr⟩ : ∃ r, a2.size = r := ⟨_, rfl⟩
  have hLn : (L a0).length = n := by rw [size_L, hn]
  have hmore := more_in (n := n) (by omega)
  obtain ⟨m, hm⟩ : ∃ m, more n = m := ⟨_, rfl⟩
  have hpl := padL_length (L a0)
  rw [hLn, hm] at hpl
  rw [hm] at hmore
  have hput := fun w => put_any a0 (by omega) w
  obtain ⟨P, hP⟩ : ∃ P, strOf (padL (L a0)) = P := ⟨_, rfl⟩
  rw [hP] at hput
  have hLP : L P = padL (L a0) := by rw [← hP, L_strOf]
  obtain ⟨q, hq⟩ : ∃ q, n + m = q := ⟨_, rfl⟩
  rw [hq] at hpl hmore
  have zP : P.size = q := by rw [← size_L, hLP, hpl]
  have hg1 := fun w => get_any ((a1 ++ P) ++ a2) (k : Int) (n : Int) (by rw [ByteArray.size_append, ByteArray.size_append, zP]; omega) w
  have hgp := get_pad (L a1) (L a0) (L a2) (by rw [hLn]; omega)
  rw [size_L, hk, hLn, hpl] at hgp
  rw [L_app, L_app, hLP, hgp] at hg1
  unfold getV at hg1
  simp only [strOf_L] at hg1
  have herr := err_any
  have hmod : (q : Int).tmod 512 = 0 := by rw [Int.tmod_eq_emod_of_nonneg (by omega)]; omega
  have hmod2 : q % 512 = 0 := hmore.2.2.1
  have hmod3 : (q : Int) % 512 = 0 := by omega
  have e1 : decide ((q : Int) < (n : Int)) = false := decide_eq_false (by omega)
  have e1' : decide (q < n) = false := decide_eq_false (by omega)
  have e2 : decide ((n : Int) + 512 ≤ (q : Int)) = false := decide_eq_false (by omega)
  have e2' : decide (n + 512 ≤ q) = false := decide_eq_false (by omega)
  have e3 : IntKind.i64.wrap ((n : Int) + 512) = (n : Int) + 512 := by rw [IntKind.wrap_i64]; omega
  have e4 : IntKind.i64.wrap ((k : Int) + (q : Int)) = (k : Int) + (q : Int) := by rw [IntKind.wrap_i64]; omega
  have hsame : (a0.toList == a0.toList) = true := by simp
  have q1 : ¬ 9223372036854775807 < k + q := by omega
  have q2 : ¬ 9223372036854775807 < k + q + r := by omega
  have hkq : (a1 ++ P).size = k + q := by rw [ByteArray.size_append, hk, zP]
  have hn9 : n ≤ 1500 := by omega
  have hq9 : q ≤ 2100 := by omega
  have hk9 : k ≤ 100 := by omega
  have hr9 : r ≤ 100 := by omega
  replace hput := Lib.hid hput
  replace hg1 := Lib.hid hg1
  replace haw := Lib.hid haw
  rw [hn] at d1 d1'
  rw [hk] at d2 d2'
  rw [hr] at d3 d3'
  by_cases hm0 : m = 0
  · have f1 : ((q : Int) == (n : Int)) = true := by rw [beq_iff_eq]; omega
    have f2 : q = n := by omega
    subst f2
    clear h1 h2 h3 hLn hmore hm hpl hP hLP hgp hm0
    go_enter Tryd.func4, Tryd.ntmps4
    go_wp2_with fail
    refine (hput.out _).mono ?_
    rintro e w1 ⟨rfl, hb1⟩
    go_wp2_with fail
    refine (hg1.out _).mono ?_
    rintro e w2 ⟨rfl, hb2⟩
    have hB2 := gr_call hb1 hb2
    clear hb1 hb2
    go_wp2_with (first | (go_at_call 14; refine (herr _ _).mono ?_; rintro e w5 ⟨rfl, rfl⟩))
    refine (haw.out _).mono ?_
    rintro e w3 ⟨rfl, hb3⟩
    have hB3 := gr_call hB2 hb3
    go_wp2_with fail
    go_ret
    exact ⟨rfl, hB3⟩
  have f1 : ((q : Int) == (n : Int)) = false := by rw [beq_eq_false_iff_ne]; omega
  have hsub : (q : Int) - (n : Int) = (m : Int) := by omega
  obtain ⟨j, hj⟩ : ∃ j, t % m = j := ⟨_, rfl⟩
  have hjm : j < m := by rw [← hj]; exact Nat.mod_lt _ (by omega)
  have htm : (t : Int).tmod (m : Int) = (j : Int) := by rw [Int.tmod_eq_emod_of_nonneg (by omega), ← hj]; rfl
  have hmz : ((m : Int) == 0) = false := by rw [beq_eq_false_iff_ne]; omega
  have hmz2 : ¬ (m : Int) = 0 := by omega
  obtain ⟨x, hx⟩ : ∃ x, n + j = x := ⟨_, rfl⟩
  have hxs : (n : Int) + (j : Int) = (x : Int) := by omega
  have hxq : x < q := by omega
  have hx0 : (0 : Int) ≤ (x : Int) := by omega
  have hxq2 : (x : Int) < (q : Int) := by omega
  have hwt : IntKind.i64.wrap (t : Int) = (t : Int) := by rw [IntKind.wrap_i64]; omega
  obtain ⟨Q, hQ⟩ : ∃ Q : ByteArray, strOf ((padL (L a0)).set x 1) = Q := ⟨_, rfl⟩
  have hg2 := fun w => get_any Q 0 (n : Int) (by rw [← hQ, strOf_sz, List.length_set, hpl]; omega) w
  have ht2 := get_turned (L a0) j (by rw [hLn]; omega) (by rw [hLn, hm]; exact hjm)
  rw [hLn, hx] at ht2
  rw [show L Q = (padL (L a0)).set x 1 by rw [← hQ, L_strOf], ht2] at hg2
  have hLC : L (P.extract 0 (q - 1)) = (padL (L a0)).take (q - 1) := by
    rw [← hLP]
    show (P.extract 0 (q - 1)).data.toList = _
    rw [Lib.extract_data, List.drop_zero, Nat.sub_zero]
    rfl
  obtain ⟨y, hy⟩ : ∃ y, q - 1 = y := ⟨_, rfl⟩
  have hys : (q : Int) - 1 = (y : Int) := by omega
  rw [hy] at hLC
  have hg3 := fun w => get_any (P.extract 0 y) 0 (n : Int) (by rw [← size_L, hLC, List.length_take, hpl]; omega) w
  have ht3 := get_cut (L a0) (by rw [hLn]; omega) (by rw [hLn, hm]; omega)
  rw [hpl, hLn, hy] at ht3
  rw [hLC, ht3] at hg3
  have hy0 : (0 : Int) ≤ (y : Int) := by omega
  have hyq : (y : Int) ≤ (q : Int) := by omega
  have hyq2 : y ≤ q := by omega
  have hcv : ∀ W, (convert 9 34 (.string P)).run Tryd.prog W = .ok (.slice (some ⟨W.heap.size, 0, none⟩) q (grownCap W P.size 0 5)) (Lib.bytesWorld W 5 P) := fun W => by
    have := Lib.run_convert_string_bytes (P := Tryd.prog) W 9 34 5 P Tryd.underlying9 Tryd.underlying34 Tryd.underlying5
    rw [zP] at this ⊢
    exact this
  have HB := Lib.hid (And.intro hLP (And.intro hpl hQ))
  unfold getV at hg2 hg3
  replace hg2 := Lib.hid hg2
  replace hg3 := Lib.hid hg3
  replace hcv := Lib.hid hcv
  clear h1 h2 h3 hLn hmore hm hpl hP hLP hgp hm0 hQ ht2 ht3 hLC hj hx hy hq
  go_enter Tryd.func4, Tryd.ntmps4
  go_wp2_with fail
  refine (hput.out _).mono ?_
  rintro e w1 ⟨rfl, hb1⟩
  go_wp2_with fail
  refine (hg1.out _).mono ?_
  rintro e w2 ⟨rfl, hb2⟩
  have hB2 := gr_call hb1 hb2
  clear hb1 hb2 hput hg1
  have hR := RowIs.of w2 5 P
  rw [show P.data.toList = padL (L a0) from HB.out.1] at hR
  have hB6 := below_bytesWorld hB2 hB2.size 5 P
  have hcv5 := hcv.out w2
  have hle5 : w.heap.size ≤ w2.heap.size := hB2.size
  have hl6 : w2.heap.size < (Lib.bytesWorld w2 5 P).heap.size := hR.size
  clear hcv hB2
  generalize Lib.bytesWorld w2 5 P = w6 at *
  have hIl : x < (padL (L a0)).length := by rw [HB.out.2.1]; exact hxq
  have hcell := hR.cell x hIl
  have hfr := hR.free x hIl
  obtain ⟨cv, hcvv⟩ : ∃ cv, Value.int .u8 ((padL (L a0))[x].toNat : Int) = cv := ⟨_, rfl⟩
  rw [hcvv] at hcell
  have hput := hR.put x 1
  have hB7 := gr_set hB6 (p := ⟨w2.heap.size, x, none⟩) hle5 (.int .u8 1)
  have hback := fun cap => hput.back (P := Tryd.prog) (src := 34) (dst := 9) cap Tryd.underlying34 Tryd.underlying5 Tryd.underlying9
  simp only [List.length_set, HB.out.2.1] at hback
  have hQe : (⟨((padL (L a0)).set x 1).toArray⟩ : ByteArray) = Q := HB.out.2.2
  simp only [hQe] at hback
  have h1e : (((1 : UInt8).toNat : Nat) : Int) = 1 := rfl
  simp only [h1e] at hback
  clear hR hput hB6 hQe hIl hcvv HB h1e
  go_wp2_with (first | (go_at_call 14; refine (herr _ _).mono ?_; rintro e w5 ⟨rfl, rfl⟩))
  refine (hg2.out _).mono ?_
  rintro e w8 ⟨rfl, hb8⟩
  have hB8 := gr_call hB7 hb8
  clear hB7 hb8 hback hcell hfr hg2 hcv5
  go_wp2_with fail
  refine (hg3.out _).mono ?_
  rintro e w9 ⟨rfl, hb9⟩
  have hB9 := gr_call hB8 hb9
  clear hB8 hb9 hg3
  go_wp2_with (first | (go_at_call 14; refine (herr _ _).mono ?_; rintro e w5 ⟨rfl, rfl⟩))
  refine (haw.out _).mono ?_
  rintro e w10 ⟨rfl, hb10⟩
  have hB10 := gr_call hB9 hb10
  go_wp2_with fail
  go_ret
  exact ⟨rfl, hB10⟩
end Go.Proofs.YtkklgdefliinoaaDoor
