/- The law CapsBack, walked. -/
import Derived.Test.YtijagjahocjaaaaCapsMake
namespace Go.Proofs.Ytijagjahocjaaaa
open Go.RowKit
open CapsM
set_option linter.unusedVariables false

set_option maxHeartbeats 3200000 in
set_option maxRecDepth 100000 in
theorem back_2 (p0 i0 x r0 kc ka : Nat) (d : UInt8) (c : Cap) (hcv : c.v = 2) (hc : mkC p0 i0 x r0 = c) (hf : Fits c) (hm : may c = true) (hx : x < 256) (hr0 : r0 < 4294967296) (hkc : kc < 256) (hka : ka < 256) (w : World) :
    Calls Try.prog 4 #[.int .u64 (p0 : Int), .int .u64 (i0 : Int), .int .u8 (x : Int), .int .u32 (r0 : Int), .int .u8 (kc : Int), .int .u8 (ka : Int), .int .u8 (d.toNat : Int)] w fun e w' => e = .returned (.bool true) ∧ Below w.heap.size w w' := by
  have hmk := Make_any p0 i0 x r0 hx hr0
  rw [hc] at hmk
  have hv0 : c.v ≠ 0 := by rw [hcv]; decide
  have hput := Put_any c hf
  have hmy := May_any c
  rw [hm] at hmy
  have hlen : (putL c).length = 20 := by rw [putL_length hm hv0, hcv]; rfl
  have HL3 := Lib.hid (fun h3 => put_ver c hm h3)
  obtain ⟨L, hL⟩ : ∃ L, putL c = L := ⟨_, rfl⟩
  obtain ⟨T, hT⟩ : ∃ T, strOf L = T := ⟨_, rfl⟩
  have hTl : T.data.toList = L := by rw [← hT, strOf_list]
  have hTz : T.size = 20 := by rw [← len_list, hTl, ← hL, hlen]
  have hget := Get_any T (by rw [hTz]; decide)
  rw [hTl, ← hL, get_put c hf hm] at hget
  rw [hL] at hput hlen HL3
  rw [hT] at hput
  -- cut
  obtain ⟨K, hK⟩ : ∃ K, kc % 20 = K := ⟨_, rfl⟩
  have hK2 : K < 20 := by omega
  have hKm : (kc : Int) % 20 = (K : Int) := by rw [← hK]; rfl
  have hKt : Int.tmod (kc : Int) 20 = (K : Int) := by rw [← hK]; rfl
  have hcutl : (T.extract 0 K).data.toList = L.take K := by rw [Lib.extract_data, hTl]; simp
  have hcut := Get_any (T.extract 0 K) (by rw [← len_list, hcutl, List.length_take]; omega)
  rw [hcutl] at hcut
  obtain ⟨l1, hl1⟩ : ∃ l1, (getL (L.take K)).isSome = l1 := ⟨_, rfl⟩
  have Hl1 : Hid (l1 = decide (K = 0)) := Lib.hid (by
    rw [← hl1]
    by_cases hk0 : K = 0
    · rw [hk0, List.take_zero]
      show (getL []).isSome = _
      rw [show getL ([] : List UInt8) = some none0 from by unfold getL; rw [if_pos rfl]]
      rfl
    · rw [← hL, get_cut c hf hm hv0 K (by rw [hL, hlen]; exact hK2) hk0, decide_eq_false hk0]
      rfl)
  obtain ⟨c1, hp1, _⟩ := getRet_pair (getL (L.take K))
  rw [hp1, hl1] at hcut
  -- longer
  obtain ⟨TZ, hTZ⟩ : ∃ TZ, T ++ ⟨#[0]⟩ = TZ := ⟨_, rfl⟩
  have hTZl : TZ.data.toList = L ++ [0] := by rw [← hTZ, bytes_list, hTl]
  have hmore := Get_any TZ (by rw [← len_list, hTZl, List.length_append, hlen]; decide)
  rw [hTZl, ← hL, get_more c hm hv0] at hmore
  -- turned
  obtain ⟨I, hI⟩ : ∃ I, ka % 20 = I := ⟨_, rfl⟩
  have hI2 : I < 20 := by omega
  have hIm : (ka : Int) % 20 = (I : Int) := by rw [← hI]; rfl
  have hIt : Int.tmod (ka : Int) 20 = (I : Int) := by rw [← hI]; rfl
  have hIL : I < L.length := by rw [hlen]; exact hI2
  obtain ⟨U, hU⟩ : ∃ U, strOf (L.set I (L[I] ^^^ d)) = U := ⟨_, rfl⟩
  have hUl : U.data.toList = L.set I (L[I] ^^^ d) := by rw [← hU, strOf_list]
  have hturn := Get_any U (by rw [← len_list, hUl, List.length_set, hlen]; decide)
  rw [hUl] at hturn
  obtain ⟨y, hp3, hy3⟩ := getRet_pair (getL (L.set I (L[I] ^^^ d)))
  obtain ⟨l3, hl3⟩ : ∃ l3, (getL (L.set I (L[I] ^^^ d))).isSome = l3 := ⟨_, rfl⟩
  rw [hp3, hl3] at hturn
  have HY : Hid (l3 = true → d ≠ 0 → y ≠ c) := Lib.hid (by
    rintro rfl hd rfl
    obtain ⟨q, hq⟩ := Option.isSome_iff_exists.1 hl3
    obtain rfl := hy3 q hq
    have := get_same hq
    rw [hL] at this
    exact hd (turn_other hIL this))
  clear hp1 hp3 hy3 hl3 hl1 hcutl hTZl hK hI hc
  have hmy2 := May_any ⟨2, c.p, c.i, c.e, -1⟩
  rw [show may ⟨2, c.p, c.i, c.e, -1⟩ = false from rfl] at hmy2
  obtain ⟨v, p, i, e, r⟩ := c
  simp only at hcv
  subst hcv
  obtain ⟨v1, p1, i1, e1, r1⟩ := c1
  obtain ⟨v3, p3, i3, e3, r3⟩ := y
  unfold capV at hmk hput hmy hmy2
  unfold getRet at hget hmore
  unfold capV at hget hcut hmore hturn
  unfold none0 at hmore
  simp only at hmk hput hmy hmy2 hget hcut hmore hturn
  have Hmk := Lib.hid hmk
  have Hput := Lib.hid hput
  have Hmy := Lib.hid hmy
  have Hmy2 := Lib.hid hmy2
  have Hget := Lib.hid hget
  have Hcut := Lib.hid hcut
  have Hmore := Lib.hid hmore
  have Hturn := Lib.hid hturn
  have HTl := Lib.hid hTl
  have Hlen := Lib.hid hlen
  have HU := Lib.hid hU
  have HTZ := Lib.hid hTZ
  clear hmk hput hmy hmy2 hget hcut hmore hturn hf hm hv0 hT hL hTl hlen hx hr0 hUl hU hTZ
  have hbig : ¬ 9223372036854775807 < T.size + 1 := by omega
  go_enter Try.func4, Try.ntmps4
  go_wp2_with fail
  refine (Hmk.out _).mono ?_
  rintro e w1 ⟨rfl, hb1⟩
  go_wp2_with fail
  refine (Hput.out _).mono ?_
  rintro e w2 ⟨rfl, hb2⟩
  have c0 : w2.cell? ⟨w1.heap.size, 0, none⟩ = some (.int .i64 2) := cell_kept hb2 (by simp [go_sem])
  have c1 : w2.cell? ⟨w1.heap.size, 1, none⟩ = some (.int .u64 (p : Int)) := cell_kept hb2 (by simp [go_sem])
  have c2 : w2.cell? ⟨w1.heap.size, 2, none⟩ = some (.int .u64 (i : Int)) := cell_kept hb2 (by simp [go_sem])
  have c3 : w2.cell? ⟨w1.heap.size, 3, none⟩ = some (.bool e) := cell_kept hb2 (by simp [go_sem])
  have c4 : w2.cell? ⟨w1.heap.size, 4, none⟩ = some (.int .i64 r) := cell_kept hb2 (by simp [go_sem])
  have f4 : w2.frozen? ⟨w1.heap.size, 4, none⟩ = false := free_kept hb2 (v := .int .i64 r) (by simp [go_sem]) (by simp [go_sem])
  have hA2 : w1.heap.size < w2.heap.size := block_lt c0
  have hbl : Below w.heap.size w w2 := gr_call (gr_alloc hb1 _) hb2
  have hsA := hb1.size
  clear hb1 hb2 Hmk Hput
  go_wp2_with fail
  refine (Hget.out _).mono ?_
  rintro e' w3 ⟨rfl, hb3⟩
  replace f4 := free_kept hb3 c4 f4
  replace c0 := cell_kept hb3 c0
  replace c1 := cell_kept hb3 c1
  replace c2 := cell_kept hb3 c2
  replace c3 := cell_kept hb3 c3
  replace c4 := cell_kept hb3 c4
  have hA3 : w1.heap.size < w3.heap.size := block_lt c0
  replace hbl := gr_call hbl hb3
  clear hb3 Hget hA2
  go_wp2_with fail
  refine (Hmy.out _).mono ?_
  rintro e' w4 ⟨rfl, hb4⟩
  have x0 : w4.cell? ⟨w3.heap.size, 0, none⟩ = some (.int .i64 2) := cell_kept hb4 (by simp [go_sem])
  have x1 : w4.cell? ⟨w3.heap.size, 1, none⟩ = some (.int .u64 (p : Int)) := cell_kept hb4 (by simp [go_sem])
  have x2 : w4.cell? ⟨w3.heap.size, 2, none⟩ = some (.int .u64 (i : Int)) := cell_kept hb4 (by simp [go_sem])
  have x3 : w4.cell? ⟨w3.heap.size, 3, none⟩ = some (.bool e) := cell_kept hb4 (by simp [go_sem])
  have x4 : w4.cell? ⟨w3.heap.size, 4, none⟩ = some (.int .i64 r) := cell_kept hb4 (by simp [go_sem])
  replace hb4 := gr_call (gr_alloc (Below.refl w3.heap.size w3) _) hb4
  replace f4 := free_kept hb4 c4 f4
  replace c0 := cell_kept hb4 c0
  replace c1 := cell_kept hb4 c1
  replace c2 := cell_kept hb4 c2
  replace c3 := cell_kept hb4 c3
  replace c4 := cell_kept hb4 c4
  replace hbl := gr_call hbl hb4
  clear hb4 Hmy
  go_wp2_with fail
  refine (Hcut.out _).mono ?_
  rintro e' w5 ⟨rfl, hb5⟩
  replace f4 := free_kept hb5 c4 f4
  replace c0 := cell_kept hb5 c0
  replace c1 := cell_kept hb5 c1
  replace c2 := cell_kept hb5 c2
  replace c3 := cell_kept hb5 c3
  replace c4 := cell_kept hb5 c4
  replace x0 := cell_kept hb5 x0
  replace x1 := cell_kept hb5 x1
  replace x2 := cell_kept hb5 x2
  replace x3 := cell_kept hb5 x3
  replace x4 := cell_kept hb5 x4
  replace hbl := gr_call hbl hb5
  clear hb5 Hcut
  have hTZ := HTZ.out
  go_wp2_with fail
  refine (Hmore.out _).mono ?_
  rintro e' w6 ⟨rfl, hb6⟩
  replace hb6 := gr_call (gr_alloc (Below.refl w5.heap.size w5) _) hb6
  replace f4 := free_kept hb6 c4 f4
  replace c0 := cell_kept hb6 c0
  replace c1 := cell_kept hb6 c1
  replace c2 := cell_kept hb6 c2
  replace c3 := cell_kept hb6 c3
  replace c4 := cell_kept hb6 c4
  replace x0 := cell_kept hb6 x0
  replace x1 := cell_kept hb6 x1
  replace x2 := cell_kept hb6 x2
  replace x3 := cell_kept hb6 x3
  replace x4 := cell_kept hb6 x4
  replace hbl := gr_call hbl hb6
  clear hb6 Hmore hTZ HTZ hbig
  go_upto_region 9 with fail
  obtain ⟨W, hW⟩ : ∃ W, w6.alloc (.cells #[.int .i64 0, .int .u64 0, .int .u64 0, .bool false, .int .i64 0] 24) = W := ⟨_, rfl⟩
  have hbW : Below w6.heap.size w6 W := by rw [← hW]; exact gr_alloc (Below.refl _ _) _
  rw [hW]
  clear hW
  replace f4 := free_kept hbW c4 f4
  replace c0 := cell_kept hbW c0
  replace c1 := cell_kept hbW c1
  replace c2 := cell_kept hbW c2
  replace c3 := cell_kept hbW c3
  replace c4 := cell_kept hbW c4
  replace x0 := cell_kept hbW x0
  replace x1 := cell_kept hbW x1
  replace x2 := cell_kept hbW x2
  replace x3 := cell_kept hbW x3
  replace x4 := cell_kept hbW x4
  replace hbl := gr_call hbl hbW
  clear hbW
  have hcv : (convert 9 36 (.string T)).run Try.prog W = .ok (.slice (some ⟨W.heap.size, 0, none⟩) 20 (grownCap W 20 0 5)) (Lib.bytesWorld W 5 T) := by
    have := Lib.run_convert_string_bytes (P := Try.prog) W 9 36 5 T Try.underlying9 Try.underlying36 Try.underlying5
    rw [hTz] at this
    exact this
  have hR := RowIs.of W 5 T
  have hsW := hbl.size
  rw [HTl.out] at hR
  have hbW : Below W.heap.size W (Lib.bytesWorld W 5 T) := below_bytesWorld (Below.refl _ _) (Nat.le_refl _) 5 T
  have hAW : w1.heap.size < W.heap.size := block_lt c0
  have hXW : w3.heap.size < W.heap.size := block_lt x0
  obtain ⟨gb, hgb⟩ : ∃ gb, W.heap.size = gb := ⟨_, rfl⟩
  replace f4 := free_kept hbW c4 f4
  replace c0 := cell_kept hbW c0
  replace c1 := cell_kept hbW c1
  replace c2 := cell_kept hbW c2
  replace c3 := cell_kept hbW c3
  replace c4 := cell_kept hbW c4
  replace x0 := cell_kept hbW x0
  replace x1 := cell_kept hbW x1
  replace x2 := cell_kept hbW x2
  replace x3 := cell_kept hbW x3
  replace x4 := cell_kept hbW x4
  replace hbl := gr_call hbl hbW
  have hwW : w.heap.size ≤ gb := by omega
  rw [hgb] at hR hcv hAW hXW
  generalize Lib.bytesWorld W 5 T = W2 at *
  have hc := hR.cell I hIL
  have hz := hR.free I hIL
  obtain ⟨xb, hxb⟩ : ∃ xb, L[I] = xb := ⟨_, rfl⟩
  have hxor := xor_b xb d
  obtain ⟨yb, hyb⟩ : ∃ yb, xb ^^^ d = yb := ⟨_, rfl⟩
  rw [hxb] at hc
  rw [hyb] at hxor
  have hU := HU.out
  rw [hxb, hyb] at hU
  have HU2 := Lib.hid hU
  clear hU HU hxb hyb
  have hR10 := hR.put I yb
  have hb11 : Below w.heap.size w (W2.setCell ⟨gb, I, none⟩ (.int .u8 (yb.toNat : Int))) := hbl.setCell hwW _
  have hlI : ¬ (I : Int) < 0 := by omega
  have hlI2 : (I : Int) < 20 := by omega
  go_upto_region 11 with fail
  have hb23 : Below gb W2 (W2.setCell ⟨gb, I, none⟩ (.int .u8 (yb.toNat : Int))) := (Below.refl gb W2).setCell (Nat.le_refl _) _
  generalize W2.setCell ⟨gb, I, none⟩ (.int .u8 (yb.toNat : Int)) = W3 at *
  have hcb := fun cap => hR10.back (P := Try.prog) (src := 36) (dst := 9) cap Try.underlying36 Try.underlying5 Try.underlying9
  rw [List.length_set, Hlen.out] at hcb
  have hU2 := HU2.out
  unfold strOf at hU2
  rw [hU2] at hcb
  replace c0 := (hb23.cell (p := ⟨w1.heap.size, 0, none⟩) hAW).trans c0
  replace c1 := (hb23.cell (p := ⟨w1.heap.size, 1, none⟩) hAW).trans c1
  replace c2 := (hb23.cell (p := ⟨w1.heap.size, 2, none⟩) hAW).trans c2
  replace c3 := (hb23.cell (p := ⟨w1.heap.size, 3, none⟩) hAW).trans c3
  replace c4 := (hb23.cell (p := ⟨w1.heap.size, 4, none⟩) hAW).trans c4
  replace f4 := (hb23.frozen (p := ⟨w1.heap.size, 4, none⟩) hAW).trans f4
  replace x0 := (hb23.cell (p := ⟨w3.heap.size, 0, none⟩) hXW).trans x0
  replace x1 := (hb23.cell (p := ⟨w3.heap.size, 1, none⟩) hXW).trans x1
  replace x2 := (hb23.cell (p := ⟨w3.heap.size, 2, none⟩) hXW).trans x2
  replace x3 := (hb23.cell (p := ⟨w3.heap.size, 3, none⟩) hXW).trans x3
  replace x4 := (hb23.cell (p := ⟨w3.heap.size, 4, none⟩) hXW).trans x4
  clear hb23 hR10 hR hz hc hxor hU2 HU2 hcv hbl hbW hgb
  go_wp2_with fail
  refine (Hturn.out _).mono ?_
  rintro e' w7 ⟨rfl, hb7⟩
  replace f4 := free_kept hb7 c4 f4
  replace c0 := cell_kept hb7 c0
  replace c1 := cell_kept hb7 c1
  replace c2 := cell_kept hb7 c2
  replace c3 := cell_kept hb7 c3
  replace c4 := cell_kept hb7 c4
  replace x0 := cell_kept hb7 x0
  replace x1 := cell_kept hb7 x1
  replace x2 := cell_kept hb7 x2
  replace x3 := cell_kept hb7 x3
  replace x4 := cell_kept hb7 x4
  have hbl := gr_call hb11 hb7
  have hA7 : w1.heap.size < w7.heap.size := block_lt c0
  have hX7 : w3.heap.size < w7.heap.size := block_lt x0
  clear hb7 Hturn hb11 hcb
  go_upto_region 13 with fail
  obtain ⟨W8, hW8⟩ : ∃ W8, (w7.setCell ⟨w1.heap.size, 4, none⟩ (.int .i64 (-1))).alloc (.cells #[.int .i64 v3, .int .u64 (p3 : Int), .int .u64 (i3 : Int), .bool e3, .int .i64 r3] 24) = W8 := ⟨_, rfl⟩
  have d0 : W8.cell? ⟨w1.heap.size, 0, none⟩ = some (.int .i64 2) := by rw [← hW8]; simp [go_sem, hA7, c0]
  have d1 : W8.cell? ⟨w1.heap.size, 1, none⟩ = some (.int .u64 (p : Int)) := by rw [← hW8]; simp [go_sem, hA7, c1]
  have d2 : W8.cell? ⟨w1.heap.size, 2, none⟩ = some (.int .u64 (i : Int)) := by rw [← hW8]; simp [go_sem, hA7, c2]
  have d3 : W8.cell? ⟨w1.heap.size, 3, none⟩ = some (.bool e) := by rw [← hW8]; simp [go_sem, hA7, c3]
  have d4 : W8.cell? ⟨w1.heap.size, 4, none⟩ = some (.int .i64 (-1)) := by rw [← hW8]; simp [go_sem, hA7, c4]
  have y0 : W8.cell? ⟨w7.heap.size, 0, none⟩ = some (.int .i64 v3) := by rw [← hW8]; simp [go_sem]
  have y1 : W8.cell? ⟨w7.heap.size, 1, none⟩ = some (.int .u64 (p3 : Int)) := by rw [← hW8]; simp [go_sem]
  have y2 : W8.cell? ⟨w7.heap.size, 2, none⟩ = some (.int .u64 (i3 : Int)) := by rw [← hW8]; simp [go_sem]
  have y3 : W8.cell? ⟨w7.heap.size, 3, none⟩ = some (.bool e3) := by rw [← hW8]; simp [go_sem]
  have y4 : W8.cell? ⟨w7.heap.size, 4, none⟩ = some (.int .i64 r3) := by rw [← hW8]; simp [go_sem]
  have hne13 : w3.heap.size ≠ w1.heap.size := by omega
  have z0 : W8.cell? ⟨w3.heap.size, 0, none⟩ = some (.int .i64 2) := by rw [← hW8]; simp [go_sem, hX7, x0, hne13]
  have z1 : W8.cell? ⟨w3.heap.size, 1, none⟩ = some (.int .u64 (p : Int)) := by rw [← hW8]; simp [go_sem, hX7, x1, hne13]
  have z2 : W8.cell? ⟨w3.heap.size, 2, none⟩ = some (.int .u64 (i : Int)) := by rw [← hW8]; simp [go_sem, hX7, x2, hne13]
  have z3 : W8.cell? ⟨w3.heap.size, 3, none⟩ = some (.bool e) := by rw [← hW8]; simp [go_sem, hX7, x3, hne13]
  have z4 : W8.cell? ⟨w3.heap.size, 4, none⟩ = some (.int .i64 r) := by rw [← hW8]; simp [go_sem, hX7, x4, hne13]
  have hb8 : Below w.heap.size w W8 := by rw [← hW8]; exact gr_alloc (gr_set hbl hsA _) _
  rw [hW8]
  have hix : ∀ w, (2 : Int) = 3 → (Instr.index 9 (.string T) (.int .i64 3)).run Try.prog w = .ok (.int .u8 3) w := by
    intro w h3
    obtain ⟨q, h1, h2⟩ := idxAt (P := Try.prog) Try.underlying9 T 3 (by rw [hTz]; decide)
    rw [HTl.out, HL3.out (by first | exact h3 | exact trivial)] at h1
    have : q = 3 := (Option.some.inj h1).symm
    subst this
    exact h2 w
  clear hW8 hbl c0 c1 c2 c3 c4 f4 x0 x1 x2 x3 x4 hA7 hX7 hne13 HTl hTz
  clear hA3 hAW hXW hKm hKt hIm hIt hkc hka hsW hwW hIL hI2
  by_cases hd : d = 0
  · have t1 : ((d.toNat : Int) == 0) = true := by rw [hd]; rfl
    clear HY hd
    by_cases hK0 : K = 0
    · have t2 : ((K : Int) == 0) = true := by rw [hK0]; rfl
      obtain rfl : l1 = true := Hl1.out.trans (decide_eq_true hK0)
      clear Hl1 hK0
      go_wp2_with fail
      all_goals first
        | (refine (Hmy2.out _).mono ?_; rintro e' w9 ⟨rfl, hb9⟩; replace hb8 := gr_call hb8 hb9; go_wp2_with fail; refine (awake_true _).mono ?_; rintro e' w10 ⟨rfl, hb10⟩; replace hb8 := gr_call hb8 hb10; go_wp2_with fail; go_ret; exact ⟨rfl, hb8⟩)
        | (exfalso; refine HY2.out ⟨?_, ?_, ?_, ?_, ?_⟩ <;> first | assumption | rfl | omega)
        | trace_state
    · have t2 : ((K : Int) == 0) = false := by simp; omega
      obtain rfl : l1 = false := Hl1.out.trans (decide_eq_false hK0)
      clear Hl1 hK0
      go_wp2_with fail
      all_goals first
        | (refine (Hmy2.out _).mono ?_; rintro e' w9 ⟨rfl, hb9⟩; replace hb8 := gr_call hb8 hb9; go_wp2_with fail; refine (awake_true _).mono ?_; rintro e' w10 ⟨rfl, hb10⟩; replace hb8 := gr_call hb8 hb10; go_wp2_with fail; go_ret; exact ⟨rfl, hb8⟩)
        | (exfalso; refine HY2.out ⟨?_, ?_, ?_, ?_, ?_⟩ <;> first | assumption | rfl | omega)
        | trace_state
  have t1 : ((d.toNat : Int) == 0) = false := toNat_ne (b := 0) hd
  rcases l3 with _ | _
  · clear HY hd
    by_cases hK0 : K = 0
    · have t2 : ((K : Int) == 0) = true := by rw [hK0]; rfl
      obtain rfl : l1 = true := Hl1.out.trans (decide_eq_true hK0)
      clear Hl1 hK0
      go_wp2_with fail
      all_goals first
        | (refine (Hmy2.out _).mono ?_; rintro e' w9 ⟨rfl, hb9⟩; replace hb8 := gr_call hb8 hb9; go_wp2_with fail; refine (awake_true _).mono ?_; rintro e' w10 ⟨rfl, hb10⟩; replace hb8 := gr_call hb8 hb10; go_wp2_with fail; go_ret; exact ⟨rfl, hb8⟩)
        | (exfalso; refine HY2.out ⟨?_, ?_, ?_, ?_, ?_⟩ <;> first | assumption | rfl | omega)
        | trace_state
    · have t2 : ((K : Int) == 0) = false := by simp; omega
      obtain rfl : l1 = false := Hl1.out.trans (decide_eq_false hK0)
      clear Hl1 hK0
      go_wp2_with fail
      all_goals first
        | (refine (Hmy2.out _).mono ?_; rintro e' w9 ⟨rfl, hb9⟩; replace hb8 := gr_call hb8 hb9; go_wp2_with fail; refine (awake_true _).mono ?_; rintro e' w10 ⟨rfl, hb10⟩; replace hb8 := gr_call hb8 hb10; go_wp2_with fail; go_ret; exact ⟨rfl, hb8⟩)
        | (exfalso; refine HY2.out ⟨?_, ?_, ?_, ?_, ?_⟩ <;> first | assumption | rfl | omega)
        | trace_state
  · have hy := HY.out rfl hd
    have hy2 : ¬ (v3 = 2 ∧ p3 = p ∧ i3 = i ∧ e3 = e ∧ r3 = r) := by
      rintro ⟨rfl, rfl, rfl, rfl, rfl⟩
      exact hy rfl
    have HY2 := Lib.hid hy2
    clear HY hd hy hy2
    by_cases hK0 : K = 0
    · have t2 : ((K : Int) == 0) = true := by rw [hK0]; rfl
      obtain rfl : l1 = true := Hl1.out.trans (decide_eq_true hK0)
      clear Hl1 hK0
      go_wp2_with fail
      all_goals first
        | (refine (Hmy2.out _).mono ?_; rintro e' w9 ⟨rfl, hb9⟩; replace hb8 := gr_call hb8 hb9; go_wp2_with fail; refine (awake_true _).mono ?_; rintro e' w10 ⟨rfl, hb10⟩; replace hb8 := gr_call hb8 hb10; go_wp2_with fail; go_ret; exact ⟨rfl, hb8⟩)
        | (exfalso; refine HY2.out ⟨?_, ?_, ?_, ?_, ?_⟩ <;> first | assumption | rfl | omega)
        | trace_state
    · have t2 : ((K : Int) == 0) = false := by simp; omega
      obtain rfl : l1 = false := Hl1.out.trans (decide_eq_false hK0)
      clear Hl1 hK0
      go_wp2_with fail
      all_goals first
        | (refine (Hmy2.out _).mono ?_; rintro e' w9 ⟨rfl, hb9⟩; replace hb8 := gr_call hb8 hb9; go_wp2_with fail; refine (awake_true _).mono ?_; rintro e' w10 ⟨rfl, hb10⟩; replace hb8 := gr_call hb8 hb10; go_wp2_with fail; go_ret; exact ⟨rfl, hb8⟩)
        | (exfalso; refine HY2.out ⟨?_, ?_, ?_, ?_, ?_⟩ <;> first | assumption | rfl | omega)
        | trace_state
set_option maxHeartbeats 3200000 in
set_option maxRecDepth 100000 in
theorem back_3 (p0 i0 x r0 kc ka : Nat) (d : UInt8) (c : Cap) (hcv : c.v = 3) (hc : mkC p0 i0 x r0 = c) (hf : Fits c) (hm : may c = true) (hx : x < 256) (hr0 : r0 < 4294967296) (hkc : kc < 256) (hka : ka < 256) (w : World) :
    Calls Try.prog 4 #[.int .u64 (p0 : Int), .int .u64 (i0 : Int), .int .u8 (x : Int), .int .u32 (r0 : Int), .int .u8 (kc : Int), .int .u8 (ka : Int), .int .u8 (d.toNat : Int)] w fun e w' => e = .returned (.bool true) ∧ Below w.heap.size w w' := by
  have hmk := Make_any p0 i0 x r0 hx hr0
  rw [hc] at hmk
  have hv0 : c.v ≠ 0 := by rw [hcv]; decide
  have hput := Put_any c hf
  have hmy := May_any c
  rw [hm] at hmy
  have hlen : (putL c).length = 24 := by rw [putL_length hm hv0, hcv]; rfl
  have HL3 := Lib.hid (fun h3 => put_ver c hm h3)
  obtain ⟨L, hL⟩ : ∃ L, putL c = L := ⟨_, rfl⟩
  obtain ⟨T, hT⟩ : ∃ T, strOf L = T := ⟨_, rfl⟩
  have hTl : T.data.toList = L := by rw [← hT, strOf_list]
  have hTz : T.size = 24 := by rw [← len_list, hTl, ← hL, hlen]
  have hget := Get_any T (by rw [hTz]; decide)
  rw [hTl, ← hL, get_put c hf hm] at hget
  rw [hL] at hput hlen HL3
  rw [hT] at hput
  -- cut
  obtain ⟨K, hK⟩ : ∃ K, kc % 24 = K := ⟨_, rfl⟩
  have hK2 : K < 24 := by omega
  have hKm : (kc : Int) % 24 = (K : Int) := by rw [← hK]; rfl
  have hKt : Int.tmod (kc : Int) 24 = (K : Int) := by rw [← hK]; rfl
  have hcutl : (T.extract 0 K).data.toList = L.take K := by rw [Lib.extract_data, hTl]; simp
  have hcut := Get_any (T.extract 0 K) (by rw [← len_list, hcutl, List.length_take]; omega)
  rw [hcutl] at hcut
  obtain ⟨l1, hl1⟩ : ∃ l1, (getL (L.take K)).isSome = l1 := ⟨_, rfl⟩
  have Hl1 : Hid (l1 = decide (K = 0)) := Lib.hid (by
    rw [← hl1]
    by_cases hk0 : K = 0
    · rw [hk0, List.take_zero]
      show (getL []).isSome = _
      rw [show getL ([] : List UInt8) = some none0 from by unfold getL; rw [if_pos rfl]]
      rfl
    · rw [← hL, get_cut c hf hm hv0 K (by rw [hL, hlen]; exact hK2) hk0, decide_eq_false hk0]
      rfl)
  obtain ⟨c1, hp1, _⟩ := getRet_pair (getL (L.take K))
  rw [hp1, hl1] at hcut
  -- longer
  obtain ⟨TZ, hTZ⟩ : ∃ TZ, T ++ ⟨#[0]⟩ = TZ := ⟨_, rfl⟩
  have hTZl : TZ.data.toList = L ++ [0] := by rw [← hTZ, bytes_list, hTl]
  have hmore := Get_any TZ (by rw [← len_list, hTZl, List.length_append, hlen]; decide)
  rw [hTZl, ← hL, get_more c hm hv0] at hmore
  -- turned
  obtain ⟨I, hI⟩ : ∃ I, ka % 24 = I := ⟨_, rfl⟩
  have hI2 : I < 24 := by omega
  have hIm : (ka : Int) % 24 = (I : Int) := by rw [← hI]; rfl
  have hIt : Int.tmod (ka : Int) 24 = (I : Int) := by rw [← hI]; rfl
  have hIL : I < L.length := by rw [hlen]; exact hI2
  obtain ⟨U, hU⟩ : ∃ U, strOf (L.set I (L[I] ^^^ d)) = U := ⟨_, rfl⟩
  have hUl : U.data.toList = L.set I (L[I] ^^^ d) := by rw [← hU, strOf_list]
  have hturn := Get_any U (by rw [← len_list, hUl, List.length_set, hlen]; decide)
  rw [hUl] at hturn
  obtain ⟨y, hp3, hy3⟩ := getRet_pair (getL (L.set I (L[I] ^^^ d)))
  obtain ⟨l3, hl3⟩ : ∃ l3, (getL (L.set I (L[I] ^^^ d))).isSome = l3 := ⟨_, rfl⟩
  rw [hp3, hl3] at hturn
  have HY : Hid (l3 = true → d ≠ 0 → y ≠ c) := Lib.hid (by
    rintro rfl hd rfl
    obtain ⟨q, hq⟩ := Option.isSome_iff_exists.1 hl3
    obtain rfl := hy3 q hq
    have := get_same hq
    rw [hL] at this
    exact hd (turn_other hIL this))
  clear hp1 hp3 hy3 hl3 hl1 hcutl hTZl hK hI hc
  have hmy2 := May_any ⟨3, c.p, c.i, c.e, -1⟩
  rw [show may ⟨3, c.p, c.i, c.e, -1⟩ = false from rfl] at hmy2
  obtain ⟨v, p, i, e, r⟩ := c
  simp only at hcv
  subst hcv
  obtain ⟨v1, p1, i1, e1, r1⟩ := c1
  obtain ⟨v3, p3, i3, e3, r3⟩ := y
  unfold capV at hmk hput hmy hmy2
  unfold getRet at hget hmore
  unfold capV at hget hcut hmore hturn
  unfold none0 at hmore
  simp only at hmk hput hmy hmy2 hget hcut hmore hturn
  have Hmk := Lib.hid hmk
  have Hput := Lib.hid hput
  have Hmy := Lib.hid hmy
  have Hmy2 := Lib.hid hmy2
  have Hget := Lib.hid hget
  have Hcut := Lib.hid hcut
  have Hmore := Lib.hid hmore
  have Hturn := Lib.hid hturn
  have HTl := Lib.hid hTl
  have Hlen := Lib.hid hlen
  have HU := Lib.hid hU
  have HTZ := Lib.hid hTZ
  clear hmk hput hmy hmy2 hget hcut hmore hturn hf hm hv0 hT hL hTl hlen hx hr0 hUl hU hTZ
  have hbig : ¬ 9223372036854775807 < T.size + 1 := by omega
  go_enter Try.func4, Try.ntmps4
  go_wp2_with fail
  refine (Hmk.out _).mono ?_
  rintro e w1 ⟨rfl, hb1⟩
  go_wp2_with fail
  refine (Hput.out _).mono ?_
  rintro e w2 ⟨rfl, hb2⟩
  have c0 : w2.cell? ⟨w1.heap.size, 0, none⟩ = some (.int .i64 3) := cell_kept hb2 (by simp [go_sem])
  have c1 : w2.cell? ⟨w1.heap.size, 1, none⟩ = some (.int .u64 (p : Int)) := cell_kept hb2 (by simp [go_sem])
  have c2 : w2.cell? ⟨w1.heap.size, 2, none⟩ = some (.int .u64 (i : Int)) := cell_kept hb2 (by simp [go_sem])
  have c3 : w2.cell? ⟨w1.heap.size, 3, none⟩ = some (.bool e) := cell_kept hb2 (by simp [go_sem])
  have c4 : w2.cell? ⟨w1.heap.size, 4, none⟩ = some (.int .i64 r) := cell_kept hb2 (by simp [go_sem])
  have f4 : w2.frozen? ⟨w1.heap.size, 4, none⟩ = false := free_kept hb2 (v := .int .i64 r) (by simp [go_sem]) (by simp [go_sem])
  have hA2 : w1.heap.size < w2.heap.size := block_lt c0
  have hbl : Below w.heap.size w w2 := gr_call (gr_alloc hb1 _) hb2
  have hsA := hb1.size
  clear hb1 hb2 Hmk Hput
  go_wp2_with fail
  refine (Hget.out _).mono ?_
  rintro e' w3 ⟨rfl, hb3⟩
  replace f4 := free_kept hb3 c4 f4
  replace c0 := cell_kept hb3 c0
  replace c1 := cell_kept hb3 c1
  replace c2 := cell_kept hb3 c2
  replace c3 := cell_kept hb3 c3
  replace c4 := cell_kept hb3 c4
  have hA3 : w1.heap.size < w3.heap.size := block_lt c0
  replace hbl := gr_call hbl hb3
  clear hb3 Hget hA2
  go_wp2_with fail
  refine (Hmy.out _).mono ?_
  rintro e' w4 ⟨rfl, hb4⟩
  have x0 : w4.cell? ⟨w3.heap.size, 0, none⟩ = some (.int .i64 3) := cell_kept hb4 (by simp [go_sem])
  have x1 : w4.cell? ⟨w3.heap.size, 1, none⟩ = some (.int .u64 (p : Int)) := cell_kept hb4 (by simp [go_sem])
  have x2 : w4.cell? ⟨w3.heap.size, 2, none⟩ = some (.int .u64 (i : Int)) := cell_kept hb4 (by simp [go_sem])
  have x3 : w4.cell? ⟨w3.heap.size, 3, none⟩ = some (.bool e) := cell_kept hb4 (by simp [go_sem])
  have x4 : w4.cell? ⟨w3.heap.size, 4, none⟩ = some (.int .i64 r) := cell_kept hb4 (by simp [go_sem])
  replace hb4 := gr_call (gr_alloc (Below.refl w3.heap.size w3) _) hb4
  replace f4 := free_kept hb4 c4 f4
  replace c0 := cell_kept hb4 c0
  replace c1 := cell_kept hb4 c1
  replace c2 := cell_kept hb4 c2
  replace c3 := cell_kept hb4 c3
  replace c4 := cell_kept hb4 c4
  replace hbl := gr_call hbl hb4
  clear hb4 Hmy
  go_wp2_with fail
  refine (Hcut.out _).mono ?_
  rintro e' w5 ⟨rfl, hb5⟩
  replace f4 := free_kept hb5 c4 f4
  replace c0 := cell_kept hb5 c0
  replace c1 := cell_kept hb5 c1
  replace c2 := cell_kept hb5 c2
  replace c3 := cell_kept hb5 c3
  replace c4 := cell_kept hb5 c4
  replace x0 := cell_kept hb5 x0
  replace x1 := cell_kept hb5 x1
  replace x2 := cell_kept hb5 x2
  replace x3 := cell_kept hb5 x3
  replace x4 := cell_kept hb5 x4
  replace hbl := gr_call hbl hb5
  clear hb5 Hcut
  have hTZ := HTZ.out
  go_wp2_with fail
  refine (Hmore.out _).mono ?_
  rintro e' w6 ⟨rfl, hb6⟩
  replace hb6 := gr_call (gr_alloc (Below.refl w5.heap.size w5) _) hb6
  replace f4 := free_kept hb6 c4 f4
  replace c0 := cell_kept hb6 c0
  replace c1 := cell_kept hb6 c1
  replace c2 := cell_kept hb6 c2
  replace c3 := cell_kept hb6 c3
  replace c4 := cell_kept hb6 c4
  replace x0 := cell_kept hb6 x0
  replace x1 := cell_kept hb6 x1
  replace x2 := cell_kept hb6 x2
  replace x3 := cell_kept hb6 x3
  replace x4 := cell_kept hb6 x4
  replace hbl := gr_call hbl hb6
  clear hb6 Hmore hTZ HTZ hbig
  go_upto_region 9 with fail
  obtain ⟨W, hW⟩ : ∃ W, w6.alloc (.cells #[.int .i64 0, .int .u64 0, .int .u64 0, .bool false, .int .i64 0] 24) = W := ⟨_, rfl⟩
  have hbW : Below w6.heap.size w6 W := by rw [← hW]; exact gr_alloc (Below.refl _ _) _
  rw [hW]
  clear hW
  replace f4 := free_kept hbW c4 f4
  replace c0 := cell_kept hbW c0
  replace c1 := cell_kept hbW c1
  replace c2 := cell_kept hbW c2
  replace c3 := cell_kept hbW c3
  replace c4 := cell_kept hbW c4
  replace x0 := cell_kept hbW x0
  replace x1 := cell_kept hbW x1
  replace x2 := cell_kept hbW x2
  replace x3 := cell_kept hbW x3
  replace x4 := cell_kept hbW x4
  replace hbl := gr_call hbl hbW
  clear hbW
  have hcv : (convert 9 36 (.string T)).run Try.prog W = .ok (.slice (some ⟨W.heap.size, 0, none⟩) 24 (grownCap W 24 0 5)) (Lib.bytesWorld W 5 T) := by
    have := Lib.run_convert_string_bytes (P := Try.prog) W 9 36 5 T Try.underlying9 Try.underlying36 Try.underlying5
    rw [hTz] at this
    exact this
  have hR := RowIs.of W 5 T
  have hsW := hbl.size
  rw [HTl.out] at hR
  have hbW : Below W.heap.size W (Lib.bytesWorld W 5 T) := below_bytesWorld (Below.refl _ _) (Nat.le_refl _) 5 T
  have hAW : w1.heap.size < W.heap.size := block_lt c0
  have hXW : w3.heap.size < W.heap.size := block_lt x0
  obtain ⟨gb, hgb⟩ : ∃ gb, W.heap.size = gb := ⟨_, rfl⟩
  replace f4 := free_kept hbW c4 f4
  replace c0 := cell_kept hbW c0
  replace c1 := cell_kept hbW c1
  replace c2 := cell_kept hbW c2
  replace c3 := cell_kept hbW c3
  replace c4 := cell_kept hbW c4
  replace x0 := cell_kept hbW x0
  replace x1 := cell_kept hbW x1
  replace x2 := cell_kept hbW x2
  replace x3 := cell_kept hbW x3
  replace x4 := cell_kept hbW x4
  replace hbl := gr_call hbl hbW
  have hwW : w.heap.size ≤ gb := by omega
  rw [hgb] at hR hcv hAW hXW
  generalize Lib.bytesWorld W 5 T = W2 at *
  have hc := hR.cell I hIL
  have hz := hR.free I hIL
  obtain ⟨xb, hxb⟩ : ∃ xb, L[I] = xb := ⟨_, rfl⟩
  have hxor := xor_b xb d
  obtain ⟨yb, hyb⟩ : ∃ yb, xb ^^^ d = yb := ⟨_, rfl⟩
  rw [hxb] at hc
  rw [hyb] at hxor
  have hU := HU.out
  rw [hxb, hyb] at hU
  have HU2 := Lib.hid hU
  clear hU HU hxb hyb
  have hR10 := hR.put I yb
  have hb11 : Below w.heap.size w (W2.setCell ⟨gb, I, none⟩ (.int .u8 (yb.toNat : Int))) := hbl.setCell hwW _
  have hlI : ¬ (I : Int) < 0 := by omega
  have hlI2 : (I : Int) < 24 := by omega
  go_upto_region 11 with fail
  have hb23 : Below gb W2 (W2.setCell ⟨gb, I, none⟩ (.int .u8 (yb.toNat : Int))) := (Below.refl gb W2).setCell (Nat.le_refl _) _
  generalize W2.setCell ⟨gb, I, none⟩ (.int .u8 (yb.toNat : Int)) = W3 at *
  have hcb := fun cap => hR10.back (P := Try.prog) (src := 36) (dst := 9) cap Try.underlying36 Try.underlying5 Try.underlying9
  rw [List.length_set, Hlen.out] at hcb
  have hU2 := HU2.out
  unfold strOf at hU2
  rw [hU2] at hcb
  replace c0 := (hb23.cell (p := ⟨w1.heap.size, 0, none⟩) hAW).trans c0
  replace c1 := (hb23.cell (p := ⟨w1.heap.size, 1, none⟩) hAW).trans c1
  replace c2 := (hb23.cell (p := ⟨w1.heap.size, 2, none⟩) hAW).trans c2
  replace c3 := (hb23.cell (p := ⟨w1.heap.size, 3, none⟩) hAW).trans c3
  replace c4 := (hb23.cell (p := ⟨w1.heap.size, 4, none⟩) hAW).trans c4
  replace f4 := (hb23.frozen (p := ⟨w1.heap.size, 4, none⟩) hAW).trans f4
  replace x0 := (hb23.cell (p := ⟨w3.heap.size, 0, none⟩) hXW).trans x0
  replace x1 := (hb23.cell (p := ⟨w3.heap.size, 1, none⟩) hXW).trans x1
  replace x2 := (hb23.cell (p := ⟨w3.heap.size, 2, none⟩) hXW).trans x2
  replace x3 := (hb23.cell (p := ⟨w3.heap.size, 3, none⟩) hXW).trans x3
  replace x4 := (hb23.cell (p := ⟨w3.heap.size, 4, none⟩) hXW).trans x4
  clear hb23 hR10 hR hz hc hxor hU2 HU2 hcv hbl hbW hgb
  go_wp2_with fail
  refine (Hturn.out _).mono ?_
  rintro e' w7 ⟨rfl, hb7⟩
  replace f4 := free_kept hb7 c4 f4
  replace c0 := cell_kept hb7 c0
  replace c1 := cell_kept hb7 c1
  replace c2 := cell_kept hb7 c2
  replace c3 := cell_kept hb7 c3
  replace c4 := cell_kept hb7 c4
  replace x0 := cell_kept hb7 x0
  replace x1 := cell_kept hb7 x1
  replace x2 := cell_kept hb7 x2
  replace x3 := cell_kept hb7 x3
  replace x4 := cell_kept hb7 x4
  have hbl := gr_call hb11 hb7
  have hA7 : w1.heap.size < w7.heap.size := block_lt c0
  have hX7 : w3.heap.size < w7.heap.size := block_lt x0
  clear hb7 Hturn hb11 hcb
  go_upto_region 13 with fail
  obtain ⟨W8, hW8⟩ : ∃ W8, (w7.setCell ⟨w1.heap.size, 4, none⟩ (.int .i64 (-1))).alloc (.cells #[.int .i64 v3, .int .u64 (p3 : Int), .int .u64 (i3 : Int), .bool e3, .int .i64 r3] 24) = W8 := ⟨_, rfl⟩
  have d0 : W8.cell? ⟨w1.heap.size, 0, none⟩ = some (.int .i64 3) := by rw [← hW8]; simp [go_sem, hA7, c0]
  have d1 : W8.cell? ⟨w1.heap.size, 1, none⟩ = some (.int .u64 (p : Int)) := by rw [← hW8]; simp [go_sem, hA7, c1]
  have d2 : W8.cell? ⟨w1.heap.size, 2, none⟩ = some (.int .u64 (i : Int)) := by rw [← hW8]; simp [go_sem, hA7, c2]
  have d3 : W8.cell? ⟨w1.heap.size, 3, none⟩ = some (.bool e) := by rw [← hW8]; simp [go_sem, hA7, c3]
  have d4 : W8.cell? ⟨w1.heap.size, 4, none⟩ = some (.int .i64 (-1)) := by rw [← hW8]; simp [go_sem, hA7, c4]
  have y0 : W8.cell? ⟨w7.heap.size, 0, none⟩ = some (.int .i64 v3) := by rw [← hW8]; simp [go_sem]
  have y1 : W8.cell? ⟨w7.heap.size, 1, none⟩ = some (.int .u64 (p3 : Int)) := by rw [← hW8]; simp [go_sem]
  have y2 : W8.cell? ⟨w7.heap.size, 2, none⟩ = some (.int .u64 (i3 : Int)) := by rw [← hW8]; simp [go_sem]
  have y3 : W8.cell? ⟨w7.heap.size, 3, none⟩ = some (.bool e3) := by rw [← hW8]; simp [go_sem]
  have y4 : W8.cell? ⟨w7.heap.size, 4, none⟩ = some (.int .i64 r3) := by rw [← hW8]; simp [go_sem]
  have hne13 : w3.heap.size ≠ w1.heap.size := by omega
  have z0 : W8.cell? ⟨w3.heap.size, 0, none⟩ = some (.int .i64 3) := by rw [← hW8]; simp [go_sem, hX7, x0, hne13]
  have z1 : W8.cell? ⟨w3.heap.size, 1, none⟩ = some (.int .u64 (p : Int)) := by rw [← hW8]; simp [go_sem, hX7, x1, hne13]
  have z2 : W8.cell? ⟨w3.heap.size, 2, none⟩ = some (.int .u64 (i : Int)) := by rw [← hW8]; simp [go_sem, hX7, x2, hne13]
  have z3 : W8.cell? ⟨w3.heap.size, 3, none⟩ = some (.bool e) := by rw [← hW8]; simp [go_sem, hX7, x3, hne13]
  have z4 : W8.cell? ⟨w3.heap.size, 4, none⟩ = some (.int .i64 r) := by rw [← hW8]; simp [go_sem, hX7, x4, hne13]
  have hb8 : Below w.heap.size w W8 := by rw [← hW8]; exact gr_alloc (gr_set hbl hsA _) _
  rw [hW8]
  have hix : ∀ w, (3 : Int) = 3 → (Instr.index 9 (.string T) (.int .i64 3)).run Try.prog w = .ok (.int .u8 3) w := by
    intro w h3
    obtain ⟨q, h1, h2⟩ := idxAt (P := Try.prog) Try.underlying9 T 3 (by rw [hTz]; decide)
    rw [HTl.out, HL3.out (by first | exact h3 | exact trivial)] at h1
    have : q = 3 := (Option.some.inj h1).symm
    subst this
    exact h2 w
  clear hW8 hbl c0 c1 c2 c3 c4 f4 x0 x1 x2 x3 x4 hA7 hX7 hne13 HTl hTz
  clear hA3 hAW hXW hKm hKt hIm hIt hkc hka hsW hwW hIL hI2
  by_cases hd : d = 0
  · have t1 : ((d.toNat : Int) == 0) = true := by rw [hd]; rfl
    clear HY hd
    by_cases hK0 : K = 0
    · have t2 : ((K : Int) == 0) = true := by rw [hK0]; rfl
      obtain rfl : l1 = true := Hl1.out.trans (decide_eq_true hK0)
      clear Hl1 hK0
      go_wp2_with fail
      all_goals first
        | (refine (Hmy2.out _).mono ?_; rintro e' w9 ⟨rfl, hb9⟩; replace hb8 := gr_call hb8 hb9; go_wp2_with fail; refine (awake_true _).mono ?_; rintro e' w10 ⟨rfl, hb10⟩; replace hb8 := gr_call hb8 hb10; go_wp2_with fail; go_ret; exact ⟨rfl, hb8⟩)
        | (exfalso; refine HY2.out ⟨?_, ?_, ?_, ?_, ?_⟩ <;> first | assumption | rfl | omega)
        | trace_state
    have t2 : ((K : Int) == 0) = false := by simp; omega
    obtain rfl : l1 = false := Hl1.out.trans (decide_eq_false hK0)
    clear Hl1 hK0
    by_cases hK2 : K = 20
    · have t3 : ((K : Int) == 20) = true := by rw [hK2]; rfl
      have hx3 := fun w => hix w rfl
      clear hK2 hix
      go_wp2_with fail
      all_goals first
        | (refine (Hmy2.out _).mono ?_; rintro e' w9 ⟨rfl, hb9⟩; replace hb8 := gr_call hb8 hb9; go_wp2_with fail; refine (awake_true _).mono ?_; rintro e' w10 ⟨rfl, hb10⟩; replace hb8 := gr_call hb8 hb10; go_wp2_with fail; go_ret; exact ⟨rfl, hb8⟩)
        | (exfalso; refine HY2.out ⟨?_, ?_, ?_, ?_, ?_⟩ <;> first | assumption | rfl | omega)
        | trace_state
    · have t3 : ((K : Int) == 20) = false := by simp; omega
      clear hK2
      go_wp2_with fail
      all_goals first
        | (refine (Hmy2.out _).mono ?_; rintro e' w9 ⟨rfl, hb9⟩; replace hb8 := gr_call hb8 hb9; go_wp2_with fail; refine (awake_true _).mono ?_; rintro e' w10 ⟨rfl, hb10⟩; replace hb8 := gr_call hb8 hb10; go_wp2_with fail; go_ret; exact ⟨rfl, hb8⟩)
        | (exfalso; refine HY2.out ⟨?_, ?_, ?_, ?_, ?_⟩ <;> first | assumption | rfl | omega)
        | trace_state
  have t1 : ((d.toNat : Int) == 0) = false := toNat_ne (b := 0) hd
  rcases l3 with _ | _
  · clear HY hd
    by_cases hK0 : K = 0
    · have t2 : ((K : Int) == 0) = true := by rw [hK0]; rfl
      obtain rfl : l1 = true := Hl1.out.trans (decide_eq_true hK0)
      clear Hl1 hK0
      go_wp2_with fail
      all_goals first
        | (refine (Hmy2.out _).mono ?_; rintro e' w9 ⟨rfl, hb9⟩; replace hb8 := gr_call hb8 hb9; go_wp2_with fail; refine (awake_true _).mono ?_; rintro e' w10 ⟨rfl, hb10⟩; replace hb8 := gr_call hb8 hb10; go_wp2_with fail; go_ret; exact ⟨rfl, hb8⟩)
        | (exfalso; refine HY2.out ⟨?_, ?_, ?_, ?_, ?_⟩ <;> first | assumption | rfl | omega)
        | trace_state
    have t2 : ((K : Int) == 0) = false := by simp; omega
    obtain rfl : l1 = false := Hl1.out.trans (decide_eq_false hK0)
    clear Hl1 hK0
    by_cases hK2 : K = 20
    · have t3 : ((K : Int) == 20) = true := by rw [hK2]; rfl
      have hx3 := fun w => hix w rfl
      clear hK2 hix
      go_wp2_with fail
      all_goals first
        | (refine (Hmy2.out _).mono ?_; rintro e' w9 ⟨rfl, hb9⟩; replace hb8 := gr_call hb8 hb9; go_wp2_with fail; refine (awake_true _).mono ?_; rintro e' w10 ⟨rfl, hb10⟩; replace hb8 := gr_call hb8 hb10; go_wp2_with fail; go_ret; exact ⟨rfl, hb8⟩)
        | (exfalso; refine HY2.out ⟨?_, ?_, ?_, ?_, ?_⟩ <;> first | assumption | rfl | omega)
        | trace_state
    · have t3 : ((K : Int) == 20) = false := by simp; omega
      clear hK2
      go_wp2_with fail
      all_goals first
        | (refine (Hmy2.out _).mono ?_; rintro e' w9 ⟨rfl, hb9⟩; replace hb8 := gr_call hb8 hb9; go_wp2_with fail; refine (awake_true _).mono ?_; rintro e' w10 ⟨rfl, hb10⟩; replace hb8 := gr_call hb8 hb10; go_wp2_with fail; go_ret; exact ⟨rfl, hb8⟩)
        | (exfalso; refine HY2.out ⟨?_, ?_, ?_, ?_, ?_⟩ <;> first | assumption | rfl | omega)
        | trace_state
  · have hy := HY.out rfl hd
    have hy2 : ¬ (v3 = 3 ∧ p3 = p ∧ i3 = i ∧ e3 = e ∧ r3 = r) := by
      rintro ⟨rfl, rfl, rfl, rfl, rfl⟩
      exact hy rfl
    have HY2 := Lib.hid hy2
    clear HY hd hy hy2
    by_cases hK0 : K = 0
    · have t2 : ((K : Int) == 0) = true := by rw [hK0]; rfl
      obtain rfl : l1 = true := Hl1.out.trans (decide_eq_true hK0)
      clear Hl1 hK0
      go_wp2_with fail
      all_goals first
        | (refine (Hmy2.out _).mono ?_; rintro e' w9 ⟨rfl, hb9⟩; replace hb8 := gr_call hb8 hb9; go_wp2_with fail; refine (awake_true _).mono ?_; rintro e' w10 ⟨rfl, hb10⟩; replace hb8 := gr_call hb8 hb10; go_wp2_with fail; go_ret; exact ⟨rfl, hb8⟩)
        | (exfalso; refine HY2.out ⟨?_, ?_, ?_, ?_, ?_⟩ <;> first | assumption | rfl | omega)
        | trace_state
    have t2 : ((K : Int) == 0) = false := by simp; omega
    obtain rfl : l1 = false := Hl1.out.trans (decide_eq_false hK0)
    clear Hl1 hK0
    by_cases hK2 : K = 20
    · have t3 : ((K : Int) == 20) = true := by rw [hK2]; rfl
      have hx3 := fun w => hix w rfl
      clear hK2 hix
      go_wp2_with fail
      all_goals first
        | (refine (Hmy2.out _).mono ?_; rintro e' w9 ⟨rfl, hb9⟩; replace hb8 := gr_call hb8 hb9; go_wp2_with fail; refine (awake_true _).mono ?_; rintro e' w10 ⟨rfl, hb10⟩; replace hb8 := gr_call hb8 hb10; go_wp2_with fail; go_ret; exact ⟨rfl, hb8⟩)
        | (exfalso; refine HY2.out ⟨?_, ?_, ?_, ?_, ?_⟩ <;> first | assumption | rfl | omega)
        | trace_state
    · have t3 : ((K : Int) == 20) = false := by simp; omega
      clear hK2
      go_wp2_with fail
      all_goals first
        | (refine (Hmy2.out _).mono ?_; rintro e' w9 ⟨rfl, hb9⟩; replace hb8 := gr_call hb8 hb9; go_wp2_with fail; refine (awake_true _).mono ?_; rintro e' w10 ⟨rfl, hb10⟩; replace hb8 := gr_call hb8 hb10; go_wp2_with fail; go_ret; exact ⟨rfl, hb8⟩)
        | (exfalso; refine HY2.out ⟨?_, ?_, ?_, ?_, ?_⟩ <;> first | assumption | rfl | omega)
        | trace_state

theorem capsBack_walk (a0 : Int) (a1 : Int) (a2 : Int) (a3 : Int) (a4 : Int) (a5 : Int) (a6 : Int) (w : World) (w0 : (Lit.int .u64 a0).wf = true) (w1 : (Lit.int .u64 a1).wf = true) (w2 : (Lit.int .u8 a2).wf = true) (w3 : (Lit.int .u32 a3).wf = true) (w4 : (Lit.int .u8 a4).wf = true) (w5 : (Lit.int .u8 a5).wf = true) (w6 : (Lit.int .u8 a6).wf = true) :
    Calls Try.prog 4 #[.int .u64 a0, .int .u64 a1, .int .u8 a2, .int .u32 a3, .int .u8 a4, .int .u8 a5, .int .u8 a6] w fun e w' => e = .returned (.bool true) ∧ Below w.heap.size w w' := by
  have h0 : 0 ≤ a0 ∧ a0 ≤ 18446744073709551615 := by simpa [Lit.wf, IntKind.min, IntKind.max, IntKind.signed, IntKind.bits] using w0
  have h1 : 0 ≤ a1 ∧ a1 ≤ 18446744073709551615 := by simpa [Lit.wf, IntKind.min, IntKind.max, IntKind.signed, IntKind.bits] using w1
  have h2 : 0 ≤ a2 ∧ a2 ≤ 255 := by simpa [Lit.wf, IntKind.min, IntKind.max, IntKind.signed, IntKind.bits] using w2
  have h3 : 0 ≤ a3 ∧ a3 ≤ 4294967295 := by simpa [Lit.wf, IntKind.min, IntKind.max, IntKind.signed, IntKind.bits] using w3
  have h4 : 0 ≤ a4 ∧ a4 ≤ 255 := by simpa [Lit.wf, IntKind.min, IntKind.max, IntKind.signed, IntKind.bits] using w4
  have h5 : 0 ≤ a5 ∧ a5 ≤ 255 := by simpa [Lit.wf, IntKind.min, IntKind.max, IntKind.signed, IntKind.bits] using w5
  have h6 : 0 ≤ a6 ∧ a6 ≤ 255 := by simpa [Lit.wf, IntKind.min, IntKind.max, IntKind.signed, IntKind.bits] using w6
  obtain ⟨p, rfl⟩ : ∃ k : Nat, a0 = (k : Int) := ⟨a0.toNat, by omega⟩
  obtain ⟨i, rfl⟩ : ∃ k : Nat, a1 = (k : Int) := ⟨a1.toNat, by omega⟩
  obtain ⟨x, rfl⟩ : ∃ k : Nat, a2 = (k : Int) := ⟨a2.toNat, by omega⟩
  obtain ⟨r, rfl⟩ : ∃ k : Nat, a3 = (k : Int) := ⟨a3.toNat, by omega⟩
  obtain ⟨kc, rfl⟩ : ∃ k : Nat, a4 = (k : Int) := ⟨a4.toNat, by omega⟩
  obtain ⟨ka, rfl⟩ : ∃ k : Nat, a5 = (k : Int) := ⟨a5.toNat, by omega⟩
  obtain ⟨d, rfl⟩ : ∃ d : UInt8, a6 = (d.toNat : Int) := ⟨UInt8.ofNat a6.toNat, by simp; omega⟩
  have hm := mk_may p i x r (by omega)
  have hf : Fits (mkC p i x r) := ⟨by show p < _; omega, by show i < _; omega⟩
  have hv : (mkC p i x r).v = ((2 + x % 2 : Nat) : Int) := rfl
  have hx : x % 2 = 0 ∨ x % 2 = 1 := by omega
  rcases hx with hx | hx
  · rw [hx] at hv
    exact back_2 p i x r kc ka d _ hv rfl hf hm (by omega) (by omega) (by omega) (by omega) w
  · rw [hx] at hv
    exact back_3 p i x r kc ka d _ hv rfl hf hm (by omega) (by omega) (by omega) (by omega) w
end Go.Proofs.Ytijagjahocjaaaa
