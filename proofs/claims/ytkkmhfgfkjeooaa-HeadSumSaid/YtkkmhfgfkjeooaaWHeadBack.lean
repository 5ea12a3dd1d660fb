/- The law HeadBack, walked. -/
import Derived.Test.YtkkmhfgfkjeooaaHeadTurn
namespace Go.Proofs.Ytkkmhfgfkjeooaa
open Go.RowKit
open HeadM NumM
set_option linter.unusedVariables false

theorem u8_is {t : Int} (h : 0 ≤ t ∧ t ≤ 255) : ∃ c : UInt8, t = (c.toNat : Int) := ⟨UInt8.ofNat t.toNat, by
  rw [UInt8.toNat_ofNat_of_lt' (by have : UInt8.size = 256 := rfl; omega)]; omega⟩
theorem xor_b (x d : UInt8) : bits .xor .u8 (x.toNat : Int) (d.toNat : Int) = ((x ^^^ d).toNat : Int) := by
  rw [u8_xor_nat _ _ x.toNat_lt d.toNat_lt, UInt8.toNat_xor]
theorem xor_ne {x d : UInt8} (h : d ≠ 0) : x ^^^ d ≠ x := by
  intro e
  apply h
  have : x ^^^ (x ^^^ d) = x ^^^ x := by rw [e]
  simpa [← UInt8.xor_assoc] using this

set_option maxHeartbeats 8000000 in
set_option maxRecDepth 100000 in
theorem back_true (A B : ByteArray) (na : Option Addr) (len cap : Nat) (zs : List Int) (t ia y : Int) (R : ByteArray) (ht : 0 ≤ t ∧ t ≤ 255) (hia : 0 ≤ ia ∧ ia ≤ 65535) (hy : 0 ≤ y ∧ y ≤ 255) (w : World) (hrow : IsRow .u32 w na len cap zs) :
    Calls Try.prog 4 #[.string A, .string B, .slice na len cap, .int .u8 t, .int .u16 ia, .int .u8 y, .string R] w fun e w' => e = .returned (.bool true) ∧ Below w.heap.size w w' := by
  have haw := awake_true
  by_cases hA : 300 < A.size
  · have h1 : (300 : Int) < (A.size : Int) := by omega
    clear hrow
    go_enter Try.func4, Try.ntmps4
    go_wp2_with fail
    refine (haw _).mono ?_
    rintro e w1 ⟨rfl, hbw1⟩
    have hzw1 := hbw1.size
    try simp at hzw1
    go_wp2_with fail
    go_ret
    exact ⟨rfl, hbw1⟩
  by_cases hB : 300 < B.size
  · have h1 : ¬ (300 : Int) < (A.size : Int) := by omega
    have h2 : (300 : Int) < (B.size : Int) := by omega
    clear hrow
    go_enter Try.func4, Try.ntmps4
    go_wp2_with fail
    refine (haw _).mono ?_
    rintro e w1 ⟨rfl, hbw1⟩
    have hzw1 := hbw1.size
    try simp at hzw1
    go_wp2_with fail
    go_ret
    exact ⟨rfl, hbw1⟩
  by_cases hR : 100 < R.size
  · have h1 : ¬ (300 : Int) < (A.size : Int) := by omega
    have h2 : ¬ (300 : Int) < (B.size : Int) := by omega
    have h3 : (100 : Int) < (R.size : Int) := by omega
    clear hrow
    go_enter Try.func4, Try.ntmps4
    go_wp2_with fail
    refine (haw _).mono ?_
    rintro e w1 ⟨rfl, hbw1⟩
    have hzw1 := hbw1.size
    try simp at hzw1
    go_wp2_with fail
    go_ret
    exact ⟨rfl, hbw1⟩
  obtain ⟨c, rfl⟩ := u8_is ht
  obtain ⟨d, rfl⟩ := u8_is hy
  have hnb := row_nth hrow
  have hmk := make_any A B (by omega) (by omega) na len cap zs w hrow c
  have hM1 := mk_may (L A) (L B) zs len c hnb
  have hM2 := mk_ints (L A) (L B) zs len c hnb
  obtain ⟨M, hM⟩ : ∃ M, mkH (L A) (L B) zs len c = M := ⟨_, rfl⟩
  rw [hM] at hmk hM1 hM2
  have hp := put_any M
  rw [put_may hM1] at hp
  have hmy := may_any M
  rw [hM1] at hmy
  have hpl := put_length hM1
  obtain ⟨b, hb⟩ : ∃ b, putL M = b := ⟨_, rfl⟩
  obtain ⟨P, hP⟩ : ∃ P : ByteArray, strOf (putL M) = P := ⟨_, rfl⟩
  have hLP : L P = putL M := by rw [← hP, L_strOf]
  have zP : P.size = 512 := by rw [← size_L, hLP, hpl]
  rw [hP] at hp
  obtain ⟨Z, hZ⟩ : ∃ Z, zeroH = Z := ⟨_, rfl⟩
  have hg1 := fun w => get_any (P ++ R) (by rw [ByteArray.size_append, zP]; omega) w
  rw [L_app, hLP, getE_put hM1 hM2] at hg1
  have hg2 := fun w => get_any (P.extract 0 511) (by rw [← size_L]; show ((P.extract 0 511).data.toList).length ≤ 8000; rw [Lib.extract_data]; simp; omega) w
  rw [getE_short (s := L (P.extract 0 511)) (by show ((P.extract 0 511).data.toList).length < 512; rw [Lib.extract_data]; simp; omega), hZ] at hg2
  obtain ⟨I, hI⟩ : ∃ I : Nat, ia % 512 = (I : Int) := ⟨(ia % 512).toNat, by omega⟩
  have hI5 : I < 512 := by omega
  obtain ⟨x, hx⟩ : ∃ x, (putL M)[I]? = some x := ⟨(putL M)[I]'(by omega), by simp [show I < (putL M).length by omega]⟩
  obtain ⟨Q, hQ⟩ : ∃ Q : ByteArray, strOf ((putL M).set I (x ^^^ d)) = Q := ⟨_, rfl⟩
  have hg3 := fun w => get_any Q (by rw [← hQ, strOf_sz, List.length_set]; omega) w
  rw [show L Q = (putL M).set I (x ^^^ d) by rw [← hQ, L_strOf]] at hg3
  have hcase : (d = 0 ∧ ((d.toNat : Int) == 0) = true) ∨ (((d.toNat : Int) == 0) = false ∧ getE ((putL M).set I (x ^^^ d)) = (zeroH, 4)) := by
    by_cases hd : d = 0
    · exact .inl ⟨hd, by rw [hd]; rfl⟩
    · refine .inr ⟨toNat_ne (b := 0) hd, ?_⟩
      have := turned hM1 hx (xor_ne (x := x) hd) []
      rw [List.append_nil] at this
      exact this
  obtain ⟨E, hE⟩ : ∃ E, getE ((putL M).set I (x ^^^ d)) = E := ⟨_, rfl⟩
  rw [hE] at hg3 hcase
  have hxor := xor_b x d
  have hcv : ∀ W, (convert 9 43 (.string P)).run Try.prog W = .ok (.slice (some ⟨W.heap.size, 0, none⟩) 512 (grownCap W P.size 0 5)) (Lib.bytesWorld W 5 P) := fun W => by
    have := Lib.run_convert_string_bytes (P := Try.prog) W 9 43 5 P Try.underlying9 Try.underlying43 Try.underlying5
    rw [zP] at this ⊢
    exact this
  have h1 : ¬ (300 : Int) < (A.size : Int) := by omega
  have h2 : ¬ (300 : Int) < (B.size : Int) := by omega
  have h3 : ¬ (100 : Int) < (R.size : Int) := by omega
  have hq1 : ¬ 9223372036854775807 < 512 + R.size := by omega
  have htm : ia.tmod 512 = (I : Int) := by rw [Int.tmod_eq_emod_of_nonneg hia.1]; exact hI
  have hmin : ∀ (ts : Array TypeId) (t : TypeId) (W : World), (Builtin.min_ ts t #[.int .i64 512, .int .i64 511]).run Try.prog W = .ok (.int .i64 511) W := fun ts t W => by
    simp [Builtin.min_, Builtin.min2]
  have hI0 : 0 ≤ (I : Int) := by omega
  have hI51 : (I : Int) < 512 := by omega
  have hia0 := hia.1
  have hia1 := hia.2
  have hsame : (P.toList == P.toList) = true := by simp
  have HB := Lib.hid (And.intro hLP (And.intro hpl (And.intro hx hQ)))
  replace hmk := Lib.hid hmk
  replace hp := Lib.hid hp
  replace hmy := Lib.hid hmy
  replace hg1 := Lib.hid hg1
  replace hg2 := Lib.hid hg2
  replace hg3 := Lib.hid hg3
  replace hcv := Lib.hid hcv
  replace hxor := Lib.hid hxor
  clear hA hB hR ht hy hia hM1 hM2 hM hrow hnb hb hP hLP hpl hZ hE hx hQ hI
  go_enter Try.func4, Try.ntmps4
  go_wp2_with fail
  refine hmk.out.mono ?_
  rintro e w1 ⟨rfl, hb1⟩
  have hblk1 := BlkIs.made w1 23 #[.string M.name, .int .i64 M.mode, .int .i64 M.uid, .int .i64 M.gid, .int .i64 M.size, .int .i64 M.mtime, .int .u8 (M.typ.toNat : Int), .string M.link, .string M.uname, .string M.gname, .int .i64 M.major, .int .i64 M.minor, .string M.pre]
  have hB1 := gr_alloc hb1 (.cells #[.string M.name, .int .i64 M.mode, .int .i64 M.uid, .int .i64 M.gid, .int .i64 M.size, .int .i64 M.mtime, .int .u8 (M.typ.toNat : Int), .string M.link, .string M.uname, .string M.gname, .int .i64 M.major, .int .i64 M.minor, .string M.pre] 23)
  go_wp2_with fail
  refine (hp.out _).mono ?_
  rintro e w2 ⟨rfl, hb2⟩
  have hblk2 := hblk1.kept hb2 (by simp)
  have hB2 := hB1.trans (hb2.mono (by have := hb1.size; simp; omega))
  clear hblk1 hB1 hb2 hmk hp
  go_wp2_with fail
  refine (hg1.out _).mono ?_
  rintro e w3 ⟨rfl, hb3⟩
  have hblk3 := hblk2.kept hb3 hblk2.size
  have hB3 := gr_call hB2 hb3
  clear hblk2 hB2 hb3 hg1
  go_wp2_with fail
  have hxb := (BlkIs.made w3 23 #[.string M.name, .int .i64 M.mode, .int .i64 M.uid, .int .i64 M.gid, .int .i64 M.size, .int .i64 M.mtime, .int .u8 (M.typ.toNat : Int), .string M.link, .string M.uname, .string M.gname, .int .i64 M.major, .int .i64 M.minor, .string M.pre])
  have hblk3' := hblk3.alloc (.cells #[.string M.name, .int .i64 M.mode, .int .i64 M.uid, .int .i64 M.gid, .int .i64 M.size, .int .i64 M.mtime, .int .u8 (M.typ.toNat : Int), .string M.link, .string M.uname, .string M.gname, .int .i64 M.major, .int .i64 M.minor, .string M.pre] 23)
  have hB3' := gr_alloc hB3 (.cells #[.string M.name, .int .i64 M.mode, .int .i64 M.uid, .int .i64 M.gid, .int .i64 M.size, .int .i64 M.mtime, .int .u8 (M.typ.toNat : Int), .string M.link, .string M.uname, .string M.gname, .int .i64 M.major, .int .i64 M.minor, .string M.pre] 23)
  refine (hg2.out _).mono ?_
  rintro e w4 ⟨rfl, hb4⟩
  have hxk := hxb.kept hb4 hxb.size
  have hblk4 := hblk3'.kept hb4 hblk3'.size
  have hB4 := gr_call hB3' hb4
  clear hxb hblk3 hblk3' hB3 hB3' hb4 hg2
  have x0 := hxk.cell_some 0 _ rfl
  have x1 := hxk.cell_some 1 _ rfl
  have x2 := hxk.cell_some 2 _ rfl
  have x3 := hxk.cell_some 3 _ rfl
  have x4 := hxk.cell_some 4 _ rfl
  have x5 := hxk.cell_some 5 _ rfl
  have x6 := hxk.cell_some 6 _ rfl
  have x7 := hxk.cell_some 7 _ rfl
  have x8 := hxk.cell_some 8 _ rfl
  have x9 := hxk.cell_some 9 _ rfl
  have x10 := hxk.cell_some 10 _ rfl
  have x11 := hxk.cell_some 11 _ rfl
  have x12 := hxk.cell_some 12 _ rfl
  have c0 := hblk4.cell_some 0 _ rfl
  have c1 := hblk4.cell_some 1 _ rfl
  have c2 := hblk4.cell_some 2 _ rfl
  have c3 := hblk4.cell_some 3 _ rfl
  have c4 := hblk4.cell_some 4 _ rfl
  have c5 := hblk4.cell_some 5 _ rfl
  have c6 := hblk4.cell_some 6 _ rfl
  have c7 := hblk4.cell_some 7 _ rfl
  have c8 := hblk4.cell_some 8 _ rfl
  have c9 := hblk4.cell_some 9 _ rfl
  have c10 := hblk4.cell_some 10 _ rfl
  have c11 := hblk4.cell_some 11 _ rfl
  have c12 := hblk4.cell_some 12 _ rfl
  have hl1 : w3.heap.size < w4.heap.size := hxk.size
  have hl2 : w1.heap.size < w4.heap.size := hblk4.size
  have herr := err_any
  go_wp2_with (first | (go_at_call 18; refine (herr _ _).mono ?_; rintro e w5 ⟨rfl, rfl⟩))
  refine (hmy.out _).mono ?_
  rintro e w5 ⟨rfl, hb5⟩
  have hB5 : Below w.heap.size w w5 := gr_call (gr_alloc hB4 _) hb5
  clear hxk hblk4 hB4 hb5 hmy hl1 hl2 x0 c0 x1 c1 x2 c2 x3 c3 x4 c4 x5 c5 x6 c6 x7 c7 x8 c8 x9 c9 x10 c10 x11 c11 x12 c12
  have hR := RowIs.of w5 5 P
  rw [show P.data.toList = putL M from HB.out.1] at hR
  have hB6 := below_bytesWorld hB5 hB5.size 5 P
  have hcv5 := hcv.out w5
  have hle5 : w.heap.size ≤ w5.heap.size := hB5.size
  have hl6 : w5.heap.size < (Lib.bytesWorld w5 5 P).heap.size := hR.size
  clear hcv hB5
  generalize Lib.bytesWorld w5 5 P = w6 at *
  have hIl : I < (putL M).length := by rw [HB.out.2.1]; exact hI5
  have hcell := hR.cell I hIl
  have hfr := hR.free I hIl
  rw [show (putL M)[I] = x from (List.getElem?_eq_some_iff.1 HB.out.2.2.1).2] at hcell
  have hput := hR.put I (x ^^^ d)
  have hB7 := gr_set hB6 (p := ⟨w5.heap.size, I, none⟩) hle5 (.int .u8 ((x ^^^ d).toNat : Int))
  have hback := fun cap => hput.back (P := Try.prog) (src := 43) (dst := 9) cap Try.underlying43 Try.underlying5 Try.underlying9
  simp only [List.length_set, HB.out.2.1] at hback
  have hQe : (⟨((putL M).set I (x ^^^ d)).toArray⟩ : ByteArray) = Q := HB.out.2.2.2
  simp only [hQe] at hback
  have hxr := hxor.out
  obtain ⟨u, hu⟩ : ∃ u : Int, ((x ^^^ d).toNat : Int) = u := ⟨_, rfl⟩
  rw [hu] at hxr hB7
  simp only [hu] at hback
  clear hR hput hB6 hQe hIl hxor hu hI5 HB
  go_wp2_with fail
  refine (hg3.out _).mono ?_
  rintro e w8 ⟨rfl, hb8⟩
  have hB8 := gr_call hB7 hb8
  clear hB7 hb8 hback hcell hfr hxr hg3 hcv5
  rcases hcase with ⟨hd0, hd1⟩ | ⟨hd1, hE⟩
  · have hd2 : (d.toNat : Int) = 0 := by rw [hd0]; rfl
    clear hd0
    go_wp2_with fail
    refine (haw _).mono ?_
    rintro e w9 ⟨rfl, hb9⟩
    have hB9 := gr_call (gr_alloc hB8 _) hb9
    go_wp2_with fail
    go_ret
    exact ⟨rfl, hB9⟩
  · have hE2 : E.2 = 4 := by rw [hE]
    clear hE
    go_wp2_with (first | (go_at_call 18; refine (herr _ _).mono ?_; rintro e w9 ⟨rfl, rfl⟩))
    refine (haw _).mono ?_
    rintro e w9 ⟨rfl, hb9⟩
    have hB9 := gr_call (gr_alloc hB8 _) hb9
    go_wp2_with fail
    go_ret
    exact ⟨rfl, hB9⟩
end Go.Proofs.Ytkkmhfgfkjeooaa
