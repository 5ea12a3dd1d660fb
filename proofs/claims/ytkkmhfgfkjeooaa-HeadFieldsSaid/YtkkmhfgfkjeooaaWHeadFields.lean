/- The law HeadFields, walked. -/
import Derived.Test.YtkkmhfgfkjeooaaHeadTurn
import Derived.Test.YtkkmhfgfkjeooaaRegionT
import Derived.Test.YtkkmhfgfkjeooaaLater
namespace Go.Proofs.Ytkkmhfgfkjeooaa
open Go.RowKit
open HeadM NumM
set_option linter.unusedVariables false

theorem u8_of' {t : Int} (h : 0 ≤ t ∧ t ≤ 255) : ∃ c : UInt8, t = (c.toNat : Int) := ⟨UInt8.ofNat t.toNat, by
  rw [UInt8.toNat_ofNat_of_lt' (by have : UInt8.size = 256 := rfl; omega)]; omega⟩
theorem fresh_ne {W : World} {u : Value} {n : Nat} {t : TypeId} {cs : Array Value} (h : ∃ g, u = .pointer (some ⟨g, 0, none⟩) ∧ n ≤ g ∧ BlkIs W g t cs) : (Value.pointer (some ⟨W.heap.size, 0, none⟩)) ≠ u := by
  obtain ⟨g, rfl, _, hb⟩ := h
  intro e
  have := hb.size
  injection e with e
  injection e with e
  injection e with e
  omega
theorem keep3 {w W w1 : World} {g0 g1 g2 : Nat} {t0 t1 t2 : TypeId} {c0 c1 c2 : Array Value} (hS : Below w.heap.size w W ∧ BlkIs W g0 t0 c0 ∧ BlkIs W g1 t1 c1 ∧ BlkIs W g2 t2 c2) (hb : Below W.heap.size W w1) : Below w.heap.size w w1 ∧ BlkIs w1 g0 t0 c0 ∧ BlkIs w1 g1 t1 c1 ∧ BlkIs w1 g2 t2 c2 :=
  ⟨gr_call hS.1 hb, hS.2.1.kept hb hS.2.1.size, hS.2.2.1.kept hb hS.2.2.1.size, hS.2.2.2.kept hb hS.2.2.2.size⟩
theorem fact_at {Vs : List (World → Value → Prop)} {vals : Nat → Value} {w : World} {n : Nat} (h : ∀ i, i < n → Vs.getD i (fun _ _ => True) w (vals i)) (i : Nat) (hi : i < n) {p : World → Value → Prop} (hp : Vs[i]? = some p) : p w (vals i) := by
  have h1 := h i hi
  rw [List.getD_eq_getElem?_getD, hp] at h1
  exact h1
/-- A part of a padded text. -/
theorem cut_text {b l : List UInt8} {i j n k : Nat} (h : cut b i j = padL l n) (hj : j = i + n) (hl : l.length = k) (hk : k ≤ n) : cut b i (i + k) = l := by
  unfold cut at h ⊢
  subst hj
  rw [List.drop_take, Nat.add_sub_cancel_left] at h ⊢
  have e : ((b.drop i).take n).take k = (b.drop i).take k := by rw [List.take_take, Nat.min_eq_left hk]
  rw [← e, h]
  unfold padL
  exact List.take_left' hl
theorem extract_cut {P : ByteArray} {b l : List UInt8} {S : ByteArray} (hP : L P = b) {i j : Nat} (h : cut b i j = l) (hS : L S = l) : P.extract i j = S := by
  rw [← strOf_L S, hS, ← h]
  apply str_L
  show (P.extract i j).data.toList = _
  have e : P.data.toList = b := hP
  rw [Lib.extract_data, e]
  unfold cut
  rw [List.drop_take]

set_option maxHeartbeats 8000000 in
set_option maxRecDepth 100000 in
theorem fields_true (A B : ByteArray) (na : Option Addr) (len cap : Nat) (zs : List Int) (t : Int) (ht : 0 ≤ t ∧ t ≤ 255) (w : World) (hrow : IsRow .u32 w na len cap zs) :
    Calls Try.prog 7 #[.string A, .string B, .slice na len cap, .int .u8 t] w fun e w' => e = .returned (.bool true) ∧ Below w.heap.size w w' := by
  have haw := awake_true
  by_cases hA : 300 < A.size
  · have h1 : (300 : Int) < (A.size : Int) := by omega
    clear hrow
    go_enter Try.func7, Try.ntmps7
    go_wp2_with fail
    refine (haw _).mono ?_
    rintro e w1 ⟨rfl, hbw1⟩
    have hzw1 := hbw1.size
    try simp at hzw1
    go_wp2_with fail
    go_ret
    exact ⟨rfl, hbw1⟩
  by_cases hB : 300 < B.size
  · have h1 : ¬ (300 : Int) < (A.size : Int) := by omega
    have h2 : (300 : Int) < (B.size : Int) := by omega
    clear hrow
    go_enter Try.func7, Try.ntmps7
    go_wp2_with fail
    refine (haw _).mono ?_
    rintro e w1 ⟨rfl, hbw1⟩
    have hzw1 := hbw1.size
    try simp at hzw1
    go_wp2_with fail
    go_ret
    exact ⟨rfl, hbw1⟩
  obtain ⟨c, rfl⟩ := u8_of' ht
  have hnb := row_nth hrow
  have hmk := make_any A B (by omega) (by omega) na len cap zs w hrow c
  have hM1 := mk_may (L A) (L B) zs len c hnb
  have hM2 := mk_ints (L A) (L B) zs len c hnb
  have hM3 : (mkH (L A) (L B) zs len c).typ = c := rfl
  obtain ⟨M, hM⟩ : ∃ M, mkH (L A) (L B) zs len c = M := ⟨_, rfl⟩
  rw [hM] at hmk hM1 hM2 hM3
  have hp := put_any M
  rw [put_may hM1] at hp
  have hpl := put_length hM1
  have SI := stands hM1
  have PI := parts_of hM1
  obtain ⟨P, hP⟩ : ∃ P : ByteArray, strOf (putL M) = P := ⟨_, rfl⟩
  have hLP : L P = putL M := by rw [← hP, L_strOf]
  have zP : P.size = 512 := by rw [← size_L, hLP, hpl]
  rw [hP] at hp
  have hf1 := refFld M.mode 8 hM2.i1
  rw [(mayN_hasF PI.n1).1] at hf1
  have hf2 := refFld M.size 12 hM2.i4
  rw [(mayN_hasF PI.n6).1] at hf2
  obtain ⟨MS, hMS⟩ : ∃ MS : ByteArray, strOf (fl M.mode 8) = MS := ⟨_, rfl⟩
  obtain ⟨SS, hSS⟩ : ∃ SS : ByteArray, strOf (fl M.size 12) = SS := ⟨_, rfl⟩
  rw [hMS] at hf1
  rw [hSS] at hf2
  obtain ⟨Z12, hZ12⟩ : ∃ Z12 : ByteArray, strOf (List.replicate 12 0) = Z12 := ⟨_, rfl⟩
  have z1 : M.name.size ≤ 100 := by have := (mayT_iff.1 PI.t1).1; rw [size_L] at this; exact this
  have z4 : M.link.size ≤ 100 := by have := (mayT_iff.1 PI.t2).1; rw [size_L] at this; exact this
  have z6 : M.uname.size ≤ 32 := by have := (mayT_iff.1 PI.t3).1; rw [size_L] at this; exact this
  have z7 : M.pre.size ≤ 155 := by have := (mayT_iff.1 PI.t5).1; rw [size_L] at this; exact this
  have E1 := Lib.hid (show P.extract 0 M.name.size = M.name from extract_cut hLP (by have := cut_text SI.c1 rfl (size_L _) z1; rw [Nat.zero_add] at this; exact this) rfl)
  have E2 := Lib.hid (show P.extract 100 108 = MS from extract_cut hLP SI.c2 (by rw [← hMS, L_strOf]))
  have E3 := Lib.hid (show P.extract 124 136 = SS from extract_cut hLP SI.c5 (by rw [← hSS, L_strOf]))
  obtain ⟨m4, hm4⟩ : ∃ m : Nat, 157 + M.link.size = m := ⟨_, rfl⟩
  obtain ⟨m6, hm6⟩ : ∃ m : Nat, 265 + M.uname.size = m := ⟨_, rfl⟩
  obtain ⟨m7, hm7⟩ : ∃ m : Nat, 345 + M.pre.size = m := ⟨_, rfl⟩
  have E4 := Lib.hid (show P.extract 157 m4 = M.link from extract_cut hLP (by have := cut_text SI.c9 rfl (size_L _) z4; rw [hm4] at this; exact this) rfl)
  have E5 := Lib.hid (show P.extract 257 265 = ⟨#[117, 115, 116, 97, 114, 0, 48, 48]⟩ from extract_cut hLP SI.c10 rfl)
  have E6 := Lib.hid (show P.extract 265 m6 = M.uname from extract_cut hLP (by have := cut_text SI.c11 rfl (size_L _) z6; rw [hm6] at this; exact this) rfl)
  have E7 := Lib.hid (show P.extract 345 m7 = M.pre from extract_cut hLP (by have := cut_text SI.c15 rfl (size_L _) z7; rw [hm7] at this; exact this) rfl)
  have E8 := Lib.hid (show P.extract 500 512 = Z12 from extract_cut hLP SI.c16 (by rw [← hZ12, L_strOf]))
  have hidx : ∀ w, (Instr.index 9 (.string P) (.int .i64 156)).run Try.prog w = .ok (.int .u8 (c.toNat : Int)) w := by
    obtain ⟨d, hd, hi⟩ := idxAt Try.underlying9 P 156 (by omega)
    have e2 : d = c := by
      have := SI.c8
      rw [hM3, List.getD_eq_getElem?_getD, ← hLP, hd] at this
      exact this
    rw [← e2]
    exact hi
  have hcvZ : ∀ {g : Nat} {W : World}, BRow g (.slice (some ⟨g, 0, none⟩) 12 12) (List.replicate 12 0) W → (convert 43 9 (.slice (some ⟨g, 0, none⟩) 12 12)).run Try.prog W = .ok (.string Z12) W := fun hr => by
    rw [← hZ12]
    exact hr.str
  have B1 : (M.name.size : Int) ≤ 512 := by omega
  have B2 : True := trivial
  have B3 : True := trivial
  have B4 : (157 : Int) ≤ (m4 : Int) ∧ (m4 : Int) ≤ 512 := by omega
  have B5 : True := trivial
  have B6 : (265 : Int) ≤ (m6 : Int) ∧ (m6 : Int) ≤ 512 := by omega
  have B7 : (345 : Int) ≤ (m7 : Int) ∧ (m7 : Int) ≤ 512 := by omega
  have B8 : True := trivial
  have A4 : (157 : Int) + (M.link.size : Int) = (m4 : Int) := by omega
  have A6 : (265 : Int) + (M.uname.size : Int) = (m6 : Int) := by omega
  have A7 : (345 : Int) + (M.pre.size : Int) = (m7 : Int) := by omega
  have W4 : IntKind.i64.wrap (m4 : Int) = (m4 : Int) := by simp [IntKind.wrap, IntKind.signed, IntKind.bits]; omega
  have W6 : IntKind.i64.wrap (m6 : Int) = (m6 : Int) := by simp [IntKind.wrap, IntKind.signed, IntKind.bits]; omega
  have W7 : IntKind.i64.wrap (m7 : Int) = (m7 : Int) := by simp [IntKind.wrap, IntKind.signed, IntKind.bits]; omega
  have h1 : ¬ (300 : Int) < (A.size : Int) := by omega
  have h2 : ¬ (300 : Int) < (B.size : Int) := by omega
  replace hmk := Lib.hid hmk
  replace hp := Lib.hid hp
  replace hf1 := Lib.hid hf1
  replace hf2 := Lib.hid hf2
  replace haw := Lib.hid haw
  have HF := Lib.hid (And.intro (And.intro A4 (And.intro A6 A7)) (And.intro (And.intro W4 (And.intro W6 W7)) (And.intro B1 (And.intro B4 (And.intro B6 B7)))))
  replace hidx := Lib.hid hidx
  clear hA hB ht hM1 hM2 hM3 hM hrow hnb hP hLP hpl SI PI hMS hSS hZ12 z1 z4 z6 z7 hm4 hm6 hm7 A4 A6 A7 W4 W6 W7 B1 B2 B3 B4 B5 B6 B7 B8
  go_enter Try.func7, Try.ntmps7
  go_wp2_with fail
  refine hmk.out.mono ?_
  rintro e w1 ⟨rfl, hb1⟩
  have hblk1 := BlkIs.made w1 23 #[.string M.name, .int .i64 M.mode, .int .i64 M.uid, .int .i64 M.gid, .int .i64 M.size, .int .i64 M.mtime, .int .u8 (M.typ.toNat : Int), .string M.link, .string M.uname, .string M.gname, .int .i64 M.major, .int .i64 M.minor, .string M.pre]
  have hB1 := gr_alloc hb1 (.cells #[.string M.name, .int .i64 M.mode, .int .i64 M.uid, .int .i64 M.gid, .int .i64 M.size, .int .i64 M.mtime, .int .u8 (M.typ.toNat : Int), .string M.link, .string M.uname, .string M.gname, .int .i64 M.major, .int .i64 M.minor, .string M.pre] 23)
  have hgle : w.heap.size ≤ w1.heap.size := hb1.size
  go_wp2_with fail
  refine (hp.out _).mono ?_
  rintro e w2 ⟨rfl, hb2⟩
  have hblk2 := hblk1.kept hb2 (by simp)
  have hB2 := hB1.trans (hb2.mono (by have := hb1.size; simp; omega))
  obtain ⟨gh, hgh⟩ : ∃ gh, w1.heap.size = gh := ⟨_, rfl⟩
  rw [hgh] at hblk2 hgle ⊢
  clear hblk1 hB1 hb2 hmk hp hb1 hgh
  go_wp2_with fail
  refine region_twoL (S := fun W => Below w.heap.size w W ∧ BlkIs W gh 23 #[.string M.name, .int .i64 M.mode, .int .i64 M.uid, .int .i64 M.gid, .int .i64 M.size, .int .i64 M.mtime, .int .u8 (M.typ.toNat : Int), .string M.link, .string M.uname, .string M.gname, .int .i64 M.major, .int .i64 M.minor, .string M.pre]) 8 (fun i => i == 6 || i == 7)
    [(fun W v => v = .pointer (some ⟨gh, 1, none⟩)),
     (fun W v => v = .int .i64 M.mode),
     (fun W v => v = .agg #[.string MS, .bool true]),
     (fun W v => v = .pointer (some ⟨gh, 4, none⟩)),
     (fun W v => v = .int .i64 M.size),
     (fun W v => v = .agg #[.string SS, .bool true]),
     (fun W v => ∃ g, v = .pointer (some ⟨g, 0, none⟩) ∧ w.heap.size ≤ g ∧ BlkIs W g 48 #[.string ⟨#[]⟩, .bool false]),
     (fun W v => ∃ g, v = .pointer (some ⟨g, 0, none⟩) ∧ w.heap.size ≤ g ∧ BlkIs W g 48 #[.string ⟨#[]⟩, .bool false])] (by rfl) (by kernel_rfl) (by kernel_rfl) (by kernel_rfl) (by kernel_rfl) (by rfl) (by rfl) (by kernel_rfl) (by kernel_rfl) (by kernel_rfl) ?hS ?hp ?hs ?he
  case hS => exact ⟨gr_drew hB2, hblk2⟩
  case hp => repeat' (first | exact trivial | refine ⟨fun _ _ _ _ h => h, ?_⟩ | refine ⟨fun _ _ _ hb ⟨g, h1, h2, h3⟩ => ⟨g, h1, h2, h3.kept hb h3.size⟩, ?_⟩)
  case hs =>
    simp only [List.take_succ_cons, List.take_zero]
    refine ⟨?_, ?_, ?_, ?_, ?_, ?_, ?_, ?_, trivial⟩
    · refine ⟨met_none rfl, ?_⟩
      intro a W K hS hd hf hK
      have e9 : a.tmps.getD 9 undef = .pointer (some ⟨gh, 0, none⟩) := hf 9 (by kernel_rfl)
      clear hd hf
      go_simp
      exact hK _ _ (Below.refl _ _) hS rfl (fun h => absurd h (by decide))
    · refine ⟨met_none rfl, ?_⟩
      intro a W K hS hd hf hK
      have e32 : a.tmps.getD 32 undef = .pointer (some ⟨gh, 1, none⟩) := hd ⟨0, .data⟩ (by simp) rfl
      have c := hS.2.cell_some 1 _ rfl
      clear hd hf
      go_simp
      exact hK _ _ (Below.refl _ _) hS rfl (fun h => absurd h (by decide))
    · refine ⟨met_none rfl, ?_⟩
      intro a W K hS hd hf hK
      have e33 : a.tmps.getD 33 undef = .int .i64 M.mode := hd ⟨1, .data⟩ (by simp) rfl
      clear hd hf
      go_simp
      go_at_call 22
      refine (hf1.out _).mono ?_
      rintro e w1 ⟨rfl, hb⟩
      exact hK _ _ hb ⟨gr_call hS.1 hb, hS.2.kept hb hS.2.size⟩ rfl (fun h => absurd h (by decide))
    · refine ⟨met_none rfl, ?_⟩
      intro a W K hS hd hf hK
      have e9 : a.tmps.getD 9 undef = .pointer (some ⟨gh, 0, none⟩) := hf 9 (by kernel_rfl)
      clear hd hf
      go_simp
      exact hK _ _ (Below.refl _ _) hS rfl (fun h => absurd h (by decide))
    · refine ⟨met_none rfl, ?_⟩
      intro a W K hS hd hf hK
      have e35 : a.tmps.getD 35 undef = .pointer (some ⟨gh, 4, none⟩) := hd ⟨3, .data⟩ (by simp) rfl
      have c := hS.2.cell_some 4 _ rfl
      clear hd hf
      go_simp
      exact hK _ _ (Below.refl _ _) hS rfl (fun h => absurd h (by decide))
    · refine ⟨met_none rfl, ?_⟩
      intro a W K hS hd hf hK
      have e36 : a.tmps.getD 36 undef = .int .i64 M.size := hd ⟨4, .data⟩ (by simp) rfl
      clear hd hf
      go_simp
      go_at_call 22
      refine (hf2.out _).mono ?_
      rintro e w1 ⟨rfl, hb⟩
      exact hK _ _ hb ⟨gr_call hS.1 hb, hS.2.kept hb hS.2.size⟩ rfl (fun h => absurd h (by decide))
    · refine ⟨met_none rfl, ?_⟩
      intro a W K hS hd hf hK
      clear hd hf
      go_simp
      exact hK _ _ ((Below.refl _ _).alloc (Nat.le_refl _) _) ⟨gr_alloc hS.1 _, hS.2.alloc _⟩ ⟨_, rfl, hS.1.size, BlkIs.made _ _ _⟩ (fun _ j u hj hA hv => by
        have hj7 : j = 7 := by simp at hA; omega
        subst hj7
        exact fresh_ne hv)
    · refine ⟨met_none rfl, ?_⟩
      intro a W K hS hd hf hK
      clear hd hf
      go_simp
      exact hK _ _ ((Below.refl _ _).alloc (Nat.le_refl _) _) ⟨gr_alloc hS.1 _, hS.2.alloc _⟩ ⟨_, rfl, hS.1.size, BlkIs.made _ _ _⟩ (fun _ j u hj hA hv => by
        have hj7 : j = 6 := by simp at hA; omega
        subst hj7
        exact fresh_ne hv)
  case he =>
    intro vals w3 K hS3 hV hD hK
    have e11 := hV 6 (by omega)
    have e12 := hV 7 (by omega)
    have e34 := hV 2 (by omega)
    have e37 := hV 5 (by omega)
    clear hV
    simp only [List.getD_cons_succ, List.getD_cons_zero] at e11 e12 e34 e37
    obtain ⟨g1, e11, hg1, hk1⟩ := e11
    obtain ⟨g2, e12, hg2, hk2⟩ := e12
    have hne : g1 ≠ g2 := by
      intro e
      have := hD 6 7 (by omega) (by omega) (by decide) (by decide) (by decide)
      rw [e11, e12, e] at this
      exact this rfl
    clear hD
    clear hB2 hblk2 hf1 hf2
    obtain ⟨hB3, hblk3⟩ := hS3
    have n1 : gh ≠ g1 := by
      intro e
      subst e
      have h5 := hblk3
      unfold BlkIs at h5 hk1
      rw [hk1] at h5
      simp at h5
    have n2 : gh ≠ g2 := by
      intro e
      subst e
      have h5 := hblk3
      unfold BlkIs at h5 hk2
      rw [hk2] at h5
      simp at h5
    refine Later.mk ?_
    simp only [setN, Nat.reduceAdd, List.setIfInBounds_toArray, List.set_cons_succ, List.set_cons_zero]
    rw [e34, e37, e11, e12]
    clear e34 e37 e11 e12
    have c1 := hk1.cell_some 0 _ rfl
    have c2 := hk1.cell_some 1 _ rfl
    have f1 := hk1.free 0
    have f2 := hk1.free 1
    go_simp
    obtain ⟨w4, hw4⟩ : ∃ w4, (w3.setCell ⟨g1, 0, none⟩ (.string MS)).setCell ⟨g1, 1, none⟩ (.bool true) = w4 := ⟨_, rfl⟩
    have k1 : BlkIs w4 g1 48 #[.string MS, .bool true] := by
      rw [← hw4]
      have k := (hk1.put 0 (.string MS)).put 1 (.bool true)
      simp only [List.setIfInBounds_toArray, List.set_cons_zero, List.set_cons_succ] at k
      exact k
    have k2 : BlkIs w4 g2 48 #[.string ⟨#[]⟩, .bool false] := by
      rw [← hw4]
      exact (hk2.other (p := ⟨g1, 0, none⟩) (fun e => hne e.symm) _).other (p := ⟨g1, 1, none⟩) (fun e => hne e.symm) _
    have kh : BlkIs w4 gh 23 #[.string M.name, .int .i64 M.mode, .int .i64 M.uid, .int .i64 M.gid, .int .i64 M.size, .int .i64 M.mtime, .int .u8 (M.typ.toNat : Int), .string M.link, .string M.uname, .string M.gname, .int .i64 M.major, .int .i64 M.minor, .string M.pre] := by
      rw [← hw4]
      exact (hblk3.other (p := ⟨g1, 0, none⟩) n1 _).other (p := ⟨g1, 1, none⟩) n1 _
    have hB4 : Below w.heap.size w w4 := by
      rw [← hw4]
      exact gr_set (gr_set hB3 (p := ⟨g1, 0, none⟩) hg1 _) (p := ⟨g1, 1, none⟩) hg1 _
    rw [hw4]
    clear hw4 hk1 hk2 hblk3 hB3 c1 c2 f1 f2
    refine hK _ _ ?_
    clear hK K
    intro K hK
    have c1 := k2.cell_some 0 _ rfl
    have c2 := k2.cell_some 1 _ rfl
    have f1 := k2.free 0
    have f2 := k2.free 1
    go_simp
    obtain ⟨w5, hw5⟩ : ∃ w5, (w4.setCell ⟨g2, 0, none⟩ (.string SS)).setCell ⟨g2, 1, none⟩ (.bool true) = w5 := ⟨_, rfl⟩
    have l2 : BlkIs w5 g2 48 #[.string SS, .bool true] := by
      rw [← hw5]
      have k := (k2.put 0 (.string SS)).put 1 (.bool true)
      simp only [List.setIfInBounds_toArray, List.set_cons_zero, List.set_cons_succ] at k
      exact k
    have l1 : BlkIs w5 g1 48 #[.string MS, .bool true] := by
      rw [← hw5]
      exact (k1.other (p := ⟨g2, 0, none⟩) hne _).other (p := ⟨g2, 1, none⟩) hne _
    have lh : BlkIs w5 gh 23 #[.string M.name, .int .i64 M.mode, .int .i64 M.uid, .int .i64 M.gid, .int .i64 M.size, .int .i64 M.mtime, .int .u8 (M.typ.toNat : Int), .string M.link, .string M.uname, .string M.gname, .int .i64 M.major, .int .i64 M.minor, .string M.pre] := by
      rw [← hw5]
      exact (kh.other (p := ⟨g2, 0, none⟩) n2 _).other (p := ⟨g2, 1, none⟩) n2 _
    have hB5 : Below w.heap.size w w5 := by
      rw [← hw5]
      exact gr_set (gr_set hB4 (p := ⟨g2, 0, none⟩) hg2 _) (p := ⟨g2, 1, none⟩) hg2 _
    rw [hw5]
    clear hw5 k1 k2 kh hB4 c1 c2 f1 f2 hne n1 n2
    refine hK _ _ ?_
    clear hK K
    go_wp2_with fail
    obtain ⟨⟨A4, A6, A7⟩, ⟨W4, W6, W7⟩, B1, B4, B6, B7⟩ := HF.out
    replace A4 := Lib.hid A4
    replace A6 := Lib.hid A6
    replace A7 := Lib.hid A7
    replace W4 := Lib.hid W4
    replace W6 := Lib.hid W6
    replace W7 := Lib.hid W7
    replace B1 := Lib.hid B1
    replace B4 := Lib.hid B4
    replace B6 := Lib.hid B6
    replace B7 := Lib.hid B7
    clear HF
    refine region_lastqgL (S := fun W => Below w.heap.size w W ∧ BlkIs W gh 23 #[.string M.name, .int .i64 M.mode, .int .i64 M.uid, .int .i64 M.gid, .int .i64 M.size, .int .i64 M.mtime, .int .u8 (M.typ.toNat : Int), .string M.link, .string M.uname, .string M.gname, .int .i64 M.major, .int .i64 M.minor, .string M.pre] ∧ BlkIs W g1 48 #[.string MS, .bool true] ∧ BlkIs W g2 48 #[.string SS, .bool true]) 76
      [(fun W v => v = .string P),
     (fun W v => v = .pointer (some ⟨gh, 0, none⟩)),
     (fun W v => v = .string M.name),
     (fun W v => v = .int .i64 (M.name.size : Int)),
     (fun W v => v = .string M.name),
     (fun W v => v = .pointer (some ⟨gh, 0, none⟩)),
     (fun W v => v = .string M.name),
     (fun W v => v = .bool true),
     (fun W v => v = .bool true),
     (fun W v => v = .string P),
     (fun W v => v = .string MS),
     (fun W v => v = .pointer (some ⟨g1, 0, none⟩)),
     (fun W v => v = .string MS),
     (fun W v => v = .bool true),
     (fun W v => v = .bool true),
     (fun W v => v = .bool true),
     (fun W v => v = .string P),
     (fun W v => v = .string SS),
     (fun W v => v = .pointer (some ⟨g2, 0, none⟩)),
     (fun W v => v = .string SS),
     (fun W v => v = .bool true),
     (fun W v => v = .bool true),
     (fun W v => v = .bool true),
     (fun W v => v = .string P),
     (fun W v => v = .int .u8 (c.toNat : Int)),
     (fun W v => v = .int .u8 (c.toNat : Int)),
     (fun W v => v = .bool true),
     (fun W v => v = .bool true),
     (fun W v => v = .bool true),
     (fun W v => v = .string P),
     (fun W v => v = .pointer (some ⟨gh, 7, none⟩)),
     (fun W v => v = .string M.link),
     (fun W v => v = .int .i64 (M.link.size : Int)),
     (fun W v => v = .int .i64 (m4 : Int)),
     (fun W v => v = .string M.link),
     (fun W v => v = .pointer (some ⟨gh, 7, none⟩)),
     (fun W v => v = .string M.link),
     (fun W v => v = .bool true),
     (fun W v => v = .bool true),
     (fun W v => v = .bool true),
     (fun W v => v = .string P),
     (fun W v => v = .string ⟨#[117, 115, 116, 97, 114, 0, 48, 48]⟩),
     (fun W v => v = .bool true),
     (fun W v => v = .bool true),
     (fun W v => v = .bool true),
     (fun W v => v = .string P),
     (fun W v => v = .pointer (some ⟨gh, 8, none⟩)),
     (fun W v => v = .string M.uname),
     (fun W v => v = .int .i64 (M.uname.size : Int)),
     (fun W v => v = .int .i64 (m6 : Int)),
     (fun W v => v = .string M.uname),
     (fun W v => v = .pointer (some ⟨gh, 8, none⟩)),
     (fun W v => v = .string M.uname),
     (fun W v => v = .bool true),
     (fun W v => v = .bool true),
     (fun W v => v = .bool true),
     (fun W v => v = .string P),
     (fun W v => v = .pointer (some ⟨gh, 12, none⟩)),
     (fun W v => v = .string M.pre),
     (fun W v => v = .int .i64 (M.pre.size : Int)),
     (fun W v => v = .int .i64 (m7 : Int)),
     (fun W v => v = .string M.pre),
     (fun W v => v = .pointer (some ⟨gh, 12, none⟩)),
     (fun W v => v = .string M.pre),
     (fun W v => v = .bool true),
     (fun W v => v = .bool true),
     (fun W v => v = .bool true),
     (fun W v => v = .string P),
     (fun W v => v = .string Z12),
     (fun W v => ∃ g, v = .slice (some ⟨g, 0, none⟩) 12 12 ∧ BRow g (.slice (some ⟨g, 0, none⟩) 12 12) (List.replicate 12 0) W),
     (fun W v => v = .string Z12),
     (fun W v => v = .bool true),
     (fun W v => v = .bool true),
     (fun W v => v = .bool true),
     (fun W v => v = .bool true),
     (fun W v => v = .bool true)] (by rfl) (by kernel_rfl) (by kernel_rfl) (by kernel_rfl) (by kernel_rfl) (by rfl) (by kernel_rfl) ?hS ?hp ?hs ?he
    case hS => exact ⟨gr_drew hB5, lh, l1, l2⟩
    case hp => repeat' (first | exact trivial | refine ⟨fun _ _ _ _ h => h, ?_⟩ | refine ⟨fun _ _ _ hb ⟨g, h1, h2⟩ => ⟨g, h1, h2.call hb⟩, ?_⟩)
    case hs =>
      simp only [List.take_succ_cons, List.take_zero]
      clear hB5 lh l1 l2
      refine ⟨?_, ?_, ?_, ?_, ?_, ?_, ?_, ?_, ?_, ?_, ?_, ?_, ?_, ?_, ?_, ?_, ?_, ?_, ?_, ?_, ?_, ?_, ?_, ?_, ?_, ?_, ?_, ?_, ?_, ?_, ?_, ?_, ?_, ?_, ?_, ?_, ?_, ?_, ?_, ?_, ?_, ?_, ?_, ?_, ?_, ?_, ?_, ?_, ?_, ?_, ?_, ?_, ?_, ?_, ?_, ?_, ?_, ?_, ?_, ?_, ?_, ?_, ?_, ?_, ?_, ?_, ?_, ?_, ?_, ?_, ?_, ?_, ?_, ?_, ?_, ?_, trivial⟩
      · refine ⟨met_none rfl, ?_⟩
        intro a W K hS hd hf hK
        have e10 : a.tmps.getD 10 undef = .string P := hf 10 (by kernel_rfl)
        clear hd hf
        go_simp
        exact hK _ _ (Below.refl _ _) hS rfl
      · refine ⟨met_none rfl, ?_⟩
        intro a W K hS hd hf hK
        have e9 : a.tmps.getD 9 undef = .pointer (some ⟨gh, 0, none⟩) := hf 9 (by kernel_rfl)
        clear hd hf
        go_simp
        exact hK _ _ (Below.refl _ _) hS rfl
      · refine ⟨met_none rfl, ?_⟩
        intro a W K hS hd hf hK
        have e39 : a.tmps.getD 39 undef = .pointer (some ⟨gh, 0, none⟩) := hd ⟨1, .data⟩ (by simp) rfl
        have c := hS.2.1.cell_some 0 _ rfl
        clear hd hf
        go_simp
        exact hK _ _ (Below.refl _ _) hS rfl
      · refine ⟨met_none rfl, ?_⟩
        intro a W K hS hd hf hK
        have e40 : a.tmps.getD 40 undef = .string M.name := hd ⟨2, .data⟩ (by simp) rfl
        clear hd hf
        go_simp
        exact hK _ _ (Below.refl _ _) hS rfl
      · refine ⟨met_none rfl, ?_⟩
        intro a W K hS hd hf hK
        have e38 : a.tmps.getD 38 undef = .string P := hd ⟨0, .data⟩ (by simp) rfl
        have e41 : a.tmps.getD 41 undef = .int .i64 (M.name.size : Int) := hd ⟨3, .data⟩ (by simp) rfl
        have b1 := B1.out
        clear hd hf
        go_simp
        exact hK _ _ (Below.refl _ _) hS (congrArg Value.string E1.out)
      · refine ⟨met_none rfl, ?_⟩
        intro a W K hS hd hf hK
        have e9 : a.tmps.getD 9 undef = .pointer (some ⟨gh, 0, none⟩) := hf 9 (by kernel_rfl)
        clear hd hf
        go_simp
        exact hK _ _ (Below.refl _ _) hS rfl
      · refine ⟨met_none rfl, ?_⟩
        intro a W K hS hd hf hK
        have e43 : a.tmps.getD 43 undef = .pointer (some ⟨gh, 0, none⟩) := hd ⟨5, .data⟩ (by simp) rfl
        have c := hS.2.1.cell_some 0 _ rfl
        clear hd hf
        go_simp
        exact hK _ _ (Below.refl _ _) hS rfl
      · refine ⟨met_none rfl, ?_⟩
        intro a W K hS hd hf hK
        have e42 : a.tmps.getD 42 undef = .string M.name := hd ⟨4, .data⟩ (by simp) rfl
        have e44 : a.tmps.getD 44 undef = .string M.name := hd ⟨6, .data⟩ (by simp) rfl
        clear hd hf
        go_simp
        exact hK _ _ (Below.refl _ _) hS rfl
      · refine ⟨met_none rfl, ?_⟩
        intro a W K hS hd hf hK
        have e45 : a.tmps.getD 45 undef = .bool true := hd ⟨7, .data⟩ (by simp) rfl
        clear hd hf
        go_simp
        exact hK _ _ (Below.refl _ _) hS rfl
      · refine ⟨met_some 8 true rfl (fun w v h => h), ?_⟩
        intro a W K hS hd hf hK
        have e10 : a.tmps.getD 10 undef = .string P := hf 10 (by kernel_rfl)
        clear hd hf
        go_simp
        exact hK _ _ (Below.refl _ _) hS rfl
      · refine ⟨met_some 8 true rfl (fun w v h => h), ?_⟩
        intro a W K hS hd hf hK
        have e47 : a.tmps.getD 47 undef = .string P := hd ⟨9, .data⟩ (by simp) rfl
        clear hd hf
        go_simp
        exact hK _ _ (Below.refl _ _) hS (congrArg Value.string E2.out)
      · refine ⟨met_some 8 true rfl (fun w v h => h), ?_⟩
        intro a W K hS hd hf hK
        have e11 : a.tmps.getD 11 undef = .pointer (some ⟨g1, 0, none⟩) := hf 11 (by kernel_rfl)
        clear hd hf
        go_simp
        exact hK _ _ (Below.refl _ _) hS rfl
      · refine ⟨met_some 8 true rfl (fun w v h => h), ?_⟩
        intro a W K hS hd hf hK
        have e49 : a.tmps.getD 49 undef = .pointer (some ⟨g1, 0, none⟩) := hd ⟨11, .data⟩ (by simp) rfl
        have c := hS.2.2.1.cell_some 0 _ rfl
        clear hd hf
        go_simp
        exact hK _ _ (Below.refl _ _) hS rfl
      · refine ⟨met_some 8 true rfl (fun w v h => h), ?_⟩
        intro a W K hS hd hf hK
        have e48 : a.tmps.getD 48 undef = .string MS := hd ⟨10, .data⟩ (by simp) rfl
        have e50 : a.tmps.getD 50 undef = .string MS := hd ⟨12, .data⟩ (by simp) rfl
        clear hd hf
        go_simp
        exact hK _ _ (Below.refl _ _) hS rfl
      · refine ⟨met_none rfl, ?_⟩
        intro a W K hS hd hf hK
        have e46 : a.tmps.getD 46 undef = .bool true := hd ⟨8, .data⟩ (by simp) rfl
        have e51 : a.tmps.getD 51 undef = .bool true := hd ⟨13, .data⟩ (by simp) rfl
        clear hd hf
        go_simp
        exact hK _ _ (Below.refl _ _) hS rfl
      · refine ⟨met_none rfl, ?_⟩
        intro a W K hS hd hf hK
        have e52 : a.tmps.getD 52 undef = .bool true := hd ⟨14, .data⟩ (by simp) rfl
        clear hd hf
        go_simp
        exact hK _ _ (Below.refl _ _) hS rfl
      · refine ⟨met_some 15 true rfl (fun w v h => h), ?_⟩
        intro a W K hS hd hf hK
        have e10 : a.tmps.getD 10 undef = .string P := hf 10 (by kernel_rfl)
        clear hd hf
        go_simp
        exact hK _ _ (Below.refl _ _) hS rfl
      · refine ⟨met_some 15 true rfl (fun w v h => h), ?_⟩
        intro a W K hS hd hf hK
        have e54 : a.tmps.getD 54 undef = .string P := hd ⟨16, .data⟩ (by simp) rfl
        clear hd hf
        go_simp
        exact hK _ _ (Below.refl _ _) hS (congrArg Value.string E3.out)
      · refine ⟨met_some 15 true rfl (fun w v h => h), ?_⟩
        intro a W K hS hd hf hK
        have e12 : a.tmps.getD 12 undef = .pointer (some ⟨g2, 0, none⟩) := hf 12 (by kernel_rfl)
        clear hd hf
        go_simp
        exact hK _ _ (Below.refl _ _) hS rfl
      · refine ⟨met_some 15 true rfl (fun w v h => h), ?_⟩
        intro a W K hS hd hf hK
        have e56 : a.tmps.getD 56 undef = .pointer (some ⟨g2, 0, none⟩) := hd ⟨18, .data⟩ (by simp) rfl
        have c := hS.2.2.2.cell_some 0 _ rfl
        clear hd hf
        go_simp
        exact hK _ _ (Below.refl _ _) hS rfl
      · refine ⟨met_some 15 true rfl (fun w v h => h), ?_⟩
        intro a W K hS hd hf hK
        have e55 : a.tmps.getD 55 undef = .string SS := hd ⟨17, .data⟩ (by simp) rfl
        have e57 : a.tmps.getD 57 undef = .string SS := hd ⟨19, .data⟩ (by simp) rfl
        clear hd hf
        go_simp
        exact hK _ _ (Below.refl _ _) hS rfl
      · refine ⟨met_none rfl, ?_⟩
        intro a W K hS hd hf hK
        have e53 : a.tmps.getD 53 undef = .bool true := hd ⟨15, .data⟩ (by simp) rfl
        have e58 : a.tmps.getD 58 undef = .bool true := hd ⟨20, .data⟩ (by simp) rfl
        clear hd hf
        go_simp
        exact hK _ _ (Below.refl _ _) hS rfl
      · refine ⟨met_none rfl, ?_⟩
        intro a W K hS hd hf hK
        have e59 : a.tmps.getD 59 undef = .bool true := hd ⟨21, .data⟩ (by simp) rfl
        clear hd hf
        go_simp
        exact hK _ _ (Below.refl _ _) hS rfl
      · refine ⟨met_some 22 true rfl (fun w v h => h), ?_⟩
        intro a W K hS hd hf hK
        have e10 : a.tmps.getD 10 undef = .string P := hf 10 (by kernel_rfl)
        clear hd hf
        go_simp
        exact hK _ _ (Below.refl _ _) hS rfl
      · refine ⟨met_some 22 true rfl (fun w v h => h), ?_⟩
        intro a W K hS hd hf hK
        have e61 : a.tmps.getD 61 undef = .string P := hd ⟨23, .data⟩ (by simp) rfl
        have hix := hidx.out
        clear hd hf
        go_simp
        exact hK _ _ (Below.refl _ _) hS rfl
      · refine ⟨met_some 22 true rfl (fun w v h => h), ?_⟩
        intro a W K hS hd hf hK
        have e3 : a.tmps.getD 3 undef = .int .u8 (c.toNat : Int) := hf 3 (by kernel_rfl)
        clear hd hf
        go_simp
        exact hK _ _ (Below.refl _ _) hS rfl
      · refine ⟨met_some 22 true rfl (fun w v h => h), ?_⟩
        intro a W K hS hd hf hK
        have e62 : a.tmps.getD 62 undef = .int .u8 (c.toNat : Int) := hd ⟨24, .data⟩ (by simp) rfl
        have e63 : a.tmps.getD 63 undef = .int .u8 (c.toNat : Int) := hd ⟨25, .data⟩ (by simp) rfl
        clear hd hf
        go_simp
        exact hK _ _ (Below.refl _ _) hS rfl
      · refine ⟨met_none rfl, ?_⟩
        intro a W K hS hd hf hK
        have e60 : a.tmps.getD 60 undef = .bool true := hd ⟨22, .data⟩ (by simp) rfl
        have e64 : a.tmps.getD 64 undef = .bool true := hd ⟨26, .data⟩ (by simp) rfl
        clear hd hf
        go_simp
        exact hK _ _ (Below.refl _ _) hS rfl
      · refine ⟨met_none rfl, ?_⟩
        intro a W K hS hd hf hK
        have e65 : a.tmps.getD 65 undef = .bool true := hd ⟨27, .data⟩ (by simp) rfl
        clear hd hf
        go_simp
        exact hK _ _ (Below.refl _ _) hS rfl
      · refine ⟨met_some 28 true rfl (fun w v h => h), ?_⟩
        intro a W K hS hd hf hK
        have e10 : a.tmps.getD 10 undef = .string P := hf 10 (by kernel_rfl)
        clear hd hf
        go_simp
        exact hK _ _ (Below.refl _ _) hS rfl
      · refine ⟨met_some 28 true rfl (fun w v h => h), ?_⟩
        intro a W K hS hd hf hK
        have e9 : a.tmps.getD 9 undef = .pointer (some ⟨gh, 0, none⟩) := hf 9 (by kernel_rfl)
        clear hd hf
        go_simp
        exact hK _ _ (Below.refl _ _) hS rfl
      · refine ⟨met_some 28 true rfl (fun w v h => h), ?_⟩
        intro a W K hS hd hf hK
        have e68 : a.tmps.getD 68 undef = .pointer (some ⟨gh, 7, none⟩) := hd ⟨30, .data⟩ (by simp) rfl
        have c := hS.2.1.cell_some 7 _ rfl
        clear hd hf
        go_simp
        exact hK _ _ (Below.refl _ _) hS rfl
      · refine ⟨met_some 28 true rfl (fun w v h => h), ?_⟩
        intro a W K hS hd hf hK
        have e69 : a.tmps.getD 69 undef = .string M.link := hd ⟨31, .data⟩ (by simp) rfl
        clear hd hf
        go_simp
        exact hK _ _ (Below.refl _ _) hS rfl
      · refine ⟨met_some 28 true rfl (fun w v h => h), ?_⟩
        intro a W K hS hd hf hK
        have e70 : a.tmps.getD 70 undef = .int .i64 (M.link.size : Int) := hd ⟨32, .data⟩ (by simp) rfl
        have a1 := A4.out
        have a2 := W4.out
        clear hd hf
        go_simp
        exact hK _ _ (Below.refl _ _) hS rfl
      · refine ⟨met_some 28 true rfl (fun w v h => h), ?_⟩
        intro a W K hS hd hf hK
        have e67 : a.tmps.getD 67 undef = .string P := hd ⟨29, .data⟩ (by simp) rfl
        have e71 : a.tmps.getD 71 undef = .int .i64 (m4 : Int) := hd ⟨33, .data⟩ (by simp) rfl
        obtain ⟨b1, b2⟩ := B4.out
        clear hd hf
        go_simp
        exact hK _ _ (Below.refl _ _) hS (congrArg Value.string E4.out)
      · refine ⟨met_some 28 true rfl (fun w v h => h), ?_⟩
        intro a W K hS hd hf hK
        have e9 : a.tmps.getD 9 undef = .pointer (some ⟨gh, 0, none⟩) := hf 9 (by kernel_rfl)
        clear hd hf
        go_simp
        exact hK _ _ (Below.refl _ _) hS rfl
      · refine ⟨met_some 28 true rfl (fun w v h => h), ?_⟩
        intro a W K hS hd hf hK
        have e73 : a.tmps.getD 73 undef = .pointer (some ⟨gh, 7, none⟩) := hd ⟨35, .data⟩ (by simp) rfl
        have c := hS.2.1.cell_some 7 _ rfl
        clear hd hf
        go_simp
        exact hK _ _ (Below.refl _ _) hS rfl
      · refine ⟨met_some 28 true rfl (fun w v h => h), ?_⟩
        intro a W K hS hd hf hK
        have e72 : a.tmps.getD 72 undef = .string M.link := hd ⟨34, .data⟩ (by simp) rfl
        have e74 : a.tmps.getD 74 undef = .string M.link := hd ⟨36, .data⟩ (by simp) rfl
        clear hd hf
        go_simp
        exact hK _ _ (Below.refl _ _) hS rfl
      · refine ⟨met_none rfl, ?_⟩
        intro a W K hS hd hf hK
        have e66 : a.tmps.getD 66 undef = .bool true := hd ⟨28, .data⟩ (by simp) rfl
        have e75 : a.tmps.getD 75 undef = .bool true := hd ⟨37, .data⟩ (by simp) rfl
        clear hd hf
        go_simp
        exact hK _ _ (Below.refl _ _) hS rfl
      · refine ⟨met_none rfl, ?_⟩
        intro a W K hS hd hf hK
        have e76 : a.tmps.getD 76 undef = .bool true := hd ⟨38, .data⟩ (by simp) rfl
        clear hd hf
        go_simp
        exact hK _ _ (Below.refl _ _) hS rfl
      · refine ⟨met_some 39 true rfl (fun w v h => h), ?_⟩
        intro a W K hS hd hf hK
        have e10 : a.tmps.getD 10 undef = .string P := hf 10 (by kernel_rfl)
        clear hd hf
        go_simp
        exact hK _ _ (Below.refl _ _) hS rfl
      · refine ⟨met_some 39 true rfl (fun w v h => h), ?_⟩
        intro a W K hS hd hf hK
        have e78 : a.tmps.getD 78 undef = .string P := hd ⟨40, .data⟩ (by simp) rfl
        clear hd hf
        go_simp
        exact hK _ _ (Below.refl _ _) hS (congrArg Value.string E5.out)
      · refine ⟨met_some 39 true rfl (fun w v h => h), ?_⟩
        intro a W K hS hd hf hK
        have e79 : a.tmps.getD 79 undef = .string ⟨#[117, 115, 116, 97, 114, 0, 48, 48]⟩ := hd ⟨41, .data⟩ (by simp) rfl
        clear hd hf
        go_simp
        exact hK _ _ (Below.refl _ _) hS rfl
      · refine ⟨met_none rfl, ?_⟩
        intro a W K hS hd hf hK
        have e77 : a.tmps.getD 77 undef = .bool true := hd ⟨39, .data⟩ (by simp) rfl
        have e80 : a.tmps.getD 80 undef = .bool true := hd ⟨42, .data⟩ (by simp) rfl
        clear hd hf
        go_simp
        exact hK _ _ (Below.refl _ _) hS rfl
      · refine ⟨met_none rfl, ?_⟩
        intro a W K hS hd hf hK
        have e81 : a.tmps.getD 81 undef = .bool true := hd ⟨43, .data⟩ (by simp) rfl
        clear hd hf
        go_simp
        exact hK _ _ (Below.refl _ _) hS rfl
      · refine ⟨met_some 44 true rfl (fun w v h => h), ?_⟩
        intro a W K hS hd hf hK
        have e10 : a.tmps.getD 10 undef = .string P := hf 10 (by kernel_rfl)
        clear hd hf
        go_simp
        exact hK _ _ (Below.refl _ _) hS rfl
      · refine ⟨met_some 44 true rfl (fun w v h => h), ?_⟩
        intro a W K hS hd hf hK
        have e9 : a.tmps.getD 9 undef = .pointer (some ⟨gh, 0, none⟩) := hf 9 (by kernel_rfl)
        clear hd hf
        go_simp
        exact hK _ _ (Below.refl _ _) hS rfl
      · refine ⟨met_some 44 true rfl (fun w v h => h), ?_⟩
        intro a W K hS hd hf hK
        have e84 : a.tmps.getD 84 undef = .pointer (some ⟨gh, 8, none⟩) := hd ⟨46, .data⟩ (by simp) rfl
        have c := hS.2.1.cell_some 8 _ rfl
        clear hd hf
        go_simp
        exact hK _ _ (Below.refl _ _) hS rfl
      · refine ⟨met_some 44 true rfl (fun w v h => h), ?_⟩
        intro a W K hS hd hf hK
        have e85 : a.tmps.getD 85 undef = .string M.uname := hd ⟨47, .data⟩ (by simp) rfl
        clear hd hf
        go_simp
        exact hK _ _ (Below.refl _ _) hS rfl
      · refine ⟨met_some 44 true rfl (fun w v h => h), ?_⟩
        intro a W K hS hd hf hK
        have e86 : a.tmps.getD 86 undef = .int .i64 (M.uname.size : Int) := hd ⟨48, .data⟩ (by simp) rfl
        have a1 := A6.out
        have a2 := W6.out
        clear hd hf
        go_simp
        exact hK _ _ (Below.refl _ _) hS rfl
      · refine ⟨met_some 44 true rfl (fun w v h => h), ?_⟩
        intro a W K hS hd hf hK
        have e83 : a.tmps.getD 83 undef = .string P := hd ⟨45, .data⟩ (by simp) rfl
        have e87 : a.tmps.getD 87 undef = .int .i64 (m6 : Int) := hd ⟨49, .data⟩ (by simp) rfl
        obtain ⟨b1, b2⟩ := B6.out
        clear hd hf
        go_simp
        exact hK _ _ (Below.refl _ _) hS (congrArg Value.string E6.out)
      · refine ⟨met_some 44 true rfl (fun w v h => h), ?_⟩
        intro a W K hS hd hf hK
        have e9 : a.tmps.getD 9 undef = .pointer (some ⟨gh, 0, none⟩) := hf 9 (by kernel_rfl)
        clear hd hf
        go_simp
        exact hK _ _ (Below.refl _ _) hS rfl
      · refine ⟨met_some 44 true rfl (fun w v h => h), ?_⟩
        intro a W K hS hd hf hK
        have e89 : a.tmps.getD 89 undef = .pointer (some ⟨gh, 8, none⟩) := hd ⟨51, .data⟩ (by simp) rfl
        have c := hS.2.1.cell_some 8 _ rfl
        clear hd hf
        go_simp
        exact hK _ _ (Below.refl _ _) hS rfl
      · refine ⟨met_some 44 true rfl (fun w v h => h), ?_⟩
        intro a W K hS hd hf hK
        have e88 : a.tmps.getD 88 undef = .string M.uname := hd ⟨50, .data⟩ (by simp) rfl
        have e90 : a.tmps.getD 90 undef = .string M.uname := hd ⟨52, .data⟩ (by simp) rfl
        clear hd hf
        go_simp
        exact hK _ _ (Below.refl _ _) hS rfl
      · refine ⟨met_none rfl, ?_⟩
        intro a W K hS hd hf hK
        have e82 : a.tmps.getD 82 undef = .bool true := hd ⟨44, .data⟩ (by simp) rfl
        have e91 : a.tmps.getD 91 undef = .bool true := hd ⟨53, .data⟩ (by simp) rfl
        clear hd hf
        go_simp
        exact hK _ _ (Below.refl _ _) hS rfl
      · refine ⟨met_none rfl, ?_⟩
        intro a W K hS hd hf hK
        have e92 : a.tmps.getD 92 undef = .bool true := hd ⟨54, .data⟩ (by simp) rfl
        clear hd hf
        go_simp
        exact hK _ _ (Below.refl _ _) hS rfl
      · refine ⟨met_some 55 true rfl (fun w v h => h), ?_⟩
        intro a W K hS hd hf hK
        have e10 : a.tmps.getD 10 undef = .string P := hf 10 (by kernel_rfl)
        clear hd hf
        go_simp
        exact hK _ _ (Below.refl _ _) hS rfl
      · refine ⟨met_some 55 true rfl (fun w v h => h), ?_⟩
        intro a W K hS hd hf hK
        have e9 : a.tmps.getD 9 undef = .pointer (some ⟨gh, 0, none⟩) := hf 9 (by kernel_rfl)
        clear hd hf
        go_simp
        exact hK _ _ (Below.refl _ _) hS rfl
      · refine ⟨met_some 55 true rfl (fun w v h => h), ?_⟩
        intro a W K hS hd hf hK
        have e95 : a.tmps.getD 95 undef = .pointer (some ⟨gh, 12, none⟩) := hd ⟨57, .data⟩ (by simp) rfl
        have c := hS.2.1.cell_some 12 _ rfl
        clear hd hf
        go_simp
        exact hK _ _ (Below.refl _ _) hS rfl
      · refine ⟨met_some 55 true rfl (fun w v h => h), ?_⟩
        intro a W K hS hd hf hK
        have e96 : a.tmps.getD 96 undef = .string M.pre := hd ⟨58, .data⟩ (by simp) rfl
        clear hd hf
        go_simp
        exact hK _ _ (Below.refl _ _) hS rfl
      · refine ⟨met_some 55 true rfl (fun w v h => h), ?_⟩
        intro a W K hS hd hf hK
        have e97 : a.tmps.getD 97 undef = .int .i64 (M.pre.size : Int) := hd ⟨59, .data⟩ (by simp) rfl
        have a1 := A7.out
        have a2 := W7.out
        clear hd hf
        go_simp
        exact hK _ _ (Below.refl _ _) hS rfl
      · refine ⟨met_some 55 true rfl (fun w v h => h), ?_⟩
        intro a W K hS hd hf hK
        have e94 : a.tmps.getD 94 undef = .string P := hd ⟨56, .data⟩ (by simp) rfl
        have e98 : a.tmps.getD 98 undef = .int .i64 (m7 : Int) := hd ⟨60, .data⟩ (by simp) rfl
        obtain ⟨b1, b2⟩ := B7.out
        clear hd hf
        go_simp
        exact hK _ _ (Below.refl _ _) hS (congrArg Value.string E7.out)
      · refine ⟨met_some 55 true rfl (fun w v h => h), ?_⟩
        intro a W K hS hd hf hK
        have e9 : a.tmps.getD 9 undef = .pointer (some ⟨gh, 0, none⟩) := hf 9 (by kernel_rfl)
        clear hd hf
        go_simp
        exact hK _ _ (Below.refl _ _) hS rfl
      · refine ⟨met_some 55 true rfl (fun w v h => h), ?_⟩
        intro a W K hS hd hf hK
        have e100 : a.tmps.getD 100 undef = .pointer (some ⟨gh, 12, none⟩) := hd ⟨62, .data⟩ (by simp) rfl
        have c := hS.2.1.cell_some 12 _ rfl
        clear hd hf
        go_simp
        exact hK _ _ (Below.refl _ _) hS rfl
      · refine ⟨met_some 55 true rfl (fun w v h => h), ?_⟩
        intro a W K hS hd hf hK
        have e99 : a.tmps.getD 99 undef = .string M.pre := hd ⟨61, .data⟩ (by simp) rfl
        have e101 : a.tmps.getD 101 undef = .string M.pre := hd ⟨63, .data⟩ (by simp) rfl
        clear hd hf
        go_simp
        exact hK _ _ (Below.refl _ _) hS rfl
      · refine ⟨met_none rfl, ?_⟩
        intro a W K hS hd hf hK
        have e93 : a.tmps.getD 93 undef = .bool true := hd ⟨55, .data⟩ (by simp) rfl
        have e102 : a.tmps.getD 102 undef = .bool true := hd ⟨64, .data⟩ (by simp) rfl
        clear hd hf
        go_simp
        exact hK _ _ (Below.refl _ _) hS rfl
      · refine ⟨met_none rfl, ?_⟩
        intro a W K hS hd hf hK
        have e103 : a.tmps.getD 103 undef = .bool true := hd ⟨65, .data⟩ (by simp) rfl
        clear hd hf
        go_simp
        exact hK _ _ (Below.refl _ _) hS rfl
      · refine ⟨met_some 66 true rfl (fun w v h => h), ?_⟩
        intro a W K hS hd hf hK
        have e10 : a.tmps.getD 10 undef = .string P := hf 10 (by kernel_rfl)
        clear hd hf
        go_simp
        exact hK _ _ (Below.refl _ _) hS rfl
      · refine ⟨met_some 66 true rfl (fun w v h => h), ?_⟩
        intro a W K hS hd hf hK
        have e105 : a.tmps.getD 105 undef = .string P := hd ⟨67, .data⟩ (by simp) rfl
        clear hd hf
        go_simp
        exact hK _ _ (Below.refl _ _) hS (congrArg Value.string E8.out)
      · refine ⟨met_some 66 true rfl (fun w v h => h), ?_⟩
        intro a W K hS hd hf hK
        clear hd hf
        refine oper_make _ _ rfl W 12 _ _ rfl rfl rfl rfl (by decide) ?_
        intro w1 hr hb
        exact hK _ _ hb (keep3 hS hb) ⟨_, rfl, hr⟩
      · refine ⟨met_some 66 true rfl (fun w v h => h), ?_⟩
        intro a W K hS hd hf hK
        obtain ⟨g107, e107, r107⟩ : ∃ g, a.tmps.getD 107 undef = .slice (some ⟨g, 0, none⟩) 12 12 ∧ BRow g (.slice (some ⟨g, 0, none⟩) 12 12) (List.replicate 12 0) W := hd ⟨69, .data⟩ (by simp) rfl
        have hcv := hcvZ r107
        clear hd hf
        go_simp
        exact hK _ _ (Below.refl _ _) hS rfl
      · refine ⟨met_some 66 true rfl (fun w v h => h), ?_⟩
        intro a W K hS hd hf hK
        have e106 : a.tmps.getD 106 undef = .string Z12 := hd ⟨68, .data⟩ (by simp) rfl
        have e108 : a.tmps.getD 108 undef = .string Z12 := hd ⟨70, .data⟩ (by simp) rfl
        clear hd hf
        go_simp
        exact hK _ _ (Below.refl _ _) hS rfl
      · refine ⟨met_none rfl, ?_⟩
        intro a W K hS hd hf hK
        have e104 : a.tmps.getD 104 undef = .bool true := hd ⟨66, .data⟩ (by simp) rfl
        have e109 : a.tmps.getD 109 undef = .bool true := hd ⟨71, .data⟩ (by simp) rfl
        clear hd hf
        go_simp
        exact hK _ _ (Below.refl _ _) hS rfl
      · refine ⟨met_none rfl, ?_⟩
        intro a W K hS hd hf hK
        have e110 : a.tmps.getD 110 undef = .bool true := hd ⟨72, .data⟩ (by simp) rfl
        clear hd hf
        go_simp
        exact hK _ _ (Below.refl _ _) hS rfl
      · refine ⟨met_some 73 true rfl (fun w v h => h), ?_⟩
        intro a W K hS hd hf hK
        clear hd hf
        go_simp
        go_at_call 9
        refine (haw _).mono ?_
        rintro e w1 ⟨rfl, hb⟩
        exact hK _ _ hb (keep3 hS hb) rfl
      · refine ⟨met_none rfl, ?_⟩
        intro a W K hS hd hf hK
        have e111 : a.tmps.getD 111 undef = .bool true := hd ⟨73, .data⟩ (by simp) rfl
        have e112 : a.tmps.getD 112 undef = .bool true := hd ⟨74, .data⟩ (by simp) rfl
        clear hd hf
        go_simp
        exact hK _ _ (Below.refl _ _) hS rfl
    case he =>
      intro vals w6 K hS6 hV hK
      have e113 := hV 75 (by omega)
      clear hV
      simp only [List.getD_cons_succ, List.getD_cons_zero] at e113
      have hB6 := hS6.1
      clear hS6 hB5 lh l1 l2
      refine Later.mk ?_
      simp only [List.append_eq, List.cons_append, List.nil_append, setN, Nat.reduceAdd, List.setIfInBounds_toArray, List.set_cons_succ, List.set_cons_zero]
      rw [e113]
      go_simp
      refine hK _ _ ?_
      clear hK
      go_wp2_with fail
      go_ret
      exact ⟨rfl, hB6⟩
end Go.Proofs.Ytkkmhfgfkjeooaa
