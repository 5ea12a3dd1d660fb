/- The law's header by numbers and texts. -/
import Derived.Test.YtkkmhfgfkjeooaaHeadText
import Derived.Test.YtkkmhfgfkjeooaaArg
import Derived.Test.YtkkmhfgfkjeooaaNumAwake
namespace Go.Proofs.Ytkkmhfgfkjeooaa
open Go.RowKit
open HeadM NumM
set_option linter.unusedVariables false

/-- The number at a place, nought behind the last. -/
def HeadM.nth (zs : List Int) (len i : Nat) : Int := if i < len then zs.getD i 0 else 0
def HeadM.mkH (a b : List UInt8) (zs : List Int) (len : Nat) (t : UInt8) : Hd where
  name := strOf (mkT a 100)
  mode := nth zs len 0 % 4096
  uid := nth zs len 1
  gid := nth zs len 2
  size := nth zs len 3 * 999
  mtime := nth zs len 4 - 2147483648
  typ := t
  link := strOf (mkT b 100)
  uname := strOf (mkT a 32)
  gname := ⟨#[]⟩
  major := nth zs len 5 % 2097152
  minor := nth zs len 6
  pre := strOf (mkT b 155)

theorem buildMk (n0 : ByteArray) (m u g s mt t : Int) (n1 n3 : ByteArray) (ma mi : Int) (n2 : ByteArray) (w : World) :
    (Instr.build 23 #[(0, .string n0), (7, .string n1), (12, .string n2), (8, .string n3), (1, .int .i64 m), (2, .int .i64 u), (3, .int .i64 g), (4, .int .i64 s), (5, .int .i64 mt), (10, .int .i64 ma), (11, .int .i64 mi), (6, .int .u8 t)]).run Try.prog w =
      .ok (.agg #[.string n0, .int .i64 m, .int .i64 u, .int .i64 g, .int .i64 s, .int .i64 mt, .int .u8 t, .string n1, .string n3, .string ⟨#[]⟩, .int .i64 ma, .int .i64 mi, .string n2]) w := run_build w _ _ _ (by kernel_rfl)

/-- Seven numbers, the first k of them laid. -/
def HeadM.kc (f : Nat → Int) (k : Nat) : Array Value := #[.int .i64 (if 0 < k then f 0 else 0), .int .i64 (if 1 < k then f 1 else 0), .int .i64 (if 2 < k then f 2 else 0), .int .i64 (if 3 < k then f 3 else 0), .int .i64 (if 4 < k then f 4 else 0), .int .i64 (if 5 < k then f 5 else 0), .int .i64 (if 6 < k then f 6 else 0)]
theorem kc_set (f : Nat → Int) (k : Nat) (hk : k < 7) : (kc f k).setIfInBounds k (.int .i64 (f k)) = kc f (k + 1) := by
  have : k = 0 ∨ k = 1 ∨ k = 2 ∨ k = 3 ∨ k = 4 ∨ k = 5 ∨ k = 6 := by omega
  rcases this with rfl | rfl | rfl | rfl | rfl | rfl | rfl <;> simp [kc]
theorem kc_at (f : Nat → Int) (k j : Nat) (hj : j < 7) : (kc f k)[j]? = some (.int .i64 (if j < k then f j else 0)) := by
  have : j = 0 ∨ j = 1 ∨ j = 2 ∨ j = 3 ∨ j = 4 ∨ j = 5 ∨ j = 6 := by omega
  rcases this with rfl | rfl | rfl | rfl | rfl | rfl | rfl <;> rfl

theorem kc_end {zs : List Int} {len k : Nat} (h : (k = 7 ∧ 7 ≤ len) ∨ (k = len ∧ len ≤ 7)) : kc (fun j => zs.getD j 0) k = #[.int .i64 (nth zs len 0), .int .i64 (nth zs len 1), .int .i64 (nth zs len 2), .int .i64 (nth zs len 3), .int .i64 (nth zs len 4), .int .i64 (nth zs len 5), .int .i64 (nth zs len 6)] := by
  have e : ∀ j, j < 7 → (if j < k then zs.getD j 0 else 0) = nth zs len j := by
    intro j hj
    unfold nth
    by_cases h1 : j < len
    · rw [if_pos h1, if_pos (by omega)]
    · rw [if_neg h1, if_neg (by omega)]
  unfold kc
  rw [e 0 (by omega), e 1 (by omega), e 2 (by omega), e 3 (by omega), e 4 (by omega), e 5 (by omega), e 6 (by omega)]
theorem nth_seven {zs : List Int} {len : Nat} (h : Hid (∀ j, 0 ≤ nth zs len j ∧ nth zs len j ≤ 4294967295)) : ∃ X0 X1 X2 X3 X4 X5 X6 : Int,
    (nth zs len 0 = X0 ∧ nth zs len 1 = X1 ∧ nth zs len 2 = X2 ∧ nth zs len 3 = X3 ∧ nth zs len 4 = X4 ∧ nth zs len 5 = X5 ∧ nth zs len 6 = X6) ∧
    ((0 ≤ X0 ∧ X0 ≤ 4294967295) ∧ (0 ≤ X1 ∧ X1 ≤ 4294967295) ∧ (0 ≤ X2 ∧ X2 ≤ 4294967295) ∧ (0 ≤ X3 ∧ X3 ≤ 4294967295) ∧ (0 ≤ X4 ∧ X4 ≤ 4294967295) ∧ (0 ≤ X5 ∧ X5 ≤ 4294967295) ∧ (0 ≤ X6 ∧ X6 ≤ 4294967295)) :=
  ⟨_, _, _, _, _, _, _, ⟨rfl, rfl, rfl, rfl, rfl, rfl, rfl⟩, h.out 0, h.out 1, h.out 2, h.out 3, h.out 4, h.out 5, h.out 6⟩
/-- make([]int, 7). -/
theorem wp_make7 {ops : Array Oper} {rest : List Oper} {o : Oper} {a : Act} {Q : Exit → Act → World → Prop} (hg : o.guard = none) (l c : Operand) (hop : o.op = Op.makeSlice 61 l c)
    (w : World) (hl : a.eval l = .int .i64 7) (hc : a.eval c = .int .i64 7)
    (h : ∀ w', BlkIs w' w.heap.size 3 #[.int .i64 0, .int .i64 0, .int .i64 0, .int .i64 0, .int .i64 0, .int .i64 0, .int .i64 0] → Below w.heap.size w w' → wpList Try.prog ops Q rest (a.put o.dst (.slice (some ⟨w.heap.size, 0, none⟩) 7 7)) w') :
    wpList Try.prog ops Q (o :: rest) a w := by
  obtain ⟨i0, hi, hz0, hz1, hz2⟩ := info_parts (show (Try.prog.info? 3).map (fun i => (i.zero, i.size, i.bytes)) = some (some (.int .i64 0), 1, 8) by kernel_rfl)
  refine wpList_make_full w hg l c 61 hop w.heap.size 3 i0 (.int .i64 0) 1 Try.underlying61 hi hz0 hz1 .i64 .i64 7 7 7 hl hc rfl rfl (by rw [hz2]; decide) (by unfold maxLen; decide) (Nat.le_refl _) ?_
  intro w' h1 h2
  refine h w' ?_ ((Below.refl _ w).grown h2 (Nat.le_refl _) (fun k hk => by simp at hk))
  rcases h1.2 with ⟨h3, _⟩ | ⟨g, cap, cur, hv, _, hb, _, _, hs, ht⟩
  · cases h3
  · injection hv with e1 e2 e3
    injection e1 with e1
    injection e1 with e1
    subst e1
    subst e3
    have : cur = #[.int .i64 0, .int .i64 0, .int .i64 0, .int .i64 0, .int .i64 0, .int .i64 0, .int .i64 0] := by
      apply Array.toList_inj.1
      rw [List.take_of_length_le (by simp [hs])] at ht
      rw [ht]
      kernel_rfl
    rw [this] at hb
    exact hb

set_option maxHeartbeats 4000000 in
set_option maxRecDepth 100000 in
theorem make_any (A B : ByteArray) (hA : A.size ≤ 100000) (hB : B.size ≤ 100000) (na : Option Addr) (len cap : Nat) (zs : List Int) (w : World) (hrow : IsRow .u32 w na len cap zs) (t : UInt8) :
    Calls Try.prog 21 #[.string A, .string B, .slice na len cap, .int .u8 (t.toNat : Int)] w fun e w' => e = .returned (.agg #[.string (mkH (L A) (L B) zs len t).name, .int .i64 (mkH (L A) (L B) zs len t).mode, .int .i64 (mkH (L A) (L B) zs len t).uid, .int .i64 (mkH (L A) (L B) zs len t).gid, .int .i64 (mkH (L A) (L B) zs len t).size, .int .i64 (mkH (L A) (L B) zs len t).mtime, .int .u8 ((mkH (L A) (L B) zs len t).typ.toNat : Int), .string (mkH (L A) (L B) zs len t).link, .string (mkH (L A) (L B) zs len t).uname, .string (mkH (L A) (L B) zs len t).gname, .int .i64 (mkH (L A) (L B) zs len t).major, .int .i64 (mkH (L A) (L B) zs len t).minor, .string (mkH (L A) (L B) zs len t).pre]) ∧ Below w.heap.size w w' := by
  have u0 := fun w => ltext_any A 100 100 rfl (by omega) hA w
  have u1 := fun w => ltext_any B 100 100 rfl (by omega) hB w
  have u2 := fun w => ltext_any B 155 155 rfl (by omega) hB w
  have u3 := fun w => ltext_any A 32 32 rfl (by omega) hA w
  obtain ⟨G, hG⟩ : ∃ G, mkH (L A) (L B) zs len t = G := ⟨_, rfl⟩
  rw [hG]
  have g0 : strOf (mkT (L A) 100) = G.name := by rw [← hG]; rfl
  have g1 : strOf (mkT (L B) 100) = G.link := by rw [← hG]; rfl
  have g2 : strOf (mkT (L B) 155) = G.pre := by rw [← hG]; rfl
  have g3 : strOf (mkT (L A) 32) = G.uname := by rw [← hG]; rfl
  rw [g0] at u0
  rw [g1] at u1
  rw [g2] at u2
  rw [g3] at u3
  replace u0 := Lib.hid u0
  replace u1 := Lib.hid u1
  replace u2 := Lib.hid u2
  replace u3 := Lib.hid u3
  have hG := Lib.hid hG
  clear g0 g1 g2 g3 hA hB
  have HR := Lib.hid hrow
  have hfirst : ∀ (P : Prop), True := fun _ => trivial
  clear hfirst
  have hb0 := BlkIs.made w 23 #[.string ⟨#[]⟩, .int .i64 0, .int .i64 0, .int .i64 0, .int .i64 0, .int .i64 0, .int .u8 0, .string ⟨#[]⟩, .string ⟨#[]⟩, .string ⟨#[]⟩, .int .i64 0, .int .i64 0, .string ⟨#[]⟩]
  have hread : ∀ k, k < len → ∃ b off, na = some ⟨b, off, none⟩ ∧ b < w.heap.size ∧ len ≤ cap ∧ w.cell? ⟨b, off + k, none⟩ = some (.int .u32 (zs.getD k 0)) ∧ 0 ≤ zs.getD k 0 ∧ zs.getD k 0 ≤ 4294967295 := by
    intro k hk
    obtain ⟨b, off, e1, e2, e3, e4⟩ := hrow.open (by omega)
    obtain ⟨e5, e6⟩ := e4 k hk
    exact ⟨b, off, e1, e2, e3, e5, boundsU32 e6⟩
  replace hread := Lib.hid hread
  clear hrow
  go_enter Try.func21, Try.ntmps21
  go_wp2_with (at_make; refine wp_make7 rfl _ _ rfl _ rfl rfl ?_)
  intro w1 hr1 hb1
  have hnb := Lib.hid (show ∀ j, 0 ≤ nth zs len j ∧ nth zs len j ≤ 4294967295 from fun j => by
    unfold nth
    by_cases h : j < len
    · rw [if_pos h]
      obtain ⟨_, _, _, _, _, _, h1, h2⟩ := hread.out j h
      exact ⟨h1, h2⟩
    · rw [if_neg h]; omega)
  have hres1 := hb0.kept hb1 (by simp)
  have hB1 : Below w.heap.size w w1 := ((Below.refl w.heap.size w).alloc (Nat.le_refl _) _).trans (hb1.mono (by simp))
  have hr0 : BlkIs w1 (w.heap.size + 1) 3 (kc (fun j => zs.getD j 0) 0) := hr1
  clear hb0 hb1 hr1 HR
  go_wp2_with fail
  go_loopw [10] (fun iv wr => ∃ k : Nat, iv = .int .i64 (k : Int) ∧ k ≤ 7 ∧ k ≤ len ∧ BlkIs wr w.heap.size 23 #[.string ⟨#[]⟩, .int .i64 0, .int .i64 0, .int .i64 0, .int .i64 0, .int .i64 0, .int .u8 0, .string ⟨#[]⟩, .string ⟨#[]⟩, .string ⟨#[]⟩, .int .i64 0, .int .i64 0, .string ⟨#[]⟩] ∧ BlkIs wr (w.heap.size + 1) 3 (kc (fun j => zs.getD j 0) k) ∧ Below w.heap.size w wr) (fun iv _ => 7 - (intOf iv).toNat)
  case atStart => exact ⟨0, rfl, by omega, by omega, hres1, hr0, hB1⟩
  case round =>
    obtain ⟨k, rfl, hk7, hkl, hresk, hrowk, hBk⟩ := hrel
    by_cases hlt7 : k < 7
    · by_cases hltl : k < len
      · obtain ⟨b, off, rfl, hbl, hlc, hcell, hz0, hz9⟩ := hread.out k hltl
        have hcell2 : wr.cell? ⟨b, off + k, none⟩ = some (.int .u32 (zs.getD k 0)) := (hBk.cell (p := ⟨b, off + k, none⟩) hbl).trans hcell
        have hput := hrowk.put k (.int .i64 (zs.getD k 0))
        rw [kc_set (fun j => zs.getD j 0) k hlt7] at hput
        have hres2 := hresk.other (p := ⟨w.heap.size + 1, k, none⟩) (by show w.heap.size ≠ w.heap.size + 1; omega) (.int .i64 (zs.getD k 0))
        have hat := hrowk.cell_some k _ (kc_at (fun j => zs.getD j 0) k k hlt7)
        have hfr := hrowk.free k
        obtain ⟨v, hv⟩ : ∃ v, zs.getD k 0 = v := ⟨_, rfl⟩
        rw [hv] at hcell2 hput hres2 hz0 hz9
        have hwv : IntKind.i64.wrap v = v := by rw [IntKind.wrap_i64]; omega
        have h7 : (k : Int) < 7 := by omega
        have hl7 : (k : Int) < (len : Int) := by omega
        clear hcell hv hread hnb
        go_wp2
        go_roundw
        case rel => exact ⟨k + 1, by go_num, by omega, by omega, hres2, hput, by (repeat' (first | exact Below.refl _ _ | assumption | refine gr_drew ?_ | refine gr_drewN ?_ _ | refine gr_alloc ?_ _ | refine gr_set ?_ ?_ _ | refine gr_call ?_ (by assumption)) <;> (try (simp; done)) <;> (try (simp; omega)) <;> (try omega))⟩
        case measure => simp [intOf]; omega
      · have hend : (k = 7 ∧ 7 ≤ len) ∨ (k = len ∧ len ≤ 7) := by omega
        have h7 : (k : Int) < 7 := by omega
        have hl7 : ¬ (k : Int) < (len : Int) := by omega
        rw [kc_end hend] at hrowk
        obtain ⟨X0, X1, X2, X3, X4, X5, X6, hX, hXb⟩ := nth_seven hnb
        rw [hX.1, hX.2.1, hX.2.2.1, hX.2.2.2.1, hX.2.2.2.2.1, hX.2.2.2.2.2.1, hX.2.2.2.2.2.2] at hrowk
        obtain ⟨a0, a1, a2, a3, a4, a5, a6⟩ := hXb
        have m1 : X0.tmod 4096 = X0 % 4096 := Int.tmod_eq_emod_of_nonneg a0.1
        have m2 : X5.tmod 2097152 = X5 % 2097152 := Int.tmod_eq_emod_of_nonneg a5.1
        have m3 : IntKind.i64.wrap (X3 * 999) = X3 * 999 := by rw [IntKind.wrap_i64]; omega
        have m4 : IntKind.i64.wrap (X4 - 2147483648) = X4 - 2147483648 := by rw [IntKind.wrap_i64]; omega
        have q0 := a0.1
        have q3 := a3.1
        have q5 := a5.1
        have HG := Lib.hid (show (.agg #[.string G.name, .int .i64 G.mode, .int .i64 G.uid, .int .i64 G.gid, .int .i64 G.size, .int .i64 G.mtime, .int .u8 (G.typ.toNat : Int), .string G.link, .string G.uname, .string G.gname, .int .i64 G.major, .int .i64 G.minor, .string G.pre] : Value) = .agg #[.string G.name, .int .i64 (X0 % 4096), .int .i64 X1, .int .i64 X2, .int .i64 (X3 * 999), .int .i64 (X4 - 2147483648), .int .u8 (t.toNat : Int), .string G.link, .string G.uname, .string ⟨#[]⟩, .int .i64 (X5 % 2097152), .int .i64 X6, .string G.pre] from by rw [← hG.out]; simp only [mkH, hX.1, hX.2.1, hX.2.2.1, hX.2.2.2.1, hX.2.2.2.2.1, hX.2.2.2.2.2.1, hX.2.2.2.2.2.2])
        clear hX hnb hend hlt7 hltl
        go_wp2_with fail
        refine region_lastq (S := fun W => Below w.heap.size w W ∧ BlkIs W (w.heap.size + 1) 3 #[.int .i64 X0, .int .i64 X1, .int .i64 X2, .int .i64 X3, .int .i64 X4, .int .i64 X5, .int .i64 X6] ∧ BlkIs W w.heap.size 23 #[.string ⟨#[]⟩, .int .i64 0, .int .i64 0, .int .i64 0, .int .i64 0, .int .i64 0, .int .u8 0, .string ⟨#[]⟩, .string ⟨#[]⟩, .string ⟨#[]⟩, .int .i64 0, .int .i64 0, .string ⟨#[]⟩]) 35
          [(fun W v => v = .string A),
           (fun W v => v = .string G.name),
           (fun W v => v = .string B),
           (fun W v => v = .string G.link),
           (fun W v => v = .string B),
           (fun W v => v = .string G.pre),
           (fun W v => v = .string A),
           (fun W v => v = .string G.uname),
           (fun W v => v = .slice (some ⟨w.heap.size + 1, 0, none⟩) 7 7),
           (fun W v => v = .pointer (some ⟨w.heap.size + 1, 0, none⟩)),
           (fun W v => v = .int .i64 X0),
           (fun W v => v = .int .i64 (X0 % 4096)),
           (fun W v => v = .slice (some ⟨w.heap.size + 1, 0, none⟩) 7 7),
           (fun W v => v = .pointer (some ⟨w.heap.size + 1, 1, none⟩)),
           (fun W v => v = .int .i64 X1),
           (fun W v => v = .slice (some ⟨w.heap.size + 1, 0, none⟩) 7 7),
           (fun W v => v = .pointer (some ⟨w.heap.size + 1, 2, none⟩)),
           (fun W v => v = .int .i64 X2),
           (fun W v => v = .slice (some ⟨w.heap.size + 1, 0, none⟩) 7 7),
           (fun W v => v = .pointer (some ⟨w.heap.size + 1, 3, none⟩)),
           (fun W v => v = .int .i64 X3),
           (fun W v => v = .int .i64 (X3 * 999)),
           (fun W v => v = .slice (some ⟨w.heap.size + 1, 0, none⟩) 7 7),
           (fun W v => v = .pointer (some ⟨w.heap.size + 1, 4, none⟩)),
           (fun W v => v = .int .i64 X4),
           (fun W v => v = .int .i64 (X4 - 2147483648)),
           (fun W v => v = .slice (some ⟨w.heap.size + 1, 0, none⟩) 7 7),
           (fun W v => v = .pointer (some ⟨w.heap.size + 1, 5, none⟩)),
           (fun W v => v = .int .i64 X5),
           (fun W v => v = .int .i64 (X5 % 2097152)),
           (fun W v => v = .slice (some ⟨w.heap.size + 1, 0, none⟩) 7 7),
           (fun W v => v = .pointer (some ⟨w.heap.size + 1, 6, none⟩)),
           (fun W v => v = .int .i64 X6),
           (fun W v => v = .int .u8 (t.toNat : Int)),
           (fun W v => v = .agg #[.string G.name, .int .i64 (X0 % 4096), .int .i64 X1, .int .i64 X2, .int .i64 (X3 * 999), .int .i64 (X4 - 2147483648), .int .u8 (t.toNat : Int), .string G.link, .string G.uname, .string ⟨#[]⟩, .int .i64 (X5 % 2097152), .int .i64 X6, .string G.pre])] (by rfl) (by kernel_rfl) (by kernel_rfl) (by kernel_rfl) (by kernel_rfl) (by rfl) (by kernel_rfl) ?hS ?hp ?hs ?he
        case hS => exact ⟨gr_drew hBk, hrowk, hresk⟩
        case hp => repeat' (first | exact trivial | refine ⟨fun _ _ _ _ h => h, ?_⟩)
        case hs =>
          simp only [List.take_succ_cons, List.take_zero]
          refine ⟨?_, ?_, ?_, ?_, ?_, ?_, ?_, ?_, ?_, ?_, ?_, ?_, ?_, ?_, ?_, ?_, ?_, ?_, ?_, ?_, ?_, ?_, ?_, ?_, ?_, ?_, ?_, ?_, ?_, ?_, ?_, ?_, ?_, ?_, ?_, trivial⟩
          · intro a W K hS hd hf hK
            have e0 : a.tmps.getD 0 undef = .string A := hf 0 (by kernel_rfl)
            clear hd hf
            go_simp
            exact hK _ _ (Below.refl _ _) hS rfl
          · intro a W K hS hd hf hK
            have e30 : a.tmps.getD 30 undef = .string A := hd ⟨0, .data⟩ (by simp) rfl
            clear hd hf
            go_simp
            go_at_call 37
            refine (u0.out _).mono ?_
            rintro e w1 ⟨rfl, hb⟩
            exact hK _ _ hb ⟨gr_call hS.1 hb, hS.2.1.kept hb hS.2.1.size, hS.2.2.kept hb hS.2.2.size⟩ rfl
          · intro a W K hS hd hf hK
            have e1 : a.tmps.getD 1 undef = .string B := hf 1 (by kernel_rfl)
            clear hd hf
            go_simp
            exact hK _ _ (Below.refl _ _) hS rfl
          · intro a W K hS hd hf hK
            have e32 : a.tmps.getD 32 undef = .string B := hd ⟨2, .data⟩ (by simp) rfl
            clear hd hf
            go_simp
            go_at_call 37
            refine (u1.out _).mono ?_
            rintro e w1 ⟨rfl, hb⟩
            exact hK _ _ hb ⟨gr_call hS.1 hb, hS.2.1.kept hb hS.2.1.size, hS.2.2.kept hb hS.2.2.size⟩ rfl
          · intro a W K hS hd hf hK
            have e1 : a.tmps.getD 1 undef = .string B := hf 1 (by kernel_rfl)
            clear hd hf
            go_simp
            exact hK _ _ (Below.refl _ _) hS rfl
          · intro a W K hS hd hf hK
            have e34 : a.tmps.getD 34 undef = .string B := hd ⟨4, .data⟩ (by simp) rfl
            clear hd hf
            go_simp
            go_at_call 37
            refine (u2.out _).mono ?_
            rintro e w1 ⟨rfl, hb⟩
            exact hK _ _ hb ⟨gr_call hS.1 hb, hS.2.1.kept hb hS.2.1.size, hS.2.2.kept hb hS.2.2.size⟩ rfl
          · intro a W K hS hd hf hK
            have e0 : a.tmps.getD 0 undef = .string A := hf 0 (by kernel_rfl)
            clear hd hf
            go_simp
            exact hK _ _ (Below.refl _ _) hS rfl
          · intro a W K hS hd hf hK
            have e36 : a.tmps.getD 36 undef = .string A := hd ⟨6, .data⟩ (by simp) rfl
            clear hd hf
            go_simp
            go_at_call 37
            refine (u3.out _).mono ?_
            rintro e w1 ⟨rfl, hb⟩
            exact hK _ _ hb ⟨gr_call hS.1 hb, hS.2.1.kept hb hS.2.1.size, hS.2.2.kept hb hS.2.2.size⟩ rfl
          · intro a W K hS hd hf hK
            have e9 : a.tmps.getD 9 undef = .slice (some ⟨w.heap.size + 1, 0, none⟩) 7 7 := hf 9 (by kernel_rfl)
            clear hd hf
            go_simp
            exact hK _ _ (Below.refl _ _) hS rfl
          · intro a W K hS hd hf hK
            have e38 : a.tmps.getD 38 undef = .slice (some ⟨w.heap.size + 1, 0, none⟩) 7 7 := hd ⟨8, .data⟩ (by simp) rfl
            clear hd hf
            go_simp
            exact hK _ _ (Below.refl _ _) hS rfl
          · intro a W K hS hd hf hK
            have e39 : a.tmps.getD 39 undef = .pointer (some ⟨w.heap.size + 1, 0, none⟩) := hd ⟨9, .data⟩ (by simp) rfl
            have c := hS.2.1.cell_some 0 _ rfl
            clear hd hf
            go_simp
            exact hK _ _ (Below.refl _ _) hS rfl
          · intro a W K hS hd hf hK
            have e40 : a.tmps.getD 40 undef = .int .i64 X0 := hd ⟨10, .data⟩ (by simp) rfl
            clear hd hf
            go_simp
            exact hK _ _ (Below.refl _ _) hS rfl
          · intro a W K hS hd hf hK
            have e9 : a.tmps.getD 9 undef = .slice (some ⟨w.heap.size + 1, 0, none⟩) 7 7 := hf 9 (by kernel_rfl)
            clear hd hf
            go_simp
            exact hK _ _ (Below.refl _ _) hS rfl
          · intro a W K hS hd hf hK
            have e42 : a.tmps.getD 42 undef = .slice (some ⟨w.heap.size + 1, 0, none⟩) 7 7 := hd ⟨12, .data⟩ (by simp) rfl
            clear hd hf
            go_simp
            exact hK _ _ (Below.refl _ _) hS rfl
          · intro a W K hS hd hf hK
            have e43 : a.tmps.getD 43 undef = .pointer (some ⟨w.heap.size + 1, 1, none⟩) := hd ⟨13, .data⟩ (by simp) rfl
            have c := hS.2.1.cell_some 1 _ rfl
            clear hd hf
            go_simp
            exact hK _ _ (Below.refl _ _) hS rfl
          · intro a W K hS hd hf hK
            have e9 : a.tmps.getD 9 undef = .slice (some ⟨w.heap.size + 1, 0, none⟩) 7 7 := hf 9 (by kernel_rfl)
            clear hd hf
            go_simp
            exact hK _ _ (Below.refl _ _) hS rfl
          · intro a W K hS hd hf hK
            have e45 : a.tmps.getD 45 undef = .slice (some ⟨w.heap.size + 1, 0, none⟩) 7 7 := hd ⟨15, .data⟩ (by simp) rfl
            clear hd hf
            go_simp
            exact hK _ _ (Below.refl _ _) hS rfl
          · intro a W K hS hd hf hK
            have e46 : a.tmps.getD 46 undef = .pointer (some ⟨w.heap.size + 1, 2, none⟩) := hd ⟨16, .data⟩ (by simp) rfl
            have c := hS.2.1.cell_some 2 _ rfl
            clear hd hf
            go_simp
            exact hK _ _ (Below.refl _ _) hS rfl
          · intro a W K hS hd hf hK
            have e9 : a.tmps.getD 9 undef = .slice (some ⟨w.heap.size + 1, 0, none⟩) 7 7 := hf 9 (by kernel_rfl)
            clear hd hf
            go_simp
            exact hK _ _ (Below.refl _ _) hS rfl
          · intro a W K hS hd hf hK
            have e48 : a.tmps.getD 48 undef = .slice (some ⟨w.heap.size + 1, 0, none⟩) 7 7 := hd ⟨18, .data⟩ (by simp) rfl
            clear hd hf
            go_simp
            exact hK _ _ (Below.refl _ _) hS rfl
          · intro a W K hS hd hf hK
            have e49 : a.tmps.getD 49 undef = .pointer (some ⟨w.heap.size + 1, 3, none⟩) := hd ⟨19, .data⟩ (by simp) rfl
            have c := hS.2.1.cell_some 3 _ rfl
            clear hd hf
            go_simp
            exact hK _ _ (Below.refl _ _) hS rfl
          · intro a W K hS hd hf hK
            have e50 : a.tmps.getD 50 undef = .int .i64 X3 := hd ⟨20, .data⟩ (by simp) rfl
            clear hd hf
            go_simp
            exact hK _ _ (Below.refl _ _) hS rfl
          · intro a W K hS hd hf hK
            have e9 : a.tmps.getD 9 undef = .slice (some ⟨w.heap.size + 1, 0, none⟩) 7 7 := hf 9 (by kernel_rfl)
            clear hd hf
            go_simp
            exact hK _ _ (Below.refl _ _) hS rfl
          · intro a W K hS hd hf hK
            have e52 : a.tmps.getD 52 undef = .slice (some ⟨w.heap.size + 1, 0, none⟩) 7 7 := hd ⟨22, .data⟩ (by simp) rfl
            clear hd hf
            go_simp
            exact hK _ _ (Below.refl _ _) hS rfl
          · intro a W K hS hd hf hK
            have e53 : a.tmps.getD 53 undef = .pointer (some ⟨w.heap.size + 1, 4, none⟩) := hd ⟨23, .data⟩ (by simp) rfl
            have c := hS.2.1.cell_some 4 _ rfl
            clear hd hf
            go_simp
            exact hK _ _ (Below.refl _ _) hS rfl
          · intro a W K hS hd hf hK
            have e54 : a.tmps.getD 54 undef = .int .i64 X4 := hd ⟨24, .data⟩ (by simp) rfl
            clear hd hf
            go_simp
            exact hK _ _ (Below.refl _ _) hS rfl
          · intro a W K hS hd hf hK
            have e9 : a.tmps.getD 9 undef = .slice (some ⟨w.heap.size + 1, 0, none⟩) 7 7 := hf 9 (by kernel_rfl)
            clear hd hf
            go_simp
            exact hK _ _ (Below.refl _ _) hS rfl
          · intro a W K hS hd hf hK
            have e56 : a.tmps.getD 56 undef = .slice (some ⟨w.heap.size + 1, 0, none⟩) 7 7 := hd ⟨26, .data⟩ (by simp) rfl
            clear hd hf
            go_simp
            exact hK _ _ (Below.refl _ _) hS rfl
          · intro a W K hS hd hf hK
            have e57 : a.tmps.getD 57 undef = .pointer (some ⟨w.heap.size + 1, 5, none⟩) := hd ⟨27, .data⟩ (by simp) rfl
            have c := hS.2.1.cell_some 5 _ rfl
            clear hd hf
            go_simp
            exact hK _ _ (Below.refl _ _) hS rfl
          · intro a W K hS hd hf hK
            have e58 : a.tmps.getD 58 undef = .int .i64 X5 := hd ⟨28, .data⟩ (by simp) rfl
            clear hd hf
            go_simp
            exact hK _ _ (Below.refl _ _) hS rfl
          · intro a W K hS hd hf hK
            have e9 : a.tmps.getD 9 undef = .slice (some ⟨w.heap.size + 1, 0, none⟩) 7 7 := hf 9 (by kernel_rfl)
            clear hd hf
            go_simp
            exact hK _ _ (Below.refl _ _) hS rfl
          · intro a W K hS hd hf hK
            have e60 : a.tmps.getD 60 undef = .slice (some ⟨w.heap.size + 1, 0, none⟩) 7 7 := hd ⟨30, .data⟩ (by simp) rfl
            clear hd hf
            go_simp
            exact hK _ _ (Below.refl _ _) hS rfl
          · intro a W K hS hd hf hK
            have e61 : a.tmps.getD 61 undef = .pointer (some ⟨w.heap.size + 1, 6, none⟩) := hd ⟨31, .data⟩ (by simp) rfl
            have c := hS.2.1.cell_some 6 _ rfl
            clear hd hf
            go_simp
            exact hK _ _ (Below.refl _ _) hS rfl
          · intro a W K hS hd hf hK
            have e3 : a.tmps.getD 3 undef = .int .u8 (t.toNat : Int) := hf 3 (by kernel_rfl)
            clear hd hf
            go_simp
            exact hK _ _ (Below.refl _ _) hS rfl
          · intro a W K hS hd hf hK
            have e31 : a.tmps.getD 31 undef = .string G.name := hd ⟨1, .data⟩ (by simp) rfl
            have e33 : a.tmps.getD 33 undef = .string G.link := hd ⟨3, .data⟩ (by simp) rfl
            have e35 : a.tmps.getD 35 undef = .string G.pre := hd ⟨5, .data⟩ (by simp) rfl
            have e37 : a.tmps.getD 37 undef = .string G.uname := hd ⟨7, .data⟩ (by simp) rfl
            have e41 : a.tmps.getD 41 undef = .int .i64 (X0 % 4096) := hd ⟨11, .data⟩ (by simp) rfl
            have e44 : a.tmps.getD 44 undef = .int .i64 X1 := hd ⟨14, .data⟩ (by simp) rfl
            have e47 : a.tmps.getD 47 undef = .int .i64 X2 := hd ⟨17, .data⟩ (by simp) rfl
            have e51 : a.tmps.getD 51 undef = .int .i64 (X3 * 999) := hd ⟨21, .data⟩ (by simp) rfl
            have e55 : a.tmps.getD 55 undef = .int .i64 (X4 - 2147483648) := hd ⟨25, .data⟩ (by simp) rfl
            have e59 : a.tmps.getD 59 undef = .int .i64 (X5 % 2097152) := hd ⟨29, .data⟩ (by simp) rfl
            have e62 : a.tmps.getD 62 undef = .int .i64 X6 := hd ⟨32, .data⟩ (by simp) rfl
            have e63 : a.tmps.getD 63 undef = .int .u8 (t.toNat : Int) := hd ⟨33, .data⟩ (by simp) rfl
            have hbd := buildMk G.name (X0 % 4096) X1 X2 (X3 * 999) (X4 - 2147483648) (t.toNat : Int) G.link G.uname (X5 % 2097152) X6 G.pre
            have f31 := e31
            rw [Array.getD_eq_getD_getElem?] at f31
            have f33 := e33
            rw [Array.getD_eq_getD_getElem?] at f33
            have f35 := e35
            rw [Array.getD_eq_getD_getElem?] at f35
            have f37 := e37
            rw [Array.getD_eq_getD_getElem?] at f37
            have f41 := e41
            rw [Array.getD_eq_getD_getElem?] at f41
            have f44 := e44
            rw [Array.getD_eq_getD_getElem?] at f44
            have f47 := e47
            rw [Array.getD_eq_getD_getElem?] at f47
            have f51 := e51
            rw [Array.getD_eq_getD_getElem?] at f51
            have f55 := e55
            rw [Array.getD_eq_getD_getElem?] at f55
            have f59 := e59
            rw [Array.getD_eq_getD_getElem?] at f59
            have f62 := e62
            rw [Array.getD_eq_getD_getElem?] at f62
            have f63 := e63
            rw [Array.getD_eq_getD_getElem?] at f63
            clear hd hf
            go_simp
            exact hK _ _ (Below.refl _ _) hS rfl
        case he =>
          intro vals w2 K hS2 hV hK
          have e34 := hV 34 (by omega)
          clear hV
          replace e34 : vals 34 = .agg #[.string G.name, .int .i64 (X0 % 4096), .int .i64 X1, .int .i64 X2, .int .i64 (X3 * 999), .int .i64 (X4 - 2147483648), .int .u8 (t.toNat : Int), .string G.link, .string G.uname, .string ⟨#[]⟩, .int .i64 (X5 % 2097152), .int .i64 X6, .string G.pre] := e34
          simp only [setN, Nat.reduceAdd, List.setIfInBounds_toArray, List.set_cons_succ, List.set_cons_zero]
          rw [e34]
          obtain ⟨hB2, _, hs2⟩ := hS2
          clear e34 hresk hrowk hBk
          have k0 := hs2.cell_some 0 _ rfl
          have f0 := hs2.free 0
          have k1 := hs2.cell_some 1 _ rfl
          have f1 := hs2.free 1
          have k2 := hs2.cell_some 2 _ rfl
          have f2 := hs2.free 2
          have k3 := hs2.cell_some 3 _ rfl
          have f3 := hs2.free 3
          have k4 := hs2.cell_some 4 _ rfl
          have f4 := hs2.free 4
          have k5 := hs2.cell_some 5 _ rfl
          have f5 := hs2.free 5
          have k6 := hs2.cell_some 6 _ rfl
          have f6 := hs2.free 6
          have k7 := hs2.cell_some 7 _ rfl
          have f7 := hs2.free 7
          have k8 := hs2.cell_some 8 _ rfl
          have f8 := hs2.free 8
          have k9 := hs2.cell_some 9 _ rfl
          have f9 := hs2.free 9
          have k10 := hs2.cell_some 10 _ rfl
          have f10 := hs2.free 10
          have k11 := hs2.cell_some 11 _ rfl
          have f11 := hs2.free 11
          have k12 := hs2.cell_some 12 _ rfl
          have f12 := hs2.free 12
          go_simp
          obtain ⟨W, hW⟩ : ∃ W, ((((((((((((w2.setCell ⟨w.heap.size, 0, none⟩ (.string G.name)).setCell ⟨w.heap.size, 1, none⟩ (.int .i64 (X0 % 4096))).setCell ⟨w.heap.size, 2, none⟩ (.int .i64 X1)).setCell ⟨w.heap.size, 3, none⟩ (.int .i64 X2)).setCell ⟨w.heap.size, 4, none⟩ (.int .i64 (X3 * 999))).setCell ⟨w.heap.size, 5, none⟩ (.int .i64 (X4 - 2147483648))).setCell ⟨w.heap.size, 6, none⟩ (.int .u8 (t.toNat : Int))).setCell ⟨w.heap.size, 7, none⟩ (.string G.link)).setCell ⟨w.heap.size, 8, none⟩ (.string G.uname)).setCell ⟨w.heap.size, 9, none⟩ (.string ⟨#[]⟩)).setCell ⟨w.heap.size, 10, none⟩ (.int .i64 (X5 % 2097152))).setCell ⟨w.heap.size, 11, none⟩ (.int .i64 X6)).setCell ⟨w.heap.size, 12, none⟩ (.string G.pre) = W := ⟨_, rfl⟩
          have hF : BlkIs W w.heap.size 23 #[.string G.name, .int .i64 (X0 % 4096), .int .i64 X1, .int .i64 X2, .int .i64 (X3 * 999), .int .i64 (X4 - 2147483648), .int .u8 (t.toNat : Int), .string G.link, .string G.uname, .string ⟨#[]⟩, .int .i64 (X5 % 2097152), .int .i64 X6, .string G.pre] := by
            rw [← hW]
            exact put13 (.string G.name) (.int .i64 (X0 % 4096)) (.int .i64 X1) (.int .i64 X2) (.int .i64 (X3 * 999)) (.int .i64 (X4 - 2147483648)) (.int .u8 (t.toNat : Int)) (.string G.link) (.string G.uname) (.string ⟨#[]⟩) (.int .i64 (X5 % 2097152)) (.int .i64 X6) (.string G.pre) hs2
          have hbW : Below w.heap.size w W := by
            rw [← hW]
            exact gr_set (gr_set (gr_set (gr_set (gr_set (gr_set (gr_set (gr_set (gr_set (gr_set (gr_set (gr_set (gr_set (hB2) (p := ⟨w.heap.size, 0, none⟩) (Nat.le_refl _) (.string G.name)) (p := ⟨w.heap.size, 1, none⟩) (Nat.le_refl _) (.int .i64 (X0 % 4096))) (p := ⟨w.heap.size, 2, none⟩) (Nat.le_refl _) (.int .i64 X1)) (p := ⟨w.heap.size, 3, none⟩) (Nat.le_refl _) (.int .i64 X2)) (p := ⟨w.heap.size, 4, none⟩) (Nat.le_refl _) (.int .i64 (X3 * 999))) (p := ⟨w.heap.size, 5, none⟩) (Nat.le_refl _) (.int .i64 (X4 - 2147483648))) (p := ⟨w.heap.size, 6, none⟩) (Nat.le_refl _) (.int .u8 (t.toNat : Int))) (p := ⟨w.heap.size, 7, none⟩) (Nat.le_refl _) (.string G.link)) (p := ⟨w.heap.size, 8, none⟩) (Nat.le_refl _) (.string G.uname)) (p := ⟨w.heap.size, 9, none⟩) (Nat.le_refl _) (.string ⟨#[]⟩)) (p := ⟨w.heap.size, 10, none⟩) (Nat.le_refl _) (.int .i64 (X5 % 2097152))) (p := ⟨w.heap.size, 11, none⟩) (Nat.le_refl _) (.int .i64 X6)) (p := ⟨w.heap.size, 12, none⟩) (Nat.le_refl _) (.string G.pre)
          rw [hW]
          refine hK _ _ ?_
          clear hW hs2 hB2 hK k0 f0 k1 f1 k2 f2 k3 f3 k4 f4 k5 f5 k6 f6 k7 f7 k8 f8 k9 f9 k10 f10 k11 f11 k12 f12
          have k0 := hF.cell_some 0 _ rfl
          have k1 := hF.cell_some 1 _ rfl
          have k2 := hF.cell_some 2 _ rfl
          have k3 := hF.cell_some 3 _ rfl
          have k4 := hF.cell_some 4 _ rfl
          have k5 := hF.cell_some 5 _ rfl
          have k6 := hF.cell_some 6 _ rfl
          have k7 := hF.cell_some 7 _ rfl
          have k8 := hF.cell_some 8 _ rfl
          have k9 := hF.cell_some 9 _ rfl
          have k10 := hF.cell_some 10 _ rfl
          have k11 := hF.cell_some 11 _ rfl
          have k12 := hF.cell_some 12 _ rfl
          go_wp2_with fail
          rw [HG.out]
          refine bodyPost_ret (v := .agg #[.string G.name, .int .i64 (X0 % 4096), .int .i64 X1, .int .i64 X2, .int .i64 (X3 * 999), .int .i64 (X4 - 2147483648), .int .u8 (t.toNat : Int), .string G.link, .string G.uname, .string ⟨#[]⟩, .int .i64 (X5 % 2097152), .int .i64 X6, .string G.pre]) ?_ rfl ⟨rfl, hbW⟩
          simp [results, Try.results21, go_sem, k0, k1, k2, k3, k4, k5, k6, k7, k8, k9, k10, k11, k12]
    · have hend : (k = 7 ∧ 7 ≤ len) ∨ (k = len ∧ len ≤ 7) := by omega
      have hltl := hkl
      have h7 : ¬ (k : Int) < 7 := by omega
      rw [kc_end hend] at hrowk
      obtain ⟨X0, X1, X2, X3, X4, X5, X6, hX, hXb⟩ := nth_seven hnb
      rw [hX.1, hX.2.1, hX.2.2.1, hX.2.2.2.1, hX.2.2.2.2.1, hX.2.2.2.2.2.1, hX.2.2.2.2.2.2] at hrowk
      obtain ⟨a0, a1, a2, a3, a4, a5, a6⟩ := hXb
      have m1 : X0.tmod 4096 = X0 % 4096 := Int.tmod_eq_emod_of_nonneg a0.1
      have m2 : X5.tmod 2097152 = X5 % 2097152 := Int.tmod_eq_emod_of_nonneg a5.1
      have m3 : IntKind.i64.wrap (X3 * 999) = X3 * 999 := by rw [IntKind.wrap_i64]; omega
      have m4 : IntKind.i64.wrap (X4 - 2147483648) = X4 - 2147483648 := by rw [IntKind.wrap_i64]; omega
      have q0 := a0.1
      have q3 := a3.1
      have q5 := a5.1
      have HG := Lib.hid (show (.agg #[.string G.name, .int .i64 G.mode, .int .i64 G.uid, .int .i64 G.gid, .int .i64 G.size, .int .i64 G.mtime, .int .u8 (G.typ.toNat : Int), .string G.link, .string G.uname, .string G.gname, .int .i64 G.major, .int .i64 G.minor, .string G.pre] : Value) = .agg #[.string G.name, .int .i64 (X0 % 4096), .int .i64 X1, .int .i64 X2, .int .i64 (X3 * 999), .int .i64 (X4 - 2147483648), .int .u8 (t.toNat : Int), .string G.link, .string G.uname, .string ⟨#[]⟩, .int .i64 (X5 % 2097152), .int .i64 X6, .string G.pre] from by rw [← hG.out]; simp only [mkH, hX.1, hX.2.1, hX.2.2.1, hX.2.2.2.1, hX.2.2.2.2.1, hX.2.2.2.2.2.1, hX.2.2.2.2.2.2])
      clear hX hnb hend hlt7 hltl
      go_wp2_with fail
      refine region_lastq (S := fun W => Below w.heap.size w W ∧ BlkIs W (w.heap.size + 1) 3 #[.int .i64 X0, .int .i64 X1, .int .i64 X2, .int .i64 X3, .int .i64 X4, .int .i64 X5, .int .i64 X6] ∧ BlkIs W w.heap.size 23 #[.string ⟨#[]⟩, .int .i64 0, .int .i64 0, .int .i64 0, .int .i64 0, .int .i64 0, .int .u8 0, .string ⟨#[]⟩, .string ⟨#[]⟩, .string ⟨#[]⟩, .int .i64 0, .int .i64 0, .string ⟨#[]⟩]) 35
        [(fun W v => v = .string A),
         (fun W v => v = .string G.name),
         (fun W v => v = .string B),
         (fun W v => v = .string G.link),
         (fun W v => v = .string B),
         (fun W v => v = .string G.pre),
         (fun W v => v = .string A),
         (fun W v => v = .string G.uname),
         (fun W v => v = .slice (some ⟨w.heap.size + 1, 0, none⟩) 7 7),
         (fun W v => v = .pointer (some ⟨w.heap.size + 1, 0, none⟩)),
         (fun W v => v = .int .i64 X0),
         (fun W v => v = .int .i64 (X0 % 4096)),
         (fun W v => v = .slice (some ⟨w.heap.size + 1, 0, none⟩) 7 7),
         (fun W v => v = .pointer (some ⟨w.heap.size + 1, 1, none⟩)),
         (fun W v => v = .int .i64 X1),
         (fun W v => v = .slice (some ⟨w.heap.size + 1, 0, none⟩) 7 7),
         (fun W v => v = .pointer (some ⟨w.heap.size + 1, 2, none⟩)),
         (fun W v => v = .int .i64 X2),
         (fun W v => v = .slice (some ⟨w.heap.size + 1, 0, none⟩) 7 7),
         (fun W v => v = .pointer (some ⟨w.heap.size + 1, 3, none⟩)),
         (fun W v => v = .int .i64 X3),
         (fun W v => v = .int .i64 (X3 * 999)),
         (fun W v => v = .slice (some ⟨w.heap.size + 1, 0, none⟩) 7 7),
         (fun W v => v = .pointer (some ⟨w.heap.size + 1, 4, none⟩)),
         (fun W v => v = .int .i64 X4),
         (fun W v => v = .int .i64 (X4 - 2147483648)),
         (fun W v => v = .slice (some ⟨w.heap.size + 1, 0, none⟩) 7 7),
         (fun W v => v = .pointer (some ⟨w.heap.size + 1, 5, none⟩)),
         (fun W v => v = .int .i64 X5),
         (fun W v => v = .int .i64 (X5 % 2097152)),
         (fun W v => v = .slice (some ⟨w.heap.size + 1, 0, none⟩) 7 7),
         (fun W v => v = .pointer (some ⟨w.heap.size + 1, 6, none⟩)),
         (fun W v => v = .int .i64 X6),
         (fun W v => v = .int .u8 (t.toNat : Int)),
         (fun W v => v = .agg #[.string G.name, .int .i64 (X0 % 4096), .int .i64 X1, .int .i64 X2, .int .i64 (X3 * 999), .int .i64 (X4 - 2147483648), .int .u8 (t.toNat : Int), .string G.link, .string G.uname, .string ⟨#[]⟩, .int .i64 (X5 % 2097152), .int .i64 X6, .string G.pre])] (by rfl) (by kernel_rfl) (by kernel_rfl) (by kernel_rfl) (by kernel_rfl) (by rfl) (by kernel_rfl) ?hS ?hp ?hs ?he
      case hS => exact ⟨gr_drew hBk, hrowk, hresk⟩
      case hp => repeat' (first | exact trivial | refine ⟨fun _ _ _ _ h => h, ?_⟩)
      case hs =>
        simp only [List.take_succ_cons, List.take_zero]
        refine ⟨?_, ?_, ?_, ?_, ?_, ?_, ?_, ?_, ?_, ?_, ?_, ?_, ?_, ?_, ?_, ?_, ?_, ?_, ?_, ?_, ?_, ?_, ?_, ?_, ?_, ?_, ?_, ?_, ?_, ?_, ?_, ?_, ?_, ?_, ?_, trivial⟩
        · intro a W K hS hd hf hK
          have e0 : a.tmps.getD 0 undef = .string A := hf 0 (by kernel_rfl)
          clear hd hf
          go_simp
          exact hK _ _ (Below.refl _ _) hS rfl
        · intro a W K hS hd hf hK
          have e30 : a.tmps.getD 30 undef = .string A := hd ⟨0, .data⟩ (by simp) rfl
          clear hd hf
          go_simp
          go_at_call 37
          refine (u0.out _).mono ?_
          rintro e w1 ⟨rfl, hb⟩
          exact hK _ _ hb ⟨gr_call hS.1 hb, hS.2.1.kept hb hS.2.1.size, hS.2.2.kept hb hS.2.2.size⟩ rfl
        · intro a W K hS hd hf hK
          have e1 : a.tmps.getD 1 undef = .string B := hf 1 (by kernel_rfl)
          clear hd hf
          go_simp
          exact hK _ _ (Below.refl _ _) hS rfl
        · intro a W K hS hd hf hK
          have e32 : a.tmps.getD 32 undef = .string B := hd ⟨2, .data⟩ (by simp) rfl
          clear hd hf
          go_simp
          go_at_call 37
          refine (u1.out _).mono ?_
          rintro e w1 ⟨rfl, hb⟩
          exact hK _ _ hb ⟨gr_call hS.1 hb, hS.2.1.kept hb hS.2.1.size, hS.2.2.kept hb hS.2.2.size⟩ rfl
        · intro a W K hS hd hf hK
          have e1 : a.tmps.getD 1 undef = .string B := hf 1 (by kernel_rfl)
          clear hd hf
          go_simp
          exact hK _ _ (Below.refl _ _) hS rfl
        · intro a W K hS hd hf hK
          have e34 : a.tmps.getD 34 undef = .string B := hd ⟨4, .data⟩ (by simp) rfl
          clear hd hf
          go_simp
          go_at_call 37
          refine (u2.out _).mono ?_
          rintro e w1 ⟨rfl, hb⟩
          exact hK _ _ hb ⟨gr_call hS.1 hb, hS.2.1.kept hb hS.2.1.size, hS.2.2.kept hb hS.2.2.size⟩ rfl
        · intro a W K hS hd hf hK
          have e0 : a.tmps.getD 0 undef = .string A := hf 0 (by kernel_rfl)
          clear hd hf
          go_simp
          exact hK _ _ (Below.refl _ _) hS rfl
        · intro a W K hS hd hf hK
          have e36 : a.tmps.getD 36 undef = .string A := hd ⟨6, .data⟩ (by simp) rfl
          clear hd hf
          go_simp
          go_at_call 37
          refine (u3.out _).mono ?_
          rintro e w1 ⟨rfl, hb⟩
          exact hK _ _ hb ⟨gr_call hS.1 hb, hS.2.1.kept hb hS.2.1.size, hS.2.2.kept hb hS.2.2.size⟩ rfl
        · intro a W K hS hd hf hK
          have e9 : a.tmps.getD 9 undef = .slice (some ⟨w.heap.size + 1, 0, none⟩) 7 7 := hf 9 (by kernel_rfl)
          clear hd hf
          go_simp
          exact hK _ _ (Below.refl _ _) hS rfl
        · intro a W K hS hd hf hK
          have e38 : a.tmps.getD 38 undef = .slice (some ⟨w.heap.size + 1, 0, none⟩) 7 7 := hd ⟨8, .data⟩ (by simp) rfl
          clear hd hf
          go_simp
          exact hK _ _ (Below.refl _ _) hS rfl
        · intro a W K hS hd hf hK
          have e39 : a.tmps.getD 39 undef = .pointer (some ⟨w.heap.size + 1, 0, none⟩) := hd ⟨9, .data⟩ (by simp) rfl
          have c := hS.2.1.cell_some 0 _ rfl
          clear hd hf
          go_simp
          exact hK _ _ (Below.refl _ _) hS rfl
        · intro a W K hS hd hf hK
          have e40 : a.tmps.getD 40 undef = .int .i64 X0 := hd ⟨10, .data⟩ (by simp) rfl
          clear hd hf
          go_simp
          exact hK _ _ (Below.refl _ _) hS rfl
        · intro a W K hS hd hf hK
          have e9 : a.tmps.getD 9 undef = .slice (some ⟨w.heap.size + 1, 0, none⟩) 7 7 := hf 9 (by kernel_rfl)
          clear hd hf
          go_simp
          exact hK _ _ (Below.refl _ _) hS rfl
        · intro a W K hS hd hf hK
          have e42 : a.tmps.getD 42 undef = .slice (some ⟨w.heap.size + 1, 0, none⟩) 7 7 := hd ⟨12, .data⟩ (by simp) rfl
          clear hd hf
          go_simp
          exact hK _ _ (Below.refl _ _) hS rfl
        · intro a W K hS hd hf hK
          have e43 : a.tmps.getD 43 undef = .pointer (some ⟨w.heap.size + 1, 1, none⟩) := hd ⟨13, .data⟩ (by simp) rfl
          have c := hS.2.1.cell_some 1 _ rfl
          clear hd hf
          go_simp
          exact hK _ _ (Below.refl _ _) hS rfl
        · intro a W K hS hd hf hK
          have e9 : a.tmps.getD 9 undef = .slice (some ⟨w.heap.size + 1, 0, none⟩) 7 7 := hf 9 (by kernel_rfl)
          clear hd hf
          go_simp
          exact hK _ _ (Below.refl _ _) hS rfl
        · intro a W K hS hd hf hK
          have e45 : a.tmps.getD 45 undef = .slice (some ⟨w.heap.size + 1, 0, none⟩) 7 7 := hd ⟨15, .data⟩ (by simp) rfl
          clear hd hf
          go_simp
          exact hK _ _ (Below.refl _ _) hS rfl
        · intro a W K hS hd hf hK
          have e46 : a.tmps.getD 46 undef = .pointer (some ⟨w.heap.size + 1, 2, none⟩) := hd ⟨16, .data⟩ (by simp) rfl
          have c := hS.2.1.cell_some 2 _ rfl
          clear hd hf
          go_simp
          exact hK _ _ (Below.refl _ _) hS rfl
        · intro a W K hS hd hf hK
          have e9 : a.tmps.getD 9 undef = .slice (some ⟨w.heap.size + 1, 0, none⟩) 7 7 := hf 9 (by kernel_rfl)
          clear hd hf
          go_simp
          exact hK _ _ (Below.refl _ _) hS rfl
        · intro a W K hS hd hf hK
          have e48 : a.tmps.getD 48 undef = .slice (some ⟨w.heap.size + 1, 0, none⟩) 7 7 := hd ⟨18, .data⟩ (by simp) rfl
          clear hd hf
          go_simp
          exact hK _ _ (Below.refl _ _) hS rfl
        · intro a W K hS hd hf hK
          have e49 : a.tmps.getD 49 undef = .pointer (some ⟨w.heap.size + 1, 3, none⟩) := hd ⟨19, .data⟩ (by simp) rfl
          have c := hS.2.1.cell_some 3 _ rfl
          clear hd hf
          go_simp
          exact hK _ _ (Below.refl _ _) hS rfl
        · intro a W K hS hd hf hK
          have e50 : a.tmps.getD 50 undef = .int .i64 X3 := hd ⟨20, .data⟩ (by simp) rfl
          clear hd hf
          go_simp
          exact hK _ _ (Below.refl _ _) hS rfl
        · intro a W K hS hd hf hK
          have e9 : a.tmps.getD 9 undef = .slice (some ⟨w.heap.size + 1, 0, none⟩) 7 7 := hf 9 (by kernel_rfl)
          clear hd hf
          go_simp
          exact hK _ _ (Below.refl _ _) hS rfl
        · intro a W K hS hd hf hK
          have e52 : a.tmps.getD 52 undef = .slice (some ⟨w.heap.size + 1, 0, none⟩) 7 7 := hd ⟨22, .data⟩ (by simp) rfl
          clear hd hf
          go_simp
          exact hK _ _ (Below.refl _ _) hS rfl
        · intro a W K hS hd hf hK
          have e53 : a.tmps.getD 53 undef = .pointer (some ⟨w.heap.size + 1, 4, none⟩) := hd ⟨23, .data⟩ (by simp) rfl
          have c := hS.2.1.cell_some 4 _ rfl
          clear hd hf
          go_simp
          exact hK _ _ (Below.refl _ _) hS rfl
        · intro a W K hS hd hf hK
          have e54 : a.tmps.getD 54 undef = .int .i64 X4 := hd ⟨24, .data⟩ (by simp) rfl
          clear hd hf
          go_simp
          exact hK _ _ (Below.refl _ _) hS rfl
        · intro a W K hS hd hf hK
          have e9 : a.tmps.getD 9 undef = .slice (some ⟨w.heap.size + 1, 0, none⟩) 7 7 := hf 9 (by kernel_rfl)
          clear hd hf
          go_simp
          exact hK _ _ (Below.refl _ _) hS rfl
        · intro a W K hS hd hf hK
          have e56 : a.tmps.getD 56 undef = .slice (some ⟨w.heap.size + 1, 0, none⟩) 7 7 := hd ⟨26, .data⟩ (by simp) rfl
          clear hd hf
          go_simp
          exact hK _ _ (Below.refl _ _) hS rfl
        · intro a W K hS hd hf hK
          have e57 : a.tmps.getD 57 undef = .pointer (some ⟨w.heap.size + 1, 5, none⟩) := hd ⟨27, .data⟩ (by simp) rfl
          have c := hS.2.1.cell_some 5 _ rfl
          clear hd hf
          go_simp
          exact hK _ _ (Below.refl _ _) hS rfl
        · intro a W K hS hd hf hK
          have e58 : a.tmps.getD 58 undef = .int .i64 X5 := hd ⟨28, .data⟩ (by simp) rfl
          clear hd hf
          go_simp
          exact hK _ _ (Below.refl _ _) hS rfl
        · intro a W K hS hd hf hK
          have e9 : a.tmps.getD 9 undef = .slice (some ⟨w.heap.size + 1, 0, none⟩) 7 7 := hf 9 (by kernel_rfl)
          clear hd hf
          go_simp
          exact hK _ _ (Below.refl _ _) hS rfl
        · intro a W K hS hd hf hK
          have e60 : a.tmps.getD 60 undef = .slice (some ⟨w.heap.size + 1, 0, none⟩) 7 7 := hd ⟨30, .data⟩ (by simp) rfl
          clear hd hf
          go_simp
          exact hK _ _ (Below.refl _ _) hS rfl
        · intro a W K hS hd hf hK
          have e61 : a.tmps.getD 61 undef = .pointer (some ⟨w.heap.size + 1, 6, none⟩) := hd ⟨31, .data⟩ (by simp) rfl
          have c := hS.2.1.cell_some 6 _ rfl
          clear hd hf
          go_simp
          exact hK _ _ (Below.refl _ _) hS rfl
        · intro a W K hS hd hf hK
          have e3 : a.tmps.getD 3 undef = .int .u8 (t.toNat : Int) := hf 3 (by kernel_rfl)
          clear hd hf
          go_simp
          exact hK _ _ (Below.refl _ _) hS rfl
        · intro a W K hS hd hf hK
          have e31 : a.tmps.getD 31 undef = .string G.name := hd ⟨1, .data⟩ (by simp) rfl
          have e33 : a.tmps.getD 33 undef = .string G.link := hd ⟨3, .data⟩ (by simp) rfl
          have e35 : a.tmps.getD 35 undef = .string G.pre := hd ⟨5, .data⟩ (by simp) rfl
          have e37 : a.tmps.getD 37 undef = .string G.uname := hd ⟨7, .data⟩ (by simp) rfl
          have e41 : a.tmps.getD 41 undef = .int .i64 (X0 % 4096) := hd ⟨11, .data⟩ (by simp) rfl
          have e44 : a.tmps.getD 44 undef = .int .i64 X1 := hd ⟨14, .data⟩ (by simp) rfl
          have e47 : a.tmps.getD 47 undef = .int .i64 X2 := hd ⟨17, .data⟩ (by simp) rfl
          have e51 : a.tmps.getD 51 undef = .int .i64 (X3 * 999) := hd ⟨21, .data⟩ (by simp) rfl
          have e55 : a.tmps.getD 55 undef = .int .i64 (X4 - 2147483648) := hd ⟨25, .data⟩ (by simp) rfl
          have e59 : a.tmps.getD 59 undef = .int .i64 (X5 % 2097152) := hd ⟨29, .data⟩ (by simp) rfl
          have e62 : a.tmps.getD 62 undef = .int .i64 X6 := hd ⟨32, .data⟩ (by simp) rfl
          have e63 : a.tmps.getD 63 undef = .int .u8 (t.toNat : Int) := hd ⟨33, .data⟩ (by simp) rfl
          have hbd := buildMk G.name (X0 % 4096) X1 X2 (X3 * 999) (X4 - 2147483648) (t.toNat : Int) G.link G.uname (X5 % 2097152) X6 G.pre
          have f31 := e31
          rw [Array.getD_eq_getD_getElem?] at f31
          have f33 := e33
          rw [Array.getD_eq_getD_getElem?] at f33
          have f35 := e35
          rw [Array.getD_eq_getD_getElem?] at f35
          have f37 := e37
          rw [Array.getD_eq_getD_getElem?] at f37
          have f41 := e41
          rw [Array.getD_eq_getD_getElem?] at f41
          have f44 := e44
          rw [Array.getD_eq_getD_getElem?] at f44
          have f47 := e47
          rw [Array.getD_eq_getD_getElem?] at f47
          have f51 := e51
          rw [Array.getD_eq_getD_getElem?] at f51
          have f55 := e55
          rw [Array.getD_eq_getD_getElem?] at f55
          have f59 := e59
          rw [Array.getD_eq_getD_getElem?] at f59
          have f62 := e62
          rw [Array.getD_eq_getD_getElem?] at f62
          have f63 := e63
          rw [Array.getD_eq_getD_getElem?] at f63
          clear hd hf
          go_simp
          exact hK _ _ (Below.refl _ _) hS rfl
      case he =>
        intro vals w2 K hS2 hV hK
        have e34 := hV 34 (by omega)
        clear hV
        replace e34 : vals 34 = .agg #[.string G.name, .int .i64 (X0 % 4096), .int .i64 X1, .int .i64 X2, .int .i64 (X3 * 999), .int .i64 (X4 - 2147483648), .int .u8 (t.toNat : Int), .string G.link, .string G.uname, .string ⟨#[]⟩, .int .i64 (X5 % 2097152), .int .i64 X6, .string G.pre] := e34
        simp only [setN, Nat.reduceAdd, List.setIfInBounds_toArray, List.set_cons_succ, List.set_cons_zero]
        rw [e34]
        obtain ⟨hB2, _, hs2⟩ := hS2
        clear e34 hresk hrowk hBk
        have k0 := hs2.cell_some 0 _ rfl
        have f0 := hs2.free 0
        have k1 := hs2.cell_some 1 _ rfl
        have f1 := hs2.free 1
        have k2 := hs2.cell_some 2 _ rfl
        have f2 := hs2.free 2
        have k3 := hs2.cell_some 3 _ rfl
        have f3 := hs2.free 3
        have k4 := hs2.cell_some 4 _ rfl
        have f4 := hs2.free 4
        have k5 := hs2.cell_some 5 _ rfl
        have f5 := hs2.free 5
        have k6 := hs2.cell_some 6 _ rfl
        have f6 := hs2.free 6
        have k7 := hs2.cell_some 7 _ rfl
        have f7 := hs2.free 7
        have k8 := hs2.cell_some 8 _ rfl
        have f8 := hs2.free 8
        have k9 := hs2.cell_some 9 _ rfl
        have f9 := hs2.free 9
        have k10 := hs2.cell_some 10 _ rfl
        have f10 := hs2.free 10
        have k11 := hs2.cell_some 11 _ rfl
        have f11 := hs2.free 11
        have k12 := hs2.cell_some 12 _ rfl
        have f12 := hs2.free 12
        go_simp
        obtain ⟨W, hW⟩ : ∃ W, ((((((((((((w2.setCell ⟨w.heap.size, 0, none⟩ (.string G.name)).setCell ⟨w.heap.size, 1, none⟩ (.int .i64 (X0 % 4096))).setCell ⟨w.heap.size, 2, none⟩ (.int .i64 X1)).setCell ⟨w.heap.size, 3, none⟩ (.int .i64 X2)).setCell ⟨w.heap.size, 4, none⟩ (.int .i64 (X3 * 999))).setCell ⟨w.heap.size, 5, none⟩ (.int .i64 (X4 - 2147483648))).setCell ⟨w.heap.size, 6, none⟩ (.int .u8 (t.toNat : Int))).setCell ⟨w.heap.size, 7, none⟩ (.string G.link)).setCell ⟨w.heap.size, 8, none⟩ (.string G.uname)).setCell ⟨w.heap.size, 9, none⟩ (.string ⟨#[]⟩)).setCell ⟨w.heap.size, 10, none⟩ (.int .i64 (X5 % 2097152))).setCell ⟨w.heap.size, 11, none⟩ (.int .i64 X6)).setCell ⟨w.heap.size, 12, none⟩ (.string G.pre) = W := ⟨_, rfl⟩
        have hF : BlkIs W w.heap.size 23 #[.string G.name, .int .i64 (X0 % 4096), .int .i64 X1, .int .i64 X2, .int .i64 (X3 * 999), .int .i64 (X4 - 2147483648), .int .u8 (t.toNat : Int), .string G.link, .string G.uname, .string ⟨#[]⟩, .int .i64 (X5 % 2097152), .int .i64 X6, .string G.pre] := by
          rw [← hW]
          exact put13 (.string G.name) (.int .i64 (X0 % 4096)) (.int .i64 X1) (.int .i64 X2) (.int .i64 (X3 * 999)) (.int .i64 (X4 - 2147483648)) (.int .u8 (t.toNat : Int)) (.string G.link) (.string G.uname) (.string ⟨#[]⟩) (.int .i64 (X5 % 2097152)) (.int .i64 X6) (.string G.pre) hs2
        have hbW : Below w.heap.size w W := by
          rw [← hW]
          exact gr_set (gr_set (gr_set (gr_set (gr_set (gr_set (gr_set (gr_set (gr_set (gr_set (gr_set (gr_set (gr_set (hB2) (p := ⟨w.heap.size, 0, none⟩) (Nat.le_refl _) (.string G.name)) (p := ⟨w.heap.size, 1, none⟩) (Nat.le_refl _) (.int .i64 (X0 % 4096))) (p := ⟨w.heap.size, 2, none⟩) (Nat.le_refl _) (.int .i64 X1)) (p := ⟨w.heap.size, 3, none⟩) (Nat.le_refl _) (.int .i64 X2)) (p := ⟨w.heap.size, 4, none⟩) (Nat.le_refl _) (.int .i64 (X3 * 999))) (p := ⟨w.heap.size, 5, none⟩) (Nat.le_refl _) (.int .i64 (X4 - 2147483648))) (p := ⟨w.heap.size, 6, none⟩) (Nat.le_refl _) (.int .u8 (t.toNat : Int))) (p := ⟨w.heap.size, 7, none⟩) (Nat.le_refl _) (.string G.link)) (p := ⟨w.heap.size, 8, none⟩) (Nat.le_refl _) (.string G.uname)) (p := ⟨w.heap.size, 9, none⟩) (Nat.le_refl _) (.string ⟨#[]⟩)) (p := ⟨w.heap.size, 10, none⟩) (Nat.le_refl _) (.int .i64 (X5 % 2097152))) (p := ⟨w.heap.size, 11, none⟩) (Nat.le_refl _) (.int .i64 X6)) (p := ⟨w.heap.size, 12, none⟩) (Nat.le_refl _) (.string G.pre)
        rw [hW]
        refine hK _ _ ?_
        clear hW hs2 hB2 hK k0 f0 k1 f1 k2 f2 k3 f3 k4 f4 k5 f5 k6 f6 k7 f7 k8 f8 k9 f9 k10 f10 k11 f11 k12 f12
        have k0 := hF.cell_some 0 _ rfl
        have k1 := hF.cell_some 1 _ rfl
        have k2 := hF.cell_some 2 _ rfl
        have k3 := hF.cell_some 3 _ rfl
        have k4 := hF.cell_some 4 _ rfl
        have k5 := hF.cell_some 5 _ rfl
        have k6 := hF.cell_some 6 _ rfl
        have k7 := hF.cell_some 7 _ rfl
        have k8 := hF.cell_some 8 _ rfl
        have k9 := hF.cell_some 9 _ rfl
        have k10 := hF.cell_some 10 _ rfl
        have k11 := hF.cell_some 11 _ rfl
        have k12 := hF.cell_some 12 _ rfl
        go_wp2_with fail
        rw [HG.out]
        refine bodyPost_ret (v := .agg #[.string G.name, .int .i64 (X0 % 4096), .int .i64 X1, .int .i64 X2, .int .i64 (X3 * 999), .int .i64 (X4 - 2147483648), .int .u8 (t.toNat : Int), .string G.link, .string G.uname, .string ⟨#[]⟩, .int .i64 (X5 % 2097152), .int .i64 X6, .string G.pre]) ?_ rfl ⟨rfl, hbW⟩
        simp [results, Try.results21, go_sem, k0, k1, k2, k3, k4, k5, k6, k7, k8, k9, k10, k11, k12]
end Go.Proofs.Ytkkmhfgfkjeooaa
