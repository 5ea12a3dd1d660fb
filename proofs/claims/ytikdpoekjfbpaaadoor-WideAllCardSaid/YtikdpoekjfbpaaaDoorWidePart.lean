/- Walks over package wide: a part's reading. -/
import Derived.Test.YtikdpoekjfbpaaaDoorWidePiece
import Derived.Laws.Tables
namespace Go.Proofs.YtikdpoekjfbpaaaDoor
open Go.RowKit
open WideM
open AclM (cutAt)
set_option linter.unusedVariables false
attribute [local irreducible] Row At

/-- How a part's reading ends. -/
def partEnd (o : Option Wid) (e : Ending) : Prop := match o with
  | some a => e = .returned (wideV a)
  | none => e = .panicked notPart
theorem str_four {v : Value} {B : Nat} {x y z u : List UInt8} {w : World} (h : Row strE B v [x, y, z, u] w) : ∃ g off cap, v = .slice (some ⟨g, off, none⟩) 4 cap ∧ 4 ≤ cap ∧ g < w.heap.size ∧
    w.cell? ⟨g, off, none⟩ = some (.string (strOf x)) ∧ w.cell? ⟨g, off + 1, none⟩ = some (.string (strOf y)) ∧ w.cell? ⟨g, off + 2, none⟩ = some (.string (strOf z)) ∧ w.cell? ⟨g, off + 3, none⟩ = some (.string (strOf u)) := by
  obtain ⟨g, off, cap, h1, h2, h3, h4⟩ := str_open h.at (by simp)
  exact ⟨g, off, cap, h1, h2, h3, h4 0 (by simp), h4 1 (by simp), h4 2 (by simp), h4 3 (by simp)⟩
theorem guess_not {s : List UInt8} (h : (cutAt 58 s).length ≠ 4) : partOf s = none := by
  have : guess s = none := by
    unfold guess
    split
    · rename_i e; rw [e] at h; simp at h
    · rfl
  unfold partOf
  rw [this]
theorem guess_none {s x y z u : List UInt8} (h : cutAt 58 s = [x, y, z, u]) (hn : typeOf x = none ∨ bitsOf flL y 0 = none ∨ bitsOf msL u 0 = none) : partOf s = none := by
  have : guess s = none := by
    unfold guess
    rw [h]
    simp only
    rcases hn with e | e | e
    · rw [e]
    · rw [e]; cases typeOf x <;> rfl
    · rw [e]; cases typeOf x <;> cases bitsOf flL y 0 <;> rfl
  unfold partOf
  rw [this]
theorem guess_some {s x y z u : List UInt8} {t : Int} {f m : Nat} (h : cutAt 58 s = [x, y, z, u]) (h1 : typeOf x = some t) (h2 : bitsOf flL y 0 = some f) (h3 : bitsOf msL u 0 = some m) :
    partOf s = if partText ⟨t, f, m, strOf z⟩ = s then some ⟨t, f, m, strOf z⟩ else none := by
  have : guess s = some ⟨t, f, m, strOf z⟩ := by
    unfold guess
    rw [h]
    simp only
    rw [h1, h2, h3]
  unfold partOf
  rw [this]
theorem type_in {x : List UInt8} {t : Int} (h : typeOf x = some t) : t = 1 ∨ t = 2 := by
  unfold typeOf at h
  split at h
  · cases h; exact .inl rfl
  · split at h
    · cases h; exact .inr rfl
    · cases h
theorem buildW (a b c : Int) (X : ByteArray) (w : World) : (Instr.build 41 #[(0, .int .i64 a), (1, .int .i64 b), (2, .int .i64 c), (3, .string X)]).run Tryd.prog w = .ok (.agg #[.int .i64 a, .int .i64 b, .int .i64 c, .string X]) w :=
  run_build w _ _ _ (by kernel_rfl)

set_option maxHeartbeats 6400000 in
set_option maxRecDepth 100000 in
theorem parsePart_any (S : ByteArray) (hS : S.size ≤ 900000) (w : World) (hA : Amb w) :
    Calls Tryd.prog 31 #[.string S] w fun e w' => partEnd (partOf S.data.toList) e ∧ Below w.heap.size w w' := by
  obtain ⟨o, ho⟩ : ∃ o, partOf S.data.toList = o := ⟨_, rfl⟩
  rw [ho]
  have hx0 : Below w.heap.size w (w.alloc (.cells #[.int .i64 0, .int .i64 0, .int .i64 0, .string ⟨#[]⟩] 41)) := by (repeat' (first | exact Below.refl _ _ | assumption | refine gr_drew ?_ | refine gr_drewN ?_ _ | refine gr_alloc ?_ _ | refine gr_set ?_ ?_ _ | refine gr_call ?_ (by assumption)) <;> (try (simp; done)) <;> (try (simp; omega)) <;> (try omega))
  have hsp := Lib.hid (split_any S 58 ⟨#[58]⟩ rfl _ (hA.on hx0) (by omega))
  obtain ⟨hk1, hk2⟩ := cutAt_sum 58 S.data.toList
  rw [len_list] at hk1 hk2
  obtain ⟨ps, hps⟩ : ∃ ps, cutAt 58 S.data.toList = ps := ⟨_, rfl⟩
  rw [hps] at hk1 hk2 hsp
  by_cases h4 : ps.length = 4
  · match ps, h4, hk2, hsp, hps with
    | [x, y, z, u], _, hk2, hsp, hps =>
    have hl0 := hk2 x (by simp)
    have hl1 := hk2 y (by simp)
    have hl2 := hk2 z (by simp)
    have hl3 := hk2 u (by simp)
    have ht := Lib.hid (fun w => parseType_any (strOf x) w)
    have hf1 := Lib.hid (fun w => parseBits_any (strOf y) flB (by rw [strOf_size]; omega) (by decide) w)
    have hm1 := Lib.hid (fun w => parseBits_any (strOf u) msB (by rw [strOf_size]; omega) (by decide) w)
    have hcl := Lib.hid (fun w => clone_any (strOf z) w (by rw [strOf_size]; omega))
    rw [strOf_list] at ht hf1 hm1
    rw [flB_list] at hf1
    rw [msB_list] at hm1
    have hzs : (strOf z).size ≤ 900000 := by rw [strOf_size]; omega
    have Hb1 := Lib.hid (fun f (h : bitsOf flL y 0 = some f) => bits_bound (k := 7) (Nat.le_refl _) h (by decide))
    have Hb2 := Lib.hid (fun f (h : bitsOf msL u 0 = some f) => bits_bound (k := 14) (Nat.le_refl _) h (by decide))
    have Hb3 := Lib.hid (fun t (h : typeOf x = some t) => type_in h)
    have HN := Lib.hid (fun h => ho.symm.trans (guess_none hps h))
    have HY := Lib.hid (fun t f m h1 h2 h3 => ho.symm.trans (guess_some (t := t) (f := f) (m := m) hps h1 h2 h3))
    obtain ⟨X0, hX0⟩ : ∃ X, strOf x = X := ⟨_, rfl⟩
    obtain ⟨X1, hX1⟩ : ∃ X, strOf y = X := ⟨_, rfl⟩
    obtain ⟨X2, hX2⟩ : ∃ X, strOf z = X := ⟨_, rfl⟩
    obtain ⟨X3, hX3⟩ : ∃ X, strOf u = X := ⟨_, rfl⟩
    rw [hX0] at ht
    rw [hX1] at hf1
    rw [hX3] at hm1
    rw [hX2] at hcl HY hzs
    generalize typeOf x = ot at *
    generalize bitsOf flL y 0 = of at *
    generalize bitsOf msL u 0 = om at *
    have Hbuild := Lib.hid (fun t f m w => buildW t (f : Nat) (m : Nat) X2 w)
    clear ho hps hk1 hk2 hl0 hl1 hl2 hl3
    go_enter Tryd.func31, Tryd.ntmps31
    go_wp2_with fail
    refine (hsp.out).mono ?_
    rintro e w1 ⟨⟨v, rfl, hR⟩, hb1⟩
    obtain ⟨g, off, cap, rfl, hcap, hg, C0, C1, C2, C3⟩ := str_four hR
    rw [hX0] at C0
    rw [hX1] at C1
    rw [hX2] at C2
    rw [hX3] at C3
    clear hsp hX0 hX1 hX2 hX3 hR
    have Hres := Lib.hid (fun W (hb : Below (w.alloc (.cells #[.int .i64 0, .int .i64 0, .int .i64 0, .string ⟨#[]⟩] 41)).heap.size (w.alloc (.cells #[.int .i64 0, .int .i64 0, .int .i64 0, .string ⟨#[]⟩] 41)) W) => (BlkIs.made w 41 #[.int .i64 0, .int .i64 0, .int .i64 0, .string ⟨#[]⟩]).kept hb (by simp))
    have Hrb := Lib.hid hb1
    have hB : Below w.heap.size w w1 := gr_call hx0 hb1
    clear hb1 hx0
    go_wp2_with fail
    obtain ⟨w2, hw2⟩ : ∃ w2, w1 = w2 := ⟨_, rfl⟩
    rw [hw2] at C0 C1 C2 C3 Hrb hB hg ⊢
    clear hw2
    refine region_lastqQL (S := fun W => Below w2.heap.size w2 W) 18
      [(fun W v => v = .slice (some ⟨g, off, none⟩) 4 cap),
     (fun W v => v = .pointer (some ⟨g, off, none⟩)),
     (fun W v => v = .string X0),
     (fun W v => ∃ n, ot = some n ∧ v = .int .i64 n),
     (fun W v => v = .slice (some ⟨g, off, none⟩) 4 cap),
     (fun W v => v = .pointer (some ⟨g, off + 1, none⟩)),
     (fun W v => v = .string X1),
     (fun W v => ∃ n, of = some n ∧ v = .int .i64 (n : Nat)),
     (fun W v => v = .slice (some ⟨g, off, none⟩) 4 cap),
     (fun W v => v = .pointer (some ⟨g, off + 3, none⟩)),
     (fun W v => v = .string X3),
     (fun W v => ∃ n, om = some n ∧ v = .int .i64 (n : Nat)),
     (fun W v => v = .slice (some ⟨g, off, none⟩) 4 cap),
     (fun W v => v = .pointer (some ⟨g, off + 2, none⟩)),
     (fun W v => v = .string X2),
     (fun W v => v = .string X2),
     (fun W v => ∃ (t : Int) (f m : Nat), ot = some t ∧ of = some f ∧ om = some m ∧ v = .agg #[.int .i64 t, .int .i64 f, .int .i64 m, .string X2]),
     (fun W v => ∃ h, v = .pointer (some ⟨h, 0, none⟩) ∧ w2.heap.size ≤ h ∧ BlkIs W h 41 #[.int .i64 0, .int .i64 0, .int .i64 0, .string ⟨#[]⟩])] (by rfl) (by kernel_rfl) (by kernel_rfl) (by kernel_rfl) (by kernel_rfl) (by rfl) (by kernel_rfl) ?hS ?hp ?hs ?he
    case hS => exact gr_drew (Below.refl _ _)
    case hp => repeat' (first | exact trivial | refine ⟨fun _ _ _ _ h => h, ?_⟩ | refine ⟨fun _ _ _ hb h => ?_, ?_⟩ | (obtain ⟨h', e1, e2, e3⟩ := h; exact ⟨h', e1, e2, e3.kept hb e3.size⟩))
    case hs =>
      simp only [List.take_succ_cons, List.take_zero]
      refine ⟨?_, ?_, ?_, ?_, ?_, ?_, ?_, ?_, ?_, ?_, ?_, ?_, ?_, ?_, ?_, ?_, ?_, ?_, trivial⟩
      · refine ⟨met_none rfl, ?_⟩
        intro a W K hS hd hD hf hK
        have e3 : a.tmps.getD 3 undef = .slice (some ⟨g, off, none⟩) 4 cap := hf 3 (by kernel_rfl)
        clear hd hf hD
        go_simp
        exact hK _ _ (Below.refl _ _) hS rfl
      · refine ⟨met_none rfl, ?_⟩
        intro a W K hS hd hD hf hK
        have e12 : a.tmps.getD 12 undef = .slice (some ⟨g, off, none⟩) 4 cap := hd ⟨0, .data⟩ (by simp) rfl
        clear hd hf hD
        go_simp
        exact hK _ _ (Below.refl _ _) hS rfl
      · refine ⟨met_none rfl, ?_⟩
        intro a W K hS hd hD hf hK
        have e13 : a.tmps.getD 13 undef = .pointer (some ⟨g, off, none⟩) := hd ⟨1, .data⟩ (by simp) rfl
        have c0 := cell_kept hS C0
        clear hd hf hD
        go_simp
        exact hK _ _ (Below.refl _ _) hS rfl
      · refine ⟨met_none rfl, ?_⟩
        intro a W K hS hd hD hf hK
        have e14 : a.tmps.getD 14 undef = .string X0 := hd ⟨2, .data⟩ (by simp) rfl
        have HD := Lib.hid hD
        clear hd hf hD
        go_simp
        go_at_call 39
        refine (ht.out _).mono ?_
        rintro e w1 ⟨he, rfl⟩
        rcases ot with _ | n
        · obtain rfl : e = .panicked notPart := he
          have hN := HN.out (by simp)
          refine (show _ ∧ _ ∧ _ from ⟨HD.out, ?_, ?_⟩)
          · rw [hN]; rfl
          · exact gr_call hB hS
        · obtain rfl : e = .returned (.int .i64 n) := he
          exact hK _ _ (Below.refl _ _) hS ⟨n, rfl, rfl⟩
      · refine ⟨met_none rfl, ?_⟩
        intro a W K hS hd hD hf hK
        have e3 : a.tmps.getD 3 undef = .slice (some ⟨g, off, none⟩) 4 cap := hf 3 (by kernel_rfl)
        clear hd hf hD
        go_simp
        exact hK _ _ (Below.refl _ _) hS rfl
      · refine ⟨met_none rfl, ?_⟩
        intro a W K hS hd hD hf hK
        have e16 : a.tmps.getD 16 undef = .slice (some ⟨g, off, none⟩) 4 cap := hd ⟨4, .data⟩ (by simp) rfl
        clear hd hf hD
        go_simp
        exact hK _ _ (Below.refl _ _) hS rfl
      · refine ⟨met_none rfl, ?_⟩
        intro a W K hS hd hD hf hK
        have e17 : a.tmps.getD 17 undef = .pointer (some ⟨g, off + 1, none⟩) := hd ⟨5, .data⟩ (by simp) rfl
        have c0 := cell_kept hS C1
        clear hd hf hD
        go_simp
        exact hK _ _ (Below.refl _ _) hS rfl
      · refine ⟨met_none rfl, ?_⟩
        intro a W K hS hd hD hf hK
        have e18 : a.tmps.getD 18 undef = .string X1 := hd ⟨6, .data⟩ (by simp) rfl
        have HD := Lib.hid hD
        clear hd hf hD
        go_simp
        go_at_call 40
        refine (hf1.out _).mono ?_
        rintro e w1 ⟨he, rfl⟩
        rcases of with _ | n
        · obtain rfl : e = .panicked notPart := he
          have hN := HN.out (by simp)
          refine (show _ ∧ _ ∧ _ from ⟨HD.out, ?_, ?_⟩)
          · rw [hN]; rfl
          · exact gr_call hB hS
        · obtain rfl : e = .returned (.int .i64 n) := he
          exact hK _ _ (Below.refl _ _) hS ⟨n, rfl, rfl⟩
      · refine ⟨met_none rfl, ?_⟩
        intro a W K hS hd hD hf hK
        have e3 : a.tmps.getD 3 undef = .slice (some ⟨g, off, none⟩) 4 cap := hf 3 (by kernel_rfl)
        clear hd hf hD
        go_simp
        exact hK _ _ (Below.refl _ _) hS rfl
      · refine ⟨met_none rfl, ?_⟩
        intro a W K hS hd hD hf hK
        have e20 : a.tmps.getD 20 undef = .slice (some ⟨g, off, none⟩) 4 cap := hd ⟨8, .data⟩ (by simp) rfl
        clear hd hf hD
        go_simp
        exact hK _ _ (Below.refl _ _) hS rfl
      · refine ⟨met_none rfl, ?_⟩
        intro a W K hS hd hD hf hK
        have e21 : a.tmps.getD 21 undef = .pointer (some ⟨g, off + 3, none⟩) := hd ⟨9, .data⟩ (by simp) rfl
        have c0 := cell_kept hS C3
        clear hd hf hD
        go_simp
        exact hK _ _ (Below.refl _ _) hS rfl
      · refine ⟨met_none rfl, ?_⟩
        intro a W K hS hd hD hf hK
        have e22 : a.tmps.getD 22 undef = .string X3 := hd ⟨10, .data⟩ (by simp) rfl
        have HD := Lib.hid hD
        clear hd hf hD
        go_simp
        go_at_call 40
        refine (hm1.out _).mono ?_
        rintro e w1 ⟨he, rfl⟩
        rcases om with _ | n
        · obtain rfl : e = .panicked notPart := he
          have hN := HN.out (by simp)
          refine (show _ ∧ _ ∧ _ from ⟨HD.out, ?_, ?_⟩)
          · rw [hN]; rfl
          · exact gr_call hB hS
        · obtain rfl : e = .returned (.int .i64 n) := he
          exact hK _ _ (Below.refl _ _) hS ⟨n, rfl, rfl⟩
      · refine ⟨met_none rfl, ?_⟩
        intro a W K hS hd hD hf hK
        have e3 : a.tmps.getD 3 undef = .slice (some ⟨g, off, none⟩) 4 cap := hf 3 (by kernel_rfl)
        clear hd hf hD
        go_simp
        exact hK _ _ (Below.refl _ _) hS rfl
      · refine ⟨met_none rfl, ?_⟩
        intro a W K hS hd hD hf hK
        have e24 : a.tmps.getD 24 undef = .slice (some ⟨g, off, none⟩) 4 cap := hd ⟨12, .data⟩ (by simp) rfl
        clear hd hf hD
        go_simp
        exact hK _ _ (Below.refl _ _) hS rfl
      · refine ⟨met_none rfl, ?_⟩
        intro a W K hS hd hD hf hK
        have e25 : a.tmps.getD 25 undef = .pointer (some ⟨g, off + 2, none⟩) := hd ⟨13, .data⟩ (by simp) rfl
        have c0 := cell_kept hS C2
        clear hd hf hD
        go_simp
        exact hK _ _ (Below.refl _ _) hS rfl
      · refine ⟨met_none rfl, ?_⟩
        intro a W K hS hd hD hf hK
        have e26 : a.tmps.getD 26 undef = .string X2 := hd ⟨14, .data⟩ (by simp) rfl
        clear hd hf hD
        go_simp
        go_at_call 41
        refine (hcl.out _).mono ?_
        rintro e w1 ⟨rfl, hb⟩
        exact hK _ _ hb (gr_call hS hb) rfl
      · refine ⟨met_none rfl, ?_⟩
        intro a W K hS hd hD hf hK
        have p15 := hd ⟨3, .data⟩ (by simp) rfl
        have p19 := hd ⟨7, .data⟩ (by simp) rfl
        have p23 := hd ⟨11, .data⟩ (by simp) rfl
        have e27 : a.tmps.getD 27 undef = .string X2 := hd ⟨15, .data⟩ (by simp) rfl
        clear hd hf hD
        obtain ⟨t, q1, e15⟩ := p15
        obtain ⟨f, q2, e19⟩ := p19
        obtain ⟨m, q3, e23⟩ := p23
        have hbd := Hbuild.out t f m
        replace e15 : a.tmps.getD 15 undef = .int .i64 t := e15
        replace e19 : a.tmps.getD 19 undef = .int .i64 (f : Nat) := e19
        replace e23 : a.tmps.getD 23 undef = .int .i64 (m : Nat) := e23
        have f15 := e15
        rw [Array.getD_eq_getD_getElem?] at f15
        have f19 := e19
        rw [Array.getD_eq_getD_getElem?] at f19
        have f23 := e23
        rw [Array.getD_eq_getD_getElem?] at f23
        have f27 := e27
        rw [Array.getD_eq_getD_getElem?] at f27
        clear HN ht hf1 hm1 hcl
        go_simp
        exact hK _ _ (Below.refl _ _) hS ⟨t, f, m, q1, q2, q3, rfl⟩
      · refine ⟨met_none rfl, ?_⟩
        intro a W K hS hd hD hf hK
        clear hd hf hD
        go_simp
        exact hK _ _ ((Below.refl _ _).alloc (Nat.le_refl _) _) (gr_alloc hS _) ⟨_, rfl, hS.size, BlkIs.made _ _ _⟩
    case he =>
      intro vals w3 K hS3 hV hK
      have e28 := hV 16 (by omega)
      have e4 := hV 17 (by omega)
      clear hV
      simp only [List.getD_cons_succ, List.getD_cons_zero] at e28 e4
      obtain ⟨t, f, m, rfl, rfl, rfl, e28⟩ := e28
      obtain ⟨h, e4, hh, hblk⟩ := e4
      have hY := HY.out t f m rfl rfl rfl
      have hbt := Hb3.out t rfl
      have hbf := Hb1.out f rfl
      have hbm := Hb2.out m rfl
      clear HY HN Hb1 Hb2 Hb3 ht hf1 hm1 hcl Hbuild
      refine Later.mk ?_
      simp only [List.append_eq, List.cons_append, List.nil_append, setN, Nat.reduceAdd, List.setIfInBounds_toArray, List.set_cons_succ, List.set_cons_zero]
      rw [e28, e4]
      have k0 := hblk.cell_some 0 _ rfl
      have f0 := hblk.free 0
      have k1 := hblk.cell_some 1 _ rfl
      have f1 := hblk.free 1
      have k2 := hblk.cell_some 2 _ rfl
      have f2 := hblk.free 2
      have k3 := hblk.cell_some 3 _ rfl
      have f3 := hblk.free 3
      go_simp
      have hblk2 : BlkIs ((((w3.setCell ⟨h, 0, none⟩ (.int .i64 t)).setCell ⟨h, 1, none⟩ (.int .i64 (f : Nat))).setCell ⟨h, 2, none⟩ (.int .i64 (m : Nat))).setCell ⟨h, 3, none⟩ (.string X2)) h 41 #[.int .i64 t, .int .i64 (f : Nat), .int .i64 (m : Nat), .string X2] :=
        (((hblk.put 0 _).put 1 _).put 2 _).put 3 _
      have hB3 : Below w2.heap.size w2 ((((w3.setCell ⟨h, 0, none⟩ (.int .i64 t)).setCell ⟨h, 1, none⟩ (.int .i64 (f : Nat))).setCell ⟨h, 2, none⟩ (.int .i64 (m : Nat))).setCell ⟨h, 3, none⟩ (.string X2)) :=
        gr_set (gr_set (gr_set (gr_set hS3 (p := ⟨h, 0, none⟩) hh _) (p := ⟨h, 1, none⟩) hh _) (p := ⟨h, 2, none⟩) hh _) (p := ⟨h, 3, none⟩) hh _
      obtain ⟨W3, hW3⟩ : ∃ W3, ((((w3.setCell ⟨h, 0, none⟩ (.int .i64 t)).setCell ⟨h, 1, none⟩ (.int .i64 (f : Nat))).setCell ⟨h, 2, none⟩ (.int .i64 (m : Nat))).setCell ⟨h, 3, none⟩ (.string X2)) = W3 := ⟨_, rfl⟩
      rw [hW3] at hblk2 hB3 ⊢
      clear hW3 hblk hS3 k0 f0 k1 f1 k2 f2 k3 f3
      have htx := Lib.hid (text_any ⟨t, f, m, X2⟩ W3 hbt (by simp only; omega) (by simp only; omega) (by simp only; omega) (by simp only; omega) (by simp only; omega))
      rw [str_eq (show X2.data.toList = X2.data.toList from rfl)] at hY
      obtain ⟨T, hT⟩ : ∃ T, strOf (partText ⟨t, f, m, X2⟩) = T := ⟨_, rfl⟩
      rw [hT] at htx
      unfold wideV at htx
      simp only at htx
      have hTl : T.toList = partText ⟨t, f, m, X2⟩ := by rw [← hT, Lib.toList_data, strOf_list]
      have hSe : S.toList = S.data.toList := Lib.toList_data S
      rw [strOf_self] at hY
      refine hK _ _ ?_
      clear hK
      have k0 := hblk2.cell_some 0 _ rfl
      have k1 := hblk2.cell_some 1 _ rfl
      have k2 := hblk2.cell_some 2 _ rfl
      have k3 := hblk2.cell_some 3 _ rfl
      by_cases hTS : partText ⟨t, f, m, X2⟩ = S.data.toList
      · have hq : T.toList = S.toList := by rw [hTl, hSe]; exact hTS
        have hq2 : (T.toList == S.toList) = true := by rw [hq]; exact beq_self_eq_true _
        have HP : Hid (o = some ⟨t, f, m, X2⟩) := Lib.hid (by rw [hY, if_pos hTS])
        clear hY hTS hTl hSe hT hbt hbf hbm
        go_wp2_with fail
        refine (htx.out).mono ?_
        rintro e w5 ⟨rfl, hb5⟩
        have hblk5 := hblk2.kept hb5 hblk2.size
        have hB5 := gr_call hB3 hb5
        have hres := Hres.out w5 (gr_call Hrb.out hB5)
        have hbl5 := gr_call hB hB5
        clear hb5 hblk2 k0 k1 k2 k3 hB3 htx
        have k0 := hblk5.cell_some 0 _ rfl
        have k1 := hblk5.cell_some 1 _ rfl
        have k2 := hblk5.cell_some 2 _ rfl
        have k3 := hblk5.cell_some 3 _ rfl
        have d0 := hres.cell_some 0 _ rfl
        have d1 := hres.cell_some 1 _ rfl
        have d2 := hres.cell_some 2 _ rfl
        have d3 := hres.cell_some 3 _ rfl
        have q0 := hres.free 0
        have q1 := hres.free 1
        have q2 := hres.free 2
        have q3 := hres.free 3
        go_wp2_with fail
        refine bodyPost_ret (v := wideV ⟨t, (f : Nat), (m : Nat), X2⟩) ?_ rfl ⟨by rw [HP.out]; rfl, by (repeat' (first | exact Below.refl _ _ | assumption | refine gr_drew ?_ | refine gr_drewN ?_ _ | refine gr_alloc ?_ _ | refine gr_set ?_ ?_ _ | refine gr_call ?_ (by assumption)) <;> (try (simp; done)) <;> (try (simp; omega)) <;> (try omega))⟩
        have hlt := hres.size
        simp [results, Tryd.results31, go_sem, wideV, *]
      · have hq : ¬ T.toList = S.toList := by rw [hTl, hSe]; exact hTS
        have hq2 : (T.toList == S.toList) = false := beq_eq_false_iff_ne.2 hq
        have HP : Hid (o = none) := Lib.hid (by rw [hY, if_neg hTS])
        clear hY hTS hTl hSe hT hbt hbf hbm
        go_wp2_with fail
        refine (htx.out).mono ?_
        rintro e w5 ⟨rfl, hb5⟩
        have hbl5 := gr_call hB (gr_call hB3 hb5)
        go_wp2_with fail
        exact ⟨rfl, by rw [HP.out]; rfl, hbl5⟩
  · have HN := Lib.hid (show o = none by rw [← ho]; exact guess_not (by rw [hps]; exact h4))
    obtain ⟨z, hz⟩ : ∃ z, ps.length = z := ⟨_, rfl⟩
    rw [hz] at h4
    have h4' : ((z : Int) == 4) = false := beq_eq_false_iff_ne.2 (by omega)
    clear hk2 ho hps
    go_enter Tryd.func31, Tryd.ntmps31
    go_wp2_with fail
    refine (hsp.out).mono ?_
    rintro e w1 ⟨⟨v, rfl, hR⟩, hb1⟩
    obtain ⟨p, cap, rfl, _⟩ := hR.at.shape
    rw [hz]
    have hB : Below w.heap.size w w1 := gr_call hx0 hb1
    clear hR hsp
    go_wp2_with fail
    exact ⟨rfl, by rw [HN.out]; rfl, hB⟩
end Go.Proofs.YtikdpoekjfbpaaaDoor
