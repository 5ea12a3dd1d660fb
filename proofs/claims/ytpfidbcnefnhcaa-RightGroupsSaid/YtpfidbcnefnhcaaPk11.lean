/- Bundle of 4 texts. -/
import Derived.Test.YtpfidbcnefnhcaaPk10
import Derived.Test.YtpfidbcnefnhcaaPk02
import Derived.Test.YtpfidbcnefnhcaaPk01
import Derived.Test.YtpfidbcnefnhcaaPk03
import Derived.Test.YtpfidbcnefnhcaaPk09
/- Lists by numbers: Make, walked once more, its list as a function of the numbers. -/
namespace Go.Proofs.Ytpfidbcnefnhcaa.XatW
open Go.RowKit
open XatM
set_option linter.unusedVariables false

def u8of (z : Int) : UInt8 := UInt8.ofNat (z % 256).toNat
theorem mod_of (z : Int) : z % 256 = ((u8of z).toNat : Int) := by simp [u8of]; omega
theorem wrap_of (z : Int) : IntKind.u8.wrap z = ((u8of z).toNat : Int) := by rw [← mod_of]; simp [IntKind.wrap, IntKind.bits, IntKind.signed]
def pfxL : Nat → List UInt8
  | 0 => [117, 115, 101, 114, 46]
  | 1 => [116, 114, 117, 115, 116, 101, 100, 46]
  | 2 => [115, 101, 99, 117, 114, 105, 116, 121, 46]
  | 3 => [120, 61]
  | _ => [255]
def nameX (x1 x2 : Int) : List UInt8 := pfxL (x1 % 5).toNat ++ [u8of (97 + x1 / 5 % 20), u8of (1 + x2 % 255)]
def valX (x1 x2 : Int) : List UInt8 := (List.range (x2 % 20).toNat).map fun (k : Nat) => u8of (x1 * ((k : Int) + 1))
def goX (zs : List Int) (len : Nat) : Nat → Nat → List Xa → List Xa
  | 0, _, acc => acc
  | f + 1, m, acc => if 2 * m + 1 < len ∧ acc.length < 6 then goX zs len f (m + 1) (putX acc (nameX (zs.getD (2 * m) 0) (zs.getD (2 * m + 1) 0), valX (zs.getD (2 * m) 0) (zs.getD (2 * m + 1) 0))) else acc
def madeX (zs : List Int) (len : Nat) : List Xa := goX zs len len 0 []
theorem go_end {zs : List Int} {len f m : Nat} {acc : List Xa} (h : ¬ (2 * m + 1 < len ∧ acc.length < 6)) : goX zs len f m acc = acc := by
  cases f with
  | zero => rfl
  | succ f => rw [goX, if_neg h]
theorem go_on {zs : List Int} {len m : Nat} {acc : List Xa} (h1 : 2 * m + 1 < len) (h2 : acc.length < 6) :
    goX zs len (len - m) m acc = goX zs len (len - (m + 1)) (m + 1) (putX acc (nameX (zs.getD (2 * m) 0) (zs.getD (2 * m + 1) 0), valX (zs.getD (2 * m) 0) (zs.getD (2 * m + 1) 0))) := by
  rw [show len - m = (len - (m + 1)) + 1 by omega, goX, if_pos ⟨h1, h2⟩]
theorem val_is {x1 x2 : Int} {n : Nat} (hn : x2 % 20 = (n : Int)) {vb : List UInt8} (hl : vb.length = n) (h : ∀ k, k < n → vb[k]? = some (u8of (x1 * ((k : Int) + 1)))) : vb = valX x1 x2 := by
  unfold valX
  rw [hn, Int.toNat_natCast]
  apply List.ext_getElem?
  intro k
  by_cases hk : k < n
  · rw [h k hk]; simp [hk]
  · rw [List.getElem?_eq_none (show vb.length ≤ k by omega), List.getElem?_eq_none (by rw [List.length_map, List.length_range]; omega)]
theorem set_more {x1 : Int} {k : Nat} {vb : List UInt8} {u : UInt8} (hk : k < vb.length) (h : ∀ q, q < k → vb[q]? = some (u8of (x1 * ((q : Int) + 1)))) (hu : u8of (x1 * ((k : Int) + 1)) = u) :
    ∀ q, q < k + 1 → (vb.set k u)[q]? = some (u8of (x1 * ((q : Int) + 1))) := by
  intro q hq
  by_cases e : q = k
  · subst e; rw [List.getElem?_set_self hk, hu]
  · rw [List.getElem?_set_ne (by omega)]; exact h q (by omega)
attribute [local irreducible] Row At BRow

set_option maxHeartbeats 6400000 in
set_option maxRecDepth 100000 in
theorem make_fn (a : Option Addr) (len cap : Nat) (zs : List Int) (w : World) (hr : IsRow .u8 w a len cap zs) (hlen : len ≤ 9223372036854775807) :
    Calls Try.prog 34 #[.slice a len cap] w fun e w' => (∃ v, e = .returned v ∧ Row xatE w.heap.size v (madeX zs len) w' ∧ Good (madeX zs len) ∧ (madeX zs len).length ≤ 6) ∧ Below w.heap.size w w' := by
  obtain ⟨P0, hP0⟩ : ∃ O : ByteArray, (⟨#[117, 115, 101, 114, 46]⟩ : ByteArray) = O := ⟨_, rfl⟩
  obtain ⟨P1, hP1⟩ : ∃ O : ByteArray, (⟨#[116, 114, 117, 115, 116, 101, 100, 46]⟩ : ByteArray) = O := ⟨_, rfl⟩
  obtain ⟨P2, hP2⟩ : ∃ O : ByteArray, (⟨#[115, 101, 99, 117, 114, 105, 116, 121, 46]⟩ : ByteArray) = O := ⟨_, rfl⟩
  obtain ⟨P3, hP3⟩ : ∃ O : ByteArray, (⟨#[120, 61]⟩ : ByteArray) = O := ⟨_, rfl⟩
  obtain ⟨P4, hP4⟩ : ∃ O : ByteArray, (⟨#[255]⟩ : ByteArray) = O := ⟨_, rfl⟩
  have hpf : ∀ q, q < 5 → ∃ PF : ByteArray, (#[.string P0, .string P1, .string P2, .string P3, .string P4] : Array Value)[q]? = some (.string PF) ∧ PF.data.toList ≠ [] ∧ PF.data.toList.contains 0 = false ∧ (PF.data.toList.length ≤ 9 ∧ PF.data.toList.length ≠ 4) ∧ PF.data.toList = pfxL q := by
    intro q hq
    obtain rfl | rfl | rfl | rfl | rfl : q = 0 ∨ q = 1 ∨ q = 2 ∨ q = 3 ∨ q = 4 := by omega
    · exact ⟨P0, rfl, (by rw [← hP0]; exact (pre_ok _ (by simp)).1), (by rw [← hP0]; exact (pre_ok _ (by simp)).2.1), (by rw [← hP0]; exact (pre_ok _ (by simp)).2.2), (by rw [← hP0]; rfl)⟩
    · exact ⟨P1, rfl, (by rw [← hP1]; exact (pre_ok _ (by simp)).1), (by rw [← hP1]; exact (pre_ok _ (by simp)).2.1), (by rw [← hP1]; exact (pre_ok _ (by simp)).2.2), (by rw [← hP1]; rfl)⟩
    · exact ⟨P2, rfl, (by rw [← hP2]; exact (pre_ok _ (by simp)).1), (by rw [← hP2]; exact (pre_ok _ (by simp)).2.1), (by rw [← hP2]; exact (pre_ok _ (by simp)).2.2), (by rw [← hP2]; rfl)⟩
    · exact ⟨P3, rfl, (by rw [← hP3]; exact (pre_ok _ (by simp)).1), (by rw [← hP3]; exact (pre_ok _ (by simp)).2.1), (by rw [← hP3]; exact (pre_ok _ (by simp)).2.2), (by rw [← hP3]; rfl)⟩
    · exact ⟨P4, rfl, (by rw [← hP4]; exact (pre_ok _ (by simp)).1), (by rw [← hP4]; exact (pre_ok _ (by simp)).2.1), (by rw [← hP4]; exact (pre_ok _ (by simp)).2.2), (by rw [← hP4]; rfl)⟩
  have Hpf := Lib.hid hpf
  have Hopen := Lib.hid (fun h => IsRow.open hr h)
  have Hadd := Lib.hid (fun v l N V w h1 h2 => add_any v l N V w h1 h2)
  clear hr hpf
  have HGO := Lib.hid (fun (m : Nat) (acc : List Xa) (h1 : 2 * m + 1 < len) (h2 : acc.length < 6) => go_on (zs := zs) h1 h2)
  obtain ⟨GO, hGO⟩ : ∃ q, goX zs len = q := ⟨_, rfl⟩
  have HEN := Lib.hid (fun (f m : Nat) (acc : List Xa) (h : ¬ (2 * m + 1 < len ∧ acc.length < 6)) => go_end (zs := zs) (f := f) h)
  obtain ⟨T, hT⟩ : ∃ q, madeX zs len = q := ⟨_, rfl⟩
  have HT0 := Lib.hid (show goX zs len (len - 0) 0 [] = T from hT)
  rw [hGO] at HGO HEN HT0
  rw [hT]
  clear hT hGO
  go_enter Try.func34, Try.ntmps34
  simp only [hP0, hP1, hP2, hP3, hP4]
  clear hP0 hP1 hP2 hP3 hP4
  go_wp2_with fail
  go_loopw [3, 4] (fun lv iv wr => ∃ (m : Nat) (acc : List Xa), iv = .int .i64 ((2 * m : Nat) : Int) ∧ 2 * m ≤ len ∧ acc.length ≤ 6 ∧ Row xatE w.heap.size lv acc wr ∧ Below w.heap.size w wr ∧ Hid (Good acc ∧ GO (len - m) m acc = T)) (fun _ iv _ => len - (intOf iv).toNat)
  case atStart => exact ⟨0, [], rfl, by omega, by simp, Row.nil _ _, Below.refl _ _, Lib.hid ⟨Good.nil, HT0.out⟩⟩
  case round =>
    obtain ⟨m, acc, rfl, hm, hacc, hR, hbl, HG⟩ := hrel
    rename_i wr
    have HS := Lib.hid (fun h1 h2 => (HGO.out m acc h1 h2).symm.trans HG.out.2)
    have HX := Lib.hid (fun h => (HEN.out (len - m) m acc h).symm.trans HG.out.2)
    clear HGO HEN
    replace HG := Lib.hid HG.out.1
    obtain ⟨i, hi⟩ : ∃ i : Nat, 2 * m = i := ⟨_, rfl⟩
    rw [hi] at HS HX
    have hi63 : i + 1 ≤ 9223372036854775807 := by omega
    rw [hi] at hm ⊢
    have Hi := Lib.hid hi
    clear hi
    have hwr : IntKind.i64.wrap ((i : Int) + 1) = ((i + 1 : Nat) : Int) := by rw [IntKind.wrap_i64]; omega
    obtain ⟨p, cp, hsh, _⟩ := hR.at.shape
    obtain ⟨j, hj⟩ : ∃ j, acc.length = j := ⟨_, rfl⟩
    rw [hj] at hsh hacc
    have Hj := Lib.hid hj
    clear hj
    subst hsh
    by_cases hc1 : i + 1 < len
    case neg =>
      have e1 : decide (((i + 1 : Nat) : Int) < (len : Int)) = false := decide_eq_false (by omega)
      have e1' : decide (i + 1 < len) = false := decide_eq_false hc1
      go_wp2_with fail
      go_ret
      rw [← HX.out (fun h => hc1 h.1)]
      exact ⟨⟨_, rfl, hR, HG.out, by rw [Hj.out]; exact hacc⟩, hbl⟩
    have e1 : decide (((i + 1 : Nat) : Int) < (len : Int)) = true := decide_eq_true (by omega)
    have e1' : decide (i + 1 < len) = true := decide_eq_true hc1
    by_cases hc2 : j < 6
    case neg =>
      have e2 : decide ((j : Int) < 6) = false := decide_eq_false (by omega)
      have e2' : decide (j < 6) = false := decide_eq_false hc2
      go_wp2_with fail
      go_ret
      rw [← HX.out (fun h => hc2 (by rw [← Hj.out]; exact h.2))]
      exact ⟨⟨_, rfl, hR, HG.out, by rw [Hj.out]; exact hacc⟩, hbl⟩
    have e2 : decide ((j : Int) < 6) = true := decide_eq_true (by omega)
    have e2' : decide (j < 6) = true := decide_eq_true hc2
    have e3 : (i : Int) < (len : Int) := by omega
    have e4 : ((i + 1 : Nat) : Int) < (len : Int) := by omega
    obtain ⟨b, off, rfl, hb, hlc, hcells⟩ := Hopen.out (by omega)
    obtain ⟨c0, wf0⟩ := hcells i (by omega)
    obtain ⟨c1, wf1⟩ := hcells (i + 1) (by omega)
    replace c0 := cell_kept hbl c0
    replace c1 := cell_kept hbl c1
    replace HS := Lib.hid (HS.out hc1 (by rw [Hj.out]; exact hc2))
    generalize zs.getD i 0 = x1 at *
    generalize zs.getD (i + 1) 0 = x2 at *
    have hx1 : 0 ≤ x1 ∧ x1 ≤ 255 := by simpa [Lit.wf, IntKind.min, IntKind.max, IntKind.signed, IntKind.bits] using wf0
    have hx2 : 0 ≤ x2 ∧ x2 ≤ 255 := by simpa [Lit.wf, IntKind.min, IntKind.max, IntKind.signed, IntKind.bits] using wf1
    clear hcells wf0 wf1 Hopen
    obtain ⟨hx1a, hx1b⟩ := hx1
    obtain ⟨hx2a, hx2b⟩ := hx2
    obtain ⟨q, hq1, hq2⟩ : ∃ R : Nat, x1 % 5 = (R : Int) ∧ R < 5 := ⟨(x1 % 5).toNat, by omega, by omega⟩
    obtain ⟨A, hA⟩ : ∃ R : Nat, x1 / 5 = (R : Int) := ⟨(x1 / 5).toNat, by omega⟩
    obtain ⟨Bq, hBq, hBq'⟩ : ∃ R : Nat, (A : Int) % 20 = (R : Int) ∧ R < 20 := ⟨((A : Int) % 20).toNat, by omega, by omega⟩
    obtain ⟨D, hD, hD'⟩ : ∃ R : Nat, x2 % 255 = (R : Int) ∧ R < 255 := ⟨(x2 % 255).toNat, by omega, by omega⟩
    obtain ⟨n, hn, hn'⟩ : ∃ R : Nat, x2 % 20 = (R : Int) ∧ R < 20 := ⟨(x2 % 20).toNat, by omega, by omega⟩
    have hu1 := wrap_of (97 + (Bq : Int))
    obtain ⟨u1, hu1e⟩ : ∃ u, u8of (97 + (Bq : Int)) = u := ⟨_, rfl⟩
    rw [hu1e] at hu1
    have hu2 := wrap_of (1 + (D : Int))
    obtain ⟨u2, hu2e⟩ : ∃ u, u8of (1 + (D : Int)) = u := ⟨_, rfl⟩
    rw [hu2e] at hu2
    have hu8 : ∀ z : Int, IntKind.u8.wrap z = z % 256 := fun z => by simp [IntKind.wrap, IntKind.bits, IntKind.signed]
    have hz1 : u1 ≠ 0 := by intro e; rw [hu8, e] at hu1; have : ((0 : UInt8).toNat : Int) = 0 := rfl; omega
    have hz2 : u2 ≠ 0 := by intro e; rw [hu8, e] at hu2; have : ((0 : UInt8).toNat : Int) = 0 := rfl; omega
    obtain ⟨PF, hqw, hpa, hpb, hpc, hpx⟩ := Hpf.out q hq2
    have hpf := And.intro hpa (And.intro hpb hpc)
    clear hpa hpb hpc
    obtain ⟨NB, hNB⟩ : ∃ N : ByteArray, (⟨#[u1, u2]⟩ : ByteArray) = N := ⟨_, rfl⟩
    obtain ⟨NM, hNM⟩ : ∃ N : ByteArray, PF ++ NB = N := ⟨_, rfl⟩
    have hNl : NM.data.toList = PF.data.toList ++ [u1, u2] := by rw [← hNM, bytes_list, ← hNB]
    have HNX := Lib.hid (show NM.data.toList = nameX x1 x2 by rw [hNl, nameX, hq1, hA, hBq, hD, hu1e, hu2e, Int.toNat_natCast, hpx])
    have HVX := Lib.hid (fun (vb : List UInt8) (hl : vb.length = n) h => val_is (x1 := x1) hn hl h)
    clear hu1e hu2e hpx
    have HOK := Lib.hid (fun (V : List UInt8) (h : V.length ≤ 19) => name_ok (V := V) hpf hz1 hz2 h)
    have hNBs : NB.size = 2 := by rw [← hNB]; rfl
    have hPFs : PF.size ≤ 9 := by rw [← len_list]; exact hpf.2.2.1
    have b1 : ¬ 9223372036854775807 < PF.size + NB.size := by omega
    have b2 : ¬ 9223372036854775807 < PF.size + 2 := by omega
    have t5 : x1.tmod 5 = (q : Int) := by rw [Int.tmod_eq_emod_of_nonneg hx1a]; exact hq1
    have d5 : x1.tdiv 5 = (A : Int) := by rw [Int.tdiv_eq_ediv_of_nonneg hx1a]; exact hA
    have t20 : ((A : Nat) : Int).tmod 20 = (Bq : Int) := by rw [Int.tmod_eq_emod_of_nonneg (by omega)]; exact hBq
    have t255 : x2.tmod 255 = (D : Int) := by rw [Int.tmod_eq_emod_of_nonneg hx2a]; exact hD
    have t20' : x2.tmod 20 = (n : Int) := by rw [Int.tmod_eq_emod_of_nonneg hx2a]; exact hn
    have wA : IntKind.u8.wrap (A : Int) = (A : Int) := by rw [hu8]; omega
    have w2i : IntKind.i64.wrap x2 = x2 := by rw [IntKind.wrap_i64]; omega
    have hq3 : (q : Int) < 5 := by omega
    have hsz := hbl.size
    have e5 : 0 ≤ ((i + 1 : Nat) : Int) ∧ ((i + 1 : Nat) : Int) < (len : Int) := by omega
    have Hn := Lib.hid hn'
    rw [← hNl] at HOK
    clear hq1 hA hBq hD hn hz1 hz2 hpf hNl hu8 hBq' hD' hn'
    go_wp2_with fail
    refine region_lastqgL (S := fun W => Below wr.heap.size wr W) 25
      [(fun W v => ∃ g, v = .slice (some ⟨g, 0, none⟩) 5 5 ∧ BlkIs W g 9 #[.string P0, .string P1, .string P2, .string P3, .string P4]),
     (fun W v => v = .slice (some ⟨b, off, none⟩) len cap),
     (fun W v => v = .int .i64 (i : Nat)),
     (fun W v => v = .pointer (some ⟨b, off + i, none⟩)),
     (fun W v => v = .int .u8 x1),
     (fun W v => v = .int .u8 (q : Nat)),
     (fun W v => ∃ g, v = .pointer (some ⟨g, q, none⟩) ∧ BlkIs W g 9 #[.string P0, .string P1, .string P2, .string P3, .string P4]),
     (fun W v => v = .string PF),
     (fun W v => v = .slice (some ⟨b, off, none⟩) len cap),
     (fun W v => v = .int .i64 (i : Nat)),
     (fun W v => v = .pointer (some ⟨b, off + i, none⟩)),
     (fun W v => v = .int .u8 x1),
     (fun W v => v = .int .u8 (A : Nat)),
     (fun W v => v = .int .u8 (Bq : Nat)),
     (fun W v => v = .int .u8 (u1.toNat : Int)),
     (fun W v => v = .slice (some ⟨b, off, none⟩) len cap),
     (fun W v => v = .int .i64 (i : Nat)),
     (fun W v => v = .int .i64 ((i + 1 : Nat) : Int)),
     (fun W v => v = .pointer (some ⟨b, off + (i + 1), none⟩)),
     (fun W v => v = .int .u8 x2),
     (fun W v => v = .int .u8 (D : Nat)),
     (fun W v => v = .int .u8 (u2.toNat : Int)),
     (fun W v => ∃ g, v = .slice (some ⟨g, 0, none⟩) 2 2 ∧ BlkIs W g 5 (cellsOf [u1, u2])),
     (fun W v => v = .string NB),
     (fun W v => v = .string NM)] (by rfl) (by kernel_rfl) (by kernel_rfl) (by kernel_rfl) (by kernel_rfl) (by rfl) (by kernel_rfl) ?hS ?hp ?hs ?he
    case hS => exact gr_drew (Below.refl _ _)
    case hp => repeat' (first | exact trivial | refine ⟨fun _ _ _ _ h => h, ?_⟩ | refine ⟨fun _ _ _ hb h => ?_, ?_⟩ | (obtain ⟨h', e1, e3⟩ := h; exact ⟨h', e1, e3.kept hb e3.size⟩))
    case hs =>
      simp only [List.take_succ_cons, List.take_zero]
      have C0 := c0
      have C1 := c1
      refine ⟨?_, ?_, ?_, ?_, ?_, ?_, ?_, ?_, ?_, ?_, ?_, ?_, ?_, ?_, ?_, ?_, ?_, ?_, ?_, ?_, ?_, ?_, ?_, ?_, ?_, trivial⟩
      · refine ⟨met_none rfl, ?_⟩
        intro a W K hS hd hf hK
        clear hd hf
        go_simp
        exact hK _ _ ((Below.refl _ _).alloc (Nat.le_refl _) _) (gr_alloc hS _) ⟨_, rfl, BlkIs.made _ _ _⟩
      · refine ⟨met_none rfl, ?_⟩
        intro a W K hS hd hf hK
        have e0 : a.tmps.getD 0 undef = .slice (some ⟨b, off, none⟩) len cap := hf 0 (by kernel_rfl)
        clear hd hf
        go_simp
        exact hK _ _ (Below.refl _ _) hS rfl
      · refine ⟨met_none rfl, ?_⟩
        intro a W K hS hd hf hK
        have e4 : a.tmps.getD 4 undef = .int .i64 (i : Nat) := hf 4 (by kernel_rfl)
        clear hd hf
        go_simp
        exact hK _ _ (Below.refl _ _) hS rfl
      · refine ⟨met_none rfl, ?_⟩
        intro a W K hS hd hf hK
        have e21 : a.tmps.getD 21 undef = .slice (some ⟨b, off, none⟩) len cap := hd ⟨1, .data⟩ (by simp) rfl
        have e22 : a.tmps.getD 22 undef = .int .i64 (i : Nat) := hd ⟨2, .data⟩ (by simp) rfl
        clear hd hf
        go_simp
        exact hK _ _ (Below.refl _ _) hS rfl
      · refine ⟨met_none rfl, ?_⟩
        intro a W K hS hd hf hK
        have e23 : a.tmps.getD 23 undef = .pointer (some ⟨b, off + i, none⟩) := hd ⟨3, .data⟩ (by simp) rfl
        have c0 := cell_kept hS C0
        clear hd hf
        go_simp
        exact hK _ _ (Below.refl _ _) hS rfl
      · refine ⟨met_none rfl, ?_⟩
        intro a W K hS hd hf hK
        have e24 : a.tmps.getD 24 undef = .int .u8 x1 := hd ⟨4, .data⟩ (by simp) rfl
        clear hd hf
        go_simp
        exact hK _ _ (Below.refl _ _) hS rfl
      · refine ⟨met_none rfl, ?_⟩
        intro a W K hS hd hf hK
        have p20 := hd ⟨0, .data⟩ (by simp) rfl
        have e25 : a.tmps.getD 25 undef = .int .u8 (q : Nat) := hd ⟨5, .data⟩ (by simp) rfl
        obtain ⟨g, e20, hg⟩ := p20
        replace e20 : a.tmps.getD 20 undef = .slice (some ⟨g, 0, none⟩) 5 5 := e20
        clear hd hf
        go_simp
        exact hK _ _ (Below.refl _ _) hS ⟨g, rfl, hg⟩
      · refine ⟨met_none rfl, ?_⟩
        intro a W K hS hd hf hK
        have p26 := hd ⟨6, .data⟩ (by simp) rfl
        obtain ⟨g, e26, hg⟩ := p26
        replace e26 : a.tmps.getD 26 undef = .pointer (some ⟨g, q, none⟩) := e26
        have c0 := hg.cell_some q _ hqw
        clear hd hf
        go_simp
        exact hK _ _ (Below.refl _ _) hS rfl
      · refine ⟨met_none rfl, ?_⟩
        intro a W K hS hd hf hK
        have e0 : a.tmps.getD 0 undef = .slice (some ⟨b, off, none⟩) len cap := hf 0 (by kernel_rfl)
        clear hd hf
        go_simp
        exact hK _ _ (Below.refl _ _) hS rfl
      · refine ⟨met_none rfl, ?_⟩
        intro a W K hS hd hf hK
        have e4 : a.tmps.getD 4 undef = .int .i64 (i : Nat) := hf 4 (by kernel_rfl)
        clear hd hf
        go_simp
        exact hK _ _ (Below.refl _ _) hS rfl
      · refine ⟨met_none rfl, ?_⟩
        intro a W K hS hd hf hK
        have e28 : a.tmps.getD 28 undef = .slice (some ⟨b, off, none⟩) len cap := hd ⟨8, .data⟩ (by simp) rfl
        have e29 : a.tmps.getD 29 undef = .int .i64 (i : Nat) := hd ⟨9, .data⟩ (by simp) rfl
        clear hd hf
        go_simp
        exact hK _ _ (Below.refl _ _) hS rfl
      · refine ⟨met_none rfl, ?_⟩
        intro a W K hS hd hf hK
        have e30 : a.tmps.getD 30 undef = .pointer (some ⟨b, off + i, none⟩) := hd ⟨10, .data⟩ (by simp) rfl
        have c0 := cell_kept hS C0
        clear hd hf
        go_simp
        exact hK _ _ (Below.refl _ _) hS rfl
      · refine ⟨met_none rfl, ?_⟩
        intro a W K hS hd hf hK
        have e31 : a.tmps.getD 31 undef = .int .u8 x1 := hd ⟨11, .data⟩ (by simp) rfl
        clear hd hf
        go_simp
        exact hK _ _ (Below.refl _ _) hS rfl
      · refine ⟨met_none rfl, ?_⟩
        intro a W K hS hd hf hK
        have e32 : a.tmps.getD 32 undef = .int .u8 (A : Nat) := hd ⟨12, .data⟩ (by simp) rfl
        clear hd hf
        go_simp
        exact hK _ _ (Below.refl _ _) hS rfl
      · refine ⟨met_none rfl, ?_⟩
        intro a W K hS hd hf hK
        have e33 : a.tmps.getD 33 undef = .int .u8 (Bq : Nat) := hd ⟨13, .data⟩ (by simp) rfl
        clear hd hf
        go_simp
        exact hK _ _ (Below.refl _ _) hS rfl
      · refine ⟨met_none rfl, ?_⟩
        intro a W K hS hd hf hK
        have e0 : a.tmps.getD 0 undef = .slice (some ⟨b, off, none⟩) len cap := hf 0 (by kernel_rfl)
        clear hd hf
        go_simp
        exact hK _ _ (Below.refl _ _) hS rfl
      · refine ⟨met_none rfl, ?_⟩
        intro a W K hS hd hf hK
        have e4 : a.tmps.getD 4 undef = .int .i64 (i : Nat) := hf 4 (by kernel_rfl)
        clear hd hf
        go_simp
        exact hK _ _ (Below.refl _ _) hS rfl
      · refine ⟨met_none rfl, ?_⟩
        intro a W K hS hd hf hK
        have e36 : a.tmps.getD 36 undef = .int .i64 (i : Nat) := hd ⟨16, .data⟩ (by simp) rfl
        clear hd hf
        go_simp
        exact hK _ _ (Below.refl _ _) hS rfl
      · refine ⟨met_none rfl, ?_⟩
        intro a W K hS hd hf hK
        have e35 : a.tmps.getD 35 undef = .slice (some ⟨b, off, none⟩) len cap := hd ⟨15, .data⟩ (by simp) rfl
        have e37 : a.tmps.getD 37 undef = .int .i64 ((i + 1 : Nat) : Int) := hd ⟨17, .data⟩ (by simp) rfl
        clear hd hf
        go_simp
        exact hK _ _ (Below.refl _ _) hS rfl
      · refine ⟨met_none rfl, ?_⟩
        intro a W K hS hd hf hK
        have e38 : a.tmps.getD 38 undef = .pointer (some ⟨b, off + (i + 1), none⟩) := hd ⟨18, .data⟩ (by simp) rfl
        have c0 := cell_kept hS C1
        clear hd hf
        go_simp
        exact hK _ _ (Below.refl _ _) hS rfl
      · refine ⟨met_none rfl, ?_⟩
        intro a W K hS hd hf hK
        have e39 : a.tmps.getD 39 undef = .int .u8 x2 := hd ⟨19, .data⟩ (by simp) rfl
        clear hd hf
        go_simp
        exact hK _ _ (Below.refl _ _) hS rfl
      · refine ⟨met_none rfl, ?_⟩
        intro a W K hS hd hf hK
        have e40 : a.tmps.getD 40 undef = .int .u8 (D : Nat) := hd ⟨20, .data⟩ (by simp) rfl
        clear hd hf
        go_simp
        exact hK _ _ (Below.refl _ _) hS rfl
      · refine ⟨met_none rfl, ?_⟩
        intro a W K hS hd hf hK
        have e34 : a.tmps.getD 34 undef = .int .u8 (u1.toNat : Int) := hd ⟨14, .data⟩ (by simp) rfl
        have e41 : a.tmps.getD 41 undef = .int .u8 (u2.toNat : Int) := hd ⟨21, .data⟩ (by simp) rfl
        have f1 := e34
        rw [Array.getD_eq_getD_getElem?] at f1
        have f2 := e41
        rw [Array.getD_eq_getD_getElem?] at f2
        clear hd hf
        go_simp
        exact hK _ _ ((Below.refl _ _).alloc (Nat.le_refl _) _) (gr_alloc hS _) ⟨_, rfl, BlkIs.made _ _ _⟩
      · refine ⟨met_none rfl, ?_⟩
        intro a W K hS hd hf hK
        have p42 := hd ⟨22, .data⟩ (by simp) rfl
        obtain ⟨g, e42, hg⟩ := p42
        replace e42 : a.tmps.getD 42 undef = .slice (some ⟨g, 0, none⟩) 2 2 := e42
        have hcv := conv_back (P := Try.prog) (src := 41) (dst := 9) [u1, u2] 2 hg Try.underlying41 Try.underlying5 Try.underlying9
        replace hcv : (convert 41 9 (.slice (some ⟨g, 0, none⟩) 2 2)).run Try.prog W = .ok (.string ⟨#[u1, u2]⟩) W := hcv
        rw [hNB] at hcv
        clear hd hf
        go_simp
        exact hK _ _ (Below.refl _ _) hS rfl
      · refine ⟨met_none rfl, ?_⟩
        intro a W K hS hd hf hK
        have e27 : a.tmps.getD 27 undef = .string PF := hd ⟨7, .data⟩ (by simp) rfl
        have e43 : a.tmps.getD 43 undef = .string NB := hd ⟨23, .data⟩ (by simp) rfl
        clear hd hf
        go_simp
        exact hK _ _ (Below.refl _ _) hS rfl
    case he =>
      intro vals w6 K hS6 hV hK
      have e44 := hV 24 (by omega)
      clear hV
      simp only [List.getD_cons_succ, List.getD_cons_zero] at e44
      refine Later.mk ?_
      simp only [List.append_eq, List.cons_append, List.nil_append, setN, Nat.reduceAdd, List.setIfInBounds_toArray, List.set_cons_succ, List.set_cons_zero]
      rw [e44]
      go_simp
      refine hK _ _ ?_
      clear hK e44
      replace hR := hR.call hS6
      replace hbl := gr_call hbl hS6
      replace c0 := cell_kept hS6 c0
      replace c1 := cell_kept hS6 c1
      clear hS6 hqw hNB hNM t5 d5 t20 t255 hu1 hu2 wA
      have hn20 := Hn.out
      have hs6 := hbl.size
      have hR6 := hR
      go_wp2_with (at_make; refine wp_make rfl _ _ rfl w6 n n n rfl rfl rfl rfl (by omega) ?_)
      intro w7 hr7 hb7 _
      replace hR := hR.call hb7
      replace hbl := gr_call hbl hb7
      replace c0 := cell_kept hb7 c0
      clear c1
      obtain ⟨G, hG⟩ : ∃ G, w6.heap.size = G := ⟨_, rfl⟩
      rw [hG] at hr7 ⊢
      obtain ⟨hri, hrl⟩ := row_is hr7
      have hGw : w.heap.size ≤ G := by rw [← hG]; omega
      have hown : ∀ k, (Value.slice p j cp).ownBlock = some k → k < G := by
        intro k e
        have := (hR6.lt k e).2
        omega
      have hbg : (⟨b, off + i, none⟩ : Addr).block < G := by show b < G; omega
      clear hr7 hb7 hG hR6
      go_wp2_with fail
      go_loopw [7] (fun kv w9 => ∃ (k : Nat) (vb : List UInt8), kv = .int .i64 (k : Int) ∧ k ≤ n ∧ Below G w7 w9 ∧ RowIs w9 G 5 vb ∧ vb.length = n ∧ Hid (∀ q, q < k → vb[q]? = some (u8of (x1 * ((q : Int) + 1))))) (fun kv _ => n - (intOf kv).toNat)
      case atStart => exact ⟨0, _, rfl, by omega, Below.refl _ _, hri, hrl, Lib.hid (fun q h => absurd h (Nat.not_lt_zero q))⟩
      case round =>
        clear hri hrl
        obtain ⟨k, vb, rfl, hk, hbG, hri, hrl, HVB⟩ := hrel
        rename World => wr
        have hblr : Below w.heap.size w wr := hbl.trans (hbG.mono hGw)
        have hc0 := cell_below hbG hbg c0
        by_cases hkn : k < n
        · have hk1 : decide ((k : Int) < (n : Int)) = true := decide_eq_true (by omega)
          have hk2 : decide (k < n) = true := decide_eq_true hkn
          have hk3 : (k : Int) < (n : Int) := by omega
          have huv := mod_of (x1 * ((k : Int) + 1))
          have HSM := Lib.hid (set_more (x1 := x1) (k := k) (vb := vb) (by omega) HVB.out rfl)
          generalize u8of (x1 * ((k : Int) + 1)) = uv at huv HSM
          have huv2 : IntKind.u8.wrap (x1 * ((k : Int) + 1)) = (uv.toNat : Int) := by rw [← huv]; simp [IntKind.wrap, IntKind.bits, IntKind.signed]
          have hwk : IntKind.i64.wrap ((k : Int) + 1) = (k : Int) + 1 := by rw [IntKind.wrap_i64]; omega
          have hcl := hri.cell k (by omega)
          have hfr := hri.free k (by omega)
          have hput := hri.put k uv
          have hbp : Below G w7 (wr.setCell ⟨G, k, none⟩ (.int .u8 (uv.toNat : Int))) := hbG.setCell (p := ⟨G, k, none⟩) (Nat.le_refl _) _
          clear hri
          go_wp2_with fail
          try rw [huv]
          go_roundw
          case rel => exact ⟨k + 1, _, rfl, by omega, hbp, hput, by rw [List.length_set]; exact hrl, HSM⟩
          case measure => simp only [intOf]; omega
        · have hk1 : decide ((k : Int) < (n : Int)) = false := decide_eq_false (by omega)
          have hk2 : decide (k < n) = false := decide_eq_false hkn
          have hcv := hri.back n (P := Try.prog) (src := 41) (dst := 9) Try.underlying41 Try.underlying5 Try.underlying9
          rw [hrl] at hcv
          obtain ⟨VB, hVB⟩ : ∃ V : ByteArray, (⟨vb.toArray⟩ : ByteArray) = V := ⟨_, rfl⟩
          have hVl : VB.data.toList = vb := by rw [← hVB]
          rw [hVB] at hcv
          have hbd := build_xat NM VB
          have hadd := Lib.hid (Hadd.out (.slice p j cp) acc NM VB wr (row_far hR hbG hown).at (by rw [Hj.out]; omega))
          have hok := HOK.out VB.data.toList (by rw [hVl, hrl]; omega)
          have hkn2 : k = n := by omega
          replace HS := Lib.hid HS.out
          rw [← HNX.out, ← HVX.out vb hrl (fun q hq => HVB.out q (by omega)), ← hVl] at HS
          have HG2 := Lib.hid (HG.out.put (a := (NM.data.toList, VB.data.toList)) hok.1 hok.2 (by simp only; rw [hVl, hrl]; omega))
          have hpl := (put_len acc (NM.data.toList, VB.data.toList)).2
          rw [Hj.out] at hpl
          replace HG2 := Lib.hid (And.intro HG2.out HS.out)
          clear hkn2 HS
          clear hri hok hVl hVB hbG hR hc0 c0
          go_wp2_with fail
          refine (hadd.out).mono ?_
          rintro e w9 ⟨⟨v9, rfl, hR9⟩, hb9⟩
          have hbl9 := gr_call hblr hb9
          have hR10 := hR9.mono hblr.size
          have wi2 : IntKind.i64.wrap ((i : Int) + 2) = ((2 * (m + 1) : Nat) : Int) := by rw [IntKind.wrap_i64]; have := Hi.out; omega
          go_wp2_with fail
          go_roundw
          case rel => exact ⟨m + 1, _, rfl, by have := Hi.out; omega, by omega, hR10, hbl9, HG2⟩
          case measure => simp only [intOf]; have := Hi.out; omega
end Go.Proofs.Ytpfidbcnefnhcaa.XatW

/- How the laws make capabilities by numbers. -/
namespace Go.Proofs.Ytpfidbcnefnhcaa
open Go.RowKit
open CapsM
set_option linter.unusedVariables false

def mkC (p i x r : Nat) : Cap := ⟨(2 + x % 2 : Nat), p, i, decide (128 ≤ x), ((if x % 2 = 1 then r / 2 else 0 : Nat) : Int)⟩
theorem mk_may (p i x r : Nat) (hr : r < 4294967296) : may (mkC p i x r) = true := by
  have : x % 2 = 0 ∨ x % 2 = 1 := by omega
  rcases this with h | h
  · simp [mkC, may, h]
  · simp [mkC, may, h]; omega
set_option maxHeartbeats 800000 in
theorem CapsMake_any (p i x r : Nat) (hx : x < 256) (hr : r < 4294967296) (w : World) :
    Calls Try.prog 36 #[.int .u64 (p : Int), .int .u64 (i : Int), .int .u8 (x : Int), .int .u32 (r : Int)] w fun e w' => e = .returned (capV (mkC p i x r)) ∧ Below w.heap.size w w' := by
  have hrw : IntKind.i64.wrap (r : Int) = (r : Int) := by rw [IntKind.wrap_i64]; omega
  obtain ⟨b, hb⟩ : ∃ b, decide (128 ≤ x) = b := ⟨_, rfl⟩
  have hb1 : decide (128 ≤ (x : Int)) = b := by rw [← hb]; exact decide_eq_decide.2 (by omega)
  have h2 : x % 2 = 0 ∨ x % 2 = 1 := by omega
  rcases h2 with h | h
  · have ht : Int.tmod (x : Int) 2 = 0 := by rw [Int.tmod_eq_emod_of_nonneg (by omega)]; omega
    have hm : (x : Int) % 2 = 0 := by omega
    have hE : mkC p i x r = ⟨2, p, i, b, 0⟩ := by unfold mkC; rw [h, hb]; rfl
    rw [hE]
    have HX := Lib.hid hx
    clear h hE hb
    go_enter Try.func36, Try.ntmps36
    go_wp2_with fail
    exact bodyPost_ret (v := capV ⟨2, p, i, b, 0⟩) (by simp [results, Try.results36, go_sem, capV, *]) rfl ⟨rfl, by (repeat' (first | exact Below.refl _ _ | assumption | refine gr_drew ?_ | refine gr_drewN ?_ _ | refine gr_alloc ?_ _ | refine gr_set ?_ ?_ _ | refine gr_call ?_ (by assumption)) <;> (try (simp; done)) <;> (try (simp; omega)) <;> (try omega))⟩
  · have ht : Int.tmod (x : Int) 2 = 1 := by rw [Int.tmod_eq_emod_of_nonneg (by omega)]; omega
    have hm : (x : Int) % 2 = 1 := by omega
    obtain ⟨R, hR⟩ : ∃ R, r / 2 = R := ⟨_, rfl⟩
    have hR2 : (r : Int) / 2 = (R : Int) := by rw [← hR]; rfl
    have hE : mkC p i x r = ⟨3, p, i, b, (R : Int)⟩ := by unfold mkC; rw [h, hb, if_pos rfl, hR]; rfl
    rw [hE]
    have HX := Lib.hid hx
    clear h hE hb hR
    go_enter Try.func36, Try.ntmps36
    go_wp2_with fail
    exact bodyPost_ret (v := capV ⟨3, p, i, b, (R : Int)⟩) (by simp [results, Try.results36, go_sem, capV, *]) rfl ⟨rfl, by (repeat' (first | exact Below.refl _ _ | assumption | refine gr_drew ?_ | refine gr_drewN ?_ _ | refine gr_alloc ?_ _ | refine gr_set ?_ ?_ _ | refine gr_call ?_ (by assumption)) <;> (try (simp; done)) <;> (try (simp; omega)) <;> (try omega))⟩
end Go.Proofs.Ytpfidbcnefnhcaa

/- Which kinds bear what: the five nodes of the law MetaKinds. -/
namespace Go.Proofs.Ytpfidbcnefnhcaa
open MetaM
namespace MetaM
def kAny (k : Int) : Prop := k = 1 ∨ k = 3 ∨ k = 4 ∨ k = 5 ∨ k = 6 ∨ k = 7
def withDfl (n : Int) (l : List AclM.Ace) : Mt := ⟨n, 1, 2, 0, 0, [], l, [], ⟨0, 0, 0, false, 0⟩, 0⟩
def withCap (n : Int) : Mt := ⟨n, 1, 2, 0, 0, [], [], [], ⟨2, 0, 0, false, 0⟩, 0⟩
def withAcl (n : Int) (l : List AclM.Ace) : Mt := ⟨n, 1, 2, 0, 0, l, [], [], ⟨0, 0, 0, false, 0⟩, 0⟩
def withFlags (n : Int) : Mt := ⟨n, 1, 2, 0, 0, [], [], [], ⟨0, 0, 0, false, 0⟩, 1⟩
theorem mode_ok {n : Int} (h0 : 0 ≤ n) (h1 : n ≤ 4095) : modeOk n = true := by unfold modeOk; rw [decide_eq_true h0, decide_eq_true h1]; rfl
end MetaM
end Go.Proofs.Ytpfidbcnefnhcaa

/- Metadata by numbers, as a function of the numbers. -/
namespace Go.Proofs.Ytpfidbcnefnhcaa
open Go.RowKit
open MetaM
set_option linter.unusedVariables false
namespace MetaM
def numK (zs : List Int) (len : Nat) (i : Nat) : Int := if i < len then zs.getD i 0 else 0
def xatK (zs : List Int) (len : Nat) : List XatM.Xa := if 12 < len then XatW.madeX (zs.drop 12) (len - 12) else []
def modeK (zs : List Int) (len : Nat) : Int := numK zs len 0 * 16 + numK zs len 1 % 16
def capK (zs : List Int) (len : Nat) (k : Int) : CapsM.Cap :=
  if k = 1 ∧ numK zs len 10 % 3 = 0 ∧ 10 < len then mkC (numK zs len 8).toNat (numK zs len 9 * 1099511627776).toNat (zs.getD 10 0).toNat (numK zs len 11).toNat else ⟨0, 0, 0, false, 0⟩
def aclK (zs : List Int) (len : Nat) (n : Int) : List AclM.Ace := if numK zs len 7 % 2 = 1 then AclW.madeL (zs.drop 8) (len - 8) (n % 512) else []
def dflK (zs : List Int) (len : Nat) (k : Int) : List AclM.Ace := if k = 6 ∧ 2 ≤ numK zs len 7 % 4 then AclW.madeL (zs.drop (min len 9)) (len - min len 9) (numK zs len 9) else []
def madeM (zs : List Int) (len : Nat) (k : Int) : Mt :=
  if k = 3 then ⟨511, numK zs len 2 % 6, numK zs len 3 % 6, numK zs len 4 * 1000 - 50000, numK zs len 5 % 2 * 500000000, [], [], xatK zs len, ⟨0, 0, 0, false, 0⟩, 0⟩
  else ⟨modeK zs len, numK zs len 2 % 6, numK zs len 3 % 6, numK zs len 4 * 1000 - 50000, numK zs len 5 % 2 * 500000000, aclK zs len (modeK zs len), dflK zs len k, xatK zs len, capK zs len k, numK zs len 6 % 16⟩
end MetaM
theorem IsRow.tail {k : IntKind} {w : World} {b off len cap : Nat} {zs : List Int} (h : IsRow k w (some ⟨b, off, none⟩) len cap zs) (n : Nat) (hn : n ≤ len) :
    IsRow k w (some ⟨b, off + n, none⟩) (len - n) (cap - n) (zs.drop n) := by
  rcases h with ⟨h, _⟩ | ⟨x, hx, hl, hm, hz, hc, hw⟩
  · cases h
  · cases hx
    refine .inr ⟨_, rfl, by omega, by omega, by simp [hz], fun i hi => ?_, fun q hq => hw q (List.mem_of_mem_drop hq)⟩
    have := hc (n + i) (by simp at hi; omega)
    have e : (zs.drop n).getD i 0 = zs.getD (n + i) 0 := by simp [List.getD_eq_getElem?_getD, List.getElem?_drop]
    rw [e]
    have e2 : (⟨b, off + n, none⟩ : Addr).add i = (⟨b, off, none⟩ : Addr).add (n + i) := by
      by_cases h1 : i = 0 <;> by_cases h2 : n = 0 <;> simp [Addr.add, Nat.add_assoc, h1, h2]
    rw [e2]
    exact this
end Go.Proofs.Ytpfidbcnefnhcaa
