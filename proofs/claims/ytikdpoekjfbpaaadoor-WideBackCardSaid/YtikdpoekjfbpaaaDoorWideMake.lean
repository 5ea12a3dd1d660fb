/- Lists by numbers: Digits and Make, walked. -/
import Derived.Test.YtikdpoekjfbpaaaDoorWideAwake
import Derived.Test.YtikdpoekjfbpaaaDoorArg
import Derived.Test.YtikdpoekjfbpaaaDoorRegionR
namespace Go.Proofs.YtikdpoekjfbpaaaDoor
open Go.RowKit
open WideM DecM
open Go.Lib (decDigits)
set_option linter.unusedVariables false

theorem rdec_step (m : Nat) (h : 10 ≤ m) : decDigits m = decDigits (m / 10) ++ [UInt8.ofNat (48 + m % 10)] := by
  rw [decDigits, dif_neg (by omega)]
theorem refDigits_any (n : Nat) (w : World) (hn : n < 9223372036854775808) :
    Calls Tryd.prog 29 #[.int .i64 n] w fun e w' => e = .returned (.string (strOf (decDigits n))) ∧ Below w.heap.size w w' := by
  have hl : (decDigits n).length ≤ 19 := dec_len 18 n (by omega)
  have Hl := Lib.hid hl
  clear hl
  go_enter Tryd.func29, Tryd.ntmps29
  go_wp2_with fail
  go_loopw [0, 3] (fun nv sv wr => ∃ (m : Nat) (S : List UInt8), m ≤ n ∧ nv = .int .i64 m ∧ sv = .string ⟨S.toArray⟩ ∧ Hid (decDigits m ++ S = decDigits n) ∧ Below w.heap.size w wr) (fun nv _ _ => (intOf nv).toNat)
  case atStart => exact ⟨n, [], Nat.le_refl _, rfl, rfl, by simp [Hid], Below.refl _ _⟩
  case round =>
    obtain ⟨m, S, hm, rfl, rfl, HS, hbl⟩ := hrel
    have hS : S.length ≤ 19 := by
      have := congrArg List.length HS.out
      have h2 := Hl.out
      simp at this; omega
    by_cases hgo : 10 ≤ m
    · have hu : (48 + (m : Int) % 10) = ((UInt8.ofNat (48 + m % 10)).toNat : Int) := by simp; omega
      have HS' := Lib.hid (show decDigits (m / 10) ++ (UInt8.ofNat (48 + m % 10) :: S) = decDigits n by rw [← HS.out, rdec_step m hgo]; simp)
      generalize UInt8.ofNat (48 + m % 10) = u at *
      have hcv := fun W => conv_one (P := Tryd.prog) (src := 38) (dst := 9) Tryd.underlying38 Tryd.underlying5 Tryd.underlying9 u (48 + (m : Int) % 10) hu W
      clear hu HS
      have hbl2 := gr_alloc hbl (.cells #[.int .u8 (48 + (m : Int) % 10)] 5)
      go_wp2
      all_goals
        go_roundw
        case rel => exact ⟨m / 10, u :: S, by omega, by go_num, by rw [one_more], HS', hbl2⟩
        case measure => simp [intOf]; omega
    · have hu : (48 + (m : Int)) = ((UInt8.ofNat (48 + m)).toNat : Int) := by simp; omega
      have Hd := Lib.hid (show decDigits n = UInt8.ofNat (48 + m) :: S by rw [← HS.out, decDigits, dif_pos (by omega)]; rfl)
      generalize UInt8.ofNat (48 + m) = u at *
      have hcv := fun W => conv_one (P := Tryd.prog) (src := 38) (dst := 9) Tryd.underlying38 Tryd.underlying5 Tryd.underlying9 u (48 + (m : Int)) hu W
      have hlt : decide ((10 : Int) ≤ (m : Int)) = false := by simp; omega
      clear hu HS
      go_wp2
      go_ret
      exact ⟨ret_bytes (by rw [Hd.out]; simp), by (repeat' (first | exact Below.refl _ _ | assumption | refine gr_drew ?_ | refine gr_drewN ?_ _ | refine gr_alloc ?_ _ | refine gr_set ?_ ?_ _ | refine gr_call ?_ (by assumption)) <;> (try (simp; done)) <;> (try (simp; omega)) <;> (try omega))⟩



def lit1 : List UInt8 := [79, 87, 78, 69, 82, 64]
def lit2 : List UInt8 := [71, 82, 79, 85, 80, 64]
def lit3 : List UInt8 := [69, 86, 69, 82, 89, 79, 78, 69, 64]
theorem okWho_digits (n : Nat) (hn : n < 100) : okWho (decDigits n) = true := by
  have h1 := dec_ne n
  have h2 := dec_len 1 n (by omega)
  have h3 : anyOf (decDigits n) noL = false := by
    unfold anyOf
    rw [List.any_eq_false]
    intro c hc
    have := AclM.isDig_of (dec_dig n c hc)
    intro e
    simp only [noL, List.contains_eq_mem, List.mem_cons, List.not_mem_nil, or_false, decide_eq_true_eq] at e
    rcases e with rfl | rfl | rfl | rfl
    · exact absurd this.1 (by decide)
    · exact absurd this.2 (by decide)
    · exact absurd this.1 (by decide)
    · exact absurd this.1 (by decide)
  unfold okWho
  rw [decide_eq_true h1, decide_eq_true (show (decDigits n).length ≤ 255 by omega), h3]
  rfl
attribute [local irreducible] Row At

set_option maxHeartbeats 6400000 in
set_option maxRecDepth 100000 in
theorem make_any (a : Option Addr) (len cap : Nat) (zs : List Int) (w : World) (hr : IsRow .u16 w a len cap zs) (hlen : len ≤ 9223372036854775807) :
    Calls Tryd.prog 16 #[.slice a len cap] w fun e w' => (∃ v l, e = .returned v ∧ Row wideE w.heap.size v l w' ∧ may l = true) ∧ Below w.heap.size w w' := by
  obtain ⟨O, hO⟩ : ∃ O : ByteArray, (⟨#[79, 87, 78, 69, 82, 64]⟩ : ByteArray) = O := ⟨_, rfl⟩
  obtain ⟨G, hG⟩ : ∃ O : ByteArray, (⟨#[71, 82, 79, 85, 80, 64]⟩ : ByteArray) = O := ⟨_, rfl⟩
  obtain ⟨E, hE⟩ : ∃ O : ByteArray, (⟨#[69, 86, 69, 82, 89, 79, 78, 69, 64]⟩ : ByteArray) = O := ⟨_, rfl⟩
  have ho1 : okWho O.data.toList = true := by rw [← hO]; decide
  have ho2 : okWho G.data.toList = true := by rw [← hG]; decide
  have ho3 : okWho E.data.toList = true := by rw [← hE]; decide
  have Hopen := Lib.hid (fun h => IsRow.open hr h)
  have Ho := Lib.hid (And.intro ho1 (And.intro ho2 ho3))
  clear hr ho1 ho2 ho3
  go_enter Tryd.func16, Tryd.ntmps16
  simp only [hO, hG, hE]
  clear hO hG hE
  go_wp2_with fail
  go_loopw [3, 4] (fun lv iv wr => ∃ (j : Nat) (acc : List Wid), iv = .int .i64 ((2 * j : Nat) : Int) ∧ acc.length = j ∧ j ≤ 20 ∧ Row wideE w.heap.size lv acc wr ∧ Below w.heap.size w wr ∧ Hid (∀ a ∈ acc, okPart a = true)) (fun _ iv _ => 40 - (intOf iv).toNat)
  case atStart => exact ⟨0, [], rfl, rfl, by omega, Row.nil _ _, Below.refl _ _, Lib.hid (by simp)⟩
  case round =>
    obtain ⟨j, acc, rfl, hacc, hj, hR, hbl, HO⟩ := hrel
    rename_i wr
    obtain ⟨i, hi⟩ : ∃ i : Nat, 2 * j = i := ⟨_, rfl⟩
    rw [hi]
    have hwr : IntKind.i64.wrap ((i : Int) + 1) = (i : Int) + 1 := by rw [IntKind.wrap_i64]; omega
    obtain ⟨p, cp, hsh, _⟩ := hR.at.shape
    rw [hacc] at hsh
    by_cases hc : i + 1 < len ∧ j < 20
    · obtain ⟨hc1, hc2⟩ := hc
      have e1 : decide ((i : Int) + 1 < (len : Int)) = true := decide_eq_true (by omega)
      have e2 : decide ((j : Int) < 20) = true := decide_eq_true (by omega)
      have e2' : decide (j < 20) = true := decide_eq_true hc2
      have e3 : (i : Int) < (len : Int) := by omega
      have e4 : ((i + 1 : Nat) : Int) < (len : Int) := by omega
      obtain ⟨b, off, rfl, hb, hlc, hcells⟩ := Hopen.out (by omega)
      obtain ⟨c0, wf0⟩ := hcells i (by omega)
      obtain ⟨c1, wf1⟩ := hcells (i + 1) (by omega)
      replace c0 := cell_kept hbl c0
      replace c1 := cell_kept hbl c1
      generalize zs.getD i 0 = x1 at *
      generalize zs.getD (i + 1) 0 = x2 at *
      have hx1 : 0 ≤ x1 ∧ x1 ≤ 65535 := by simpa [Lit.wf, IntKind.min, IntKind.max, IntKind.signed, IntKind.bits] using wf0
      have hx2 : 0 ≤ x2 ∧ x2 ≤ 65535 := by simpa [Lit.wf, IntKind.min, IntKind.max, IntKind.signed, IntKind.bits] using wf1
      clear hcells wf0 wf1
      obtain ⟨hx1a, hx1b⟩ := hx1
      obtain ⟨hx2a, hx2b⟩ := hx2
      obtain ⟨R, hR1, hR2⟩ : ∃ R : Nat, x1 % 50 = (R : Int) ∧ R < 50 := ⟨(x1 % 50).toNat, by omega, by omega⟩
      obtain ⟨q, hq1, hq2⟩ : ∃ R : Nat, x1 % 4 = (R : Int) ∧ R < 4 := ⟨(x1 % 4).toNat, by omega, by omega⟩
      obtain ⟨A1, hA1⟩ : ∃ R : Nat, x1 / 4 = (R : Int) := ⟨(x1 / 4).toNat, by omega⟩
      obtain ⟨A2, hA2, hA2'⟩ : ∃ R : Nat, (A1 : Int) % 2 = (R : Int) ∧ R < 2 := ⟨((A1 : Int) % 2).toNat, by omega, by omega⟩
      obtain ⟨TY, hTY⟩ : ∃ T : Int, 1 + (A2 : Int) = T := ⟨_, rfl⟩
      obtain ⟨F1, hF1⟩ : ∃ R : Nat, x1 / 8 = (R : Int) := ⟨(x1 / 8).toNat, by omega⟩
      obtain ⟨FL, hFL, hFL'⟩ : ∃ R : Nat, (F1 : Int) % 128 = (R : Int) ∧ R < 128 := ⟨((F1 : Int) % 128).toNat, by omega, by omega⟩
      obtain ⟨MS, hMS, hMS'⟩ : ∃ R : Nat, x2 % 16384 = (R : Int) ∧ R < 16384 := ⟨(x2 % 16384).toNat, by omega, by omega⟩
      have hdig := Lib.hid (fun W => refDigits_any R W (by omega))
      obtain ⟨D, hD⟩ : ∃ D, strOf (decDigits R) = D := ⟨_, rfl⟩
      rw [hD] at hdig
      have hoD : okWho D.data.toList = true := by rw [← hD, strOf_list]; exact okWho_digits R (by omega)
      obtain ⟨WHO, hqw, hwho⟩ : ∃ W : ByteArray, (#[.string O, .string G, .string E, .string D] : Array Value)[q]? = some (.string W) ∧ okWho W.data.toList = true := by
        obtain ⟨o1, o2, o3⟩ := Ho.out
        have : q = 0 ∨ q = 1 ∨ q = 2 ∨ q = 3 := by omega
        rcases this with rfl | rfl | rfl | rfl
        · exact ⟨O, rfl, o1⟩
        · exact ⟨G, rfl, o2⟩
        · exact ⟨E, rfl, o3⟩
        · exact ⟨D, rfl, hoD⟩
      have HP : Hid (okPart ⟨TY, (FL : Nat), (MS : Nat), WHO⟩ = true) := Lib.hid (by
        unfold okPart okType okBits
        rw [hwho]
        have ht : TY = 1 ∨ TY = 2 := by omega
        have h1 : decide ((0 : Int) ≤ (FL : Nat)) = true := decide_eq_true (by omega)
        have h2 : decide (((FL : Nat) : Int) < 128) = true := decide_eq_true (by omega)
        have h3 : decide ((0 : Int) ≤ (MS : Nat)) = true := decide_eq_true (by omega)
        have h4 : decide (((MS : Nat) : Int) < 16384) = true := decide_eq_true (by omega)
        rw [h1, h2, h3, h4]
        rcases ht with e | e <;> rw [e] <;> rfl)
      have w50 : IntKind.i64.wrap x1 = x1 := by rw [IntKind.wrap_i64]; omega
      have w51 : IntKind.i64.wrap x2 = x2 := by rw [IntKind.wrap_i64]; omega
      have t50 : x1.tmod 50 = (R : Int) := by rw [Int.tmod_eq_emod_of_nonneg hx1a]; exact hR1
      have t4 : x1.tmod 4 = (q : Int) := by rw [Int.tmod_eq_emod_of_nonneg hx1a]; exact hq1
      have d4 : x1.tdiv 4 = (A1 : Int) := by rw [Int.tdiv_eq_ediv_of_nonneg hx1a]; exact hA1
      have t2 : ((A1 : Nat) : Int).tmod 2 = (A2 : Int) := by rw [Int.tmod_eq_emod_of_nonneg (by omega)]; exact hA2
      have d8 : x1.tdiv 8 = (F1 : Int) := by rw [Int.tdiv_eq_ediv_of_nonneg hx1a]; exact hF1
      have t128 : ((F1 : Nat) : Int).tmod 128 = (FL : Int) := by rw [Int.tmod_eq_emod_of_nonneg (by omega)]; exact hFL
      have tms : x2.tmod 16384 = (MS : Int) := by rw [Int.tmod_eq_emod_of_nonneg hx2a]; exact hMS
      have wA1 : IntKind.i64.wrap (A1 : Int) = (A1 : Int) := by rw [IntKind.wrap_i64]; omega
      have wF1 : IntKind.i64.wrap (F1 : Int) = (F1 : Int) := by rw [IntKind.wrap_i64]; omega
      have wTY : IntKind.i64.wrap (1 + (A2 : Int)) = TY := by rw [IntKind.wrap_i64]; omega
      have wi : IntKind.i64.wrap ((i : Int) + 1) = ((i + 1 : Nat) : Int) := by rw [IntKind.wrap_i64]; omega
      have hq3 : (q : Int) < 4 := by omega
      have e5 : 0 ≤ (i : Int) + 1 ∧ (i : Int) + 1 < (len : Int) := by omega
      have e6 : (i : Int) + 1 < (len : Int) := by omega
      have e7 : 0 ≤ (i : Int) + 1 := by omega
      have hsz := hbl.size
      clear hD hoD hwho hR1 hq1 hA1 hA2 hTY hF1 hFL hMS
      subst hsh
      go_wp2_with fail
      have C0 := cell_kept (gr_drew (Below.refl wr.heap.size wr)) c0
      refine region_lastqgL (S := fun W => Below wr.heap.size wr W) 15
        [(fun W v => v = .slice (some ⟨b, off, none⟩) len cap),
     (fun W v => v = .int .i64 (i : Nat)),
     (fun W v => v = .pointer (some ⟨b, off + i, none⟩)),
     (fun W v => v = .int .u16 x1),
     (fun W v => v = .int .i64 x1),
     (fun W v => v = .int .i64 (R : Nat)),
     (fun W v => v = .string D),
     (fun W v => ∃ g, v = .slice (some ⟨g, 0, none⟩) 4 4 ∧ BlkIs W g 9 #[.string O, .string G, .string E, .string D]),
     (fun W v => v = .slice (some ⟨b, off, none⟩) len cap),
     (fun W v => v = .int .i64 (i : Nat)),
     (fun W v => v = .pointer (some ⟨b, off + i, none⟩)),
     (fun W v => v = .int .u16 x1),
     (fun W v => v = .int .u16 (q : Nat)),
     (fun W v => ∃ g, v = .pointer (some ⟨g, q, none⟩) ∧ BlkIs W g 9 #[.string O, .string G, .string E, .string D]),
     (fun W v => v = .string WHO)] (by rfl) (by kernel_rfl) (by kernel_rfl) (by kernel_rfl) (by kernel_rfl) (by rfl) (by kernel_rfl) ?hS ?hp ?hs ?he
      case hS => exact gr_drew (Below.refl _ _)
      case hp => repeat' (first | exact trivial | refine ⟨fun _ _ _ _ h => h, ?_⟩ | refine ⟨fun _ _ _ hb h => ?_, ?_⟩ | (obtain ⟨h', e1, e3⟩ := h; exact ⟨h', e1, e3.kept hb e3.size⟩))
      case hs =>
        simp only [List.take_succ_cons, List.take_zero]
        clear C0
        have C0 := c0
        refine ⟨?_, ?_, ?_, ?_, ?_, ?_, ?_, ?_, ?_, ?_, ?_, ?_, ?_, ?_, ?_, trivial⟩
        · refine ⟨met_none rfl, ?_⟩
          intro a W K hS hd hf hK
          have e0 : a.tmps.getD 0 undef = .slice (some ⟨b, off, none⟩) len cap := hf 0 (by kernel_rfl)
          clear hd hf
          go_simp
          exact hK _ _ (Below.refl _ _) hS rfl
        · refine ⟨met_none rfl, ?_⟩
          intro a W K hS hd hf hK
          have e4 : a.tmps.getD 4 undef = .int .i64 (i : Nat) := hf 4 (by kernel_rfl)
          clear hd hf
          go_simp
          exact hK _ _ (Below.refl _ _) hS rfl
        · refine ⟨met_none rfl, ?_⟩
          intro a W K hS hd hf hK
          have e18 : a.tmps.getD 18 undef = .slice (some ⟨b, off, none⟩) len cap := hd ⟨0, .data⟩ (by simp) rfl
          have e19 : a.tmps.getD 19 undef = .int .i64 (i : Nat) := hd ⟨1, .data⟩ (by simp) rfl
          clear hd hf
          go_simp
          exact hK _ _ (Below.refl _ _) hS rfl
        · refine ⟨met_none rfl, ?_⟩
          intro a W K hS hd hf hK
          have e20 : a.tmps.getD 20 undef = .pointer (some ⟨b, off + i, none⟩) := hd ⟨2, .data⟩ (by simp) rfl
          have c0 := cell_kept hS C0
          clear hd hf
          go_simp
          exact hK _ _ (Below.refl _ _) hS rfl
        · refine ⟨met_none rfl, ?_⟩
          intro a W K hS hd hf hK
          have e21 : a.tmps.getD 21 undef = .int .u16 x1 := hd ⟨3, .data⟩ (by simp) rfl
          clear hd hf
          go_simp
          exact hK _ _ (Below.refl _ _) hS rfl
        · refine ⟨met_none rfl, ?_⟩
          intro a W K hS hd hf hK
          have e22 : a.tmps.getD 22 undef = .int .i64 x1 := hd ⟨4, .data⟩ (by simp) rfl
          clear hd hf
          go_simp
          exact hK _ _ (Below.refl _ _) hS rfl
        · refine ⟨met_none rfl, ?_⟩
          intro a W K hS hd hf hK
          have e23 : a.tmps.getD 23 undef = .int .i64 (R : Nat) := hd ⟨5, .data⟩ (by simp) rfl
          clear hd hf
          go_simp
          go_at_call 29
          refine (hdig.out _).mono ?_
          rintro e w1 ⟨rfl, hb⟩
          exact hK _ _ hb (gr_call hS hb) rfl
        · refine ⟨met_none rfl, ?_⟩
          intro a W K hS hd hf hK
          have e24 : a.tmps.getD 24 undef = .string D := hd ⟨6, .data⟩ (by simp) rfl
          have f24 := e24
          rw [Array.getD_eq_getD_getElem?] at f24
          clear hd hf
          go_simp
          exact hK _ _ ((Below.refl _ _).alloc (Nat.le_refl _) _) (gr_alloc hS _) ⟨_, rfl, BlkIs.made _ _ _⟩
        · refine ⟨met_none rfl, ?_⟩
          intro a W K hS hd hf hK
          have e0 : a.tmps.getD 0 undef = .slice (some ⟨b, off, none⟩) len cap := hf 0 (by kernel_rfl)
          clear hd hf
          go_simp
          exact hK _ _ (Below.refl _ _) hS rfl
        · refine ⟨met_none rfl, ?_⟩
          intro a W K hS hd hf hK
          have e4 : a.tmps.getD 4 undef = .int .i64 (i : Nat) := hf 4 (by kernel_rfl)
          clear hd hf
          go_simp
          exact hK _ _ (Below.refl _ _) hS rfl
        · refine ⟨met_none rfl, ?_⟩
          intro a W K hS hd hf hK
          have e26 : a.tmps.getD 26 undef = .slice (some ⟨b, off, none⟩) len cap := hd ⟨8, .data⟩ (by simp) rfl
          have e27 : a.tmps.getD 27 undef = .int .i64 (i : Nat) := hd ⟨9, .data⟩ (by simp) rfl
          clear hd hf
          go_simp
          exact hK _ _ (Below.refl _ _) hS rfl
        · refine ⟨met_none rfl, ?_⟩
          intro a W K hS hd hf hK
          have e28 : a.tmps.getD 28 undef = .pointer (some ⟨b, off + i, none⟩) := hd ⟨10, .data⟩ (by simp) rfl
          have c0 := cell_kept hS C0
          clear hd hf
          go_simp
          exact hK _ _ (Below.refl _ _) hS rfl
        · refine ⟨met_none rfl, ?_⟩
          intro a W K hS hd hf hK
          have e29 : a.tmps.getD 29 undef = .int .u16 x1 := hd ⟨11, .data⟩ (by simp) rfl
          clear hd hf
          go_simp
          exact hK _ _ (Below.refl _ _) hS rfl
        · refine ⟨met_none rfl, ?_⟩
          intro a W K hS hd hf hK
          have p25 := hd ⟨7, .data⟩ (by simp) rfl
          have e30 : a.tmps.getD 30 undef = .int .u16 (q : Nat) := hd ⟨12, .data⟩ (by simp) rfl
          obtain ⟨g, e25, hg⟩ := p25
          replace e25 : a.tmps.getD 25 undef = .slice (some ⟨g, 0, none⟩) 4 4 := e25
          clear hd hf
          go_simp
          exact hK _ _ (Below.refl _ _) hS ⟨g, rfl, hg⟩
        · refine ⟨met_none rfl, ?_⟩
          intro a W K hS hd hf hK
          have p31 := hd ⟨13, .data⟩ (by simp) rfl
          obtain ⟨g, e31, hg⟩ := p31
          replace e31 : a.tmps.getD 31 undef = .pointer (some ⟨g, q, none⟩) := e31
          have c0 := hg.cell_some q _ hqw
          clear hd hf
          go_simp
          exact hK _ _ (Below.refl _ _) hS rfl
      case he =>
        intro vals w6 K hS6 hV hK
        have e32 := hV 14 (by omega)
        clear hV C0
        simp only [List.getD_cons_succ, List.getD_cons_zero] at e32
        refine Later.mk ?_
        simp only [List.append_eq, List.cons_append, List.nil_append, setN, Nat.reduceAdd, List.setIfInBounds_toArray, List.set_cons_succ, List.set_cons_zero]
        rw [e32]
        go_simp
        refine hK _ _ ?_
        clear hK e32
        go_wp2_with fail
        have hR6 := hR.call hS6
        have hbl6 := gr_call hbl hS6
        replace c0 := cell_kept hS6 c0
        replace c1 := cell_kept hS6 c1
        have hsz6 := hbl6.size
        clear hR hbl hS6 hdig hqw
        refine region_twoRL (S := fun W => Below w6.heap.size w6 W) 26 (fun _ => false)
          [(fun W v => v = .slice p j cp),
     (fun W v => v = .slice (some ⟨b, off, none⟩) len cap),
     (fun W v => v = .int .i64 (i : Nat)),
     (fun W v => v = .pointer (some ⟨b, off + i, none⟩)),
     (fun W v => v = .int .u16 x1),
     (fun W v => v = .int .i64 x1),
     (fun W v => v = .int .i64 (A1 : Nat)),
     (fun W v => v = .int .i64 (A2 : Nat)),
     (fun W v => v = .int .i64 TY),
     (fun W v => v = .slice (some ⟨b, off, none⟩) len cap),
     (fun W v => v = .int .i64 (i : Nat)),
     (fun W v => v = .pointer (some ⟨b, off + i, none⟩)),
     (fun W v => v = .int .u16 x1),
     (fun W v => v = .int .i64 x1),
     (fun W v => v = .int .i64 (F1 : Nat)),
     (fun W v => v = .int .i64 (FL : Nat)),
     (fun W v => v = .slice (some ⟨b, off, none⟩) len cap),
     (fun W v => v = .int .i64 (i : Nat)),
     (fun W v => v = .int .i64 ((i + 1 : Nat) : Int)),
     (fun W v => v = .pointer (some ⟨b, off + (i + 1), none⟩)),
     (fun W v => v = .int .u16 x2),
     (fun W v => v = .int .i64 x2),
     (fun W v => v = .int .i64 (MS : Nat)),
     (fun W v => v = .string WHO),
     (fun W v => v = .agg #[.int .i64 TY, .int .i64 (FL : Nat), .int .i64 (MS : Nat), .string WHO]),
     (fun W v => At wideE v [⟨TY, (FL : Nat), (MS : Nat), WHO⟩] W)] (by rfl) (by kernel_rfl) (by kernel_rfl) (by kernel_rfl) (by kernel_rfl) (by rfl) (by rfl) (by kernel_rfl) (by kernel_rfl) (by kernel_rfl) ?hS ?hp ?hs ?he
        case hS => exact gr_drew (Below.refl _ _)
        case hp => repeat' (first | exact trivial | refine ⟨fun _ _ _ _ h => h, ?_⟩ | refine ⟨fun _ _ _ hb h => ?_, ?_⟩ | exact h.call hb)
        case hs =>
          simp only [List.take_succ_cons, List.take_zero]
          have C0 := c0
          have C1 := c1
          refine ⟨?_, ?_, ?_, ?_, ?_, ?_, ?_, ?_, ?_, ?_, ?_, ?_, ?_, ?_, ?_, ?_, ?_, ?_, ?_, ?_, ?_, ?_, ?_, ?_, ?_, ?_, trivial⟩
          · refine ⟨met_none rfl, ?_⟩
            intro a W K hS hd hf hK
            have e3 : a.tmps.getD 3 undef = .slice p j cp := hf 3 (by kernel_rfl)
            clear hd hf
            go_simp
            exact hK _ _ (Below.refl _ _) hS rfl (fun h => absurd h (by decide))
          · refine ⟨met_none rfl, ?_⟩
            intro a W K hS hd hf hK
            have e0 : a.tmps.getD 0 undef = .slice (some ⟨b, off, none⟩) len cap := hf 0 (by kernel_rfl)
            clear hd hf
            go_simp
            exact hK _ _ (Below.refl _ _) hS rfl (fun h => absurd h (by decide))
          · refine ⟨met_none rfl, ?_⟩
            intro a W K hS hd hf hK
            have e4 : a.tmps.getD 4 undef = .int .i64 (i : Nat) := hf 4 (by kernel_rfl)
            clear hd hf
            go_simp
            exact hK _ _ (Below.refl _ _) hS rfl (fun h => absurd h (by decide))
          · refine ⟨met_none rfl, ?_⟩
            intro a W K hS hd hf hK
            have e34 : a.tmps.getD 34 undef = .slice (some ⟨b, off, none⟩) len cap := hd ⟨1, .data⟩ (by simp) rfl
            have e35 : a.tmps.getD 35 undef = .int .i64 (i : Nat) := hd ⟨2, .data⟩ (by simp) rfl
            clear hd hf
            go_simp
            exact hK _ _ (Below.refl _ _) hS rfl (fun h => absurd h (by decide))
          · refine ⟨met_none rfl, ?_⟩
            intro a W K hS hd hf hK
            have e36 : a.tmps.getD 36 undef = .pointer (some ⟨b, off + i, none⟩) := hd ⟨3, .data⟩ (by simp) rfl
            have c0 := cell_kept hS C0
            clear hd hf
            go_simp
            exact hK _ _ (Below.refl _ _) hS rfl (fun h => absurd h (by decide))
          · refine ⟨met_none rfl, ?_⟩
            intro a W K hS hd hf hK
            have e37 : a.tmps.getD 37 undef = .int .u16 x1 := hd ⟨4, .data⟩ (by simp) rfl
            clear hd hf
            go_simp
            exact hK _ _ (Below.refl _ _) hS rfl (fun h => absurd h (by decide))
          · refine ⟨met_none rfl, ?_⟩
            intro a W K hS hd hf hK
            have e38 : a.tmps.getD 38 undef = .int .i64 x1 := hd ⟨5, .data⟩ (by simp) rfl
            clear hd hf
            go_simp
            exact hK _ _ (Below.refl _ _) hS rfl (fun h => absurd h (by decide))
          · refine ⟨met_none rfl, ?_⟩
            intro a W K hS hd hf hK
            have e39 : a.tmps.getD 39 undef = .int .i64 (A1 : Nat) := hd ⟨6, .data⟩ (by simp) rfl
            clear hd hf
            go_simp
            exact hK _ _ (Below.refl _ _) hS rfl (fun h => absurd h (by decide))
          · refine ⟨met_none rfl, ?_⟩
            intro a W K hS hd hf hK
            have e40 : a.tmps.getD 40 undef = .int .i64 (A2 : Nat) := hd ⟨7, .data⟩ (by simp) rfl
            clear hd hf
            go_simp
            exact hK _ _ (Below.refl _ _) hS rfl (fun h => absurd h (by decide))
          · refine ⟨met_none rfl, ?_⟩
            intro a W K hS hd hf hK
            have e0 : a.tmps.getD 0 undef = .slice (some ⟨b, off, none⟩) len cap := hf 0 (by kernel_rfl)
            clear hd hf
            go_simp
            exact hK _ _ (Below.refl _ _) hS rfl (fun h => absurd h (by decide))
          · refine ⟨met_none rfl, ?_⟩
            intro a W K hS hd hf hK
            have e4 : a.tmps.getD 4 undef = .int .i64 (i : Nat) := hf 4 (by kernel_rfl)
            clear hd hf
            go_simp
            exact hK _ _ (Below.refl _ _) hS rfl (fun h => absurd h (by decide))
          · refine ⟨met_none rfl, ?_⟩
            intro a W K hS hd hf hK
            have e42 : a.tmps.getD 42 undef = .slice (some ⟨b, off, none⟩) len cap := hd ⟨9, .data⟩ (by simp) rfl
            have e43 : a.tmps.getD 43 undef = .int .i64 (i : Nat) := hd ⟨10, .data⟩ (by simp) rfl
            clear hd hf
            go_simp
            exact hK _ _ (Below.refl _ _) hS rfl (fun h => absurd h (by decide))
          · refine ⟨met_none rfl, ?_⟩
            intro a W K hS hd hf hK
            have e44 : a.tmps.getD 44 undef = .pointer (some ⟨b, off + i, none⟩) := hd ⟨11, .data⟩ (by simp) rfl
            have c0 := cell_kept hS C0
            clear hd hf
            go_simp
            exact hK _ _ (Below.refl _ _) hS rfl (fun h => absurd h (by decide))
          · refine ⟨met_none rfl, ?_⟩
            intro a W K hS hd hf hK
            have e45 : a.tmps.getD 45 undef = .int .u16 x1 := hd ⟨12, .data⟩ (by simp) rfl
            clear hd hf
            go_simp
            exact hK _ _ (Below.refl _ _) hS rfl (fun h => absurd h (by decide))
          · refine ⟨met_none rfl, ?_⟩
            intro a W K hS hd hf hK
            have e46 : a.tmps.getD 46 undef = .int .i64 x1 := hd ⟨13, .data⟩ (by simp) rfl
            clear hd hf
            go_simp
            exact hK _ _ (Below.refl _ _) hS rfl (fun h => absurd h (by decide))
          · refine ⟨met_none rfl, ?_⟩
            intro a W K hS hd hf hK
            have e47 : a.tmps.getD 47 undef = .int .i64 (F1 : Nat) := hd ⟨14, .data⟩ (by simp) rfl
            clear hd hf
            go_simp
            exact hK _ _ (Below.refl _ _) hS rfl (fun h => absurd h (by decide))
          · refine ⟨met_none rfl, ?_⟩
            intro a W K hS hd hf hK
            have e0 : a.tmps.getD 0 undef = .slice (some ⟨b, off, none⟩) len cap := hf 0 (by kernel_rfl)
            clear hd hf
            go_simp
            exact hK _ _ (Below.refl _ _) hS rfl (fun h => absurd h (by decide))
          · refine ⟨met_none rfl, ?_⟩
            intro a W K hS hd hf hK
            have e4 : a.tmps.getD 4 undef = .int .i64 (i : Nat) := hf 4 (by kernel_rfl)
            clear hd hf
            go_simp
            exact hK _ _ (Below.refl _ _) hS rfl (fun h => absurd h (by decide))
          · refine ⟨met_none rfl, ?_⟩
            intro a W K hS hd hf hK
            have e50 : a.tmps.getD 50 undef = .int .i64 (i : Nat) := hd ⟨17, .data⟩ (by simp) rfl
            clear hd hf
            go_simp
            exact hK _ _ (Below.refl _ _) hS rfl (fun h => absurd h (by decide))
          · refine ⟨met_none rfl, ?_⟩
            intro a W K hS hd hf hK
            have e49 : a.tmps.getD 49 undef = .slice (some ⟨b, off, none⟩) len cap := hd ⟨16, .data⟩ (by simp) rfl
            have e51 : a.tmps.getD 51 undef = .int .i64 ((i + 1 : Nat) : Int) := hd ⟨18, .data⟩ (by simp) rfl
            clear hd hf
            go_simp
            exact hK _ _ (Below.refl _ _) hS rfl (fun h => absurd h (by decide))
          · refine ⟨met_none rfl, ?_⟩
            intro a W K hS hd hf hK
            have e52 : a.tmps.getD 52 undef = .pointer (some ⟨b, off + (i + 1), none⟩) := hd ⟨19, .data⟩ (by simp) rfl
            have c0 := cell_kept hS C1
            clear hd hf
            go_simp
            exact hK _ _ (Below.refl _ _) hS rfl (fun h => absurd h (by decide))
          · refine ⟨met_none rfl, ?_⟩
            intro a W K hS hd hf hK
            have e53 : a.tmps.getD 53 undef = .int .u16 x2 := hd ⟨20, .data⟩ (by simp) rfl
            clear hd hf
            go_simp
            exact hK _ _ (Below.refl _ _) hS rfl (fun h => absurd h (by decide))
          · refine ⟨met_none rfl, ?_⟩
            intro a W K hS hd hf hK
            have e54 : a.tmps.getD 54 undef = .int .i64 x2 := hd ⟨21, .data⟩ (by simp) rfl
            clear hd hf
            go_simp
            exact hK _ _ (Below.refl _ _) hS rfl (fun h => absurd h (by decide))
          · refine ⟨met_none rfl, ?_⟩
            intro a W K hS hd hf hK
            have e5 : a.tmps.getD 5 undef = .string WHO := hf 5 (by kernel_rfl)
            clear hd hf
            go_simp
            exact hK _ _ (Below.refl _ _) hS rfl (fun h => absurd h (by decide))
          · refine ⟨met_none rfl, ?_⟩
            intro a W K hS hd hf hK
            have e41 : a.tmps.getD 41 undef = .int .i64 TY := hd ⟨8, .data⟩ (by simp) rfl
            have e48 : a.tmps.getD 48 undef = .int .i64 (FL : Nat) := hd ⟨15, .data⟩ (by simp) rfl
            have e55 : a.tmps.getD 55 undef = .int .i64 (MS : Nat) := hd ⟨22, .data⟩ (by simp) rfl
            have e56 : a.tmps.getD 56 undef = .string WHO := hd ⟨23, .data⟩ (by simp) rfl
            have f41 := e41
            rw [Array.getD_eq_getD_getElem?] at f41
            have f48 := e48
            rw [Array.getD_eq_getD_getElem?] at f48
            have f55 := e55
            rw [Array.getD_eq_getD_getElem?] at f55
            have f56 := e56
            rw [Array.getD_eq_getD_getElem?] at f56
            have hbd := buildW TY FL MS WHO
            clear hd hf
            go_simp
            exact hK _ _ (Below.refl _ _) hS rfl (fun h => absurd h (by decide))
          · refine ⟨met_none rfl, ?_⟩
            intro a W K hS hd hf hK
            have e57 : a.tmps.getD 57 undef = .agg #[.int .i64 TY, .int .i64 (FL : Nat), .int .i64 (MS : Nat), .string WHO] := hd ⟨24, .data⟩ (by simp) rfl
            have f57 := e57
            rw [Array.getD_eq_getD_getElem?] at f57
            clear hd hf
            go_simp
            exact hK _ _ ((Below.refl _ _).alloc (Nat.le_refl _) _) (gr_alloc hS _) (one_wide W ⟨TY, (FL : Nat), (MS : Nat), WHO⟩ 0 (Nat.zero_le _)).at (fun h => absurd h (by decide))
        case he =>
          intro vals w7 K hS7 hV _ hK
          have e33 := hV 0 (by omega)
          have a58 := hV 25 (by omega)
          clear hV
          simp only [List.getD_cons_succ, List.getD_cons_zero] at e33 a58
          have hR7 := hR6.call hS7
          have hbl7 := gr_call hbl6 hS7
          have hsz7 := hbl7.size
          have hl7 : acc.length + [(⟨TY, (FL : Nat), (MS : Nat), WHO⟩ : Wid)].length ≤ 1000000 := by simp; omega
          clear c0 c1 hR6 hbl6 hS7
          refine Later.mk ?_
          simp only [List.append_eq, List.cons_append, List.nil_append, setN, Nat.reduceAdd, List.setIfInBounds_toArray, List.set_cons_succ, List.set_cons_zero]
          rw [e33]
          refine wp_append_row wideE (.tmp 33) (.tmp 58) rfl w.heap.size (.slice p j cp) (vals 25) acc [⟨TY, (FL : Nat), (MS : Nat), WHO⟩] w7 (by rfl) hR7 (by rfl) a58 hl7 hsz7 ?_
          intro v' w8 hR8 hb8 _ _
          have hbl8 := hbl7.trans hb8
          have HO2 : Hid (∀ a ∈ acc ++ [(⟨TY, (FL : Nat), (MS : Nat), WHO⟩ : Wid)], okPart a = true) := Lib.hid (by
            intro a ha
            rcases List.mem_append.1 ha with h | h
            · exact HO.out a h
            · rw [List.mem_singleton] at h; rw [h]; exact HP.out)
          clear hR7 hbl7 a58 hb8 HO HP
          refine hK _ _ ?_
          clear hK
          intro K' hK'
          go_simp
          refine hK' _ _ ?_
          clear hK'
          go_wp2_with fail
          go_roundw
          case rel => exact ⟨j + 1, _, by congr 1; omega, by rw [List.length_append, hacc]; rfl, by omega, hR8, hbl8, HO2⟩
          case measure => simp only [intOf]; omega
    · have hcond : (decide ((i : Int) + 1 < (len : Int)) = false) ∨ (decide ((i : Int) + 1 < (len : Int)) = true ∧ decide ((j : Int) < 20) = false) := by
        by_cases h1 : i + 1 < len
        · exact .inr ⟨decide_eq_true (by omega), decide_eq_false (by omega)⟩
        · exact .inl (decide_eq_false (by omega))
      have HM := Lib.hid (show may acc = true by
        unfold may
        rw [decide_eq_true (show acc.length ≤ 32 by omega), Bool.true_and, List.all_eq_true]
        exact HO.out)
      rcases hcond with hf | ⟨ht, hf⟩
      · subst hsh
        go_wp2_with fail
        go_ret
        first | exact ⟨⟨_, acc, rfl, hR, HM.out⟩, hbl⟩ | exact ⟨⟨acc, hR, HM.out⟩, hbl⟩ | exact ⟨⟨_, rfl, acc, hR, HM.out⟩, hbl⟩
      · have ht' : (i : Int) + 1 < (len : Int) := of_decide_eq_true ht
        have hf' : ¬ (j : Int) < 20 := of_decide_eq_false hf
        have hf2 : decide (j < 20) = false := decide_eq_false (by omega)
        have ht2 : decide (i + 1 < len) = true := decide_eq_true (by omega)
        subst hsh
        go_wp2_with fail
        go_ret
        first | exact ⟨⟨_, acc, rfl, hR, HM.out⟩, hbl⟩ | exact ⟨⟨acc, hR, HM.out⟩, hbl⟩ | exact ⟨⟨_, rfl, acc, hR, HM.out⟩, hbl⟩
end Go.Proofs.YtikdpoekjfbpaaaDoor
