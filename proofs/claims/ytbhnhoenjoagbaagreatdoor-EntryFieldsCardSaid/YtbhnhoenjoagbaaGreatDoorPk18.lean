/- Bundle of 10 texts. -/
import Derived.Test.YtbhnhoenjoagbaaGreatDoorPk01
import Derived.Test.YtbhnhoenjoagbaaGreatDoorPk17
import Derived.Lib.Bytealg
import Derived.Lib.Strings
import Derived.Test.YtbhnhoenjoagbaaGreatDoorPk12
import Derived.Test.YtbhnhoenjoagbaaGreatDoorChecked
import Derived.Deep.QuietTactic
import Derived.BigQuiet
import Derived.Outline
import Derived.Laws.Externs
import Derived.Deep.LoopGhost
import Derived.Test.YtbhnhoenjoagbaaGreatDoorShelf
import Derived.Lib.IndexLaws
import Derived.Sort.Walk0
/- Walk over package sixty: Put. -/
namespace Go.Proofs.YtbhnhoenjoagbaaGreatDoor.SixW
open Go.RowKit
open SixM
set_option linter.unusedVariables false

theorem idx_at {P : Program} {t : TypeId} (ht : P.underlying t = some .string) (S : ByteArray) (i : Nat) (h : i < S.size) : ∃ c : UInt8, S.data.toList[i]? = some c ∧ ∀ w, (Instr.index t (.string S) (.int .i64 (i : Int))).run P w = .ok (.int .u8 (c.toNat : Int)) w := by
  refine ⟨S[i], ?_, ?_⟩
  · rw [List.getElem?_eq_getElem (by simpa using h)]; rfl
  · intro w
    simp [go_sem, ht, h]
theorem drop_at {l : List UInt8} {i : Nat} {c : UInt8} (h : l[i]? = some c) : l.drop i = c :: l.drop (i + 1) := by
  obtain ⟨hi, rfl⟩ := List.getElem?_eq_some_iff.1 h
  exact List.drop_eq_getElem_cons hi
theorem writeByte_b (b : Nat) (l : List UInt8) (c : UInt8) (x : Int) (hx : x = (c.toNat : Int)) (w : World) (h : Bld b l w) (hlen : l.length + 1 ≤ 100000) (hb : b < w.heap.size) :
    Calls Tryz.prog 134 #[.pointer (some ⟨b, 0, none⟩), .int .u8 x] w fun e w' => e = .returned .nilIface ∧ (Bld b (l ++ [c]) w' ∧ Below b w w') := by
  subst hx
  refine (writeByte_any b b _ (c.toNat : Int) w h (by rw [Lib.byteCells_length]; omega) (Nat.le_of_lt hb)).mono ?_
  rintro e w' ⟨h1, h2, h3⟩
  refine ⟨h1, ?_, h3⟩
  unfold Bld
  rw [Lib.byteCells_append]
  exact h2
theorem writeFill_b (b : Nat) (l : List UInt8) (w : World) (h : Bld b l w) (hlen : l.length + 1 ≤ 100000) (hb : b < w.heap.size) :
    Calls Tryz.prog 135 #[.pointer (some ⟨b, 0, none⟩), .string ⟨#[61]⟩] w fun e w' => e = .returned (.tuple #[.int .i64 1, .nilIface]) ∧ (Bld b (l ++ [61]) w' ∧ Below b w w') := by
  refine (writeString_any b b _ ⟨#[61]⟩ w h (by rw [Lib.byteCells_length]; show l.length + 1 ≤ _; omega) (Nat.le_of_lt hb)).mono ?_
  rintro e w' ⟨h1, h2, h3⟩
  refine ⟨h1, ?_, h3⟩
  unfold Bld
  rw [Lib.byteCells_append]
  exact h2
theorem bld_lt {b : Nat} {l : List UInt8} {w : World} (h : Bld b l w) : b < w.heap.size := by
  rcases h with h | h <;> exact h.lt
def bldLen (b : Nat) (w : World) : Nat := match w.cell? ⟨b, 1, none⟩ with
  | some (.slice _ n _) => n
  | _ => 0
theorem bldLen_of {b : Nat} {l : List UInt8} {w : World} (h : Bld b l w) : bldLen b w = l.length := by
  obtain ⟨p, hB, v, hbk, hown, hne⟩ : ∃ p, Lib.BuilderAt 142 5 b b p (Lib.byteCells l) w := by
    rcases h with h | h
    · exact ⟨_, h⟩
    · exact ⟨_, h⟩
  have c1 : w.cell? ⟨b, 1, none⟩ = some v := by rw [Lib.cell_of_heap hbk]; rfl
  rw [Lib.byteCells_length] at hown
  unfold bldLen
  rw [c1]
  rcases hown.2 with ⟨hv, h0⟩ | ⟨g, cap, cur, hv, _⟩
  · subst hv; simpa using h0.symm
  · subst hv; rfl
theorem len_b (b : Nat) (l : List UInt8) (w : World) (h : Bld b l w) :
    Calls Tryz.prog 140 #[.pointer (some ⟨b, 0, none⟩)] w fun e w' => e = .returned (.int .i64 (l.length : Int)) ∧ w' = w := by
  have := Tryz.Builder_Len b b _ w h
  rw [Lib.byteCells_length] at this
  exact this
theorem string_b (b : Nat) (l : List UInt8) (w : World) (h : Bld b l w) :
    Calls Tryz.prog 137 #[.pointer (some ⟨b, 0, none⟩)] w fun e w' => e = .returned (.string ⟨l.toArray⟩) ∧ Below b w w' := by
  refine (Tryz.Builder_String_any b b l w h (Nat.le_of_lt (bld_lt h))).mono ?_
  rintro e w' h1
  exact h1
theorem grow_b (n : Nat) (x : Int) (hx : x = (n : Int)) (w : World) (hn : n ≤ 200000) :
    Calls Tryz.prog 139 #[.pointer (some ⟨w.heap.size, 0, none⟩), .int .i64 x] (w.alloc (.cells #[.pointer none, .slice none 0 0] 142)) fun e w' => e = .returned (.tuple #[]) ∧ (Bld w.heap.size [] w' ∧ Below w.heap.size w w') := by
  subst hx
  refine (Tryz.Builder_Grow_fresh w.heap.size w.heap.size n _ (Nat.le_refl _) (heap_alloc_new w _) (by simp) (by omega)).mono ?_
  rintro e w' ⟨h1, h2, h3⟩
  exact ⟨h1, .inr h2, ((Below.refl _ w).alloc (Nat.le_refl _) _).trans h3⟩

theorem idxL0 (k : Nat) (kd : IntKind) (hk : k < 64) : ∀ w, (Instr.index 9 (.string ⟨letters.toArray⟩) (.int kd (k : Int))).run Tryz.prog w = .ok (.int .u8 ((L k).toNat : Int)) w := by
  intro w
  have h : k < letters.length := hk
  simp [go_sem, Tryz.underlying9, L, List.getD_eq_getElem?_getD, List.getElem?_eq_getElem h]
  rw [dif_pos h]
  rfl
theorem idxL (k : Nat) (x : Int) (kd : IntKind) (hx : x = (k : Int)) (hk : k < 64) : ∀ w, (Instr.index 9 (.string ⟨#[65, 66, 67, 68, 69, 70, 71, 72, 73, 74, 75, 76, 77, 78, 79, 80, 81, 82, 83, 84, 85, 86, 87, 88, 89, 90, 97, 98, 99, 100, 101, 102, 103, 104, 105, 106, 107, 108, 109, 110, 111, 112, 113, 114, 115, 116, 117, 118, 119, 120, 121, 122, 48, 49, 50, 51, 52, 53, 54, 55, 56, 57, 43, 47]⟩) (.int kd x)).run Tryz.prog w = .ok (.int .u8 ((L k).toNat : Int)) w := by
  subst hx
  exact idxL0 k kd hk
theorem or32 (r c : Nat) (hc : c < 256) : bits .or .u32 ((r : Int) * 256 % 4294967296) ((c : Int) % 4294967296) = (((r * 256 + c) % 4294967296 : Nat) : Int) := by
  have h1 : (r : Int) * 256 % 4294967296 = ((r % 16777216 * 256 : Nat) : Int) := by omega
  have h2 : (c : Int) % 4294967296 = (c : Int) := by omega
  have h3 : r % 16777216 * 256 ||| c = r % 16777216 * 256 + c := by
    rw [Nat.mul_comm]
    exact (Nat.two_pow_add_eq_or_of_lt (i := 8) hc (r % 16777216)).symm
  rw [h1, h2, u32_or_nat _ _ (by omega) (by omega), h3]
  omega
theorem and63 (x k : Nat) (hx : x < 4294967296) : bits .and .u32 ((x : Int) / 2 ^ k) 63 = ((x / 2 ^ k % 64 : Nat) : Int) := by
  have h1 : (x : Int) / 2 ^ k = ((x / 2 ^ k : Nat) : Int) := by simp
  have h2 : x / 2 ^ k < 4294967296 := Nat.lt_of_le_of_lt (Nat.div_le_self _ _) hx
  rw [h1, show (63 : Int) = ((63 : Nat) : Int) from rfl, u32_and_nat _ _ h2 (by decide), nat_mask6]
theorem and63b (x k : Nat) : bits .and .u32 ((x : Int) * 2 ^ k % 4294967296) 63 = ((x * 2 ^ k % 4294967296 % 64 : Nat) : Int) := by
  have h1 : (x : Int) * 2 ^ k % 4294967296 = ((x * 2 ^ k % 4294967296 : Nat) : Int) := by simp
  rw [h1, show (63 : Int) = ((63 : Nat) : Int) from rfl, u32_and_nat _ _ (Nat.mod_lt _ (by decide)) (by decide), nat_mask6]

set_option maxHeartbeats 1600000 in
theorem Put_any (s : ByteArray) (hs : s.size ≤ 30000) (w : World) :
    Calls Tryz.prog 70 #[.string s] w fun e w' => e = .returned (.string ⟨(p3 s.data.toList).toArray⟩) ∧ Below w.heap.size w w' := by
  obtain ⟨n, hn⟩ : ∃ n, n = s.size := ⟨_, rfl⟩
  rw [← hn] at hs
  go_enter Tryz.func70, Tryz.ntmps70
  go_wp2_with fail
  refine (grow_b ((n + 2) / 3 * 4) _ (by rw [hn]; rfl) w (by omega)).mono ?_
  rintro e w1 ⟨rfl, hB, hb1⟩
  go_wp2_with fail
  go_loopw [4, 5, 15] (fun bv hv iv wr => ∃ (i r h : Nat) (acc : List UInt8), bv = .int .u32 (r : Int) ∧ hv = .int .i64 (h : Int) ∧ iv = .int .i64 (i : Int) ∧ i ≤ n ∧ r < 4294967296 ∧ h < 6 ∧ Bld w.heap.size acc wr ∧ Below w.heap.size w wr ∧ acc ++ body h r (s.data.toList.drop i) = body 0 0 s.data.toList ∧ acc.length ≤ 2 * i) (fun _ _ iv _ => n - (intOf iv).toNat)
  case atStart => exact ⟨0, 0, 0, [], rfl, rfl, rfl, Nat.zero_le _, by decide, by decide, hB, hb1, by simp, by simp⟩
  case round =>
    obtain ⟨i, r, h, acc, rfl, rfl, rfl, hi, hr, hh, hB, hbl, hacc, hal⟩ := hrel
    by_cases hlt : i < n
    · obtain ⟨c, hc, hidx⟩ := idx_at Tryz.underlying9 s i (by omega)
      have hlt' : (i : Int) < (s.size : Int) := by omega
      have hor := or32 r c.toNat c.toNat_lt
      have hx1 : (r * 256 + c.toNat) % 4294967296 < 4294967296 := Nat.mod_lt _ (by decide)
      have Hacc : acc ++ (emitL (h + 8) ((r * 256 + c.toNat) % 4294967296) ++ body ((h + 8) % 6) ((r * 256 + c.toNat) % 4294967296) (s.data.toList.drop (i + 1))) = body 0 0 s.data.toList := by rw [← hacc, drop_at hc, body]
      generalize (r * 256 + c.toNat) % 4294967296 = x at *
      clear hacc
      go_wp2_with fail
      go_loopw [5] (fun hv wr => ∃ (h' : Nat) (acc' : List UInt8), hv = .int .i64 (h' : Int) ∧ h' ≤ 13 ∧ Bld w.heap.size acc' wr ∧ Below w.heap.size w wr ∧ acc' ++ (emitL h' x ++ body (h' % 6) x (s.data.toList.drop (i + 1))) = body 0 0 s.data.toList ∧ 6 * acc'.length + h' ≤ 12 * i + 13) (fun hv _ => (intOf hv).toNat)
      case atStart => exact ⟨h + 8, acc, rfl, by omega, hB, hbl, Hacc, by omega⟩
      case round =>
        clear Hacc hB hbl
        obtain ⟨h', acc', rfl, hh', hB', hbl', hacc', hal'⟩ := hrel
        by_cases h6 : 6 ≤ h'
        · have h6' : (6 : Int) ≤ (h' : Int) := by omega
          have hL := idxL _ _ .u32 (and63 x (h' - 6) hx1) (Nat.mod_lt _ (by decide))
          rw [emitL, if_pos h6] at hacc'
          go_wp2_with fail
          refine (writeByte_b _ acc' _ _ rfl wr hB' (by omega) (bld_lt hB')).mono ?_
          rintro e w2 ⟨rfl, hB2, hb2⟩
          have hbl2 := hbl'.trans hb2
          clear hL hor hidx hB' hbl'
          go_wp2_with fail
          go_roundw
          case rel =>
            refine ⟨h' - 6, acc' ++ [L (x / 2 ^ (h' - 6) % 64)], by congr 1; omega, by omega, hB2, hbl2, ?_, by simp; omega⟩
            rw [← hacc', show (h' - 6) % 6 = h' % 6 by omega]
            simp
          case measure => simp only [intOf]; omega
        · have h6' : ¬ (6 : Int) ≤ (h' : Int) := by omega
          rw [emitL, if_neg h6] at hacc'
          clear hor hidx
          go_wp2_with fail
          go_roundw
          case rel =>
            refine ⟨i + 1, x, h', acc', rfl, rfl, rfl, by omega, hx1, by omega, hB', hbl', ?_, by omega⟩
            rw [← hacc', show h' % 6 = h' by omega]
            rfl
          case measure => simp only [intOf]; omega
    · have hlt' : ¬ (i : Int) < (s.size : Int) := by omega
      have hdr : s.data.toList.drop i = [] := by
        apply List.drop_eq_nil_of_le
        have : s.data.toList.length = s.size := by simp
        omega
      rw [hdr, body_nil] at hacc
      obtain ⟨B0, hB0⟩ : ∃ B0, B0 = body 0 0 s.data.toList := ⟨_, rfl⟩
      rw [← hB0] at hacc
      by_cases h0 : 0 < h
      · have h0' : (0 : Int) < (h : Int) := by omega
        have hL := idxL _ _ .u32 (and63b r (6 - h)) (Nat.mod_lt _ (by decide))
        rw [flush, if_pos h0] at hacc
        generalize L (r * 2 ^ (6 - h) % 4294967296 % 64) = c2 at *
        have hB0l : B0.length = acc.length + 1 := by rw [← hacc]; simp
        go_wp2_with fail
        refine (writeByte_b _ acc c2 _ rfl wr hB (by omega) (bld_lt hB)).mono ?_
        rintro e w3 ⟨rfl, HB, hb3⟩
        rw [hacc] at HB
        have Hbl := hbl.trans hb3
        clear hL hacc hB hbl
        go_wp2_with fail
        go_loopw [] (fun wr => ∃ k : Nat, k ≤ (4 - B0.length % 4) % 4 ∧ Bld w.heap.size (B0 ++ List.replicate k 61) wr ∧ Below w.heap.size w wr) (fun wr => B0.length + 4 - bldLen w.heap.size wr)
        case atStart => exact ⟨0, Nat.zero_le _, by simpa using HB, Hbl⟩
        case round =>
          clear HB Hbl
          obtain ⟨k, hk, hB2, hbl2⟩ := hrel
          obtain ⟨l, hl⟩ : ∃ l, l = B0 ++ List.replicate k 61 := ⟨_, rfl⟩
          rw [← hl] at hB2
          have hll : l.length = B0.length + k := by rw [hl]; simp
          obtain ⟨m, hm⟩ : ∃ m, l.length = m := ⟨_, rfl⟩
          have hlen := len_b _ l _ hB2
          rw [hm] at hlen
          rw [hm] at hll
          by_cases h4 : m % 4 = 0
          · have h4' : ((m : Int) % 4 != 0) = false := by simp; omega
            have Hfin := Lib.hid (show l = p3 s.data.toList by rw [← put_eq s.data.toList 0, fill, ← hB0, hl, show k = (4 - B0.length % 4) % 4 by omega])
            clear hl hm hll hB0
            go_wp2_with fail
            refine hlen.mono ?_
            rintro e w4 ⟨rfl, rfl⟩
            go_wp2_with fail
            refine (string_b _ l _ hB2).mono ?_
            rintro e w5 ⟨rfl, hb5⟩
            have hbl5 := hbl2.trans hb5
            go_wp2_with fail
            go_ret
            refine ⟨?_, hbl5⟩
            rw [Hfin.out]
            rfl
          · have h4' : ((m : Int) % 4 != 0) = true := by simp; omega
            have Hl := Lib.hid hl
            have Hm := Lib.hid hm
            have Hll := Lib.hid hll
            have hl1 : l.length + 1 ≤ 100000 := by omega
            clear hl hm hll hB0
            go_wp2_with fail
            refine hlen.mono ?_
            rintro e w4 ⟨rfl, rfl⟩
            go_wp2_with fail
            refine (writeFill_b _ l _ hB2 hl1 (bld_lt hB2)).mono ?_
            rintro e w5 ⟨rfl, hB5, hb5⟩
            have hbl5 := hbl2.trans hb5
            have hm2 := bldLen_of hB2
            have hm5 := bldLen_of hB5
            clear hlen hB2 hbl2
            go_wp2_with fail
            go_roundw
            case rel => exact ⟨k + 1, by have := Hll.out; omega, by rw [List.replicate_succ', ← List.append_assoc, ← Hl.out]; exact hB5, hbl5⟩
            case measure => have := Hll.out; have := Hm.out; rw [hm5, hm2]; simp; omega
      · have h0' : ¬ (0 : Int) < (h : Int) := by omega
        rw [flush, if_neg h0, List.append_nil] at hacc
        rw [hacc] at hB
        rw [hacc] at hal
        have hB0l : B0.length ≤ 2 * i := by omega
        have HB := hB
        have Hbl := hbl
        clear hB hbl
        go_wp2_with fail
        go_loopw [] (fun wr => ∃ k : Nat, k ≤ (4 - B0.length % 4) % 4 ∧ Bld w.heap.size (B0 ++ List.replicate k 61) wr ∧ Below w.heap.size w wr) (fun wr => B0.length + 4 - bldLen w.heap.size wr)
        case atStart => exact ⟨0, Nat.zero_le _, by simpa using HB, Hbl⟩
        case round =>
          clear HB Hbl
          obtain ⟨k, hk, hB2, hbl2⟩ := hrel
          obtain ⟨l, hl⟩ : ∃ l, l = B0 ++ List.replicate k 61 := ⟨_, rfl⟩
          rw [← hl] at hB2
          have hll : l.length = B0.length + k := by rw [hl]; simp
          obtain ⟨m, hm⟩ : ∃ m, l.length = m := ⟨_, rfl⟩
          have hlen := len_b _ l _ hB2
          rw [hm] at hlen
          rw [hm] at hll
          by_cases h4 : m % 4 = 0
          · have h4' : ((m : Int) % 4 != 0) = false := by simp; omega
            have Hfin := Lib.hid (show l = p3 s.data.toList by rw [← put_eq s.data.toList 0, fill, ← hB0, hl, show k = (4 - B0.length % 4) % 4 by omega])
            clear hl hm hll hB0
            go_wp2_with fail
            refine hlen.mono ?_
            rintro e w4 ⟨rfl, rfl⟩
            go_wp2_with fail
            refine (string_b _ l _ hB2).mono ?_
            rintro e w5 ⟨rfl, hb5⟩
            have hbl5 := hbl2.trans hb5
            go_wp2_with fail
            go_ret
            refine ⟨?_, hbl5⟩
            rw [Hfin.out]
            rfl
          · have h4' : ((m : Int) % 4 != 0) = true := by simp; omega
            have Hl := Lib.hid hl
            have Hm := Lib.hid hm
            have Hll := Lib.hid hll
            have hl1 : l.length + 1 ≤ 100000 := by omega
            clear hl hm hll hB0
            go_wp2_with fail
            refine hlen.mono ?_
            rintro e w4 ⟨rfl, rfl⟩
            go_wp2_with fail
            refine (writeFill_b _ l _ hB2 hl1 (bld_lt hB2)).mono ?_
            rintro e w5 ⟨rfl, hB5, hb5⟩
            have hbl5 := hbl2.trans hb5
            have hm2 := bldLen_of hB2
            have hm5 := bldLen_of hB5
            clear hlen hB2 hbl2
            go_wp2_with fail
            go_roundw
            case rel => exact ⟨k + 1, by have := Hll.out; omega, by rw [List.replicate_succ', ← List.append_assoc, ← Hl.out]; exact hB5, hbl5⟩
            case measure => have := Hll.out; have := Hm.out; rw [hm5, hm2]; simp; omega
end Go.Proofs.YtbhnhoenjoagbaaGreatDoor.SixW

/- Percent-encoding as the document has it, in plain Lean: what Put writes, what is read back, and that each is the other's way back. -/
namespace Go.Proofs.YtbhnhoenjoagbaaGreatDoor.EscM

def digits : List UInt8 := [48, 49, 50, 51, 52, 53, 54, 55, 56, 57, 65, 66, 67, 68, 69, 70]
def H (n : Nat) : UInt8 := digits.getD n 0
def dig (c : UInt8) : Option Nat := digits.findIdx? (· == c)
def self (c : UInt8) : Bool := decide (33 ≤ c.toNat) && decide (c.toNat ≤ 126) && decide (c.toNat ≠ 37) && decide (c.toNat ≠ 61)
def enc (c : UInt8) : List UInt8 := if self c then [c] else [37, H (c.toNat / 16), H (c.toNat % 16)]
def put (l : List UInt8) : List UInt8 := l.flatMap enc

theorem H_self : ∀ n, n < 16 → self (H n) = true ∧ (H n).toNat ≠ 37 := by decide +kernel
theorem put_nil : put [] = [] := rfl
theorem put_cons (c : UInt8) (l : List UInt8) : put (c :: l) = enc c ++ put l := by simp [put]
theorem enc_len (c : UInt8) : (enc c).length ≤ 3 := by unfold enc; split <;> simp
theorem put_len (l : List UInt8) : (put l).length ≤ 3 * l.length := by
  induction l with
  | nil => simp [put]
  | cons c l ih => rw [put_cons, List.length_append, List.length_cons]; have := enc_len c; omega

def hexOf (x y : Nat) : UInt8 := UInt8.ofNat (x * 16 + y)
def get : List UInt8 → Option (List UInt8)
  | [] => some []
  | c :: t => if c.toNat = 37 then match t with
      | a :: b :: r => match dig a, dig b with
        | some x, some y => if self (hexOf x y) then none else (get r).map (hexOf x y :: ·)
        | _, _ => none
      | _ => none
    else if self c then (get t).map (c :: ·) else none

def nib (c : UInt8) : Nat := if 48 ≤ c.toNat ∧ c.toNat ≤ 57 then c.toNat - 48 else if 65 ≤ c.toNat ∧ c.toNat ≤ 70 then c.toNat - 65 + 10 else 16
def nibByte (a b : UInt8) : UInt8 := UInt8.ofNat (nib a * 16 + nib b % 16)
def rdec : List UInt8 → List UInt8
  | [] => []
  | c :: t => if c.toNat = 37 then match t with
      | a :: b :: r => nibByte a b :: rdec r
      | [a] => c :: rdec [a]
      | [] => [c]
    else c :: rdec t
end Go.Proofs.YtbhnhoenjoagbaaGreatDoor.EscM

/- Names with values: which lists may be; their records; what records say. -/
namespace Go.Proofs.YtbhnhoenjoagbaaGreatDoor
namespace XatM

abbrev Xa := List UInt8 × List UInt8
def anyOf (s m : List UInt8) : Bool := s.any fun c => m.contains c
def sK : List UInt8 := [83, 67, 72, 73, 76, 89, 46, 120, 97, 116, 116, 114, 46]
def lK : List UInt8 := [76, 73, 66, 65, 82, 67, 72, 73, 86, 69, 46, 120, 97, 116, 116, 114, 46]
def okX (x : Xa) : Bool := decide (x.1 ≠ []) && !x.1.contains 0 && decide ((EscM.put x.1).length ≤ 238) && decide (x.2.length ≤ 4096)
def asc : List Xa → Bool
  | x :: y :: r => decide (x.1 < y.1) && asc (y :: r)
  | _ => true
def mayL (l : List Xa) : Bool := decide (l.length ≤ 32) && l.all okX && asc l
def okAt (l : List Xa) (i : Nat) : Bool := match l[i]? with
  | some x => okX x && (match i with
    | 0 => true
    | j + 1 => match l[j]? with
      | some y => decide (y.1 < x.1)
      | none => true)
  | none => true
def recOf (x : Xa) : List Xa := (if x.1.contains 61 then [] else [(sK ++ x.1, x.2)]) ++ [(lK ++ EscM.put x.1, SixM.p3 x.2)]
def recsL (l : List Xa) : List Xa := if mayL l then l.flatMap recOf else []
def isX (k : List UInt8) : Bool := (decide (13 ≤ k.length) && decide (k.take 13 = sK)) || (decide (17 ≤ k.length) && decide (k.take 17 = lK))
def recX (r : Xa) : Option (Option Xa) :=
  if isX r.1 then
    (if r.1.head? = some 76 then (match EscM.get (r.1.drop 17), SixM.get r.2 with
      | some n, some v => some (some (n, v))
      | _, _ => some none)
    else some (some (r.1.drop 13, r.2)))
  else none
def putX : List Xa → Xa → List Xa
  | [], a => [a]
  | y :: l, a => if y.1 < a.1 then y :: putX l a else if y.1 = a.1 then a :: l else a :: y :: l
def fromGo : List Xa → List Xa → Option (List Xa)
  | acc, [] => some acc
  | acc, r :: rs => match recX r with
    | none => fromGo acc rs
    | some none => none
    | some (some x) => fromGo (putX acc x) rs
def fromL (rs : List Xa) : Option (List Xa) := match fromGo [] rs with
  | some l => if mayL l then some l else none
  | none => none

theorem put_mono (s : List UInt8) : s.length ≤ (EscM.put s).length := by
  induction s with
  | nil => simp
  | cons c s ih =>
    rw [EscM.put_cons, List.length_append, List.length_cons]
    have : 1 ≤ (EscM.enc c).length := by unfold EscM.enc; split <;> simp
    omega
theorem asc_iff : ∀ (l : List Xa), asc l = true ↔ ∀ i x y, l[i]? = some x → l[i + 1]? = some y → x.1 < y.1
  | [] => by simp [asc]
  | [x] => by
    simp only [asc, true_iff]
    intro i a b _ h
    simp at h
  | x :: y :: r => by
    unfold asc
    rw [Bool.and_eq_true, decide_eq_true_eq, asc_iff (y :: r)]
    constructor
    · rintro ⟨h1, h2⟩ i a b ha hb
      cases i with
      | zero => simp at ha hb; rw [← ha, ← hb]; exact h1
      | succ i => exact h2 i a b (by simpa using ha) (by simpa using hb)
    · intro h
      exact ⟨h 0 x y rfl rfl, fun i a b ha hb => h (i + 1) a b (by simpa using ha) (by simpa using hb)⟩
theorem okAt_all {l : List Xa} : (∀ i, i < l.length → okAt l i = true) ↔ (l.all okX = true ∧ asc l = true) := by
  constructor
  · intro h
    refine ⟨?_, ?_⟩
    · rw [List.all_eq_true]
      intro x hx
      obtain ⟨i, hi, he⟩ := List.getElem_of_mem hx
      have := h i hi
      unfold okAt at this
      rw [List.getElem?_eq_getElem hi] at this
      simp only [Bool.and_eq_true] at this
      rw [← he]
      exact this.1
    · rw [asc_iff]
      intro i x y hx hy
      have hi : i + 1 < l.length := (List.getElem?_eq_some_iff.1 hy).1
      have := h (i + 1) hi
      unfold okAt at this
      rw [hy] at this
      simp only [hx, Bool.and_eq_true, decide_eq_true_eq] at this
      exact this.2
  · rintro ⟨h1, h2⟩ i hi
    unfold okAt
    rw [List.getElem?_eq_getElem hi]
    simp only [Bool.and_eq_true]
    refine ⟨List.all_eq_true.1 h1 _ (List.getElem_mem hi), ?_⟩
    cases i with
    | zero => rfl
    | succ j =>
      simp only
      rw [List.getElem?_eq_getElem (show j < l.length by omega)]
      simp only [decide_eq_true_eq]
      exact (asc_iff l).1 h2 j _ _ (List.getElem?_eq_getElem (by omega)) (List.getElem?_eq_getElem hi)
theorem may_all {l : List Xa} (h : ∀ i, i < l.length → okAt l i = true) : mayL l = decide (l.length ≤ 32) := by
  obtain ⟨h1, h2⟩ := okAt_all.1 h
  unfold mayL
  rw [h1, h2, Bool.and_true, Bool.and_true]
theorem may_bad {l : List Xa} {i : Nat} (hi : i < l.length) (h : okAt l i = false) : mayL l = false := by
  rw [Bool.eq_false_iff]
  intro hm
  unfold mayL at hm
  rw [Bool.and_eq_true, Bool.and_eq_true] at hm
  have := okAt_all.2 ⟨hm.1.2, hm.2⟩ i hi
  rw [h] at this
  cases this
theorem may_parts {l : List Xa} (h : mayL l = true) : l.length ≤ 32 ∧ (∀ x ∈ l, okX x = true) ∧ asc l = true := by
  unfold mayL at h
  rw [Bool.and_eq_true, Bool.and_eq_true, decide_eq_true_eq, List.all_eq_true] at h
  exact ⟨h.1.1, h.1.2, h.2⟩
theorem okX_parts {x : Xa} (h : okX x = true) : x.1 ≠ [] ∧ x.1.contains 0 = false ∧ (EscM.put x.1).length ≤ 238 ∧ x.2.length ≤ 4096 ∧ x.1.length ≤ 238 := by
  unfold okX at h
  simp only [Bool.and_eq_true, decide_eq_true_eq, Bool.not_eq_true'] at h
  have := put_mono x.1
  exact ⟨h.1.1.1, h.1.1.2, h.1.2, h.2, by omega⟩

theorem put_len (l : List Xa) (a : Xa) : 1 ≤ (putX l a).length ∧ (putX l a).length ≤ l.length + 1 := by
  induction l with
  | nil => simp [putX]
  | cons y l ih =>
    unfold putX
    split
    · simp only [List.length_cons]; omega
    · split <;> simp only [List.length_cons] <;> omega
def PW (l : List Xa) : Prop := l.Pairwise fun x y => x.1 < y.1
def look (l : List Xa) (n : List UInt8) : Option (List UInt8) := (l.find? fun x => x.1 == n).map (·.2)
end XatM
end Go.Proofs.YtbhnhoenjoagbaaGreatDoor

/- Lists of names with values, and of records, in memory. -/
namespace Go.Proofs.YtbhnhoenjoagbaaGreatDoor.XatW
open Go.RowKit
open XatM
set_option linter.unusedVariables false

structure IsTwo (E : Elt Xa) : Prop where
  k : E.k = 2
  enc : ∀ a, E.enc a = [.string (strOf a.1), .string (strOf a.2)]
def xatE : Elt Xa where
  t := 130
  st := 32
  k := 2
  z := .agg #[.string ⟨#[]⟩, .string ⟨#[]⟩]
  bytes := 32
  enc a := [.string (strOf a.1), .string (strOf a.2)]
  len _ := rfl
  one _ u h := by simp at h; rcases h with rfl | rfl <;> rfl
  pos := by decide
  und := Tryz.underlying32
  inf := by kernel_rfl
  zk := rfl
  small := by decide
theorem xat_two : IsTwo xatE := ⟨rfl, fun _ => rfl⟩
def TwoAt (w : World) (g o : Nat) (a : Xa) : Prop := w.cell? ⟨g, o, none⟩ = some (.string (strOf a.1)) ∧ w.cell? ⟨g, o + 1, none⟩ = some (.string (strOf a.2))
theorem TwoAt.kept {w w1 : World} {g o : Nat} {a : Xa} (h : TwoAt w g o a) (hb : Below w.heap.size w w1) : TwoAt w1 g o a := ⟨cell_kept hb h.1, cell_kept hb h.2⟩
theorem two_open {E : Elt Xa} (hE : IsTwo E) {v : Value} {l : List Xa} {w : World} (h : At E v l w) (hl : l ≠ []) :
    ∃ g off cap, v = .slice (some ⟨g, off, none⟩) l.length cap ∧ l.length ≤ cap ∧ g < w.heap.size ∧ ∀ j (h : j < l.length), TwoAt w g (off + j * 2) l[j] := by
  obtain ⟨g, off, cap, h1, h2, h3, h4⟩ := h.open hl
  refine ⟨g, off, cap, h1, h2, h3, fun j hj => ?_⟩
  have e : ∀ i, off + (j * E.k + i) = off + j * 2 + i := by intro i; rw [hE.k]; omega
  have a0 := h4 j hj 0 _ (by rw [hE.enc]; rfl)
  have a1 := h4 j hj 1 _ (by rw [hE.enc]; rfl)
  rw [e] at a0 a1
  exact ⟨a0, a1⟩
theorem two_look {E : Elt Xa} (hE : IsTwo E) {v : Value} {l : List Xa} {w : World} (h : At E v l w) :
    ∃ p cap, v = .slice p l.length cap ∧ l.length ≤ cap ∧ ∀ j (h : j < l.length), ∃ g off, p = some ⟨g, off, none⟩ ∧ g < w.heap.size ∧ TwoAt w g (off + j * 2) l[j] := by
  by_cases hl : l = []
  · obtain ⟨p, cap, h1, h2⟩ := h.shape
    exact ⟨p, cap, h1, h2, fun j hj => by subst hl; simp at hj⟩
  · obtain ⟨g, off, cap, h1, h2, h3, h4⟩ := two_open hE h hl
    exact ⟨_, cap, h1, h2, fun j hj => ⟨g, off, rfl, h3, h4 j hj⟩⟩
def twoV (a : Xa) : Value := .agg #[.string (strOf a.1), .string (strOf a.2)]
end Go.Proofs.YtbhnhoenjoagbaaGreatDoor.XatW

/- Lists of names with values, and of records, in memory. -/
namespace Go.Proofs.YtbhnhoenjoagbaaGreatDoor.XatW
open Go.RowKit
open XatM
set_option linter.unusedVariables false

def recE : Elt Xa where
  t := 28
  st := 24
  k := 2
  z := .agg #[.string ⟨#[]⟩, .string ⟨#[]⟩]
  bytes := 32
  enc a := [.string (strOf a.1), .string (strOf a.2)]
  len _ := rfl
  one _ u h := by simp at h; rcases h with rfl | rfl <;> rfl
  pos := by decide
  und := Tryz.underlying24
  inf := by kernel_rfl
  zk := rfl
  small := by decide
theorem rec_two : IsTwo recE := ⟨rfl, fun _ => rfl⟩

theorem one_rec (w : World) (a : Xa) (B : Nat) (hB : B ≤ w.heap.size) : Row recE B (.slice (some ⟨w.heap.size, 0, none⟩) 1 1) [a] (w.alloc (.cells #[.string (strOf a.1), .string (strOf a.2)] 28)) :=
  lit_row (E := recE) w [a] _ B 1 rfl hB (by simp) rfl

end Go.Proofs.YtbhnhoenjoagbaaGreatDoor.XatW

/- The document's answer: whether two lists are one. -/
namespace Go.Proofs.YtbhnhoenjoagbaaGreatDoor.XatW
open Go.RowKit
open XatM
set_option linter.unusedVariables false

theorem strOf_toList (l : List UInt8) : (strOf l).toList = l := by rw [Lib.toList_data, strOf_list]
theorem strOf_ne {a b : List UInt8} (h : ¬ a = b) : ¬ (strOf a).toList = (strOf b).toList := by rw [strOf_toList, strOf_toList]; exact h
attribute [local irreducible] Row At

end Go.Proofs.YtbhnhoenjoagbaaGreatDoor.XatW

/- Package xattr: where a name stands in a list of rising names (slices.BinarySearchFunc). -/
namespace Go.Proofs.YtbhnhoenjoagbaaGreatDoor.XatW
open Go.RowKit
open XatM
set_option linter.unusedVariables false

def CmpC : Prop := ∀ (a b : ByteArray) (w : World), Calls Tryz.prog 314 #[.string a, .string b] w fun e w' => e = .returned (.int .i64 (Lib.compareBytes a.data.toList b.data.toList)) ∧ w' = w

def Stand (l : List Xa) (n : List UInt8) (i : Nat) : Prop := i ≤ l.length ∧ (∀ t (h : t < l.length), t < i → l[t].1 < n) ∧ (∀ t (h : t < l.length), i ≤ t → ¬ l[t].1 < n)
open Classical in
noncomputable def hitAt (l : List Xa) (n : List UInt8) (i : Nat) : Bool := decide (∃ h : i < l.length, l[i].1 = n)
attribute [local irreducible] Row At

end Go.Proofs.YtbhnhoenjoagbaaGreatDoor.XatW

/- The library's functions that package xattr calls, by their contracts. -/
namespace Go.Proofs.YtbhnhoenjoagbaaGreatDoor.XatW
open Go.RowKit
open XatM
set_option linter.unusedVariables false

theorem clone_go (s : ByteArray) (w : World) (hs : s.size ≤ 281474976710656) :
    Calls Tryz.prog 63 #[.string s] w fun e w' => e = .returned (.string s) ∧ Below w.heap.size w w' := by
  have h := Tryz.stringslite_Clone s
  go_enter Tryz.func63, Tryz.ntmps63
  go_wp2_with fail
  refine (h _ hs).mono ?_
  rintro e w' ⟨rfl, hb⟩
  go_wp2_with fail
  go_ret
  exact ⟨rfl, hb⟩
end Go.Proofs.YtbhnhoenjoagbaaGreatDoor.XatW

/- Package xattr: May. -/
namespace Go.Proofs.YtbhnhoenjoagbaaGreatDoor.XatW
open Go.RowKit
open XatM
set_option linter.unusedVariables false

set_option maxRecDepth 100000 in
theorem liteIndexByte_go (s : ByteArray) (c : Int) (w : World) :
    Calls Tryz.prog 199 #[.string s, .int .u8 c] w fun e w' => e = .returned (.int .i64 (Lib.indexByte s.data.toList c.toNat.toUInt8)) ∧ w' = w := by
  go_enter Tryz.func199, Tryz.ntmps199
  go_wp2
  rw [run_callFunc_extern Tryz.func250 (by kernel_rfl) (by kernel_rfl) (by kernel_rfl) (e := Extern.BytealgIndexByte.indexByte) (by kernel_rfl), Lib.run_indexByteString]
  simp only [Result.andThen]
  rw [Oper.upon_value]
  go_wp2
  go_ret
  exact ⟨rfl, rfl⟩
theorem indexByte_go (s : ByteArray) (c : Int) (w : World) :
    Calls Tryz.prog 144 #[.string s, .int .u8 c] w fun e w' => e = .returned (.int .i64 (Lib.indexByte s.data.toList c.toNat.toUInt8)) ∧ w' = w := by
  have H := Lib.hid (liteIndexByte_go s c)
  go_enter Tryz.func144, Tryz.ntmps144
  go_wp2_with fail
  refine (H.out _).mono ?_
  rintro e w' ⟨rfl, rfl⟩
  go_wp2_with fail
  go_ret
  exact ⟨rfl, rfl⟩
theorem index_neg (l : List UInt8) (c : UInt8) : Lib.indexByte l c < 0 ↔ l.contains c = false := by
  induction l with
  | nil => simp [Lib.indexByte]
  | cons b l ih =>
    unfold Lib.indexByte
    by_cases h : b = c
    · subst h; simp
    · have h2 : ¬ c = b := fun e => h e.symm
      simp only [List.contains_cons, beq_eq_false_iff_ne.2 h2, Bool.false_or, ← ih]
      simp only [h, if_false, beq_iff_eq]
      first
        | (split <;> omega)
        | skip
def nameOk (n : List UInt8) : Bool := decide (n ≠ []) && !n.contains 0 && decide ((EscM.put n).length ≤ 238)
def PutC : Prop := ∀ (s : ByteArray) (hs : s.size ≤ 30000) (w : World), Calls Tryz.prog 145 #[.string s] w fun e w' => e = .returned (.string ⟨(EscM.put s.data.toList).toArray⟩) ∧ Below w.heap.size w w'

theorem mayName_any (HP : PutC) (N : ByteArray) (w : World) :
    Calls Tryz.prog 198 #[.string N] w fun e w' => e = .returned (.bool (nameOk N.data.toList)) ∧ Below w.heap.size w w' := by
  have hNs : N.size = N.data.toList.length := rfl
  have hNe : N.toList = N.data.toList := Lib.toList_data N
  obtain ⟨n, hn⟩ : ∃ n, N.data.toList = n := ⟨_, rfl⟩
  have HP2 := Lib.hid (HP N)
  have HI := Lib.hid (indexByte_go N 0)
  simp only [hn] at HP2 HI
  rw [hn] at hNs hNe ⊢
  clear HP
  by_cases k1 : n = []
  · have HE := Lib.hid (show nameOk n = false by rw [k1]; rfl)
    have hq2 : N.toList.isEmpty = true := by rw [hNe, k1]; rfl
    clear k1 hn hNs hNe
    go_enter Tryz.func198, Tryz.ntmps198
    go_wp2_with fail
    go_ret
    exact ⟨ret_bool HE.out.symm, Below.refl _ _⟩
  have hq2 : N.toList.isEmpty = false := by rw [hNe]; cases n with | nil => exact absurd rfl k1 | cons => rfl
  by_cases k2 : 238 < n.length
  · have HE := Lib.hid (show nameOk n = false by unfold nameOk; rw [decide_eq_false (p := (EscM.put n).length ≤ 238) (by have := put_mono n; omega), Bool.and_false])
    have f3 : decide ((238 : Int) < (N.size : Int)) = true := decide_eq_true (by omega)
    have f4 : decide (238 < N.size) = true := decide_eq_true (by omega)
    clear k1 k2 hn hNs hNe
    go_enter Tryz.func198, Tryz.ntmps198
    go_wp2_with fail
    go_ret
    exact ⟨ret_bool HE.out.symm, Below.refl _ _⟩
  have f3 : decide ((238 : Int) < (N.size : Int)) = false := decide_eq_false (by omega)
  have f4 : decide (238 < N.size) = false := decide_eq_false (by omega)
  obtain ⟨q, hqi⟩ : ∃ q, Lib.indexByte n (0 : Int).toNat.toUInt8 = q := ⟨_, rfl⟩
  have hqn := index_neg n (0 : Int).toNat.toUInt8
  rw [hqi] at HI hqn
  by_cases k3 : n.contains 0 = true
  · have HE := Lib.hid (show nameOk n = false by unfold nameOk; rw [k3]; simp)
    have f5 : decide (q < 0) = false := decide_eq_false (by rw [hqn, show (0 : Int).toNat.toUInt8 = (0 : UInt8) from rfl, k3]; simp)
    clear k1 k2 k3 hn hNs hNe hqi hqn
    go_enter Tryz.func198, Tryz.ntmps198
    go_wp2_with fail
    refine (HI.out _).mono ?_
    rintro e w1 ⟨rfl, rfl⟩
    go_wp2_with fail
    go_ret
    exact ⟨ret_bool HE.out.symm, Below.refl _ _⟩
  · have k3' : n.contains 0 = false := by simpa using k3
    have f5 : decide (q < 0) = true := decide_eq_true (by rw [hqn]; exact k3')
    obtain ⟨P, hP⟩ : ∃ P : ByteArray, ⟨(EscM.put n).toArray⟩ = P := ⟨_, rfl⟩
    have hPs : P.size = (EscM.put n).length := by rw [← hP]; simp [ByteArray.size]
    have HP3 := Lib.hid (HP2.out (by omega))
    rw [hP] at HP3
    have HE := Lib.hid (show nameOk n = decide ((P.size : Int) ≤ 238) by
      unfold nameOk
      rw [decide_eq_true k1, k3', hPs, Bool.not_false, Bool.true_and, Bool.true_and]
      exact decide_eq_decide.2 (by omega))
    clear k1 k2 k3 k3' hn hNs hNe hqi hqn hP HP2 hPs
    go_enter Tryz.func198, Tryz.ntmps198
    go_wp2_with fail
    refine (HI.out _).mono ?_
    rintro e w1 ⟨rfl, rfl⟩
    go_wp2_with fail
    refine (HP3.out _).mono ?_
    rintro e w1 ⟨rfl, hb⟩
    go_wp2_with fail
    go_ret
    exact ⟨ret_bool HE.out.symm, hb⟩
end Go.Proofs.YtbhnhoenjoagbaaGreatDoor.XatW

/- The document's answer: has a text any of some signs? -/
namespace Go.Proofs.YtbhnhoenjoagbaaGreatDoor.XatW
open Go.RowKit
open XatM
set_option linter.unusedVariables false

end Go.Proofs.YtbhnhoenjoagbaaGreatDoor.XatW
