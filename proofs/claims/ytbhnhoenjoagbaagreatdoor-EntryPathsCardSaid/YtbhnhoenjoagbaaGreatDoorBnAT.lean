/- Bundle of 2 texts. -/
import Derived.Test.YtbhnhoenjoagbaaGreatDoorBnAA
import Derived.Test.YtbhnhoenjoagbaaGreatDoorSixMath
import Derived.Lib.Bytealg
import Derived.Lib.Strings
/- Walk over package sixty: Put. -/
namespace Go.Proofs.YtbhnhoenjoagbaaGreatDoor.SixW
open Go.RowKit
open SixM
set_option linter.unusedVariables false

/-- The letter at a place of a string. -/
theorem idx_at {P : Program} {t : TypeId} (ht : P.underlying t = some .string) (S : ByteArray) (i : Nat) (h : i < S.size) : ∃ c : UInt8, S.data.toList[i]? = some c ∧ ∀ w, (Instr.index t (.string S) (.int .i64 (i : Int))).run P w = .ok (.int .u8 (c.toNat : Int)) w := by
  refine ⟨S[i], ?_, ?_⟩
  · rw [List.getElem?_eq_getElem (by simpa using h)]; rfl
  · intro w
    simp [go_sem, ht, h]
theorem drop_at {l : List UInt8} {i : Nat} {c : UInt8} (h : l[i]? = some c) : l.drop i = c :: l.drop (i + 1) := by
  obtain ⟨hi, rfl⟩ := List.getElem?_eq_some_iff.1 h
  exact List.drop_eq_getElem_cons hi
theorem byteCell (c : UInt8) : [Value.int .u8 (c.toNat : Int)] = Lib.byteCells [c] := rfl
theorem writeByte_b (b : Nat) (l : List UInt8) (c : UInt8) (x : Int) (hx : x = (c.toNat : Int)) (w : World) (h : Bld b l w) (hlen : l.length + 1 ≤ 100000) (hb : b < w.heap.size) :
    Calls Tryz.prog 134 #[.pointer (some ⟨b, 0, none⟩), .int .u8 x] w fun e w' => e = .returned .nilIface ∧ (Bld b (l ++ [c]) w' ∧ Below b w w') := by
  subst hx
  refine (writeByte_any b b _ (c.toNat : Int) w h (by rw [Lib.byteCells_length]; omega) (Nat.le_of_lt hb)).mono ?_
  rintro e w' ⟨h1, h2, h3⟩
  refine ⟨h1, ?_, h3⟩
  unfold Bld
  rw [Lib.byteCells_append]
  exact h2
theorem writeFill_b (b : Nat) (l : List UInt8) (w : World) (h : Bld b l w) (hlen : l.length + 1 ≤ 100000) (hb : b < w.heap.size) :
    Calls Tryz.prog 135 #[.pointer (some ⟨b, 0, none⟩), .string ⟨#[61]⟩] w fun e w' => e = .returned (.tuple #[.int .i64 1, .nilIface]) ∧ (Bld b (l ++ [61]) w' ∧ Below b w w') := by
  refine (writeString_any b b _ ⟨#[61]⟩ w h (by rw [Lib.byteCells_length]; show l.length + 1 ≤ _; omega) (Nat.le_of_lt hb)).mono ?_
  rintro e w' ⟨h1, h2, h3⟩
  refine ⟨h1, ?_, h3⟩
  unfold Bld
  rw [Lib.byteCells_append]
  exact h2
theorem bld_lt {b : Nat} {l : List UInt8} {w : World} (h : Bld b l w) : b < w.heap.size := by
  rcases h with h | h <;> exact h.lt
/-- How many bytes a builder holds, off the world. -/
def bldLen (b : Nat) (w : World) : Nat := match w.cell? ⟨b, 1, none⟩ with
  | some (.slice _ n _) => n
  | _ => 0
theorem bldLen_of {b : Nat} {l : List UInt8} {w : World} (h : Bld b l w) : bldLen b w = l.length := by
  obtain ⟨p, hB, v, hbk, hown, hne⟩ : ∃ p, Lib.BuilderAt 142 5 b b p (Lib.byteCells l) w := by
    rcases h with h | h
    · exact ⟨_, h⟩
    · exact ⟨_, h⟩
  have c1 : w.cell? ⟨b, 1, none⟩ = some v := by rw [Lib.cell_of_heap hbk]; rfl
  rw [Lib.byteCells_length] at hown
  unfold bldLen
  rw [c1]
  rcases hown.2 with ⟨hv, h0⟩ | ⟨g, cap, cur, hv, _⟩
  · subst hv; simpa using h0.symm
  · subst hv; rfl
theorem len_b (b : Nat) (l : List UInt8) (w : World) (h : Bld b l w) :
    Calls Tryz.prog 140 #[.pointer (some ⟨b, 0, none⟩)] w fun e w' => e = .returned (.int .i64 (l.length : Int)) ∧ w' = w := by
  have := Tryz.Builder_Len b b _ w h
  rw [Lib.byteCells_length] at this
  exact this
theorem string_b (b : Nat) (l : List UInt8) (w : World) (h : Bld b l w) :
    Calls Tryz.prog 137 #[.pointer (some ⟨b, 0, none⟩)] w fun e w' => e = .returned (.string ⟨l.toArray⟩) ∧ Below b w w' := by
  refine (Tryz.Builder_String_any b b l w h (Nat.le_of_lt (bld_lt h))).mono ?_
  rintro e w' h1
  exact h1
theorem grow_b (n : Nat) (x : Int) (hx : x = (n : Int)) (w : World) (hn : n ≤ 200000) :
    Calls Tryz.prog 139 #[.pointer (some ⟨w.heap.size, 0, none⟩), .int .i64 x] (w.alloc (.cells #[.pointer none, .slice none 0 0] 142)) fun e w' => e = .returned (.tuple #[]) ∧ (Bld w.heap.size [] w' ∧ Below w.heap.size w w') := by
  subst hx
  refine (Tryz.Builder_Grow_fresh w.heap.size w.heap.size n _ (Nat.le_refl _) (heap_alloc_new w _) (by simp) (by omega)).mono ?_
  rintro e w' ⟨h1, h2, h3⟩
  exact ⟨h1, .inr h2, ((Below.refl _ w).alloc (Nat.le_refl _) _).trans h3⟩

theorem idxL0 (k : Nat) (kd : IntKind) (hk : k < 64) : ∀ w, (Instr.index 9 (.string ⟨letters.toArray⟩) (.int kd (k : Int))).run Tryz.prog w = .ok (.int .u8 ((L k).toNat : Int)) w := by
  intro w
  have h : k < letters.length := hk
  simp [go_sem, Tryz.underlying9, L, List.getD_eq_getElem?_getD, List.getElem?_eq_getElem h]
  rw [dif_pos h]
  rfl
theorem idxL (k : Nat) (x : Int) (kd : IntKind) (hx : x = (k : Int)) (hk : k < 64) : ∀ w, (Instr.index 9 (.string ⟨#[65, 66, 67, 68, 69, 70, 71, 72, 73, 74, 75, 76, 77, 78, 79, 80, 81, 82, 83, 84, 85, 86, 87, 88, 89, 90, 97, 98, 99, 100, 101, 102, 103, 104, 105, 106, 107, 108, 109, 110, 111, 112, 113, 114, 115, 116, 117, 118, 119, 120, 121, 122, 48, 49, 50, 51, 52, 53, 54, 55, 56, 57, 43, 47]⟩) (.int kd x)).run Tryz.prog w = .ok (.int .u8 ((L k).toNat : Int)) w := by
  subst hx
  exact idxL0 k kd hk
theorem or32 (r c : Nat) (hc : c < 256) : bits .or .u32 ((r : Int) * 256 % 4294967296) ((c : Int) % 4294967296) = (((r * 256 + c) % 4294967296 : Nat) : Int) := by
  have h1 : (r : Int) * 256 % 4294967296 = ((r % 16777216 * 256 : Nat) : Int) := by omega
  have h2 : (c : Int) % 4294967296 = (c : Int) := by omega
  have h3 : r % 16777216 * 256 ||| c = r % 16777216 * 256 + c := by
    rw [Nat.mul_comm]
    exact (Nat.two_pow_add_eq_or_of_lt (i := 8) hc (r % 16777216)).symm
  rw [h1, h2, u32_or_nat _ _ (by omega) (by omega), h3]
  omega
theorem and63 (x k : Nat) (hx : x < 4294967296) : bits .and .u32 ((x : Int) / 2 ^ k) 63 = ((x / 2 ^ k % 64 : Nat) : Int) := by
  have h1 : (x : Int) / 2 ^ k = ((x / 2 ^ k : Nat) : Int) := by simp
  have h2 : x / 2 ^ k < 4294967296 := Nat.lt_of_le_of_lt (Nat.div_le_self _ _) hx
  rw [h1, show (63 : Int) = ((63 : Nat) : Int) from rfl, u32_and_nat _ _ h2 (by decide), nat_mask6]
theorem and63b (x k : Nat) : bits .and .u32 ((x : Int) * 2 ^ k % 4294967296) 63 = ((x * 2 ^ k % 4294967296 % 64 : Nat) : Int) := by
  have h1 : (x : Int) * 2 ^ k % 4294967296 = ((x * 2 ^ k % 4294967296 : Nat) : Int) := by simp
  rw [h1, show (63 : Int) = ((63 : Nat) : Int) from rfl, u32_and_nat _ _ (Nat.mod_lt _ (by decide)) (by decide), nat_mask6]

set_option maxHeartbeats 1600000 in
theorem Put_any (s : ByteArray) (hs : s.size ≤ 30000) (w : World) :
    Calls Tryz.prog 70 #[.string s] w fun e w' => e = .returned (.string ⟨(p3 s.data.toList).toArray⟩) ∧ Below w.heap.size w w' := by
  obtain ⟨n, hn⟩ : ∃ n, n = s.size := ⟨_, rfl⟩
  rw [← hn] at hs
  go_enter Tryz.func70, Tryz.ntmps70
  go_wp2_with fail
  refine (grow_b ((n + 2) / 3 * 4) _ (by rw [hn]; rfl) w (by omega)).mono ?_
  rintro e w1 ⟨rfl, hB, hb1⟩
  go_wp2_with fail
  go_loopw [4, 5, 15] (fun bv hv iv wr => ∃ (i r h : Nat) (acc : List UInt8), bv = .int .u32 (r : Int) ∧ hv = .int .i64 (h : Int) ∧ iv = .int .i64 (i : Int) ∧ i ≤ n ∧ r < 4294967296 ∧ h < 6 ∧ Bld w.heap.size acc wr ∧ Below w.heap.size w wr ∧ acc ++ body h r (s.data.toList.drop i) = body 0 0 s.data.toList ∧ acc.length ≤ 2 * i) (fun _ _ iv _ => n - (intOf iv).toNat)
  case atStart => exact ⟨0, 0, 0, [], rfl, rfl, rfl, Nat.zero_le _, by decide, by decide, hB, hb1, by simp, by simp⟩
  case round =>
    obtain ⟨i, r, h, acc, rfl, rfl, rfl, hi, hr, hh, hB, hbl, hacc, hal⟩ := hrel
    by_cases hlt : i < n
    · obtain ⟨c, hc, hidx⟩ := idx_at Tryz.underlying9 s i (by omega)
      have hlt' : (i : Int) < (s.size : Int) := by omega
      have hor := or32 r c.toNat c.toNat_lt
      have hx1 : (r * 256 + c.toNat) % 4294967296 < 4294967296 := Nat.mod_lt _ (by decide)
      have Hacc : acc ++ (emitL (h + 8) ((r * 256 + c.toNat) % 4294967296) ++ body ((h + 8) % 6) ((r * 256 + c.toNat) % 4294967296) (s.data.toList.drop (i + 1))) = body 0 0 s.data.toList := by rw [← hacc, drop_at hc, body]
      generalize (r * 256 + c.toNat) % 4294967296 = x at *
      clear hacc
      go_wp2_with fail
      go_loopw [5] (fun hv wr => ∃ (h' : Nat) (acc' : List UInt8), hv = .int .i64 (h' : Int) ∧ h' ≤ 13 ∧ Bld w.heap.size acc' wr ∧ Below w.heap.size w wr ∧ acc' ++ (emitL h' x ++ body (h' % 6) x (s.data.toList.drop (i + 1))) = body 0 0 s.data.toList ∧ 6 * acc'.length + h' ≤ 12 * i + 13) (fun hv _ => (intOf hv).toNat)
      case atStart => exact ⟨h + 8, acc, rfl, by omega, hB, hbl, Hacc, by omega⟩
      case round =>
        clear Hacc hB hbl
        obtain ⟨h', acc', rfl, hh', hB', hbl', hacc', hal'⟩ := hrel
        by_cases h6 : 6 ≤ h'
        · have h6' : (6 : Int) ≤ (h' : Int) := by omega
          have hL := idxL _ _ .u32 (and63 x (h' - 6) hx1) (Nat.mod_lt _ (by decide))
          rw [emitL, if_pos h6] at hacc'
          go_wp2_with fail
          refine (writeByte_b _ acc' _ _ rfl wr hB' (by omega) (bld_lt hB')).mono ?_
          rintro e w2 ⟨rfl, hB2, hb2⟩
          have hbl2 := hbl'.trans hb2
          clear hL hor hidx hB' hbl'
          go_wp2_with fail
          go_roundw
          case rel =>
            refine ⟨h' - 6, acc' ++ [L (x / 2 ^ (h' - 6) % 64)], by congr 1; omega, by omega, hB2, hbl2, ?_, by simp; omega⟩
            rw [← hacc', show (h' - 6) % 6 = h' % 6 by omega]
            simp
          case measure => simp only [intOf]; omega
        · have h6' : ¬ (6 : Int) ≤ (h' : Int) := by omega
          rw [emitL, if_neg h6] at hacc'
          clear hor hidx
          go_wp2_with fail
          go_roundw
          case rel =>
            refine ⟨i + 1, x, h', acc', rfl, rfl, rfl, by omega, hx1, by omega, hB', hbl', ?_, by omega⟩
            rw [← hacc', show h' % 6 = h' by omega]
            rfl
          case measure => simp only [intOf]; omega
    · have hlt' : ¬ (i : Int) < (s.size : Int) := by omega
      have hdr : s.data.toList.drop i = [] := by
        apply List.drop_eq_nil_of_le
        have : s.data.toList.length = s.size := by simp
        omega
      rw [hdr, body_nil] at hacc
      obtain ⟨B0, hB0⟩ : ∃ B0, B0 = body 0 0 s.data.toList := ⟨_, rfl⟩
      rw [← hB0] at hacc
      by_cases h0 : 0 < h
      · have h0' : (0 : Int) < (h : Int) := by omega
        have hL := idxL _ _ .u32 (and63b r (6 - h)) (Nat.mod_lt _ (by decide))
        rw [flush, if_pos h0] at hacc
        generalize L (r * 2 ^ (6 - h) % 4294967296 % 64) = c2 at *
        have hB0l : B0.length = acc.length + 1 := by rw [← hacc]; simp
        go_wp2_with fail
        refine (writeByte_b _ acc c2 _ rfl wr hB (by omega) (bld_lt hB)).mono ?_
        rintro e w3 ⟨rfl, HB, hb3⟩
        rw [hacc] at HB
        have Hbl := hbl.trans hb3
        clear hL hacc hB hbl
        go_wp2_with fail
        go_loopw [] (fun wr => ∃ k : Nat, k ≤ (4 - B0.length % 4) % 4 ∧ Bld w.heap.size (B0 ++ List.replicate k 61) wr ∧ Below w.heap.size w wr) (fun wr => B0.length + 4 - bldLen w.heap.size wr)
        case atStart => exact ⟨0, Nat.zero_le _, by simpa using HB, Hbl⟩
        case round =>
          clear HB Hbl
          obtain ⟨k, hk, hB2, hbl2⟩ := hrel
          obtain ⟨l, hl⟩ : ∃ l, l = B0 ++ List.replicate k 61 := ⟨_, rfl⟩
          rw [← hl] at hB2
          have hll : l.length = B0.length + k := by rw [hl]; simp
          obtain ⟨m, hm⟩ : ∃ m, l.length = m := ⟨_, rfl⟩
          have hlen := len_b _ l _ hB2
          rw [hm] at hlen
          rw [hm] at hll
          by_cases h4 : m % 4 = 0
          · have h4' : ((m : Int) % 4 != 0) = false := by simp; omega
            have Hfin := Lib.hid (show l = p3 s.data.toList by rw [← put_eq s.data.toList 0, fill, ← hB0, hl, show k = (4 - B0.length % 4) % 4 by omega])
            clear hl hm hll hB0
            go_wp2_with fail
            refine hlen.mono ?_
            rintro e w4 ⟨rfl, rfl⟩
            go_wp2_with fail
            refine (string_b _ l _ hB2).mono ?_
            rintro e w5 ⟨rfl, hb5⟩
            have hbl5 := hbl2.trans hb5
            go_wp2_with fail
            go_ret
            refine ⟨?_, hbl5⟩
            rw [Hfin.out]
            rfl
          · have h4' : ((m : Int) % 4 != 0) = true := by simp; omega
            have Hl := Lib.hid hl
            have Hm := Lib.hid hm
            have Hll := Lib.hid hll
            have hl1 : l.length + 1 ≤ 100000 := by omega
            clear hl hm hll hB0
            go_wp2_with fail
            refine hlen.mono ?_
            rintro e w4 ⟨rfl, rfl⟩
            go_wp2_with fail
            refine (writeFill_b _ l _ hB2 hl1 (bld_lt hB2)).mono ?_
            rintro e w5 ⟨rfl, hB5, hb5⟩
            have hbl5 := hbl2.trans hb5
            have hm2 := bldLen_of hB2
            have hm5 := bldLen_of hB5
            clear hlen hB2 hbl2
            go_wp2_with fail
            go_roundw
            case rel => exact ⟨k + 1, by have := Hll.out; omega, by rw [List.replicate_succ', ← List.append_assoc, ← Hl.out]; exact hB5, hbl5⟩
            case measure => have := Hll.out; have := Hm.out; rw [hm5, hm2]; simp; omega
      · have h0' : ¬ (0 : Int) < (h : Int) := by omega
        rw [flush, if_neg h0, List.append_nil] at hacc
        rw [hacc] at hB
        rw [hacc] at hal
        have hB0l : B0.length ≤ 2 * i := by omega
        have HB := hB
        have Hbl := hbl
        clear hB hbl
        go_wp2_with fail
        go_loopw [] (fun wr => ∃ k : Nat, k ≤ (4 - B0.length % 4) % 4 ∧ Bld w.heap.size (B0 ++ List.replicate k 61) wr ∧ Below w.heap.size w wr) (fun wr => B0.length + 4 - bldLen w.heap.size wr)
        case atStart => exact ⟨0, Nat.zero_le _, by simpa using HB, Hbl⟩
        case round =>
          clear HB Hbl
          obtain ⟨k, hk, hB2, hbl2⟩ := hrel
          obtain ⟨l, hl⟩ : ∃ l, l = B0 ++ List.replicate k 61 := ⟨_, rfl⟩
          rw [← hl] at hB2
          have hll : l.length = B0.length + k := by rw [hl]; simp
          obtain ⟨m, hm⟩ : ∃ m, l.length = m := ⟨_, rfl⟩
          have hlen := len_b _ l _ hB2
          rw [hm] at hlen
          rw [hm] at hll
          by_cases h4 : m % 4 = 0
          · have h4' : ((m : Int) % 4 != 0) = false := by simp; omega
            have Hfin := Lib.hid (show l = p3 s.data.toList by rw [← put_eq s.data.toList 0, fill, ← hB0, hl, show k = (4 - B0.length % 4) % 4 by omega])
            clear hl hm hll hB0
            go_wp2_with fail
            refine hlen.mono ?_
            rintro e w4 ⟨rfl, rfl⟩
            go_wp2_with fail
            refine (string_b _ l _ hB2).mono ?_
            rintro e w5 ⟨rfl, hb5⟩
            have hbl5 := hbl2.trans hb5
            go_wp2_with fail
            go_ret
            refine ⟨?_, hbl5⟩
            rw [Hfin.out]
            rfl
          · have h4' : ((m : Int) % 4 != 0) = true := by simp; omega
            have Hl := Lib.hid hl
            have Hm := Lib.hid hm
            have Hll := Lib.hid hll
            have hl1 : l.length + 1 ≤ 100000 := by omega
            clear hl hm hll hB0
            go_wp2_with fail
            refine hlen.mono ?_
            rintro e w4 ⟨rfl, rfl⟩
            go_wp2_with fail
            refine (writeFill_b _ l _ hB2 hl1 (bld_lt hB2)).mono ?_
            rintro e w5 ⟨rfl, hB5, hb5⟩
            have hbl5 := hbl2.trans hb5
            have hm2 := bldLen_of hB2
            have hm5 := bldLen_of hB5
            clear hlen hB2 hbl2
            go_wp2_with fail
            go_roundw
            case rel => exact ⟨k + 1, by have := Hll.out; omega, by rw [List.replicate_succ', ← List.append_assoc, ← Hl.out]; exact hB5, hbl5⟩
            case measure => have := Hll.out; have := Hm.out; rw [hm5, hm2]; simp; omega
end Go.Proofs.YtbhnhoenjoagbaaGreatDoor.SixW

/- Percent-encoding as the document has it, in plain Lean: what Put writes, what is read back, and that each is the other's way back. -/
namespace Go.Proofs.YtbhnhoenjoagbaaGreatDoor.EscM

def digits : List UInt8 := [48, 49, 50, 51, 52, 53, 54, 55, 56, 57, 65, 66, 67, 68, 69, 70]
/-- The digit of a number. -/
def H (n : Nat) : UInt8 := digits.getD n 0
/-- The number of a digit. -/
def dig (c : UInt8) : Option Nat := digits.findIdx? (· == c)
/-- What is encoded as itself. -/
def self (c : UInt8) : Bool := decide (33 ≤ c.toNat) && decide (c.toNat ≤ 126) && decide (c.toNat ≠ 37) && decide (c.toNat ≠ 61)
def enc (c : UInt8) : List UInt8 := if self c then [c] else [37, H (c.toNat / 16), H (c.toNat % 16)]
/-- What Put writes. -/
def put (l : List UInt8) : List UInt8 := l.flatMap enc

theorem dig_H : ∀ n, n < 16 → dig (H n) = some n := by decide +kernel
theorem H_dig_all : ∀ i : Fin 256, ∀ k ∈ dig (UInt8.ofNat i.val), H k = UInt8.ofNat i.val ∧ k < 16 := by decide +kernel
theorem H_dig {c : UInt8} {k : Nat} (h : dig c = some k) : H k = c ∧ k < 16 := by
  have := H_dig_all ⟨c.toNat, c.toNat_lt⟩ k (by simpa using h)
  simpa using this
theorem index_dig_all : ∀ i : Fin 256, Lib.indexByte digits (UInt8.ofNat i.val) = match dig (UInt8.ofNat i.val) with | some k => (k : Int) | none => -1 := by decide +kernel
theorem index_dig (c : UInt8) : Lib.indexByte digits c = match dig c with | some k => (k : Int) | none => -1 := by
  have := index_dig_all ⟨c.toNat, c.toNat_lt⟩
  simpa using this
theorem H_self : ∀ n, n < 16 → self (H n) = true ∧ (H n).toNat ≠ 37 := by decide +kernel
theorem self_mark : self 37 = false := by decide +kernel

theorem put_nil : put [] = [] := rfl
theorem put_cons (c : UInt8) (l : List UInt8) : put (c :: l) = enc c ++ put l := by simp [put]
theorem put_append (l m : List UInt8) : put (l ++ m) = put l ++ put m := by simp [put]
theorem enc_len (c : UInt8) : (enc c).length ≤ 3 := by unfold enc; split <;> simp
theorem put_len (l : List UInt8) : (put l).length ≤ 3 * l.length := by
  induction l with
  | nil => simp [put]
  | cons c l ih => rw [put_cons, List.length_append, List.length_cons]; have := enc_len c; omega

/-- The byte of two digits. -/
def hexOf (x y : Nat) : UInt8 := UInt8.ofNat (x * 16 + y)
theorem hexOf_split (c : UInt8) : hexOf (c.toNat / 16) (c.toNat % 16) = c := by
  unfold hexOf
  rw [show c.toNat / 16 * 16 + c.toNat % 16 = c.toNat by omega]
  simp
theorem hexOf_nat (x y : Nat) (hx : x < 16) (hy : y < 16) : (hexOf x y).toNat = x * 16 + y := by
  unfold hexOf
  simp
  omega

/-- What the program reads. -/
def get : List UInt8 → Option (List UInt8)
  | [] => some []
  | c :: t => if c.toNat = 37 then match t with
      | a :: b :: r => match dig a, dig b with
        | some x, some y => if self (hexOf x y) then none else (get r).map (hexOf x y :: ·)
        | _, _ => none
      | _ => none
    else if self c then (get t).map (c :: ·) else none

theorem get_mark (c a b : UInt8) (r : List UInt8) (h : c.toNat = 37) : get (c :: a :: b :: r) = match dig a, dig b with
    | some x, some y => if self (hexOf x y) then none else (get r).map (hexOf x y :: ·)
    | _, _ => none := by
  rw [get.eq_def]
  simp only
  rw [if_pos h]
theorem get_short (c : UInt8) (t : List UInt8) (h : c.toNat = 37) (ht : t.length < 2) : get (c :: t) = none := by
  rw [get.eq_def]
  simp only
  rw [if_pos h]
  match t, ht with
  | [], _ => rfl
  | [a], _ => rfl
theorem get_plain (c : UInt8) (t : List UInt8) (h : c.toNat ≠ 37) : get (c :: t) = if self c then (get t).map (c :: ·) else none := by
  rw [get.eq_def]
  simp only
  rw [if_neg h]
theorem get_put (l : List UInt8) : get (put l) = some l := by
  induction l with
  | nil => rfl
  | cons c l ih =>
    rw [put_cons]
    unfold enc
    by_cases h : self c = true
    · have h37 : c.toNat ≠ 37 := by intro h2; simp [self, h2] at h
      rw [if_pos h, List.singleton_append, get_plain c _ h37, if_pos h, ih]
      rfl
    · rw [if_neg h]
      have hc := c.toNat_lt
      have h1 := dig_H (c.toNat / 16) (by omega)
      have h2 := dig_H (c.toNat % 16) (by omega)
      simp only [List.cons_append, List.nil_append]
      rw [get_mark _ _ _ _ (by decide +kernel), h1, h2]
      simp only [hexOf_split, ih]
      rw [if_neg h]
      rfl
theorem put_get : ∀ (n : Nat) (t : List UInt8), t.length ≤ n → ∀ l, get t = some l → put l = t := by
  intro n
  induction n with
  | zero =>
    intro t ht l h
    obtain rfl : t = [] := List.eq_nil_of_length_eq_zero (by omega)
    simp only [get, Option.some.injEq] at h
    subst h; rfl
  | succ n ih =>
    intro t ht l h
    match t, ht, h with
    | [], _, h => simp only [get, Option.some.injEq] at h; subst h; rfl
    | c :: t, ht, h =>
      by_cases h37 : c.toNat = 37
      · match t, ht, h with
        | [], _, h => rw [get_short c _ h37 (by simp)] at h; simp at h
        | [_], _, h => rw [get_short c _ h37 (by simp)] at h; simp at h
        | a :: b :: r, ht, h =>
          rw [get_mark c a b r h37] at h
          rcases ha : dig a with _ | x
          · simp [ha] at h
          rcases hb : dig b with _ | y
          · simp [ha, hb] at h
          simp only [ha, hb] at h
          by_cases hs : self (hexOf x y) = true
          · rw [if_pos hs] at h; simp at h
          · rw [if_neg hs] at h
            obtain ⟨m, hm, rfl⟩ := Option.map_eq_some_iff.1 h
            have h3 := ih r (by simp only [List.length_cons] at ht; omega) m hm
            obtain ⟨hx, hx16⟩ := H_dig ha
            obtain ⟨hy, hy16⟩ := H_dig hb
            have hbn := hexOf_nat x y hx16 hy16
            rw [put_cons, enc, if_neg hs, hbn, show (x * 16 + y) / 16 = x by omega, show (x * 16 + y) % 16 = y by omega, hx, hy, h3]
            have : c = 37 := UInt8.toNat_inj.1 (by rw [h37]; rfl)
            subst this; rfl
      · rw [get_plain c t h37] at h
        by_cases hs : self c = true
        · rw [if_pos hs] at h
          obtain ⟨m, hm, rfl⟩ := Option.map_eq_some_iff.1 h
          have h3 := ih t (by simp only [List.length_cons] at ht; omega) m hm
          rw [put_cons, enc, if_pos hs, h3]; rfl
        · rw [if_neg hs] at h; simp at h
theorem get_iff (t l : List UInt8) : get t = some l ↔ put l = t :=
  ⟨put_get _ t (Nat.le_refl _) l, fun h => by rw [← h, get_put]⟩
theorem get_none {t : List UInt8} : get t = none ↔ ∀ l, put l ≠ t := by
  constructor
  · intro h l hl
    rw [(get_iff t l).2 hl] at h; simp at h
  · intro h
    cases hg : get t with
    | none => rfl
    | some l => exact absurd ((get_iff t l).1 hg) (h l)

/-- The number of a digit in the document's answer, 16 for none. -/
def nib (c : UInt8) : Nat := if 48 ≤ c.toNat ∧ c.toNat ≤ 57 then c.toNat - 48 else if 65 ≤ c.toNat ∧ c.toNat ≤ 70 then c.toNat - 65 + 10 else 16
theorem nib_H : ∀ n, n < 16 → nib (H n) = n := by decide +kernel
theorem nib_le (c : UInt8) : nib c ≤ 16 := by
  unfold nib
  split
  · omega
  · split <;> omega
def nibByte (a b : UInt8) : UInt8 := UInt8.ofNat (nib a * 16 + nib b % 16)
/-- What the document's answer reads before it writes it again. -/
def rdec : List UInt8 → List UInt8
  | [] => []
  | c :: t => if c.toNat = 37 then match t with
      | a :: b :: r => nibByte a b :: rdec r
      | [a] => c :: rdec [a]
      | [] => [c]
    else c :: rdec t
theorem rdec_two (c a b : UInt8) (r : List UInt8) (h : c.toNat = 37) : rdec (c :: a :: b :: r) = nibByte a b :: rdec r := by
  rw [rdec.eq_def]
  simp only
  rw [if_pos h]
theorem rdec_one (c : UInt8) (t : List UInt8) (h : ¬ (c.toNat = 37 ∧ 2 ≤ t.length)) : rdec (c :: t) = c :: rdec t := by
  rw [rdec.eq_def]
  simp only
  split
  · rename_i h37
    match t, h with
    | [], _ => rfl
    | [a], _ => rfl
    | a :: b :: r, h => exact absurd ⟨h37, by simp⟩ h
  · rfl
theorem rdec_put (l : List UInt8) : rdec (put l) = l := by
  induction l with
  | nil => rfl
  | cons c l ih =>
    rw [put_cons]
    unfold enc
    by_cases h : self c = true
    · have h37 : c.toNat ≠ 37 := by intro h2; simp [self, h2] at h
      rw [if_pos h, List.singleton_append, rdec_one c _ (fun h2 => h37 h2.1), ih]
    · rw [if_neg h]
      have hc := c.toNat_lt
      simp only [List.cons_append, List.nil_append]
      rw [rdec_two _ _ _ _ (by decide +kernel), ih, nibByte, nib_H _ (by omega), nib_H _ (by omega)]
      have := hexOf_split c
      unfold hexOf at this
      rw [show c.toNat % 16 % 16 = c.toNat % 16 by omega, this]
/-- The document's answer is the program's. -/
theorem rget (t : List UInt8) : get t = if put (rdec t) = t then some (rdec t) else none := by
  split
  · rename_i h
    exact (get_iff t _).2 h
  · rename_i h
    rw [get_none]
    intro l hl
    apply h
    rw [← hl, rdec_put]
end Go.Proofs.YtbhnhoenjoagbaaGreatDoor.EscM
