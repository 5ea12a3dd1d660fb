/- A strings.Builder of a call's own by the bytes that it holds (Bld): one byte more, its length, its string, a fresh one grown; the letter at a place. -/
import Derived.Test.YtobfbjfajdnhaaaBuild
namespace Go.Proofs.Ytobfbjfajdnhaaa
open Go.RowKit
set_option linter.unusedVariables false

/-- The letter at a place of a string. -/
theorem idx_at {P : Program} {t : TypeId} (ht : P.underlying t = some .string) (S : ByteArray) (i : Nat) (h : i < S.size) : ∃ c : UInt8, S.data.toList[i]? = some c ∧ ∀ w, (Instr.index t (.string S) (.int .i64 (i : Int))).run P w = .ok (.int .u8 (c.toNat : Int)) w := by
  refine ⟨S[i], ?_, ?_⟩
  · rw [List.getElem?_eq_getElem (by simpa using h)]; rfl
  · intro w
    simp [go_sem, ht, h]
theorem drop_at {l : List UInt8} {i : Nat} {c : UInt8} (h : l[i]? = some c) : l.drop i = c :: l.drop (i + 1) := by
  obtain ⟨hi, rfl⟩ := List.getElem?_eq_some_iff.1 h
  exact List.drop_eq_getElem_cons hi
theorem byteCell (c : UInt8) : [Value.int .u8 (c.toNat : Int)] = Lib.byteCells [c] := rfl
theorem writeByte_b (b : Nat) (l : List UInt8) (c : UInt8) (x : Int) (hx : x = (c.toNat : Int)) (w : World) (h : Bld b l w) (hlen : l.length + 1 ≤ 100000) (hb : b < w.heap.size) :
    Calls Try.prog 43 #[.pointer (some ⟨b, 0, none⟩), .int .u8 x] w fun e w' => e = .returned .nilIface ∧ (Bld b (l ++ [c]) w' ∧ Below b w w') := by
  subst hx
  refine (writeByte_any b b _ (c.toNat : Int) w h (by rw [Lib.byteCells_length]; omega) (Nat.le_of_lt hb)).mono ?_
  rintro e w' ⟨h1, h2, h3⟩
  refine ⟨h1, ?_, h3⟩
  unfold Bld
  rw [Lib.byteCells_append]
  exact h2
theorem writeFill_b (b : Nat) (l : List UInt8) (w : World) (h : Bld b l w) (hlen : l.length + 1 ≤ 100000) (hb : b < w.heap.size) :
    Calls Try.prog 46 #[.pointer (some ⟨b, 0, none⟩), .string ⟨#[61]⟩] w fun e w' => e = .returned (.tuple #[.int .i64 1, .nilIface]) ∧ (Bld b (l ++ [61]) w' ∧ Below b w w') := by
  refine (writeString_any b b _ ⟨#[61]⟩ w h (by rw [Lib.byteCells_length]; show l.length + 1 ≤ _; omega) (Nat.le_of_lt hb)).mono ?_
  rintro e w' ⟨h1, h2, h3⟩
  refine ⟨h1, ?_, h3⟩
  unfold Bld
  rw [Lib.byteCells_append]
  exact h2
theorem writeStr_b (b : Nat) (l : List UInt8) (s : ByteArray) (w : World) (h : Bld b l w) (hlen : l.length + s.size ≤ 1000000) (hb : b < w.heap.size) :
    Calls Try.prog 46 #[.pointer (some ⟨b, 0, none⟩), .string s] w fun e w' => e = .returned (.tuple #[.int .i64 s.size, .nilIface]) ∧ (Bld b (l ++ s.data.toList) w' ∧ Below b w w') := by
  refine (writeString_any b b _ s w h (by rw [Lib.byteCells_length]; omega) (Nat.le_of_lt hb)).mono ?_
  rintro e w' ⟨h1, h2, h3⟩
  refine ⟨h1, ?_, h3⟩
  unfold Bld
  rw [Lib.byteCells_append]
  exact h2
theorem newBld (w : World) : Bld w.heap.size [] (w.alloc (.cells #[.pointer none, .slice none 0 0] 65)) :=
  .inl ⟨Nat.le_refl _, _, heap_alloc_new w _, World.ownsRow_nil _ _ _ _, by simp [Value.ownBlock]⟩
theorem bld_lt {b : Nat} {l : List UInt8} {w : World} (h : Bld b l w) : b < w.heap.size := by
  rcases h with h | h <;> exact h.lt
/-- How many bytes a builder holds, off the world. -/
def bldLen (b : Nat) (w : World) : Nat := match w.cell? ⟨b, 1, none⟩ with
  | some (.slice _ n _) => n
  | _ => 0
theorem bldLen_of {b : Nat} {l : List UInt8} {w : World} (h : Bld b l w) : bldLen b w = l.length := by
  obtain ⟨p, hB, v, hbk, hown, hne⟩ : ∃ p, Lib.BuilderAt 65 5 b b p (Lib.byteCells l) w := by
    rcases h with h | h
    · exact ⟨_, h⟩
    · exact ⟨_, h⟩
  have c1 : w.cell? ⟨b, 1, none⟩ = some v := by rw [Lib.cell_of_heap hbk]; rfl
  rw [Lib.byteCells_length] at hown
  unfold bldLen
  rw [c1]
  rcases hown.2 with ⟨hv, h0⟩ | ⟨g, cap, cur, hv, _⟩
  · subst hv; simpa using h0.symm
  · subst hv; rfl
theorem len_b (b : Nat) (l : List UInt8) (w : World) (h : Bld b l w) :
    Calls Try.prog 45 #[.pointer (some ⟨b, 0, none⟩)] w fun e w' => e = .returned (.int .i64 (l.length : Int)) ∧ w' = w := by
  have := Try.Builder_Len b b _ w h
  rw [Lib.byteCells_length] at this
  exact this
theorem string_b (b : Nat) (l : List UInt8) (w : World) (h : Bld b l w) :
    Calls Try.prog 44 #[.pointer (some ⟨b, 0, none⟩)] w fun e w' => e = .returned (.string ⟨l.toArray⟩) ∧ Below b w w' := by
  refine (Try.Builder_String_any b b l w h (Nat.le_of_lt (bld_lt h))).mono ?_
  rintro e w' h1
  exact h1
theorem grow_b (n : Nat) (x : Int) (hx : x = (n : Int)) (w : World) (hn : n ≤ 200000) :
    Calls Try.prog 41 #[.pointer (some ⟨w.heap.size, 0, none⟩), .int .i64 x] (w.alloc (.cells #[.pointer none, .slice none 0 0] 65)) fun e w' => e = .returned (.tuple #[]) ∧ (Bld w.heap.size [] w' ∧ Below w.heap.size w w') := by
  subst hx
  refine (Try.Builder_Grow_fresh w.heap.size w.heap.size n _ (Nat.le_refl _) (heap_alloc_new w _) (by simp) (by omega)).mono ?_
  rintro e w' ⟨h1, h2, h3⟩
  exact ⟨h1, .inr h2, ((Below.refl _ w).alloc (Nat.le_refl _) _).trans h3⟩
end Go.Proofs.Ytobfbjfajdnhaaa
