/- Bundle of 4 texts. -/
import Derived.Lib.Bytealg
import Derived.Lib.Strings
import Derived.Test.YtbhnhoenjoagbaaGreatDoorPk01
import Derived.Test.YtbhnhoenjoagbaaGreatDoorPk10
/- Base64 as the document has it, in plain Lean: what Put writes, what is read back, and that each is the other's way back. -/
namespace Go.Proofs.YtbhnhoenjoagbaaGreatDoor.SixM

def letters : List UInt8 := [65, 66, 67, 68, 69, 70, 71, 72, 73, 74, 75, 76, 77, 78, 79, 80, 81, 82, 83, 84, 85, 86, 87, 88, 89, 90, 97, 98, 99, 100, 101, 102, 103, 104, 105, 106, 107, 108, 109, 110, 111, 112, 113, 114, 115, 116, 117, 118, 119, 120, 121, 122, 48, 49, 50, 51, 52, 53, 54, 55, 56, 57, 43, 47]
def L (n : Nat) : UInt8 := letters.getD n 0
def num (c : UInt8) : Option Nat := letters.findIdx? (· == c)

def p3 : List UInt8 → List UInt8
  | [] => []
  | [a] => [L (a.toNat / 4), L (a.toNat % 4 * 16), 61, 61]
  | [a, b] => [L (a.toNat / 4), L (a.toNat % 4 * 16 + b.toNat / 16), L (b.toNat % 16 * 4), 61]
  | a :: b :: c :: r => L (a.toNat / 4) :: L (a.toNat % 4 * 16 + b.toNat / 16) :: L (b.toNat % 16 * 4 + c.toNat / 64) :: L (c.toNat % 64) :: p3 r

def emitL (h r : Nat) : List UInt8 := if 6 ≤ h then L (r / 2 ^ (h - 6) % 64) :: emitL (h - 6) r else []
termination_by h
def flush (h r : Nat) : List UInt8 := if 0 < h then [L (r * 2 ^ (6 - h) % 4294967296 % 64)] else []
def body (h r : Nat) : List UInt8 → List UInt8
  | [] => flush h r
  | b :: bs => emitL (h + 8) ((r * 256 + b.toNat) % 4294967296) ++ body ((h + 8) % 6) ((r * 256 + b.toNat) % 4294967296) bs
def fill (l : List UInt8) : List UInt8 := l ++ List.replicate ((4 - l.length % 4) % 4) 61

theorem emit8 (r : Nat) : emitL 8 r = [L (r / 4 % 64)] := by unfold emitL; rw [if_pos (by decide)]; unfold emitL; rw [if_neg (by decide)]
theorem emit10 (r : Nat) : emitL 10 r = [L (r / 16 % 64)] := by unfold emitL; rw [if_pos (by decide)]; unfold emitL; rw [if_neg (by decide)]
theorem emit12 (r : Nat) : emitL 12 r = [L (r / 64 % 64), L (r % 64)] := by
  unfold emitL; rw [if_pos (by decide)]; unfold emitL; rw [if_pos (by decide)]; unfold emitL; rw [if_neg (by decide)]
  simp

theorem p3_ind {P : List UInt8 → Prop} (h0 : P []) (h1 : ∀ a, P [a]) (h2 : ∀ a b, P [a, b]) (h3 : ∀ a b c r, P r → P (a :: b :: c :: r)) : ∀ l, P l
  | [] => h0
  | [a] => h1 a
  | [a, b] => h2 a b
  | a :: b :: c :: r => h3 a b c r (p3_ind h0 h1 h2 h3 r)

theorem step1 (r : Nat) (a : Nat) (ha : a < 256) : (r * 256 + a) % 4294967296 / 4 % 64 = a / 4 ∧ (r * 256 + a) % 4294967296 % 256 = a := by omega
theorem step2 (x b : Nat) (hb : b < 256) : (x * 256 + b) % 4294967296 / 16 % 64 = x % 4 * 16 + b / 16 ∧ (x * 256 + b) % 4294967296 % 65536 = x % 256 * 256 + b := by omega
theorem step3 (x c : Nat) (hc : c < 256) : (x * 256 + c) % 4294967296 / 64 % 64 = x % 16 * 4 + c / 64 ∧ (x * 256 + c) % 4294967296 % 64 = c % 64 := by omega
theorem body_cons {h r x : Nat} {b : UInt8} (hx : (r * 256 + b.toNat) % 4294967296 = x) (bs : List UInt8) : body h r (b :: bs) = emitL (h + 8) x ++ body ((h + 8) % 6) x bs := by subst hx; rfl
theorem body_nil (h r : Nat) : body h r [] = flush h r := rfl
theorem flush2 (x : Nat) : flush 2 x = [L (x * 16 % 4294967296 % 64)] := rfl
theorem flush4 (x : Nat) : flush 4 x = [L (x * 4 % 4294967296 % 64)] := rfl
theorem body1 (r : Nat) (a : UInt8) : body 0 r [a] = [L (a.toNat / 4), L (a.toNat % 4 * 16)] := by
  obtain ⟨e1, e2⟩ := step1 r a.toNat a.toNat_lt
  obtain ⟨x, hx⟩ : ∃ x, (r * 256 + a.toNat) % 4294967296 = x := ⟨_, rfl⟩
  rw [hx] at e1 e2
  rw [body_cons hx, show (0 : Nat) + 8 = 8 from rfl, show (8 : Nat) % 6 = 2 from rfl, emit8, body_nil, flush2, e1, show x * 16 % 4294967296 % 64 = a.toNat % 4 * 16 by omega]
  rfl
theorem body2 (r : Nat) (a b : UInt8) : body 0 r [a, b] = [L (a.toNat / 4), L (a.toNat % 4 * 16 + b.toNat / 16), L (b.toNat % 16 * 4)] := by
  obtain ⟨e1, e2⟩ := step1 r a.toNat a.toNat_lt
  obtain ⟨x, hx⟩ : ∃ x, (r * 256 + a.toNat) % 4294967296 = x := ⟨_, rfl⟩
  rw [hx] at e1 e2
  obtain ⟨e3, e4⟩ := step2 x b.toNat b.toNat_lt
  obtain ⟨y, hy⟩ : ∃ y, (x * 256 + b.toNat) % 4294967296 = y := ⟨_, rfl⟩
  rw [hy] at e3 e4
  rw [body_cons hx, show (0 : Nat) + 8 = 8 from rfl, show (8 : Nat) % 6 = 2 from rfl, emit8, body_cons hy, show (2 : Nat) + 8 = 10 from rfl, show (10 : Nat) % 6 = 4 from rfl, emit10, body_nil, flush4, e1, e3, show y * 4 % 4294967296 % 64 = b.toNat % 16 * 4 by omega, show x % 4 = a.toNat % 4 by omega]
  rfl
theorem body3 (r : Nat) (a b c : UInt8) (l : List UInt8) : ∃ r', body 0 r (a :: b :: c :: l) = L (a.toNat / 4) :: L (a.toNat % 4 * 16 + b.toNat / 16) :: L (b.toNat % 16 * 4 + c.toNat / 64) :: L (c.toNat % 64) :: body 0 r' l := by
  obtain ⟨e1, e2⟩ := step1 r a.toNat a.toNat_lt
  obtain ⟨x, hx⟩ : ∃ x, (r * 256 + a.toNat) % 4294967296 = x := ⟨_, rfl⟩
  rw [hx] at e1 e2
  obtain ⟨e3, e4⟩ := step2 x b.toNat b.toNat_lt
  obtain ⟨y, hy⟩ : ∃ y, (x * 256 + b.toNat) % 4294967296 = y := ⟨_, rfl⟩
  rw [hy] at e3 e4
  obtain ⟨e5, e6⟩ := step3 y c.toNat c.toNat_lt
  obtain ⟨z, hz⟩ : ∃ z, (y * 256 + c.toNat) % 4294967296 = z := ⟨_, rfl⟩
  rw [hz] at e5 e6
  refine ⟨z, ?_⟩
  rw [body_cons hx, show (0 : Nat) + 8 = 8 from rfl, show (8 : Nat) % 6 = 2 from rfl, emit8, body_cons hy, show (2 : Nat) + 8 = 10 from rfl, show (10 : Nat) % 6 = 4 from rfl, emit10, body_cons hz, show (4 : Nat) + 8 = 12 from rfl, show (12 : Nat) % 6 = 0 from rfl, emit12, e1, e3, e5, e6, show x % 4 = a.toNat % 4 by omega, show y % 16 = b.toNat % 16 by omega]
  rfl
theorem fill4 (a b c d : UInt8) (l : List UInt8) : fill (a :: b :: c :: d :: l) = a :: b :: c :: d :: fill l := by
  unfold fill
  have : (4 - (a :: b :: c :: d :: l).length % 4) % 4 = (4 - l.length % 4) % 4 := by simp only [List.length_cons]; omega
  rw [this]; rfl
theorem put_eq (l : List UInt8) : ∀ r, fill (body 0 r l) = p3 l := by
  induction l using p3_ind with
  | h0 => intro r; simp [body, flush, fill, p3]
  | h1 a => intro r; rw [body1]; rfl
  | h2 a b => intro r; rw [body2]; rfl
  | h3 a b c l ih => intro r; obtain ⟨r', h⟩ := body3 r a b c l; rw [h, fill4, ih, p3]

theorem p3_length (l : List UInt8) : (p3 l).length = (l.length + 2) / 3 * 4 := by
  induction l using p3_ind with
  | h0 => rfl
  | h1 a => simp [p3]
  | h2 a b => simp [p3]
  | h3 a b c l ih => simp only [p3, List.length_cons, ih]; omega
def dec (h r : Nat) : List UInt8 → Option (List UInt8)
  | [] => if r % 2 ^ h = 0 then some [] else none
  | c :: cs => match num c with
    | none => none
    | some k => if 8 ≤ h + 6 then (dec (h - 2) ((r * 64 + k) % 4294967296) cs).map (UInt8.ofNat ((r * 64 + k) % 4294967296 / 2 ^ (h - 2)) :: ·)
      else dec (h + 6) ((r * 64 + k) % 4294967296) cs
def unfill (t : List UInt8) : Option (List UInt8) := if t.length % 4 = 0 then some (Lib.trimSuffix (Lib.trimSuffix t [61]) [61]) else none
def get (t : List UInt8) : Option (List UInt8) := (unfill t).bind (dec 0 0)

def rdec (h n : Nat) : List UInt8 → List UInt8
  | [] => []
  | c :: cs => match num c with
    | none => rdec h n cs
    | some k => if 8 ≤ h + 6 then UInt8.ofNat ((n * 64 + k) % 1048576 / 2 ^ (h - 2)) :: rdec (h - 2) ((n * 64 + k) % 1048576) cs else rdec (h + 6) ((n * 64 + k) % 1048576) cs
end Go.Proofs.YtbhnhoenjoagbaaGreatDoor.SixM

/- Walk over package sixty: Put. -/
namespace Go.Proofs.YtbhnhoenjoagbaaGreatDoor.SixW
open Go.RowKit
open SixM
set_option linter.unusedVariables false

theorem idx_at {P : Program} {t : TypeId} (ht : P.underlying t = some .string) (S : ByteArray) (i : Nat) (h : i < S.size) : ∃ c : UInt8, S.data.toList[i]? = some c ∧ ∀ w, (Instr.index t (.string S) (.int .i64 (i : Int))).run P w = .ok (.int .u8 (c.toNat : Int)) w := by
  refine ⟨S[i], ?_, ?_⟩
  · rw [List.getElem?_eq_getElem (by simpa using h)]; rfl
  · intro w
    simp [go_sem, ht, h]
theorem drop_at {l : List UInt8} {i : Nat} {c : UInt8} (h : l[i]? = some c) : l.drop i = c :: l.drop (i + 1) := by
  obtain ⟨hi, rfl⟩ := List.getElem?_eq_some_iff.1 h
  exact List.drop_eq_getElem_cons hi
theorem writeByte_b (b : Nat) (l : List UInt8) (c : UInt8) (x : Int) (hx : x = (c.toNat : Int)) (w : World) (h : Bld b l w) (hlen : l.length + 1 ≤ 100000) (hb : b < w.heap.size) :
    Calls Tryz.prog 134 #[.pointer (some ⟨b, 0, none⟩), .int .u8 x] w fun e w' => e = .returned .nilIface ∧ (Bld b (l ++ [c]) w' ∧ Below b w w') := by
  subst hx
  refine (writeByte_any b b _ (c.toNat : Int) w h (by rw [Lib.byteCells_length]; omega) (Nat.le_of_lt hb)).mono ?_
  rintro e w' ⟨h1, h2, h3⟩
  refine ⟨h1, ?_, h3⟩
  unfold Bld
  rw [Lib.byteCells_append]
  exact h2
theorem writeFill_b (b : Nat) (l : List UInt8) (w : World) (h : Bld b l w) (hlen : l.length + 1 ≤ 100000) (hb : b < w.heap.size) :
    Calls Tryz.prog 135 #[.pointer (some ⟨b, 0, none⟩), .string ⟨#[61]⟩] w fun e w' => e = .returned (.tuple #[.int .i64 1, .nilIface]) ∧ (Bld b (l ++ [61]) w' ∧ Below b w w') := by
  refine (writeString_any b b _ ⟨#[61]⟩ w h (by rw [Lib.byteCells_length]; show l.length + 1 ≤ _; omega) (Nat.le_of_lt hb)).mono ?_
  rintro e w' ⟨h1, h2, h3⟩
  refine ⟨h1, ?_, h3⟩
  unfold Bld
  rw [Lib.byteCells_append]
  exact h2
theorem bld_lt {b : Nat} {l : List UInt8} {w : World} (h : Bld b l w) : b < w.heap.size := by
  rcases h with h | h <;> exact h.lt
def bldLen (b : Nat) (w : World) : Nat := match w.cell? ⟨b, 1, none⟩ with
  | some (.slice _ n _) => n
  | _ => 0
theorem bldLen_of {b : Nat} {l : List UInt8} {w : World} (h : Bld b l w) : bldLen b w = l.length := by
  obtain ⟨p, hB, v, hbk, hown, hne⟩ : ∃ p, Lib.BuilderAt 142 5 b b p (Lib.byteCells l) w := by
    rcases h with h | h
    · exact ⟨_, h⟩
    · exact ⟨_, h⟩
  have c1 : w.cell? ⟨b, 1, none⟩ = some v := by rw [Lib.cell_of_heap hbk]; rfl
  rw [Lib.byteCells_length] at hown
  unfold bldLen
  rw [c1]
  rcases hown.2 with ⟨hv, h0⟩ | ⟨g, cap, cur, hv, _⟩
  · subst hv; simpa using h0.symm
  · subst hv; rfl
theorem len_b (b : Nat) (l : List UInt8) (w : World) (h : Bld b l w) :
    Calls Tryz.prog 140 #[.pointer (some ⟨b, 0, none⟩)] w fun e w' => e = .returned (.int .i64 (l.length : Int)) ∧ w' = w := by
  have := Tryz.Builder_Len b b _ w h
  rw [Lib.byteCells_length] at this
  exact this
theorem string_b (b : Nat) (l : List UInt8) (w : World) (h : Bld b l w) :
    Calls Tryz.prog 137 #[.pointer (some ⟨b, 0, none⟩)] w fun e w' => e = .returned (.string ⟨l.toArray⟩) ∧ Below b w w' := by
  refine (Tryz.Builder_String_any b b l w h (Nat.le_of_lt (bld_lt h))).mono ?_
  rintro e w' h1
  exact h1
theorem grow_b (n : Nat) (x : Int) (hx : x = (n : Int)) (w : World) (hn : n ≤ 200000) :
    Calls Tryz.prog 139 #[.pointer (some ⟨w.heap.size, 0, none⟩), .int .i64 x] (w.alloc (.cells #[.pointer none, .slice none 0 0] 142)) fun e w' => e = .returned (.tuple #[]) ∧ (Bld w.heap.size [] w' ∧ Below w.heap.size w w') := by
  subst hx
  refine (Tryz.Builder_Grow_fresh w.heap.size w.heap.size n _ (Nat.le_refl _) (heap_alloc_new w _) (by simp) (by omega)).mono ?_
  rintro e w' ⟨h1, h2, h3⟩
  exact ⟨h1, .inr h2, ((Below.refl _ w).alloc (Nat.le_refl _) _).trans h3⟩

theorem idxL0 (k : Nat) (kd : IntKind) (hk : k < 64) : ∀ w, (Instr.index 9 (.string ⟨letters.toArray⟩) (.int kd (k : Int))).run Tryz.prog w = .ok (.int .u8 ((L k).toNat : Int)) w := by
  intro w
  have h : k < letters.length := hk
  simp [go_sem, Tryz.underlying9, L, List.getD_eq_getElem?_getD, List.getElem?_eq_getElem h]
  rw [dif_pos h]
  rfl
theorem idxL (k : Nat) (x : Int) (kd : IntKind) (hx : x = (k : Int)) (hk : k < 64) : ∀ w, (Instr.index 9 (.string ⟨#[65, 66, 67, 68, 69, 70, 71, 72, 73, 74, 75, 76, 77, 78, 79, 80, 81, 82, 83, 84, 85, 86, 87, 88, 89, 90, 97, 98, 99, 100, 101, 102, 103, 104, 105, 106, 107, 108, 109, 110, 111, 112, 113, 114, 115, 116, 117, 118, 119, 120, 121, 122, 48, 49, 50, 51, 52, 53, 54, 55, 56, 57, 43, 47]⟩) (.int kd x)).run Tryz.prog w = .ok (.int .u8 ((L k).toNat : Int)) w := by
  subst hx
  exact idxL0 k kd hk
theorem or32 (r c : Nat) (hc : c < 256) : bits .or .u32 ((r : Int) * 256 % 4294967296) ((c : Int) % 4294967296) = (((r * 256 + c) % 4294967296 : Nat) : Int) := by
  have h1 : (r : Int) * 256 % 4294967296 = ((r % 16777216 * 256 : Nat) : Int) := by omega
  have h2 : (c : Int) % 4294967296 = (c : Int) := by omega
  have h3 : r % 16777216 * 256 ||| c = r % 16777216 * 256 + c := by
    rw [Nat.mul_comm]
    exact (Nat.two_pow_add_eq_or_of_lt (i := 8) hc (r % 16777216)).symm
  rw [h1, h2, u32_or_nat _ _ (by omega) (by omega), h3]
  omega
theorem and63 (x k : Nat) (hx : x < 4294967296) : bits .and .u32 ((x : Int) / 2 ^ k) 63 = ((x / 2 ^ k % 64 : Nat) : Int) := by
  have h1 : (x : Int) / 2 ^ k = ((x / 2 ^ k : Nat) : Int) := by simp
  have h2 : x / 2 ^ k < 4294967296 := Nat.lt_of_le_of_lt (Nat.div_le_self _ _) hx
  rw [h1, show (63 : Int) = ((63 : Nat) : Int) from rfl, u32_and_nat _ _ h2 (by decide), nat_mask6]
theorem and63b (x k : Nat) : bits .and .u32 ((x : Int) * 2 ^ k % 4294967296) 63 = ((x * 2 ^ k % 4294967296 % 64 : Nat) : Int) := by
  have h1 : (x : Int) * 2 ^ k % 4294967296 = ((x * 2 ^ k % 4294967296 : Nat) : Int) := by simp
  rw [h1, show (63 : Int) = ((63 : Nat) : Int) from rfl, u32_and_nat _ _ (Nat.mod_lt _ (by decide)) (by decide), nat_mask6]

set_option maxHeartbeats 1600000 in
theorem Put_any (s : ByteArray) (hs : s.size ≤ 30000) (w : World) :
    Calls Tryz.prog 70 #[.string s] w fun e w' => e = .returned (.string ⟨(p3 s.data.toList).toArray⟩) ∧ Below w.heap.size w w' := by
  obtain ⟨n, hn⟩ : ∃ n, n = s.size := ⟨_, rfl⟩
  rw [← hn] at hs
  go_enter Tryz.func70, Tryz.ntmps70
  go_wp2_with fail
  refine (grow_b ((n + 2) / 3 * 4) _ (by rw [hn]; rfl) w (by omega)).mono ?_
  rintro e w1 ⟨rfl, hB, hb1⟩
  go_wp2_with fail
  go_loopw [4, 5, 15] (fun bv hv iv wr => ∃ (i r h : Nat) (acc : List UInt8), bv = .int .u32 (r : Int) ∧ hv = .int .i64 (h : Int) ∧ iv = .int .i64 (i : Int) ∧ i ≤ n ∧ r < 4294967296 ∧ h < 6 ∧ Bld w.heap.size acc wr ∧ Below w.heap.size w wr ∧ acc ++ body h r (s.data.toList.drop i) = body 0 0 s.data.toList ∧ acc.length ≤ 2 * i) (fun _ _ iv _ => n - (intOf iv).toNat)
  case atStart => exact ⟨0, 0, 0, [], rfl, rfl, rfl, Nat.zero_le _, by decide, by decide, hB, hb1, by simp, by simp⟩
  case round =>
    obtain ⟨i, r, h, acc, rfl, rfl, rfl, hi, hr, hh, hB, hbl, hacc, hal⟩ := hrel
    by_cases hlt : i < n
    · obtain ⟨c, hc, hidx⟩ := idx_at Tryz.underlying9 s i (by omega)
      have hlt' : (i : Int) < (s.size : Int) := by omega
      have hor := or32 r c.toNat c.toNat_lt
      have hx1 : (r * 256 + c.toNat) % 4294967296 < 4294967296 := Nat.mod_lt _ (by decide)
      have Hacc : acc ++ (emitL (h + 8) ((r * 256 + c.toNat) % 4294967296) ++ body ((h + 8) % 6) ((r * 256 + c.toNat) % 4294967296) (s.data.toList.drop (i + 1))) = body 0 0 s.data.toList := by rw [← hacc, drop_at hc, body]
      generalize (r * 256 + c.toNat) % 4294967296 = x at *
      clear hacc
      go_wp2_with fail
      go_loopw [5] (fun hv wr => ∃ (h' : Nat) (acc' : List UInt8), hv = .int .i64 (h' : Int) ∧ h' ≤ 13 ∧ Bld w.heap.size acc' wr ∧ Below w.heap.size w wr ∧ acc' ++ (emitL h' x ++ body (h' % 6) x (s.data.toList.drop (i + 1))) = body 0 0 s.data.toList ∧ 6 * acc'.length + h' ≤ 12 * i + 13) (fun hv _ => (intOf hv).toNat)
      case atStart => exact ⟨h + 8, acc, rfl, by omega, hB, hbl, Hacc, by omega⟩
      case round =>
        clear Hacc hB hbl
        obtain ⟨h', acc', rfl, hh', hB', hbl', hacc', hal'⟩ := hrel
        by_cases h6 : 6 ≤ h'
        · have h6' : (6 : Int) ≤ (h' : Int) := by omega
          have hL := idxL _ _ .u32 (and63 x (h' - 6) hx1) (Nat.mod_lt _ (by decide))
          rw [emitL, if_pos h6] at hacc'
          go_wp2_with fail
          refine (writeByte_b _ acc' _ _ rfl wr hB' (by omega) (bld_lt hB')).mono ?_
          rintro e w2 ⟨rfl, hB2, hb2⟩
          have hbl2 := hbl'.trans hb2
          clear hL hor hidx hB' hbl'
          go_wp2_with fail
          go_roundw
          case rel =>
            refine ⟨h' - 6, acc' ++ [L (x / 2 ^ (h' - 6) % 64)], by congr 1; omega, by omega, hB2, hbl2, ?_, by simp; omega⟩
            rw [← hacc', show (h' - 6) % 6 = h' % 6 by omega]
            simp
          case measure => simp only [intOf]; omega
        · have h6' : ¬ (6 : Int) ≤ (h' : Int) := by omega
          rw [emitL, if_neg h6] at hacc'
          clear hor hidx
          go_wp2_with fail
          go_roundw
          case rel =>
            refine ⟨i + 1, x, h', acc', rfl, rfl, rfl, by omega, hx1, by omega, hB', hbl', ?_, by omega⟩
            rw [← hacc', show h' % 6 = h' by omega]
            rfl
          case measure => simp only [intOf]; omega
    · have hlt' : ¬ (i : Int) < (s.size : Int) := by omega
      have hdr : s.data.toList.drop i = [] := by
        apply List.drop_eq_nil_of_le
        have : s.data.toList.length = s.size := by simp
        omega
      rw [hdr, body_nil] at hacc
      obtain ⟨B0, hB0⟩ : ∃ B0, B0 = body 0 0 s.data.toList := ⟨_, rfl⟩
      rw [← hB0] at hacc
      by_cases h0 : 0 < h
      · have h0' : (0 : Int) < (h : Int) := by omega
        have hL := idxL _ _ .u32 (and63b r (6 - h)) (Nat.mod_lt _ (by decide))
        rw [flush, if_pos h0] at hacc
        generalize L (r * 2 ^ (6 - h) % 4294967296 % 64) = c2 at *
        have hB0l : B0.length = acc.length + 1 := by rw [← hacc]; simp
        go_wp2_with fail
        refine (writeByte_b _ acc c2 _ rfl wr hB (by omega) (bld_lt hB)).mono ?_
        rintro e w3 ⟨rfl, HB, hb3⟩
        rw [hacc] at HB
        have Hbl := hbl.trans hb3
        clear hL hacc hB hbl
        go_wp2_with fail
        go_loopw [] (fun wr => ∃ k : Nat, k ≤ (4 - B0.length % 4) % 4 ∧ Bld w.heap.size (B0 ++ List.replicate k 61) wr ∧ Below w.heap.size w wr) (fun wr => B0.length + 4 - bldLen w.heap.size wr)
        case atStart => exact ⟨0, Nat.zero_le _, by simpa using HB, Hbl⟩
        case round =>
          clear HB Hbl
          obtain ⟨k, hk, hB2, hbl2⟩ := hrel
          obtain ⟨l, hl⟩ : ∃ l, l = B0 ++ List.replicate k 61 := ⟨_, rfl⟩
          rw [← hl] at hB2
          have hll : l.length = B0.length + k := by rw [hl]; simp
          obtain ⟨m, hm⟩ : ∃ m, l.length = m := ⟨_, rfl⟩
          have hlen := len_b _ l _ hB2
          rw [hm] at hlen
          rw [hm] at hll
          by_cases h4 : m % 4 = 0
          · have h4' : ((m : Int) % 4 != 0) = false := by simp; omega
            have Hfin := Lib.hid (show l = p3 s.data.toList by rw [← put_eq s.data.toList 0, fill, ← hB0, hl, show k = (4 - B0.length % 4) % 4 by omega])
            clear hl hm hll hB0
            go_wp2_with fail
            refine hlen.mono ?_
            rintro e w4 ⟨rfl, rfl⟩
            go_wp2_with fail
            refine (string_b _ l _ hB2).mono ?_
            rintro e w5 ⟨rfl, hb5⟩
            have hbl5 := hbl2.trans hb5
            go_wp2_with fail
            go_ret
            refine ⟨?_, hbl5⟩
            rw [Hfin.out]
            rfl
          · have h4' : ((m : Int) % 4 != 0) = true := by simp; omega
            have Hl := Lib.hid hl
            have Hm := Lib.hid hm
            have Hll := Lib.hid hll
            have hl1 : l.length + 1 ≤ 100000 := by omega
            clear hl hm hll hB0
            go_wp2_with fail
            refine hlen.mono ?_
            rintro e w4 ⟨rfl, rfl⟩
            go_wp2_with fail
            refine (writeFill_b _ l _ hB2 hl1 (bld_lt hB2)).mono ?_
            rintro e w5 ⟨rfl, hB5, hb5⟩
            have hbl5 := hbl2.trans hb5
            have hm2 := bldLen_of hB2
            have hm5 := bldLen_of hB5
            clear hlen hB2 hbl2
            go_wp2_with fail
            go_roundw
            case rel => exact ⟨k + 1, by have := Hll.out; omega, by rw [List.replicate_succ', ← List.append_assoc, ← Hl.out]; exact hB5, hbl5⟩
            case measure => have := Hll.out; have := Hm.out; rw [hm5, hm2]; simp; omega
      · have h0' : ¬ (0 : Int) < (h : Int) := by omega
        rw [flush, if_neg h0, List.append_nil] at hacc
        rw [hacc] at hB
        rw [hacc] at hal
        have hB0l : B0.length ≤ 2 * i := by omega
        have HB := hB
        have Hbl := hbl
        clear hB hbl
        go_wp2_with fail
        go_loopw [] (fun wr => ∃ k : Nat, k ≤ (4 - B0.length % 4) % 4 ∧ Bld w.heap.size (B0 ++ List.replicate k 61) wr ∧ Below w.heap.size w wr) (fun wr => B0.length + 4 - bldLen w.heap.size wr)
        case atStart => exact ⟨0, Nat.zero_le _, by simpa using HB, Hbl⟩
        case round =>
          clear HB Hbl
          obtain ⟨k, hk, hB2, hbl2⟩ := hrel
          obtain ⟨l, hl⟩ : ∃ l, l = B0 ++ List.replicate k 61 := ⟨_, rfl⟩
          rw [← hl] at hB2
          have hll : l.length = B0.length + k := by rw [hl]; simp
          obtain ⟨m, hm⟩ : ∃ m, l.length = m := ⟨_, rfl⟩
          have hlen := len_b _ l _ hB2
          rw [hm] at hlen
          rw [hm] at hll
          by_cases h4 : m % 4 = 0
          · have h4' : ((m : Int) % 4 != 0) = false := by simp; omega
            have Hfin := Lib.hid (show l = p3 s.data.toList by rw [← put_eq s.data.toList 0, fill, ← hB0, hl, show k = (4 - B0.length % 4) % 4 by omega])
            clear hl hm hll hB0
            go_wp2_with fail
            refine hlen.mono ?_
            rintro e w4 ⟨rfl, rfl⟩
            go_wp2_with fail
            refine (string_b _ l _ hB2).mono ?_
            rintro e w5 ⟨rfl, hb5⟩
            have hbl5 := hbl2.trans hb5
            go_wp2_with fail
            go_ret
            refine ⟨?_, hbl5⟩
            rw [Hfin.out]
            rfl
          · have h4' : ((m : Int) % 4 != 0) = true := by simp; omega
            have Hl := Lib.hid hl
            have Hm := Lib.hid hm
            have Hll := Lib.hid hll
            have hl1 : l.length + 1 ≤ 100000 := by omega
            clear hl hm hll hB0
            go_wp2_with fail
            refine hlen.mono ?_
            rintro e w4 ⟨rfl, rfl⟩
            go_wp2_with fail
            refine (writeFill_b _ l _ hB2 hl1 (bld_lt hB2)).mono ?_
            rintro e w5 ⟨rfl, hB5, hb5⟩
            have hbl5 := hbl2.trans hb5
            have hm2 := bldLen_of hB2
            have hm5 := bldLen_of hB5
            clear hlen hB2 hbl2
            go_wp2_with fail
            go_roundw
            case rel => exact ⟨k + 1, by have := Hll.out; omega, by rw [List.replicate_succ', ← List.append_assoc, ← Hl.out]; exact hB5, hbl5⟩
            case measure => have := Hll.out; have := Hm.out; rw [hm5, hm2]; simp; omega
end Go.Proofs.YtbhnhoenjoagbaaGreatDoor.SixW

/- Percent-encoding as the document has it, in plain Lean: what Put writes, what is read back, and that each is the other's way back. -/
namespace Go.Proofs.YtbhnhoenjoagbaaGreatDoor.EscM

def digits : List UInt8 := [48, 49, 50, 51, 52, 53, 54, 55, 56, 57, 65, 66, 67, 68, 69, 70]
def H (n : Nat) : UInt8 := digits.getD n 0
def dig (c : UInt8) : Option Nat := digits.findIdx? (· == c)
def self (c : UInt8) : Bool := decide (33 ≤ c.toNat) && decide (c.toNat ≤ 126) && decide (c.toNat ≠ 37) && decide (c.toNat ≠ 61)
def enc (c : UInt8) : List UInt8 := if self c then [c] else [37, H (c.toNat / 16), H (c.toNat % 16)]
def put (l : List UInt8) : List UInt8 := l.flatMap enc

theorem H_self : ∀ n, n < 16 → self (H n) = true ∧ (H n).toNat ≠ 37 := by decide +kernel
theorem put_nil : put [] = [] := rfl
theorem put_cons (c : UInt8) (l : List UInt8) : put (c :: l) = enc c ++ put l := by simp [put]
theorem enc_len (c : UInt8) : (enc c).length ≤ 3 := by unfold enc; split <;> simp
theorem put_len (l : List UInt8) : (put l).length ≤ 3 * l.length := by
  induction l with
  | nil => simp [put]
  | cons c l ih => rw [put_cons, List.length_append, List.length_cons]; have := enc_len c; omega

def hexOf (x y : Nat) : UInt8 := UInt8.ofNat (x * 16 + y)
def get : List UInt8 → Option (List UInt8)
  | [] => some []
  | c :: t => if c.toNat = 37 then match t with
      | a :: b :: r => match dig a, dig b with
        | some x, some y => if self (hexOf x y) then none else (get r).map (hexOf x y :: ·)
        | _, _ => none
      | _ => none
    else if self c then (get t).map (c :: ·) else none

def nib (c : UInt8) : Nat := if 48 ≤ c.toNat ∧ c.toNat ≤ 57 then c.toNat - 48 else if 65 ≤ c.toNat ∧ c.toNat ≤ 70 then c.toNat - 65 + 10 else 16
def nibByte (a b : UInt8) : UInt8 := UInt8.ofNat (nib a * 16 + nib b % 16)
def rdec : List UInt8 → List UInt8
  | [] => []
  | c :: t => if c.toNat = 37 then match t with
      | a :: b :: r => nibByte a b :: rdec r
      | [a] => c :: rdec [a]
      | [] => [c]
    else c :: rdec t
end Go.Proofs.YtbhnhoenjoagbaaGreatDoor.EscM

/- Names with values: which lists may be; their records; what records say. -/
namespace Go.Proofs.YtbhnhoenjoagbaaGreatDoor
namespace XatM

abbrev Xa := List UInt8 × List UInt8
def anyOf (s m : List UInt8) : Bool := s.any fun c => m.contains c
def sK : List UInt8 := [83, 67, 72, 73, 76, 89, 46, 120, 97, 116, 116, 114, 46]
def lK : List UInt8 := [76, 73, 66, 65, 82, 67, 72, 73, 86, 69, 46, 120, 97, 116, 116, 114, 46]
def okX (x : Xa) : Bool := decide (x.1 ≠ []) && !x.1.contains 0 && decide ((EscM.put x.1).length ≤ 238) && decide (x.2.length ≤ 4096)
def asc : List Xa → Bool
  | x :: y :: r => decide (x.1 < y.1) && asc (y :: r)
  | _ => true
def mayL (l : List Xa) : Bool := decide (l.length ≤ 32) && l.all okX && asc l
def okAt (l : List Xa) (i : Nat) : Bool := match l[i]? with
  | some x => okX x && (match i with
    | 0 => true
    | j + 1 => match l[j]? with
      | some y => decide (y.1 < x.1)
      | none => true)
  | none => true
def recOf (x : Xa) : List Xa := (if x.1.contains 61 then [] else [(sK ++ x.1, x.2)]) ++ [(lK ++ EscM.put x.1, SixM.p3 x.2)]
def recsL (l : List Xa) : List Xa := if mayL l then l.flatMap recOf else []
def isX (k : List UInt8) : Bool := (decide (13 ≤ k.length) && decide (k.take 13 = sK)) || (decide (17 ≤ k.length) && decide (k.take 17 = lK))
def recX (r : Xa) : Option (Option Xa) :=
  if isX r.1 then
    (if r.1.head? = some 76 then (match EscM.get (r.1.drop 17), SixM.get r.2 with
      | some n, some v => some (some (n, v))
      | _, _ => some none)
    else some (some (r.1.drop 13, r.2)))
  else none
def putX : List Xa → Xa → List Xa
  | [], a => [a]
  | y :: l, a => if y.1 < a.1 then y :: putX l a else if y.1 = a.1 then a :: l else a :: y :: l
def fromGo : List Xa → List Xa → Option (List Xa)
  | acc, [] => some acc
  | acc, r :: rs => match recX r with
    | none => fromGo acc rs
    | some none => none
    | some (some x) => fromGo (putX acc x) rs
def fromL (rs : List Xa) : Option (List Xa) := match fromGo [] rs with
  | some l => if mayL l then some l else none
  | none => none

theorem lt_irrefl (a : List UInt8) : ¬ a < a := List.lt_irrefl a
theorem lt_trans {a b c : List UInt8} (h : a < b) (k : b < c) : a < c := List.lt_trans h k
theorem lt_total {a b : List UInt8} (h : ¬ a < b) (k : a ≠ b) : b < a := Classical.byContradiction fun g => k (List.le_antisymm (List.not_lt.1 g) (List.not_lt.1 h))
theorem put_mono (s : List UInt8) : s.length ≤ (EscM.put s).length := by
  induction s with
  | nil => simp
  | cons c s ih =>
    rw [EscM.put_cons, List.length_append, List.length_cons]
    have : 1 ≤ (EscM.enc c).length := by unfold EscM.enc; split <;> simp
    omega
theorem asc_iff : ∀ (l : List Xa), asc l = true ↔ ∀ i x y, l[i]? = some x → l[i + 1]? = some y → x.1 < y.1
  | [] => by simp [asc]
  | [x] => by
    simp only [asc, true_iff]
    intro i a b _ h
    simp at h
  | x :: y :: r => by
    unfold asc
    rw [Bool.and_eq_true, decide_eq_true_eq, asc_iff (y :: r)]
    constructor
    · rintro ⟨h1, h2⟩ i a b ha hb
      cases i with
      | zero => simp at ha hb; rw [← ha, ← hb]; exact h1
      | succ i => exact h2 i a b (by simpa using ha) (by simpa using hb)
    · intro h
      exact ⟨h 0 x y rfl rfl, fun i a b ha hb => h (i + 1) a b (by simpa using ha) (by simpa using hb)⟩
theorem okAt_all {l : List Xa} : (∀ i, i < l.length → okAt l i = true) ↔ (l.all okX = true ∧ asc l = true) := by
  constructor
  · intro h
    refine ⟨?_, ?_⟩
    · rw [List.all_eq_true]
      intro x hx
      obtain ⟨i, hi, he⟩ := List.getElem_of_mem hx
      have := h i hi
      unfold okAt at this
      rw [List.getElem?_eq_getElem hi] at this
      simp only [Bool.and_eq_true] at this
      rw [← he]
      exact this.1
    · rw [asc_iff]
      intro i x y hx hy
      have hi : i + 1 < l.length := (List.getElem?_eq_some_iff.1 hy).1
      have := h (i + 1) hi
      unfold okAt at this
      rw [hy] at this
      simp only [hx, Bool.and_eq_true, decide_eq_true_eq] at this
      exact this.2
  · rintro ⟨h1, h2⟩ i hi
    unfold okAt
    rw [List.getElem?_eq_getElem hi]
    simp only [Bool.and_eq_true]
    refine ⟨List.all_eq_true.1 h1 _ (List.getElem_mem hi), ?_⟩
    cases i with
    | zero => rfl
    | succ j =>
      simp only
      rw [List.getElem?_eq_getElem (show j < l.length by omega)]
      simp only [decide_eq_true_eq]
      exact (asc_iff l).1 h2 j _ _ (List.getElem?_eq_getElem (by omega)) (List.getElem?_eq_getElem hi)
theorem may_all {l : List Xa} (h : ∀ i, i < l.length → okAt l i = true) : mayL l = decide (l.length ≤ 32) := by
  obtain ⟨h1, h2⟩ := okAt_all.1 h
  unfold mayL
  rw [h1, h2, Bool.and_true, Bool.and_true]
theorem may_bad {l : List Xa} {i : Nat} (hi : i < l.length) (h : okAt l i = false) : mayL l = false := by
  rw [Bool.eq_false_iff]
  intro hm
  unfold mayL at hm
  rw [Bool.and_eq_true, Bool.and_eq_true] at hm
  have := okAt_all.2 ⟨hm.1.2, hm.2⟩ i hi
  rw [h] at this
  cases this
theorem may_parts {l : List Xa} (h : mayL l = true) : l.length ≤ 32 ∧ (∀ x ∈ l, okX x = true) ∧ asc l = true := by
  unfold mayL at h
  rw [Bool.and_eq_true, Bool.and_eq_true, decide_eq_true_eq, List.all_eq_true] at h
  exact ⟨h.1.1, h.1.2, h.2⟩
theorem okX_parts {x : Xa} (h : okX x = true) : x.1 ≠ [] ∧ x.1.contains 0 = false ∧ (EscM.put x.1).length ≤ 238 ∧ x.2.length ≤ 4096 ∧ x.1.length ≤ 238 := by
  unfold okX at h
  simp only [Bool.and_eq_true, decide_eq_true_eq, Bool.not_eq_true'] at h
  have := put_mono x.1
  exact ⟨h.1.1.1, h.1.1.2, h.1.2, h.2, by omega⟩

theorem put_step {l : List Xa} {a : Xa} {k : Nat} (hk : k < l.length) (h : putX l a = l.take k ++ putX (l.drop k) a) (hlt : l[k].1 < a.1) : putX l a = l.take (k + 1) ++ putX (l.drop (k + 1)) a := by
  rw [h, List.drop_eq_getElem_cons hk, List.take_succ_eq_append_getElem hk]
  show _ ++ (if l[k].1 < a.1 then l[k] :: putX (l.drop (k + 1)) a else _) = _
  rw [if_pos hlt, List.append_assoc]
  rfl
theorem put_end {l : List Xa} {a : Xa} {k : Nat} (hk : l.length ≤ k) (h : putX l a = l.take k ++ putX (l.drop k) a) : putX l a = l.take k ++ [a] ++ [] := by
  rw [h, List.drop_eq_nil_of_le hk]
  simp [putX]
theorem put_same {l : List Xa} {a : Xa} {k : Nat} (hk : k < l.length) (h : putX l a = l.take k ++ putX (l.drop k) a) (he : l[k].1 = a.1) : putX l a = l.take k ++ [a] ++ (l.drop k).drop 1 := by
  rw [h, List.drop_eq_getElem_cons hk]
  show _ ++ (if l[k].1 < a.1 then _ else if l[k].1 = a.1 then a :: l.drop (k + 1) else _) = _
  rw [if_neg (by rw [he]; exact lt_irrefl _), if_pos he]
  simp
theorem put_more {l : List Xa} {a : Xa} {k : Nat} (hk : k < l.length) (h : putX l a = l.take k ++ putX (l.drop k) a) (h1 : ¬ l[k].1 < a.1) (h2 : l[k].1 ≠ a.1) : putX l a = l.take k ++ [a] ++ l.drop k := by
  rw [h, List.drop_eq_getElem_cons hk]
  show _ ++ (if l[k].1 < a.1 then _ else if l[k].1 = a.1 then _ else a :: l[k] :: l.drop (k + 1)) = _
  rw [if_neg h1, if_neg h2]
  simp
theorem put_len (l : List Xa) (a : Xa) : 1 ≤ (putX l a).length ∧ (putX l a).length ≤ l.length + 1 := by
  induction l with
  | nil => simp [putX]
  | cons y l ih =>
    unfold putX
    split
    · simp only [List.length_cons]; omega
    · split <;> simp only [List.length_cons] <;> omega
theorem put_mem {l : List Xa} {a x : Xa} (h : x ∈ putX l a) : x = a ∨ x ∈ l := by
  induction l with
  | nil => simp [putX] at h; exact .inl h
  | cons y l ih =>
    unfold putX at h
    split at h
    · rcases List.mem_cons.1 h with h | h
      · exact .inr (by simp [h])
      · rcases ih h with h | h
        · exact .inl h
        · exact .inr (by simp [h])
    · split at h
      · rcases List.mem_cons.1 h with h | h
        · exact .inl h
        · exact .inr (by simp [h])
      · rcases List.mem_cons.1 h with h | h
        · exact .inl h
        · exact .inr h
def PW (l : List Xa) : Prop := l.Pairwise fun x y => x.1 < y.1
theorem asc_pw : ∀ {l : List Xa}, asc l = true ↔ PW l
  | [] => by simp [asc, PW]
  | [x] => by simp [asc, PW]
  | x :: y :: r => by
    have ih := asc_pw (l := y :: r)
    unfold asc
    rw [Bool.and_eq_true, decide_eq_true_eq, ih]
    constructor
    · rintro ⟨h1, h2⟩
      refine List.pairwise_cons.2 ⟨fun z hz => ?_, h2⟩
      rcases List.mem_cons.1 hz with rfl | hz
      · exact h1
      · exact lt_trans h1 ((List.pairwise_cons.1 h2).1 z hz)
    · intro h
      obtain ⟨h1, h2⟩ := List.pairwise_cons.1 h
      exact ⟨h1 y (by simp), h2⟩
theorem put_pw {l : List Xa} {a : Xa} (h : PW l) : PW (putX l a) := by
  unfold PW at h ⊢
  induction l with
  | nil => simp [putX]
  | cons y l ih =>
    obtain ⟨h1, h2⟩ := List.pairwise_cons.1 h
    unfold putX
    split
    · rename_i hlt
      refine List.pairwise_cons.2 ⟨fun x hx => ?_, ih h2⟩
      rcases put_mem hx with rfl | hx
      · exact hlt
      · exact h1 x hx
    · split
      · rename_i he
        refine List.pairwise_cons.2 ⟨fun x hx => ?_, h2⟩
        rw [← he]
        exact h1 x hx
      · rename_i hn he
        have hlt := lt_total hn he
        refine List.pairwise_cons.2 ⟨fun x hx => ?_, h⟩
        rcases List.mem_cons.1 hx with rfl | hx
        · exact hlt
        · exact lt_trans hlt (h1 x hx)
def look (l : List Xa) (n : List UInt8) : Option (List UInt8) := (l.find? fun x => x.1 == n).map (·.2)
end XatM
end Go.Proofs.YtbhnhoenjoagbaaGreatDoor
