/- Base64 as the document has it, in plain Lean: what Put writes, what is read back, and that each is the other's way back. -/
import Derived.Lib.Bytealg
import Derived.Lib.Strings
namespace Go.Proofs.YtbhnhoenjoagbaaGreatDoor.SixM

def letters : List UInt8 := [65, 66, 67, 68, 69, 70, 71, 72, 73, 74, 75, 76, 77, 78, 79, 80, 81, 82, 83, 84, 85, 86, 87, 88, 89, 90, 97, 98, 99, 100, 101, 102, 103, 104, 105, 106, 107, 108, 109, 110, 111, 112, 113, 114, 115, 116, 117, 118, 119, 120, 121, 122, 48, 49, 50, 51, 52, 53, 54, 55, 56, 57, 43, 47]
/-- The letter of a number. -/
def L (n : Nat) : UInt8 := letters.getD n 0
/-- The number of a letter. -/
def num (c : UInt8) : Option Nat := letters.findIdx? (· == c)

theorem num_L : ∀ n, n < 64 → num (L n) = some n := by decide +kernel
theorem L_num_all : ∀ i : Fin 256, ∀ k ∈ num (UInt8.ofNat i.val), L k = UInt8.ofNat i.val ∧ k < 64 := by decide +kernel
theorem L_num {c : UInt8} {k : Nat} (h : num c = some k) : L k = c ∧ k < 64 := by
  have := L_num_all ⟨c.toNat, c.toNat_lt⟩ k (by simpa using h)
  simpa using this
theorem L_fill : ∀ n, n < 64 → L n ≠ 61 := by decide +kernel
theorem num_fill : num 61 = none := by decide +kernel
theorem index_num_all : ∀ i : Fin 256, Lib.indexByte letters (UInt8.ofNat i.val) = match num (UInt8.ofNat i.val) with | some k => (k : Int) | none => -1 := by decide +kernel
theorem index_num (c : UInt8) : Lib.indexByte letters c = match num c with | some k => (k : Int) | none => -1 := by
  have := index_num_all ⟨c.toNat, c.toNat_lt⟩
  simpa using this

/-- What Put writes, three bytes by three. -/
def p3 : List UInt8 → List UInt8
  | [] => []
  | [a] => [L (a.toNat / 4), L (a.toNat % 4 * 16), 61, 61]
  | [a, b] => [L (a.toNat / 4), L (a.toNat % 4 * 16 + b.toNat / 16), L (b.toNat % 16 * 4), 61]
  | a :: b :: c :: r => L (a.toNat / 4) :: L (a.toNat % 4 * 16 + b.toNat / 16) :: L (b.toNat % 16 * 4 + c.toNat / 64) :: L (c.toNat % 64) :: p3 r

/-- The letters that a number of h bits gives, six by six, the first ones first. -/
def emitL (h r : Nat) : List UInt8 := if 6 ≤ h then L (r / 2 ^ (h - 6) % 64) :: emitL (h - 6) r else []
termination_by h
def flush (h r : Nat) : List UInt8 := if 0 < h then [L (r * 2 ^ (6 - h) % 4294967296 % 64)] else []
/-- The letters without what fills them, byte by byte; h bits of r have no letter yet. -/
def body (h r : Nat) : List UInt8 → List UInt8
  | [] => flush h r
  | b :: bs => emitL (h + 8) ((r * 256 + b.toNat) % 4294967296) ++ body ((h + 8) % 6) ((r * 256 + b.toNat) % 4294967296) bs
def fill (l : List UInt8) : List UInt8 := l ++ List.replicate ((4 - l.length % 4) % 4) 61

theorem emit8 (r : Nat) : emitL 8 r = [L (r / 4 % 64)] := by unfold emitL; rw [if_pos (by decide)]; unfold emitL; rw [if_neg (by decide)]
theorem emit10 (r : Nat) : emitL 10 r = [L (r / 16 % 64)] := by unfold emitL; rw [if_pos (by decide)]; unfold emitL; rw [if_neg (by decide)]
theorem emit12 (r : Nat) : emitL 12 r = [L (r / 64 % 64), L (r % 64)] := by
  unfold emitL; rw [if_pos (by decide)]; unfold emitL; rw [if_pos (by decide)]; unfold emitL; rw [if_neg (by decide)]
  simp

theorem p3_ind {P : List UInt8 → Prop} (h0 : P []) (h1 : ∀ a, P [a]) (h2 : ∀ a b, P [a, b]) (h3 : ∀ a b c r, P r → P (a :: b :: c :: r)) : ∀ l, P l
  | [] => h0
  | [a] => h1 a
  | [a, b] => h2 a b
  | a :: b :: c :: r => h3 a b c r (p3_ind h0 h1 h2 h3 r)

theorem step1 (r : Nat) (a : Nat) (ha : a < 256) : (r * 256 + a) % 4294967296 / 4 % 64 = a / 4 ∧ (r * 256 + a) % 4294967296 % 256 = a := by omega
theorem step2 (x b : Nat) (hb : b < 256) : (x * 256 + b) % 4294967296 / 16 % 64 = x % 4 * 16 + b / 16 ∧ (x * 256 + b) % 4294967296 % 65536 = x % 256 * 256 + b := by omega
theorem step3 (x c : Nat) (hc : c < 256) : (x * 256 + c) % 4294967296 / 64 % 64 = x % 16 * 4 + c / 64 ∧ (x * 256 + c) % 4294967296 % 64 = c % 64 := by omega
theorem body_cons {h r x : Nat} {b : UInt8} (hx : (r * 256 + b.toNat) % 4294967296 = x) (bs : List UInt8) : body h r (b :: bs) = emitL (h + 8) x ++ body ((h + 8) % 6) x bs := by subst hx; rfl
theorem body_nil (h r : Nat) : body h r [] = flush h r := rfl
theorem flush2 (x : Nat) : flush 2 x = [L (x * 16 % 4294967296 % 64)] := rfl
theorem flush4 (x : Nat) : flush 4 x = [L (x * 4 % 4294967296 % 64)] := rfl
theorem body1 (r : Nat) (a : UInt8) : body 0 r [a] = [L (a.toNat / 4), L (a.toNat % 4 * 16)] := by
  obtain ⟨e1, e2⟩ := step1 r a.toNat a.toNat_lt
  obtain ⟨x, hx⟩ : ∃ x, (r * 256 + a.toNat) % 4294967296 = x := ⟨_, rfl⟩
  rw [hx] at e1 e2
  rw [body_cons hx, show (0 : Nat) + 8 = 8 from rfl, show (8 : Nat) % 6 = 2 from rfl, emit8, body_nil, flush2, e1, show x * 16 % 4294967296 % 64 = a.toNat % 4 * 16 by omega]
  rfl
theorem body2 (r : Nat) (a b : UInt8) : body 0 r [a, b] = [L (a.toNat / 4), L (a.toNat % 4 * 16 + b.toNat / 16), L (b.toNat % 16 * 4)] := by
  obtain ⟨e1, e2⟩ := step1 r a.toNat a.toNat_lt
  obtain ⟨x, hx⟩ : ∃ x, (r * 256 + a.toNat) % 4294967296 = x := ⟨_, rfl⟩
  rw [hx] at e1 e2
  obtain ⟨e3, e4⟩ := step2 x b.toNat b.toNat_lt
  obtain ⟨y, hy⟩ : ∃ y, (x * 256 + b.toNat) % 4294967296 = y := ⟨_, rfl⟩
  rw [hy] at e3 e4
  rw [body_cons hx, show (0 : Nat) + 8 = 8 from rfl, show (8 : Nat) % 6 = 2 from rfl, emit8, body_cons hy, show (2 : Nat) + 8 = 10 from rfl, show (10 : Nat) % 6 = 4 from rfl, emit10, body_nil, flush4, e1, e3, show y * 4 % 4294967296 % 64 = b.toNat % 16 * 4 by omega, show x % 4 = a.toNat % 4 by omega]
  rfl
theorem body3 (r : Nat) (a b c : UInt8) (l : List UInt8) : ∃ r', body 0 r (a :: b :: c :: l) = L (a.toNat / 4) :: L (a.toNat % 4 * 16 + b.toNat / 16) :: L (b.toNat % 16 * 4 + c.toNat / 64) :: L (c.toNat % 64) :: body 0 r' l := by
  obtain ⟨e1, e2⟩ := step1 r a.toNat a.toNat_lt
  obtain ⟨x, hx⟩ : ∃ x, (r * 256 + a.toNat) % 4294967296 = x := ⟨_, rfl⟩
  rw [hx] at e1 e2
  obtain ⟨e3, e4⟩ := step2 x b.toNat b.toNat_lt
  obtain ⟨y, hy⟩ : ∃ y, (x * 256 + b.toNat) % 4294967296 = y := ⟨_, rfl⟩
  rw [hy] at e3 e4
  obtain ⟨e5, e6⟩ := step3 y c.toNat c.toNat_lt
  obtain ⟨z, hz⟩ : ∃ z, (y * 256 + c.toNat) % 4294967296 = z := ⟨_, rfl⟩
  rw [hz] at e5 e6
  refine ⟨z, ?_⟩
  rw [body_cons hx, show (0 : Nat) + 8 = 8 from rfl, show (8 : Nat) % 6 = 2 from rfl, emit8, body_cons hy, show (2 : Nat) + 8 = 10 from rfl, show (10 : Nat) % 6 = 4 from rfl, emit10, body_cons hz, show (4 : Nat) + 8 = 12 from rfl, show (12 : Nat) % 6 = 0 from rfl, emit12, e1, e3, e5, e6, show x % 4 = a.toNat % 4 by omega, show y % 16 = b.toNat % 16 by omega]
  rfl
theorem fill4 (a b c d : UInt8) (l : List UInt8) : fill (a :: b :: c :: d :: l) = a :: b :: c :: d :: fill l := by
  unfold fill
  have : (4 - (a :: b :: c :: d :: l).length % 4) % 4 = (4 - l.length % 4) % 4 := by simp only [List.length_cons]; omega
  rw [this]; rfl
/-- What the program writes is what the document says. -/
theorem put_eq (l : List UInt8) : ∀ r, fill (body 0 r l) = p3 l := by
  induction l using p3_ind with
  | h0 => intro r; simp [body, flush, fill, p3]
  | h1 a => intro r; rw [body1]; rfl
  | h2 a b => intro r; rw [body2]; rfl
  | h3 a b c l ih => intro r; obtain ⟨r', h⟩ := body3 r a b c l; rw [h, fill4, ih, p3]

theorem p3_length (l : List UInt8) : (p3 l).length = (l.length + 2) / 3 * 4 := by
  induction l using p3_ind with
  | h0 => rfl
  | h1 a => simp [p3]
  | h2 a b => simp [p3]
  | h3 a b c l ih => simp only [p3, List.length_cons, ih]; omega
theorem p3_append (l m : List UInt8) : l.length % 3 = 0 → p3 (l ++ m) = p3 l ++ p3 m := by
  induction l using p3_ind with
  | h0 => intro _; rfl
  | h1 a => intro h; simp at h
  | h2 a b => intro h; simp at h
  | h3 a b c l ih =>
    intro h
    have h' : l.length % 3 = 0 := by simp only [List.length_cons] at h; omega
    simp only [List.cons_append, p3, ih h']

/-- What the program reads, letter by letter; h bits of r are no byte yet. -/
def dec (h r : Nat) : List UInt8 → Option (List UInt8)
  | [] => if r % 2 ^ h = 0 then some [] else none
  | c :: cs => match num c with
    | none => none
    | some k => if 8 ≤ h + 6 then (dec (h - 2) ((r * 64 + k) % 4294967296) cs).map (UInt8.ofNat ((r * 64 + k) % 4294967296 / 2 ^ (h - 2)) :: ·)
      else dec (h + 6) ((r * 64 + k) % 4294967296) cs
def unfill (t : List UInt8) : Option (List UInt8) := if t.length % 4 = 0 then some (Lib.trimSuffix (Lib.trimSuffix t [61]) [61]) else none
def get (t : List UInt8) : Option (List UInt8) := (unfill t).bind (dec 0 0)

theorem byteEq (a : UInt8) (n : Nat) (h : n % 256 = a.toNat) : UInt8.ofNat n = a := by
  apply UInt8.toNat_inj.1
  simpa using h

theorem dec_body (l : List UInt8) : ∀ r r', dec 0 r (body 0 r' l) = some l := by
  induction l using p3_ind with
  | h0 => intro r r'; simp [body, flush, dec]; omega
  | h1 a =>
    intro r r'
    have ha := a.toNat_lt
    rw [body1]
    simp only [dec, num_L _ (show a.toNat / 4 < 64 by omega), num_L _ (show a.toNat % 4 * 16 < 64 by omega)]
    simp
    refine ⟨by omega, byteEq _ _ (by omega)⟩
  | h2 a b =>
    intro r r'
    have ha := a.toNat_lt
    have hb := b.toNat_lt
    rw [body2]
    simp only [dec, num_L _ (show a.toNat / 4 < 64 by omega), num_L _ (show a.toNat % 4 * 16 + b.toNat / 16 < 64 by omega), num_L _ (show b.toNat % 16 * 4 < 64 by omega)]
    simp
    refine ⟨by omega, byteEq _ _ (by omega), byteEq _ _ (by omega)⟩
  | h3 a b c l ih =>
    intro r r'
    have ha := a.toNat_lt
    have hb := b.toNat_lt
    have hc := c.toNat_lt
    obtain ⟨r'', h⟩ := body3 r' a b c l
    rw [h]
    simp only [dec, num_L _ (show a.toNat / 4 < 64 by omega), num_L _ (show a.toNat % 4 * 16 + b.toNat / 16 < 64 by omega), num_L _ (show b.toNat % 16 * 4 + c.toNat / 64 < 64 by omega), num_L _ (show c.toNat % 64 < 64 by omega)]
    simp [ih]
    refine ⟨byteEq _ _ (by omega), byteEq _ _ (by omega), byteEq _ _ (by omega)⟩

/-- Four by four. -/
theorem p4_ind {P : List UInt8 → Prop} (h0 : P []) (h1 : ∀ a, P [a]) (h2 : ∀ a b, P [a, b]) (h3 : ∀ a b c, P [a, b, c]) (h4 : ∀ a b c d r, P r → P (a :: b :: c :: d :: r)) : ∀ l, P l
  | [] => h0
  | [a] => h1 a
  | [a, b] => h2 a b
  | [a, b, c] => h3 a b c
  | a :: b :: c :: d :: r => h4 a b c d r (p4_ind h0 h1 h2 h3 h4 r)
theorem dec_cons {h r : Nat} {c : UInt8} {cs s : List UInt8} (hd : dec h r (c :: cs) = some s) : ∃ k, num c = some k ∧ L k = c ∧ k < 64 ∧
    (if 8 ≤ h + 6 then (dec (h - 2) ((r * 64 + k) % 4294967296) cs).map (UInt8.ofNat ((r * 64 + k) % 4294967296 / 2 ^ (h - 2)) :: ·) else dec (h + 6) ((r * 64 + k) % 4294967296) cs) = some s := by
  simp only [dec] at hd
  cases hn : num c with
  | none => rw [hn] at hd; simp at hd
  | some k =>
    rw [hn] at hd
    exact ⟨k, rfl, (L_num hn).1, (L_num hn).2, hd⟩
theorem dec0 {r : Nat} {c : UInt8} {cs s : List UInt8} (hd : dec 0 r (c :: cs) = some s) : ∃ k x, L k = c ∧ k < 64 ∧ x % 64 = k ∧ dec 6 x cs = some s := by
  obtain ⟨k, _, h1, h2, h3⟩ := dec_cons hd
  rw [if_neg (by decide)] at h3
  exact ⟨k, _, h1, h2, by omega, h3⟩
theorem dec6 {r : Nat} {c : UInt8} {cs s : List UInt8} (hd : dec 6 r (c :: cs) = some s) : ∃ k x s', L k = c ∧ k < 64 ∧ x % 4096 = r % 64 * 64 + k ∧ s = UInt8.ofNat (x / 16) :: s' ∧ dec 4 x cs = some s' := by
  obtain ⟨k, _, h1, h2, h3⟩ := dec_cons hd
  rw [if_pos (by decide), Option.map_eq_some_iff] at h3
  obtain ⟨s', h4, h5⟩ := h3
  exact ⟨k, _, s', h1, h2, by omega, h5.symm, h4⟩
theorem dec4 {r : Nat} {c : UInt8} {cs s : List UInt8} (hd : dec 4 r (c :: cs) = some s) : ∃ k x s', L k = c ∧ k < 64 ∧ x % 1024 = r % 16 * 64 + k ∧ s = UInt8.ofNat (x / 4) :: s' ∧ dec 2 x cs = some s' := by
  obtain ⟨k, _, h1, h2, h3⟩ := dec_cons hd
  rw [if_pos (by decide), Option.map_eq_some_iff] at h3
  obtain ⟨s', h4, h5⟩ := h3
  exact ⟨k, _, s', h1, h2, by omega, h5.symm, h4⟩
theorem dec2 {r : Nat} {c : UInt8} {cs s : List UInt8} (hd : dec 2 r (c :: cs) = some s) : ∃ k x s', L k = c ∧ k < 64 ∧ x % 256 = r % 4 * 64 + k ∧ s = UInt8.ofNat x :: s' ∧ dec 0 x cs = some s' := by
  obtain ⟨k, _, h1, h2, h3⟩ := dec_cons hd
  rw [if_pos (by decide), Option.map_eq_some_iff] at h3
  obtain ⟨s', h4, h5⟩ := h3
  exact ⟨k, _, s', h1, h2, by omega, by simpa using h5.symm, h4⟩
theorem dec_nil {h r : Nat} {s : List UInt8} (hd : dec h r [] = some s) : r % 2 ^ h = 0 ∧ s = [] := by
  simp only [dec] at hd
  split at hd
  · exact ⟨by assumption, by simpa using hd.symm⟩
  · simp at hd
theorem ofNat_toNat (n : Nat) : (UInt8.ofNat n).toNat = n % 256 := by simp

theorem body_dec (u : List UInt8) : u.length % 4 ≠ 1 → ∀ r r' s, dec 0 r u = some s → body 0 r' s = u := by
  induction u using p4_ind with
  | h0 => intro _ r r' s h; obtain ⟨_, rfl⟩ := dec_nil h; rfl
  | h1 a => intro h; exact absurd rfl h
  | h2 a b =>
    intro _ r r' s h
    obtain ⟨k1, x, rfl, h1, hx, g0⟩ := dec0 h
    obtain ⟨k2, y, s, rfl, h2, hy, rfl, g6⟩ := dec6 g0
    obtain ⟨hz, rfl⟩ := dec_nil g6
    rw [body1, ofNat_toNat]
    rw [show y / 16 % 256 / 4 = k1 by omega, show y / 16 % 256 % 4 * 16 = k2 by omega]
  | h3 a b c =>
    intro _ r r' s h
    obtain ⟨k1, x, rfl, h1, hx, g0⟩ := dec0 h
    obtain ⟨k2, y, s, rfl, h2, hy, rfl, g6⟩ := dec6 g0
    obtain ⟨k3, z, s, rfl, h3, hz, rfl, g4⟩ := dec4 g6
    obtain ⟨hv, rfl⟩ := dec_nil g4
    rw [body2, ofNat_toNat, ofNat_toNat]
    rw [show y / 16 % 256 / 4 = k1 by omega, show y / 16 % 256 % 4 * 16 + z / 4 % 256 / 16 = k2 by omega, show z / 4 % 256 % 16 * 4 = k3 by omega]
  | h4 a b c d u ih =>
    intro hl r r' s h
    obtain ⟨k1, x, rfl, h1, hx, g0⟩ := dec0 h
    obtain ⟨k2, y, s, rfl, h2, hy, rfl, g6⟩ := dec6 g0
    obtain ⟨k3, z, s, rfl, h3, hz, rfl, g4⟩ := dec4 g6
    obtain ⟨k4, v, s, rfl, h4, hv, rfl, g2⟩ := dec2 g4
    obtain ⟨r'', hb⟩ := body3 r' (UInt8.ofNat (y / 16)) (UInt8.ofNat (z / 4)) (UInt8.ofNat v) s
    rw [hb, ofNat_toNat, ofNat_toNat, ofNat_toNat, ih (by simp only [List.length_cons] at hl; omega) v r'' s g2]
    rw [show y / 16 % 256 / 4 = k1 by omega, show y / 16 % 256 % 4 * 16 + z / 4 % 256 / 16 = k2 by omega, show z / 4 % 256 % 16 * 4 + v % 256 / 64 = k3 by omega, show v % 256 % 64 = k4 by omega]

/-- What fills the letters. -/
theorem trim_fill (l : List UInt8) : Lib.trimSuffix (l ++ [61]) [61] = l := by
  unfold Lib.trimSuffix Lib.hasSuffix
  rw [if_pos (by rw [List.isSuffixOf_iff_suffix]; exact List.suffix_append ..)]
  simp
theorem trim_cases (l : List UInt8) : (∃ m, l = m ++ [61] ∧ Lib.trimSuffix l [61] = m) ∨ (Lib.trimSuffix l [61] = l ∧ ∀ m, l ≠ m ++ [61]) := by
  by_cases h : Lib.hasSuffix l [61] = true
  · left
    unfold Lib.hasSuffix at h
    rw [List.isSuffixOf_iff_suffix] at h
    obtain ⟨m, rfl⟩ := h
    exact ⟨m, rfl, trim_fill m⟩
  · right
    refine ⟨by unfold Lib.trimSuffix; rw [if_neg h], fun m hm => h ?_⟩
    subst hm
    unfold Lib.hasSuffix
    rw [List.isSuffixOf_iff_suffix]
    exact List.suffix_append ..
theorem trims (t : List UInt8) : ∃ k, k ≤ 2 ∧ t = Lib.trimSuffix (Lib.trimSuffix t [61]) [61] ++ List.replicate k 61 := by
  rcases trim_cases t with ⟨m, h1, h2⟩ | ⟨h1, h2⟩
  · rw [h2]
    rcases trim_cases m with ⟨m', h3, h4⟩ | ⟨h3, h4⟩
    · exact ⟨2, by omega, by rw [h4, h1, h3]; simp [List.replicate]⟩
    · exact ⟨1, by omega, by rw [h3, h1]; rfl⟩
  · rw [h1, h1]
    exact ⟨0, by omega, by simp⟩
/-- The body of letters ends with no filler. -/
theorem trims_fill (l : List UInt8) (hl : ∀ m, l ≠ m ++ [61]) (k : Nat) (hk : k ≤ 2) : Lib.trimSuffix (Lib.trimSuffix (l ++ List.replicate k 61) [61]) [61] = l := by
  have e : Lib.trimSuffix l [61] = l := by
    rcases trim_cases l with ⟨m, h1, _⟩ | ⟨h1, _⟩
    · exact absurd h1 (hl m)
    · exact h1
  obtain rfl | rfl | rfl : k = 0 ∨ k = 1 ∨ k = 2 := by omega
  · simp [e]
  · rw [show List.replicate 1 (61 : UInt8) = [61] from rfl, trim_fill, e]
  · rw [show List.replicate 2 (61 : UInt8) = [61] ++ [61] from rfl, ← List.append_assoc, trim_fill, trim_fill]
theorem body_mem (l : List UInt8) : ∀ r, ∀ x ∈ body 0 r l, x ≠ 61 := by
  induction l using p3_ind with
  | h0 => intro r x h; simp [body, flush] at h
  | h1 a =>
    intro r x h
    have ha := a.toNat_lt
    rw [body1] at h
    simp only [List.mem_cons, List.not_mem_nil, or_false] at h
    rcases h with rfl | rfl <;> exact L_fill _ (by omega)
  | h2 a b =>
    intro r x h
    have ha := a.toNat_lt
    have hb := b.toNat_lt
    rw [body2] at h
    simp only [List.mem_cons, List.not_mem_nil, or_false] at h
    rcases h with rfl | rfl | rfl <;> exact L_fill _ (by omega)
  | h3 a b c l ih =>
    intro r x h
    have ha := a.toNat_lt
    have hb := b.toNat_lt
    have hc := c.toNat_lt
    obtain ⟨r', e⟩ := body3 r a b c l
    rw [e] at h
    simp only [List.mem_cons] at h
    rcases h with rfl | rfl | rfl | rfl | h
    · exact L_fill _ (by omega)
    · exact L_fill _ (by omega)
    · exact L_fill _ (by omega)
    · exact L_fill _ (by omega)
    · exact ih r' x h
theorem body_end (l : List UInt8) (r : Nat) (m : List UInt8) : body 0 r l ≠ m ++ [61] := fun h => body_mem l r 61 (by rw [h]; simp) rfl
theorem body_length (l : List UInt8) : ∀ r, (body 0 r l).length % 4 ≠ 1 := by
  induction l using p3_ind with
  | h0 => intro r; simp [body, flush]
  | h1 a => intro r; rw [body1]; simp
  | h2 a b => intro r; rw [body2]; simp
  | h3 a b c l ih => intro r; obtain ⟨r', e⟩ := body3 r a b c l; have := ih r'; rw [e]; simp only [List.length_cons]; omega

theorem get_p3 (s : List UInt8) : get (p3 s) = some s := by
  have hlen : (p3 s).length % 4 = 0 := by rw [p3_length]; omega
  unfold get unfill
  rw [if_pos hlen, Option.bind_some, ← put_eq s 0]
  unfold fill
  rw [trims_fill _ (body_end s 0) _ (by have := body_length s 0; omega), dec_body]
theorem p3_get {t s : List UInt8} (h : get t = some s) : p3 s = t := by
  unfold get unfill at h
  by_cases hl : t.length % 4 = 0
  · rw [if_pos hl, Option.bind_some] at h
    obtain ⟨k, hk, ht⟩ := trims t
    generalize Lib.trimSuffix (Lib.trimSuffix t [61]) [61] = u at *
    have hlen : t.length = u.length + k := by rw [ht]; simp
    rw [← put_eq s 0, body_dec u (by omega) 0 0 s h, fill, show (4 - u.length % 4) % 4 = k by omega, ← ht]
  · rw [if_neg hl] at h; simp at h
theorem get_iff (t s : List UInt8) : get t = some s ↔ p3 s = t := ⟨p3_get, fun h => h ▸ get_p3 s⟩

/-- What the document's own reading lays, letter by letter. -/
def rdec (h n : Nat) : List UInt8 → List UInt8
  | [] => []
  | c :: cs => match num c with
    | none => rdec h n cs
    | some k => if 8 ≤ h + 6 then UInt8.ofNat ((n * 64 + k) % 1048576 / 2 ^ (h - 2)) :: rdec (h - 2) ((n * 64 + k) % 1048576) cs else rdec (h + 6) ((n * 64 + k) % 1048576) cs
theorem rdec_fill (h n k : Nat) : rdec h n (List.replicate k 61) = [] := by
  induction k with
  | zero => rfl
  | succ k ih => rw [List.replicate_succ, rdec, num_fill]; exact ih
theorem rdec_p3 (l : List UInt8) : ∀ n, rdec 0 n (p3 l) = l := by
  induction l using p3_ind with
  | h0 => intro n; rfl
  | h1 a =>
    intro n
    have ha := a.toNat_lt
    simp only [p3, rdec, num_L _ (show a.toNat / 4 < 64 by omega), num_L _ (show a.toNat % 4 * 16 < 64 by omega), num_fill]
    simp
    exact byteEq _ _ (by omega)
  | h2 a b =>
    intro n
    have ha := a.toNat_lt
    have hb := b.toNat_lt
    simp only [p3, rdec, num_L _ (show a.toNat / 4 < 64 by omega), num_L _ (show a.toNat % 4 * 16 + b.toNat / 16 < 64 by omega), num_L _ (show b.toNat % 16 * 4 < 64 by omega), num_fill]
    simp
    exact ⟨byteEq _ _ (by omega), byteEq _ _ (by omega)⟩
  | h3 a b c l ih =>
    intro n
    have ha := a.toNat_lt
    have hb := b.toNat_lt
    have hc := c.toNat_lt
    simp only [p3, rdec, num_L _ (show a.toNat / 4 < 64 by omega), num_L _ (show a.toNat % 4 * 16 + b.toNat / 16 < 64 by omega), num_L _ (show b.toNat % 16 * 4 + c.toNat / 64 < 64 by omega), num_L _ (show c.toNat % 64 < 64 by omega)]
    simp [ih]
    exact ⟨byteEq _ _ (by omega), byteEq _ _ (by omega), byteEq _ _ (by omega)⟩
/-- The document's own reading is the program's. -/
theorem rget (t : List UInt8) : get t = if p3 (rdec 0 0 t) = t then some (rdec 0 0 t) else none := by
  split
  · rename_i h; exact (get_iff _ _).2 h
  · rename_i h
    cases hg : get t with
    | none => rfl
    | some s => exact absurd (by rw [← p3_get hg, rdec_p3]) h
end Go.Proofs.YtbhnhoenjoagbaaGreatDoor.SixM
