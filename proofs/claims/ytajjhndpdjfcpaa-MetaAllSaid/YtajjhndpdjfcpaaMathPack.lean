/- Bundle of 3 texts. -/
import Derived.Lib.Bytealg
import Derived.Lib.Strings
import Derived.Test.YtajjhndpdjfcpaaAclKit
/- Percent-encoding as the document has it, in plain Lean: what Put writes, what is read back, and that each is the other's way back. -/
namespace Go.Proofs.Ytajjhndpdjfcpaa.EscM

def digits : List UInt8 := [48, 49, 50, 51, 52, 53, 54, 55, 56, 57, 65, 66, 67, 68, 69, 70]
/-- The digit of a number. -/
def H (n : Nat) : UInt8 := digits.getD n 0
/-- The number of a digit. -/
def dig (c : UInt8) : Option Nat := digits.findIdx? (· == c)
/-- What is encoded as itself. -/
def self (c : UInt8) : Bool := decide (33 ≤ c.toNat) && decide (c.toNat ≤ 126) && decide (c.toNat ≠ 37) && decide (c.toNat ≠ 61)
def enc (c : UInt8) : List UInt8 := if self c then [c] else [37, H (c.toNat / 16), H (c.toNat % 16)]
/-- What Put writes. -/
def put (l : List UInt8) : List UInt8 := l.flatMap enc

theorem dig_H : ∀ n, n < 16 → dig (H n) = some n := by decide +kernel
theorem H_dig_all : ∀ i : Fin 256, ∀ k ∈ dig (UInt8.ofNat i.val), H k = UInt8.ofNat i.val ∧ k < 16 := by decide +kernel
theorem H_dig {c : UInt8} {k : Nat} (h : dig c = some k) : H k = c ∧ k < 16 := by
  have := H_dig_all ⟨c.toNat, c.toNat_lt⟩ k (by simpa using h)
  simpa using this
theorem index_dig_all : ∀ i : Fin 256, Lib.indexByte digits (UInt8.ofNat i.val) = match dig (UInt8.ofNat i.val) with | some k => (k : Int) | none => -1 := by decide +kernel
theorem index_dig (c : UInt8) : Lib.indexByte digits c = match dig c with | some k => (k : Int) | none => -1 := by
  have := index_dig_all ⟨c.toNat, c.toNat_lt⟩
  simpa using this
theorem H_self : ∀ n, n < 16 → self (H n) = true ∧ (H n).toNat ≠ 37 := by decide +kernel
theorem self_mark : self 37 = false := by decide +kernel

theorem put_nil : put [] = [] := rfl
theorem put_cons (c : UInt8) (l : List UInt8) : put (c :: l) = enc c ++ put l := by simp [put]
theorem put_append (l m : List UInt8) : put (l ++ m) = put l ++ put m := by simp [put]
theorem enc_len (c : UInt8) : (enc c).length ≤ 3 := by unfold enc; split <;> simp
theorem put_len (l : List UInt8) : (put l).length ≤ 3 * l.length := by
  induction l with
  | nil => simp [put]
  | cons c l ih => rw [put_cons, List.length_append, List.length_cons]; have := enc_len c; omega

/-- The byte of two digits. -/
def hexOf (x y : Nat) : UInt8 := UInt8.ofNat (x * 16 + y)
theorem hexOf_split (c : UInt8) : hexOf (c.toNat / 16) (c.toNat % 16) = c := by
  unfold hexOf
  rw [show c.toNat / 16 * 16 + c.toNat % 16 = c.toNat by omega]
  simp
theorem hexOf_nat (x y : Nat) (hx : x < 16) (hy : y < 16) : (hexOf x y).toNat = x * 16 + y := by
  unfold hexOf
  simp
  omega

/-- What the program reads. -/
def get : List UInt8 → Option (List UInt8)
  | [] => some []
  | c :: t => if c.toNat = 37 then match t with
      | a :: b :: r => match dig a, dig b with
        | some x, some y => if self (hexOf x y) then none else (get r).map (hexOf x y :: ·)
        | _, _ => none
      | _ => none
    else if self c then (get t).map (c :: ·) else none

theorem get_mark (c a b : UInt8) (r : List UInt8) (h : c.toNat = 37) : get (c :: a :: b :: r) = match dig a, dig b with
    | some x, some y => if self (hexOf x y) then none else (get r).map (hexOf x y :: ·)
    | _, _ => none := by
  rw [get.eq_def]
  simp only
  rw [if_pos h]
theorem get_short (c : UInt8) (t : List UInt8) (h : c.toNat = 37) (ht : t.length < 2) : get (c :: t) = none := by
  rw [get.eq_def]
  simp only
  rw [if_pos h]
  match t, ht with
  | [], _ => rfl
  | [a], _ => rfl
theorem get_plain (c : UInt8) (t : List UInt8) (h : c.toNat ≠ 37) : get (c :: t) = if self c then (get t).map (c :: ·) else none := by
  rw [get.eq_def]
  simp only
  rw [if_neg h]
theorem get_put (l : List UInt8) : get (put l) = some l := by
  induction l with
  | nil => rfl
  | cons c l ih =>
    rw [put_cons]
    unfold enc
    by_cases h : self c = true
    · have h37 : c.toNat ≠ 37 := by intro h2; simp [self, h2] at h
      rw [if_pos h, List.singleton_append, get_plain c _ h37, if_pos h, ih]
      rfl
    · rw [if_neg h]
      have hc := c.toNat_lt
      have h1 := dig_H (c.toNat / 16) (by omega)
      have h2 := dig_H (c.toNat % 16) (by omega)
      simp only [List.cons_append, List.nil_append]
      rw [get_mark _ _ _ _ (by decide +kernel), h1, h2]
      simp only [hexOf_split, ih]
      rw [if_neg h]
      rfl
theorem put_get : ∀ (n : Nat) (t : List UInt8), t.length ≤ n → ∀ l, get t = some l → put l = t := by
  intro n
  induction n with
  | zero =>
    intro t ht l h
    obtain rfl : t = [] := List.eq_nil_of_length_eq_zero (by omega)
    simp only [get, Option.some.injEq] at h
    subst h; rfl
  | succ n ih =>
    intro t ht l h
    match t, ht, h with
    | [], _, h => simp only [get, Option.some.injEq] at h; subst h; rfl
    | c :: t, ht, h =>
      by_cases h37 : c.toNat = 37
      · match t, ht, h with
        | [], _, h => rw [get_short c _ h37 (by simp)] at h; simp at h
        | [_], _, h => rw [get_short c _ h37 (by simp)] at h; simp at h
        | a :: b :: r, ht, h =>
          rw [get_mark c a b r h37] at h
          rcases ha : dig a with _ | x
          · simp [ha] at h
          rcases hb : dig b with _ | y
          · simp [ha, hb] at h
          simp only [ha, hb] at h
          by_cases hs : self (hexOf x y) = true
          · rw [if_pos hs] at h; simp at h
          · rw [if_neg hs] at h
            obtain ⟨m, hm, rfl⟩ := Option.map_eq_some_iff.1 h
            have h3 := ih r (by simp only [List.length_cons] at ht; omega) m hm
            obtain ⟨hx, hx16⟩ := H_dig ha
            obtain ⟨hy, hy16⟩ := H_dig hb
            have hbn := hexOf_nat x y hx16 hy16
            rw [put_cons, enc, if_neg hs, hbn, show (x * 16 + y) / 16 = x by omega, show (x * 16 + y) % 16 = y by omega, hx, hy, h3]
            have : c = 37 := UInt8.toNat_inj.1 (by rw [h37]; rfl)
            subst this; rfl
      · rw [get_plain c t h37] at h
        by_cases hs : self c = true
        · rw [if_pos hs] at h
          obtain ⟨m, hm, rfl⟩ := Option.map_eq_some_iff.1 h
          have h3 := ih t (by simp only [List.length_cons] at ht; omega) m hm
          rw [put_cons, enc, if_pos hs, h3]; rfl
        · rw [if_neg hs] at h; simp at h
theorem get_iff (t l : List UInt8) : get t = some l ↔ put l = t :=
  ⟨put_get _ t (Nat.le_refl _) l, fun h => by rw [← h, get_put]⟩
theorem get_none {t : List UInt8} : get t = none ↔ ∀ l, put l ≠ t := by
  constructor
  · intro h l hl
    rw [(get_iff t l).2 hl] at h; simp at h
  · intro h
    cases hg : get t with
    | none => rfl
    | some l => exact absurd ((get_iff t l).1 hg) (h l)

/-- The number of a digit in the document's answer, 16 for none. -/
def nib (c : UInt8) : Nat := if 48 ≤ c.toNat ∧ c.toNat ≤ 57 then c.toNat - 48 else if 65 ≤ c.toNat ∧ c.toNat ≤ 70 then c.toNat - 65 + 10 else 16
theorem nib_H : ∀ n, n < 16 → nib (H n) = n := by decide +kernel
theorem nib_le (c : UInt8) : nib c ≤ 16 := by
  unfold nib
  split
  · omega
  · split <;> omega
def nibByte (a b : UInt8) : UInt8 := UInt8.ofNat (nib a * 16 + nib b % 16)
/-- What the document's answer reads before it writes it again. -/
def rdec : List UInt8 → List UInt8
  | [] => []
  | c :: t => if c.toNat = 37 then match t with
      | a :: b :: r => nibByte a b :: rdec r
      | [a] => c :: rdec [a]
      | [] => [c]
    else c :: rdec t
theorem rdec_two (c a b : UInt8) (r : List UInt8) (h : c.toNat = 37) : rdec (c :: a :: b :: r) = nibByte a b :: rdec r := by
  rw [rdec.eq_def]
  simp only
  rw [if_pos h]
theorem rdec_one (c : UInt8) (t : List UInt8) (h : ¬ (c.toNat = 37 ∧ 2 ≤ t.length)) : rdec (c :: t) = c :: rdec t := by
  rw [rdec.eq_def]
  simp only
  split
  · rename_i h37
    match t, h with
    | [], _ => rfl
    | [a], _ => rfl
    | a :: b :: r, h => exact absurd ⟨h37, by simp⟩ h
  · rfl
theorem rdec_put (l : List UInt8) : rdec (put l) = l := by
  induction l with
  | nil => rfl
  | cons c l ih =>
    rw [put_cons]
    unfold enc
    by_cases h : self c = true
    · have h37 : c.toNat ≠ 37 := by intro h2; simp [self, h2] at h
      rw [if_pos h, List.singleton_append, rdec_one c _ (fun h2 => h37 h2.1), ih]
    · rw [if_neg h]
      have hc := c.toNat_lt
      simp only [List.cons_append, List.nil_append]
      rw [rdec_two _ _ _ _ (by decide +kernel), ih, nibByte, nib_H _ (by omega), nib_H _ (by omega)]
      have := hexOf_split c
      unfold hexOf at this
      rw [show c.toNat % 16 % 16 = c.toNat % 16 by omega, this]
/-- The document's answer is the program's. -/
theorem rget (t : List UInt8) : get t = if put (rdec t) = t then some (rdec t) else none := by
  split
  · rename_i h
    exact (get_iff t _).2 h
  · rename_i h
    rw [get_none]
    intro l hl
    apply h
    rw [← hl, rdec_put]
end Go.Proofs.Ytajjhndpdjfcpaa.EscM

/- Base64 as the document has it, in plain Lean: what Put writes, what is read back, and that each is the other's way back. -/
namespace Go.Proofs.Ytajjhndpdjfcpaa.SixM

def letters : List UInt8 := [65, 66, 67, 68, 69, 70, 71, 72, 73, 74, 75, 76, 77, 78, 79, 80, 81, 82, 83, 84, 85, 86, 87, 88, 89, 90, 97, 98, 99, 100, 101, 102, 103, 104, 105, 106, 107, 108, 109, 110, 111, 112, 113, 114, 115, 116, 117, 118, 119, 120, 121, 122, 48, 49, 50, 51, 52, 53, 54, 55, 56, 57, 43, 47]
/-- The letter of a number. -/
def L (n : Nat) : UInt8 := letters.getD n 0
/-- The number of a letter. -/
def num (c : UInt8) : Option Nat := letters.findIdx? (· == c)

theorem num_L : ∀ n, n < 64 → num (L n) = some n := by decide +kernel
theorem L_num_all : ∀ i : Fin 256, ∀ k ∈ num (UInt8.ofNat i.val), L k = UInt8.ofNat i.val ∧ k < 64 := by decide +kernel
theorem L_num {c : UInt8} {k : Nat} (h : num c = some k) : L k = c ∧ k < 64 := by
  have := L_num_all ⟨c.toNat, c.toNat_lt⟩ k (by simpa using h)
  simpa using this
theorem L_fill : ∀ n, n < 64 → L n ≠ 61 := by decide +kernel
theorem num_fill : num 61 = none := by decide +kernel
theorem index_num_all : ∀ i : Fin 256, Lib.indexByte letters (UInt8.ofNat i.val) = match num (UInt8.ofNat i.val) with | some k => (k : Int) | none => -1 := by decide +kernel
theorem index_num (c : UInt8) : Lib.indexByte letters c = match num c with | some k => (k : Int) | none => -1 := by
  have := index_num_all ⟨c.toNat, c.toNat_lt⟩
  simpa using this

/-- What Put writes, three bytes by three. -/
def p3 : List UInt8 → List UInt8
  | [] => []
  | [a] => [L (a.toNat / 4), L (a.toNat % 4 * 16), 61, 61]
  | [a, b] => [L (a.toNat / 4), L (a.toNat % 4 * 16 + b.toNat / 16), L (b.toNat % 16 * 4), 61]
  | a :: b :: c :: r => L (a.toNat / 4) :: L (a.toNat % 4 * 16 + b.toNat / 16) :: L (b.toNat % 16 * 4 + c.toNat / 64) :: L (c.toNat % 64) :: p3 r

/-- The letters that a number of h bits gives, six by six, the first ones first. -/
def emitL (h r : Nat) : List UInt8 := if 6 ≤ h then L (r / 2 ^ (h - 6) % 64) :: emitL (h - 6) r else []
termination_by h
def flush (h r : Nat) : List UInt8 := if 0 < h then [L (r * 2 ^ (6 - h) % 4294967296 % 64)] else []
/-- The letters without what fills them, byte by byte; h bits of r have no letter yet. -/
def body (h r : Nat) : List UInt8 → List UInt8
  | [] => flush h r
  | b :: bs => emitL (h + 8) ((r * 256 + b.toNat) % 4294967296) ++ body ((h + 8) % 6) ((r * 256 + b.toNat) % 4294967296) bs
def fill (l : List UInt8) : List UInt8 := l ++ List.replicate ((4 - l.length % 4) % 4) 61

theorem emit8 (r : Nat) : emitL 8 r = [L (r / 4 % 64)] := by unfold emitL; rw [if_pos (by decide)]; unfold emitL; rw [if_neg (by decide)]
theorem emit10 (r : Nat) : emitL 10 r = [L (r / 16 % 64)] := by unfold emitL; rw [if_pos (by decide)]; unfold emitL; rw [if_neg (by decide)]
theorem emit12 (r : Nat) : emitL 12 r = [L (r / 64 % 64), L (r % 64)] := by
  unfold emitL; rw [if_pos (by decide)]; unfold emitL; rw [if_pos (by decide)]; unfold emitL; rw [if_neg (by decide)]
  simp

theorem p3_ind {P : List UInt8 → Prop} (h0 : P []) (h1 : ∀ a, P [a]) (h2 : ∀ a b, P [a, b]) (h3 : ∀ a b c r, P r → P (a :: b :: c :: r)) : ∀ l, P l
  | [] => h0
  | [a] => h1 a
  | [a, b] => h2 a b
  | a :: b :: c :: r => h3 a b c r (p3_ind h0 h1 h2 h3 r)

theorem step1 (r : Nat) (a : Nat) (ha : a < 256) : (r * 256 + a) % 4294967296 / 4 % 64 = a / 4 ∧ (r * 256 + a) % 4294967296 % 256 = a := by omega
theorem step2 (x b : Nat) (hb : b < 256) : (x * 256 + b) % 4294967296 / 16 % 64 = x % 4 * 16 + b / 16 ∧ (x * 256 + b) % 4294967296 % 65536 = x % 256 * 256 + b := by omega
theorem step3 (x c : Nat) (hc : c < 256) : (x * 256 + c) % 4294967296 / 64 % 64 = x % 16 * 4 + c / 64 ∧ (x * 256 + c) % 4294967296 % 64 = c % 64 := by omega
theorem body_cons {h r x : Nat} {b : UInt8} (hx : (r * 256 + b.toNat) % 4294967296 = x) (bs : List UInt8) : body h r (b :: bs) = emitL (h + 8) x ++ body ((h + 8) % 6) x bs := by subst hx; rfl
theorem body_nil (h r : Nat) : body h r [] = flush h r := rfl
theorem flush2 (x : Nat) : flush 2 x = [L (x * 16 % 4294967296 % 64)] := rfl
theorem flush4 (x : Nat) : flush 4 x = [L (x * 4 % 4294967296 % 64)] := rfl
theorem body1 (r : Nat) (a : UInt8) : body 0 r [a] = [L (a.toNat / 4), L (a.toNat % 4 * 16)] := by
  obtain ⟨e1, e2⟩ := step1 r a.toNat a.toNat_lt
  obtain ⟨x, hx⟩ : ∃ x, (r * 256 + a.toNat) % 4294967296 = x := ⟨_, rfl⟩
  rw [hx] at e1 e2
  rw [body_cons hx, show (0 : Nat) + 8 = 8 from rfl, show (8 : Nat) % 6 = 2 from rfl, emit8, body_nil, flush2, e1, show x * 16 % 4294967296 % 64 = a.toNat % 4 * 16 by omega]
  rfl
theorem body2 (r : Nat) (a b : UInt8) : body 0 r [a, b] = [L (a.toNat / 4), L (a.toNat % 4 * 16 + b.toNat / 16), L (b.toNat % 16 * 4)] := by
  obtain ⟨e1, e2⟩ := step1 r a.toNat a.toNat_lt
  obtain ⟨x, hx⟩ : ∃ x, (r * 256 + a.toNat) % 4294967296 = x := ⟨_, rfl⟩
  rw [hx] at e1 e2
  obtain ⟨e3, e4⟩ := step2 x b.toNat b.toNat_lt
  obtain ⟨y, hy⟩ : ∃ y, (x * 256 + b.toNat) % 4294967296 = y := ⟨_, rfl⟩
  rw [hy] at e3 e4
  rw [body_cons hx, show (0 : Nat) + 8 = 8 from rfl, show (8 : Nat) % 6 = 2 from rfl, emit8, body_cons hy, show (2 : Nat) + 8 = 10 from rfl, show (10 : Nat) % 6 = 4 from rfl, emit10, body_nil, flush4, e1, e3, show y * 4 % 4294967296 % 64 = b.toNat % 16 * 4 by omega, show x % 4 = a.toNat % 4 by omega]
  rfl
theorem body3 (r : Nat) (a b c : UInt8) (l : List UInt8) : ∃ r', body 0 r (a :: b :: c :: l) = L (a.toNat / 4) :: L (a.toNat % 4 * 16 + b.toNat / 16) :: L (b.toNat % 16 * 4 + c.toNat / 64) :: L (c.toNat % 64) :: body 0 r' l := by
  obtain ⟨e1, e2⟩ := step1 r a.toNat a.toNat_lt
  obtain ⟨x, hx⟩ : ∃ x, (r * 256 + a.toNat) % 4294967296 = x := ⟨_, rfl⟩
  rw [hx] at e1 e2
  obtain ⟨e3, e4⟩ := step2 x b.toNat b.toNat_lt
  obtain ⟨y, hy⟩ : ∃ y, (x * 256 + b.toNat) % 4294967296 = y := ⟨_, rfl⟩
  rw [hy] at e3 e4
  obtain ⟨e5, e6⟩ := step3 y c.toNat c.toNat_lt
  obtain ⟨z, hz⟩ : ∃ z, (y * 256 + c.toNat) % 4294967296 = z := ⟨_, rfl⟩
  rw [hz] at e5 e6
  refine ⟨z, ?_⟩
  rw [body_cons hx, show (0 : Nat) + 8 = 8 from rfl, show (8 : Nat) % 6 = 2 from rfl, emit8, body_cons hy, show (2 : Nat) + 8 = 10 from rfl, show (10 : Nat) % 6 = 4 from rfl, emit10, body_cons hz, show (4 : Nat) + 8 = 12 from rfl, show (12 : Nat) % 6 = 0 from rfl, emit12, e1, e3, e5, e6, show x % 4 = a.toNat % 4 by omega, show y % 16 = b.toNat % 16 by omega]
  rfl
theorem fill4 (a b c d : UInt8) (l : List UInt8) : fill (a :: b :: c :: d :: l) = a :: b :: c :: d :: fill l := by
  unfold fill
  have : (4 - (a :: b :: c :: d :: l).length % 4) % 4 = (4 - l.length % 4) % 4 := by simp only [List.length_cons]; omega
  rw [this]; rfl
/-- What the program writes is what the document says. -/
theorem put_eq (l : List UInt8) : ∀ r, fill (body 0 r l) = p3 l := by
  induction l using p3_ind with
  | h0 => intro r; simp [body, flush, fill, p3]
  | h1 a => intro r; rw [body1]; rfl
  | h2 a b => intro r; rw [body2]; rfl
  | h3 a b c l ih => intro r; obtain ⟨r', h⟩ := body3 r a b c l; rw [h, fill4, ih, p3]

theorem p3_length (l : List UInt8) : (p3 l).length = (l.length + 2) / 3 * 4 := by
  induction l using p3_ind with
  | h0 => rfl
  | h1 a => simp [p3]
  | h2 a b => simp [p3]
  | h3 a b c l ih => simp only [p3, List.length_cons, ih]; omega
theorem p3_append (l m : List UInt8) : l.length % 3 = 0 → p3 (l ++ m) = p3 l ++ p3 m := by
  induction l using p3_ind with
  | h0 => intro _; rfl
  | h1 a => intro h; simp at h
  | h2 a b => intro h; simp at h
  | h3 a b c l ih =>
    intro h
    have h' : l.length % 3 = 0 := by simp only [List.length_cons] at h; omega
    simp only [List.cons_append, p3, ih h']

/-- What the program reads, letter by letter; h bits of r are no byte yet. -/
def dec (h r : Nat) : List UInt8 → Option (List UInt8)
  | [] => if r % 2 ^ h = 0 then some [] else none
  | c :: cs => match num c with
    | none => none
    | some k => if 8 ≤ h + 6 then (dec (h - 2) ((r * 64 + k) % 4294967296) cs).map (UInt8.ofNat ((r * 64 + k) % 4294967296 / 2 ^ (h - 2)) :: ·)
      else dec (h + 6) ((r * 64 + k) % 4294967296) cs
def unfill (t : List UInt8) : Option (List UInt8) := if t.length % 4 = 0 then some (Lib.trimSuffix (Lib.trimSuffix t [61]) [61]) else none
def get (t : List UInt8) : Option (List UInt8) := (unfill t).bind (dec 0 0)

theorem byteEq (a : UInt8) (n : Nat) (h : n % 256 = a.toNat) : UInt8.ofNat n = a := by
  apply UInt8.toNat_inj.1
  simpa using h

theorem dec_body (l : List UInt8) : ∀ r r', dec 0 r (body 0 r' l) = some l := by
  induction l using p3_ind with
  | h0 => intro r r'; simp [body, flush, dec]; omega
  | h1 a =>
    intro r r'
    have ha := a.toNat_lt
    rw [body1]
    simp only [dec, num_L _ (show a.toNat / 4 < 64 by omega), num_L _ (show a.toNat % 4 * 16 < 64 by omega)]
    simp
    refine ⟨by omega, byteEq _ _ (by omega)⟩
  | h2 a b =>
    intro r r'
    have ha := a.toNat_lt
    have hb := b.toNat_lt
    rw [body2]
    simp only [dec, num_L _ (show a.toNat / 4 < 64 by omega), num_L _ (show a.toNat % 4 * 16 + b.toNat / 16 < 64 by omega), num_L _ (show b.toNat % 16 * 4 < 64 by omega)]
    simp
    refine ⟨by omega, byteEq _ _ (by omega), byteEq _ _ (by omega)⟩
  | h3 a b c l ih =>
    intro r r'
    have ha := a.toNat_lt
    have hb := b.toNat_lt
    have hc := c.toNat_lt
    obtain ⟨r'', h⟩ := body3 r' a b c l
    rw [h]
    simp only [dec, num_L _ (show a.toNat / 4 < 64 by omega), num_L _ (show a.toNat % 4 * 16 + b.toNat / 16 < 64 by omega), num_L _ (show b.toNat % 16 * 4 + c.toNat / 64 < 64 by omega), num_L _ (show c.toNat % 64 < 64 by omega)]
    simp [ih]
    refine ⟨byteEq _ _ (by omega), byteEq _ _ (by omega), byteEq _ _ (by omega)⟩

/-- Four by four. -/
theorem p4_ind {P : List UInt8 → Prop} (h0 : P []) (h1 : ∀ a, P [a]) (h2 : ∀ a b, P [a, b]) (h3 : ∀ a b c, P [a, b, c]) (h4 : ∀ a b c d r, P r → P (a :: b :: c :: d :: r)) : ∀ l, P l
  | [] => h0
  | [a] => h1 a
  | [a, b] => h2 a b
  | [a, b, c] => h3 a b c
  | a :: b :: c :: d :: r => h4 a b c d r (p4_ind h0 h1 h2 h3 h4 r)
theorem dec_cons {h r : Nat} {c : UInt8} {cs s : List UInt8} (hd : dec h r (c :: cs) = some s) : ∃ k, num c = some k ∧ L k = c ∧ k < 64 ∧
    (if 8 ≤ h + 6 then (dec (h - 2) ((r * 64 + k) % 4294967296) cs).map (UInt8.ofNat ((r * 64 + k) % 4294967296 / 2 ^ (h - 2)) :: ·) else dec (h + 6) ((r * 64 + k) % 4294967296) cs) = some s := by
  simp only [dec] at hd
  cases hn : num c with
  | none => rw [hn] at hd; simp at hd
  | some k =>
    rw [hn] at hd
    exact ⟨k, rfl, (L_num hn).1, (L_num hn).2, hd⟩
theorem dec0 {r : Nat} {c : UInt8} {cs s : List UInt8} (hd : dec 0 r (c :: cs) = some s) : ∃ k x, L k = c ∧ k < 64 ∧ x % 64 = k ∧ dec 6 x cs = some s := by
  obtain ⟨k, _, h1, h2, h3⟩ := dec_cons hd
  rw [if_neg (by decide)] at h3
  exact ⟨k, _, h1, h2, by omega, h3⟩
theorem dec6 {r : Nat} {c : UInt8} {cs s : List UInt8} (hd : dec 6 r (c :: cs) = some s) : ∃ k x s', L k = c ∧ k < 64 ∧ x % 4096 = r % 64 * 64 + k ∧ s = UInt8.ofNat (x / 16) :: s' ∧ dec 4 x cs = some s' := by
  obtain ⟨k, _, h1, h2, h3⟩ := dec_cons hd
  rw [if_pos (by decide), Option.map_eq_some_iff] at h3
  obtain ⟨s', h4, h5⟩ := h3
  exact ⟨k, _, s', h1, h2, by omega, h5.symm, h4⟩
theorem dec4 {r : Nat} {c : UInt8} {cs s : List UInt8} (hd : dec 4 r (c :: cs) = some s) : ∃ k x s', L k = c ∧ k < 64 ∧ x % 1024 = r % 16 * 64 + k ∧ s = UInt8.ofNat (x / 4) :: s' ∧ dec 2 x cs = some s' := by
  obtain ⟨k, _, h1, h2, h3⟩ := dec_cons hd
  rw [if_pos (by decide), Option.map_eq_some_iff] at h3
  obtain ⟨s', h4, h5⟩ := h3
  exact ⟨k, _, s', h1, h2, by omega, h5.symm, h4⟩
theorem dec2 {r : Nat} {c : UInt8} {cs s : List UInt8} (hd : dec 2 r (c :: cs) = some s) : ∃ k x s', L k = c ∧ k < 64 ∧ x % 256 = r % 4 * 64 + k ∧ s = UInt8.ofNat x :: s' ∧ dec 0 x cs = some s' := by
  obtain ⟨k, _, h1, h2, h3⟩ := dec_cons hd
  rw [if_pos (by decide), Option.map_eq_some_iff] at h3
  obtain ⟨s', h4, h5⟩ := h3
  exact ⟨k, _, s', h1, h2, by omega, by simpa using h5.symm, h4⟩
theorem dec_nil {h r : Nat} {s : List UInt8} (hd : dec h r [] = some s) : r % 2 ^ h = 0 ∧ s = [] := by
  simp only [dec] at hd
  split at hd
  · exact ⟨by assumption, by simpa using hd.symm⟩
  · simp at hd
theorem ofNat_toNat (n : Nat) : (UInt8.ofNat n).toNat = n % 256 := by simp

theorem body_dec (u : List UInt8) : u.length % 4 ≠ 1 → ∀ r r' s, dec 0 r u = some s → body 0 r' s = u := by
  induction u using p4_ind with
  | h0 => intro _ r r' s h; obtain ⟨_, rfl⟩ := dec_nil h; rfl
  | h1 a => intro h; exact absurd rfl h
  | h2 a b =>
    intro _ r r' s h
    obtain ⟨k1, x, rfl, h1, hx, g0⟩ := dec0 h
    obtain ⟨k2, y, s, rfl, h2, hy, rfl, g6⟩ := dec6 g0
    obtain ⟨hz, rfl⟩ := dec_nil g6
    rw [body1, ofNat_toNat]
    rw [show y / 16 % 256 / 4 = k1 by omega, show y / 16 % 256 % 4 * 16 = k2 by omega]
  | h3 a b c =>
    intro _ r r' s h
    obtain ⟨k1, x, rfl, h1, hx, g0⟩ := dec0 h
    obtain ⟨k2, y, s, rfl, h2, hy, rfl, g6⟩ := dec6 g0
    obtain ⟨k3, z, s, rfl, h3, hz, rfl, g4⟩ := dec4 g6
    obtain ⟨hv, rfl⟩ := dec_nil g4
    rw [body2, ofNat_toNat, ofNat_toNat]
    rw [show y / 16 % 256 / 4 = k1 by omega, show y / 16 % 256 % 4 * 16 + z / 4 % 256 / 16 = k2 by omega, show z / 4 % 256 % 16 * 4 = k3 by omega]
  | h4 a b c d u ih =>
    intro hl r r' s h
    obtain ⟨k1, x, rfl, h1, hx, g0⟩ := dec0 h
    obtain ⟨k2, y, s, rfl, h2, hy, rfl, g6⟩ := dec6 g0
    obtain ⟨k3, z, s, rfl, h3, hz, rfl, g4⟩ := dec4 g6
    obtain ⟨k4, v, s, rfl, h4, hv, rfl, g2⟩ := dec2 g4
    obtain ⟨r'', hb⟩ := body3 r' (UInt8.ofNat (y / 16)) (UInt8.ofNat (z / 4)) (UInt8.ofNat v) s
    rw [hb, ofNat_toNat, ofNat_toNat, ofNat_toNat, ih (by simp only [List.length_cons] at hl; omega) v r'' s g2]
    rw [show y / 16 % 256 / 4 = k1 by omega, show y / 16 % 256 % 4 * 16 + z / 4 % 256 / 16 = k2 by omega, show z / 4 % 256 % 16 * 4 + v % 256 / 64 = k3 by omega, show v % 256 % 64 = k4 by omega]

/-- What fills the letters. -/
theorem trim_fill (l : List UInt8) : Lib.trimSuffix (l ++ [61]) [61] = l := by
  unfold Lib.trimSuffix Lib.hasSuffix
  rw [if_pos (by rw [List.isSuffixOf_iff_suffix]; exact List.suffix_append ..)]
  simp
theorem trim_cases (l : List UInt8) : (∃ m, l = m ++ [61] ∧ Lib.trimSuffix l [61] = m) ∨ (Lib.trimSuffix l [61] = l ∧ ∀ m, l ≠ m ++ [61]) := by
  by_cases h : Lib.hasSuffix l [61] = true
  · left
    unfold Lib.hasSuffix at h
    rw [List.isSuffixOf_iff_suffix] at h
    obtain ⟨m, rfl⟩ := h
    exact ⟨m, rfl, trim_fill m⟩
  · right
    refine ⟨by unfold Lib.trimSuffix; rw [if_neg h], fun m hm => h ?_⟩
    subst hm
    unfold Lib.hasSuffix
    rw [List.isSuffixOf_iff_suffix]
    exact List.suffix_append ..
theorem trims (t : List UInt8) : ∃ k, k ≤ 2 ∧ t = Lib.trimSuffix (Lib.trimSuffix t [61]) [61] ++ List.replicate k 61 := by
  rcases trim_cases t with ⟨m, h1, h2⟩ | ⟨h1, h2⟩
  · rw [h2]
    rcases trim_cases m with ⟨m', h3, h4⟩ | ⟨h3, h4⟩
    · exact ⟨2, by omega, by rw [h4, h1, h3]; simp [List.replicate]⟩
    · exact ⟨1, by omega, by rw [h3, h1]; rfl⟩
  · rw [h1, h1]
    exact ⟨0, by omega, by simp⟩
/-- The body of letters ends with no filler. -/
theorem trims_fill (l : List UInt8) (hl : ∀ m, l ≠ m ++ [61]) (k : Nat) (hk : k ≤ 2) : Lib.trimSuffix (Lib.trimSuffix (l ++ List.replicate k 61) [61]) [61] = l := by
  have e : Lib.trimSuffix l [61] = l := by
    rcases trim_cases l with ⟨m, h1, _⟩ | ⟨h1, _⟩
    · exact absurd h1 (hl m)
    · exact h1
  obtain rfl | rfl | rfl : k = 0 ∨ k = 1 ∨ k = 2 := by omega
  · simp [e]
  · rw [show List.replicate 1 (61 : UInt8) = [61] from rfl, trim_fill, e]
  · rw [show List.replicate 2 (61 : UInt8) = [61] ++ [61] from rfl, ← List.append_assoc, trim_fill, trim_fill]
theorem body_mem (l : List UInt8) : ∀ r, ∀ x ∈ body 0 r l, x ≠ 61 := by
  induction l using p3_ind with
  | h0 => intro r x h; simp [body, flush] at h
  | h1 a =>
    intro r x h
    have ha := a.toNat_lt
    rw [body1] at h
    simp only [List.mem_cons, List.not_mem_nil, or_false] at h
    rcases h with rfl | rfl <;> exact L_fill _ (by omega)
  | h2 a b =>
    intro r x h
    have ha := a.toNat_lt
    have hb := b.toNat_lt
    rw [body2] at h
    simp only [List.mem_cons, List.not_mem_nil, or_false] at h
    rcases h with rfl | rfl | rfl <;> exact L_fill _ (by omega)
  | h3 a b c l ih =>
    intro r x h
    have ha := a.toNat_lt
    have hb := b.toNat_lt
    have hc := c.toNat_lt
    obtain ⟨r', e⟩ := body3 r a b c l
    rw [e] at h
    simp only [List.mem_cons] at h
    rcases h with rfl | rfl | rfl | rfl | h
    · exact L_fill _ (by omega)
    · exact L_fill _ (by omega)
    · exact L_fill _ (by omega)
    · exact L_fill _ (by omega)
    · exact ih r' x h
theorem body_end (l : List UInt8) (r : Nat) (m : List UInt8) : body 0 r l ≠ m ++ [61] := fun h => body_mem l r 61 (by rw [h]; simp) rfl
theorem body_length (l : List UInt8) : ∀ r, (body 0 r l).length % 4 ≠ 1 := by
  induction l using p3_ind with
  | h0 => intro r; simp [body, flush]
  | h1 a => intro r; rw [body1]; simp
  | h2 a b => intro r; rw [body2]; simp
  | h3 a b c l ih => intro r; obtain ⟨r', e⟩ := body3 r a b c l; have := ih r'; rw [e]; simp only [List.length_cons]; omega

theorem get_p3 (s : List UInt8) : get (p3 s) = some s := by
  have hlen : (p3 s).length % 4 = 0 := by rw [p3_length]; omega
  unfold get unfill
  rw [if_pos hlen, Option.bind_some, ← put_eq s 0]
  unfold fill
  rw [trims_fill _ (body_end s 0) _ (by have := body_length s 0; omega), dec_body]
theorem p3_get {t s : List UInt8} (h : get t = some s) : p3 s = t := by
  unfold get unfill at h
  by_cases hl : t.length % 4 = 0
  · rw [if_pos hl, Option.bind_some] at h
    obtain ⟨k, hk, ht⟩ := trims t
    generalize Lib.trimSuffix (Lib.trimSuffix t [61]) [61] = u at *
    have hlen : t.length = u.length + k := by rw [ht]; simp
    rw [← put_eq s 0, body_dec u (by omega) 0 0 s h, fill, show (4 - u.length % 4) % 4 = k by omega, ← ht]
  · rw [if_neg hl] at h; simp at h
theorem get_iff (t s : List UInt8) : get t = some s ↔ p3 s = t := ⟨p3_get, fun h => h ▸ get_p3 s⟩

/-- What the document's own reading lays, letter by letter. -/
def rdec (h n : Nat) : List UInt8 → List UInt8
  | [] => []
  | c :: cs => match num c with
    | none => rdec h n cs
    | some k => if 8 ≤ h + 6 then UInt8.ofNat ((n * 64 + k) % 1048576 / 2 ^ (h - 2)) :: rdec (h - 2) ((n * 64 + k) % 1048576) cs else rdec (h + 6) ((n * 64 + k) % 1048576) cs
theorem rdec_fill (h n k : Nat) : rdec h n (List.replicate k 61) = [] := by
  induction k with
  | zero => rfl
  | succ k ih => rw [List.replicate_succ, rdec, num_fill]; exact ih
theorem rdec_p3 (l : List UInt8) : ∀ n, rdec 0 n (p3 l) = l := by
  induction l using p3_ind with
  | h0 => intro n; rfl
  | h1 a =>
    intro n
    have ha := a.toNat_lt
    simp only [p3, rdec, num_L _ (show a.toNat / 4 < 64 by omega), num_L _ (show a.toNat % 4 * 16 < 64 by omega), num_fill]
    simp
    exact byteEq _ _ (by omega)
  | h2 a b =>
    intro n
    have ha := a.toNat_lt
    have hb := b.toNat_lt
    simp only [p3, rdec, num_L _ (show a.toNat / 4 < 64 by omega), num_L _ (show a.toNat % 4 * 16 + b.toNat / 16 < 64 by omega), num_L _ (show b.toNat % 16 * 4 < 64 by omega), num_fill]
    simp
    exact ⟨byteEq _ _ (by omega), byteEq _ _ (by omega)⟩
  | h3 a b c l ih =>
    intro n
    have ha := a.toNat_lt
    have hb := b.toNat_lt
    have hc := c.toNat_lt
    simp only [p3, rdec, num_L _ (show a.toNat / 4 < 64 by omega), num_L _ (show a.toNat % 4 * 16 + b.toNat / 16 < 64 by omega), num_L _ (show b.toNat % 16 * 4 + c.toNat / 64 < 64 by omega), num_L _ (show c.toNat % 64 < 64 by omega)]
    simp [ih]
    exact ⟨byteEq _ _ (by omega), byteEq _ _ (by omega), byteEq _ _ (by omega)⟩
/-- The document's own reading is the program's. -/
theorem rget (t : List UInt8) : get t = if p3 (rdec 0 0 t) = t then some (rdec 0 0 t) else none := by
  split
  · rename_i h; exact (get_iff _ _).2 h
  · rename_i h
    cases hg : get t with
    | none => rfl
    | some s => exact absurd (by rw [← p3_get hg, rdec_p3]) h
end Go.Proofs.Ytajjhndpdjfcpaa.SixM

/- Names with values: which lists may be; their records; what records say. -/
namespace Go.Proofs.Ytajjhndpdjfcpaa
namespace XatM

/-- A name with a value; a record: a key with a value. -/
abbrev Xa := List UInt8 × List UInt8
def anyOf (s m : List UInt8) : Bool := s.any fun c => m.contains c
/-- What the keys begin with. -/
def sK : List UInt8 := [83, 67, 72, 73, 76, 89, 46, 120, 97, 116, 116, 114, 46]
def lK : List UInt8 := [76, 73, 66, 65, 82, 67, 72, 73, 86, 69, 46, 120, 97, 116, 116, 114, 46]
/-- One that may be, wherever it stands. -/
def okX (x : Xa) : Bool := decide (x.1 ≠ []) && !x.1.contains 0 && decide ((EscM.put x.1).length ≤ 238) && decide (x.2.length ≤ 4096)
/-- Names rise. -/
def asc : List Xa → Bool
  | x :: y :: r => decide (x.1 < y.1) && asc (y :: r)
  | _ => true
def mayL (l : List Xa) : Bool := decide (l.length ≤ 32) && l.all okX && asc l
/-- One with its place. -/
def okAt (l : List Xa) (i : Nat) : Bool := match l[i]? with
  | some x => okX x && (match i with
    | 0 => true
    | j + 1 => match l[j]? with
      | some y => decide (y.1 < x.1)
      | none => true)
  | none => true
def recOf (x : Xa) : List Xa := (if x.1.contains 61 then [] else [(sK ++ x.1, x.2)]) ++ [(lK ++ EscM.put x.1, SixM.p3 x.2)]
def recsL (l : List Xa) : List Xa := if mayL l then l.flatMap recOf else []
/-- Is a key one of ours? -/
def isX (k : List UInt8) : Bool := (decide (13 ≤ k.length) && decide (k.take 13 = sK)) || (decide (17 ≤ k.length) && decide (k.take 17 = lK))
/-- What a record says: nothing that counts here, nothing that can be told, a name with a value. -/
def recX (r : Xa) : Option (Option Xa) :=
  if isX r.1 then
    (if r.1.head? = some 76 then (match EscM.get (r.1.drop 17), SixM.get r.2 with
      | some n, some v => some (some (n, v))
      | _, _ => some none)
    else some (some (r.1.drop 13, r.2)))
  else none
/-- One more, in its place; above one of the same name. -/
def putX : List Xa → Xa → List Xa
  | [], a => [a]
  | y :: l, a => if y.1 < a.1 then y :: putX l a else if y.1 = a.1 then a :: l else a :: y :: l
def fromGo : List Xa → List Xa → Option (List Xa)
  | acc, [] => some acc
  | acc, r :: rs => match recX r with
    | none => fromGo acc rs
    | some none => none
    | some (some x) => fromGo (putX acc x) rs
def fromL (rs : List Xa) : Option (List Xa) := match fromGo [] rs with
  | some l => if mayL l then some l else none
  | none => none

theorem lt_irrefl (a : List UInt8) : ¬ a < a := List.lt_irrefl a
theorem lt_trans {a b c : List UInt8} (h : a < b) (k : b < c) : a < c := List.lt_trans h k
theorem lt_total {a b : List UInt8} (h : ¬ a < b) (k : a ≠ b) : b < a := Classical.byContradiction fun g => k (List.le_antisymm (List.not_lt.1 g) (List.not_lt.1 h))
theorem lt_asymm {a b : List UInt8} (h : a < b) : ¬ b < a := List.lt_asymm h
theorem lt_ne {a b : List UInt8} (h : a < b) : a ≠ b := fun e => lt_irrefl b (e ▸ h)

theorem put_mono (s : List UInt8) : s.length ≤ (EscM.put s).length := by
  induction s with
  | nil => simp
  | cons c s ih =>
    rw [EscM.put_cons, List.length_append, List.length_cons]
    have : 1 ≤ (EscM.enc c).length := by unfold EscM.enc; split <;> simp
    omega
theorem asc_iff : ∀ (l : List Xa), asc l = true ↔ ∀ i x y, l[i]? = some x → l[i + 1]? = some y → x.1 < y.1
  | [] => by simp [asc]
  | [x] => by
    simp only [asc, true_iff]
    intro i a b _ h
    simp at h
  | x :: y :: r => by
    unfold asc
    rw [Bool.and_eq_true, decide_eq_true_eq, asc_iff (y :: r)]
    constructor
    · rintro ⟨h1, h2⟩ i a b ha hb
      cases i with
      | zero => simp at ha hb; rw [← ha, ← hb]; exact h1
      | succ i => exact h2 i a b (by simpa using ha) (by simpa using hb)
    · intro h
      exact ⟨h 0 x y rfl rfl, fun i a b ha hb => h (i + 1) a b (by simpa using ha) (by simpa using hb)⟩
theorem okAt_all {l : List Xa} : (∀ i, i < l.length → okAt l i = true) ↔ (l.all okX = true ∧ asc l = true) := by
  constructor
  · intro h
    refine ⟨?_, ?_⟩
    · rw [List.all_eq_true]
      intro x hx
      obtain ⟨i, hi, he⟩ := List.getElem_of_mem hx
      have := h i hi
      unfold okAt at this
      rw [List.getElem?_eq_getElem hi] at this
      simp only [Bool.and_eq_true] at this
      rw [← he]
      exact this.1
    · rw [asc_iff]
      intro i x y hx hy
      have hi : i + 1 < l.length := (List.getElem?_eq_some_iff.1 hy).1
      have := h (i + 1) hi
      unfold okAt at this
      rw [hy] at this
      simp only [hx, Bool.and_eq_true, decide_eq_true_eq] at this
      exact this.2
  · rintro ⟨h1, h2⟩ i hi
    unfold okAt
    rw [List.getElem?_eq_getElem hi]
    simp only [Bool.and_eq_true]
    refine ⟨List.all_eq_true.1 h1 _ (List.getElem_mem hi), ?_⟩
    cases i with
    | zero => rfl
    | succ j =>
      simp only
      rw [List.getElem?_eq_getElem (show j < l.length by omega)]
      simp only [decide_eq_true_eq]
      exact (asc_iff l).1 h2 j _ _ (List.getElem?_eq_getElem (by omega)) (List.getElem?_eq_getElem hi)
theorem may_all {l : List Xa} (h : ∀ i, i < l.length → okAt l i = true) : mayL l = decide (l.length ≤ 32) := by
  obtain ⟨h1, h2⟩ := okAt_all.1 h
  unfold mayL
  rw [h1, h2, Bool.and_true, Bool.and_true]
theorem may_bad {l : List Xa} {i : Nat} (hi : i < l.length) (h : okAt l i = false) : mayL l = false := by
  rw [Bool.eq_false_iff]
  intro hm
  unfold mayL at hm
  rw [Bool.and_eq_true, Bool.and_eq_true] at hm
  have := okAt_all.2 ⟨hm.1.2, hm.2⟩ i hi
  rw [h] at this
  cases this
theorem may_parts {l : List Xa} (h : mayL l = true) : l.length ≤ 32 ∧ (∀ x ∈ l, okX x = true) ∧ asc l = true := by
  unfold mayL at h
  rw [Bool.and_eq_true, Bool.and_eq_true, decide_eq_true_eq, List.all_eq_true] at h
  exact ⟨h.1.1, h.1.2, h.2⟩
theorem okX_parts {x : Xa} (h : okX x = true) : x.1 ≠ [] ∧ x.1.contains 0 = false ∧ (EscM.put x.1).length ≤ 238 ∧ x.2.length ≤ 4096 ∧ x.1.length ≤ 238 := by
  unfold okX at h
  simp only [Bool.and_eq_true, decide_eq_true_eq, Bool.not_eq_true'] at h
  have := put_mono x.1
  exact ⟨h.1.1.1, h.1.1.2, h.1.2, h.2, by omega⟩

/-- One put in its place, as it is found by a loop. -/
theorem put_step {l : List Xa} {a : Xa} {k : Nat} (hk : k < l.length) (h : putX l a = l.take k ++ putX (l.drop k) a) (hlt : l[k].1 < a.1) : putX l a = l.take (k + 1) ++ putX (l.drop (k + 1)) a := by
  rw [h, List.drop_eq_getElem_cons hk, List.take_succ_eq_append_getElem hk]
  show _ ++ (if l[k].1 < a.1 then l[k] :: putX (l.drop (k + 1)) a else _) = _
  rw [if_pos hlt, List.append_assoc]
  rfl
theorem put_end {l : List Xa} {a : Xa} {k : Nat} (hk : l.length ≤ k) (h : putX l a = l.take k ++ putX (l.drop k) a) : putX l a = l.take k ++ [a] ++ [] := by
  rw [h, List.drop_eq_nil_of_le hk]
  simp [putX]
theorem put_same {l : List Xa} {a : Xa} {k : Nat} (hk : k < l.length) (h : putX l a = l.take k ++ putX (l.drop k) a) (he : l[k].1 = a.1) : putX l a = l.take k ++ [a] ++ (l.drop k).drop 1 := by
  rw [h, List.drop_eq_getElem_cons hk]
  show _ ++ (if l[k].1 < a.1 then _ else if l[k].1 = a.1 then a :: l.drop (k + 1) else _) = _
  rw [if_neg (by rw [he]; exact lt_irrefl _), if_pos he]
  simp
theorem put_more {l : List Xa} {a : Xa} {k : Nat} (hk : k < l.length) (h : putX l a = l.take k ++ putX (l.drop k) a) (h1 : ¬ l[k].1 < a.1) (h2 : l[k].1 ≠ a.1) : putX l a = l.take k ++ [a] ++ l.drop k := by
  rw [h, List.drop_eq_getElem_cons hk]
  show _ ++ (if l[k].1 < a.1 then _ else if l[k].1 = a.1 then _ else a :: l[k] :: l.drop (k + 1)) = _
  rw [if_neg h1, if_neg h2]
  simp
theorem put_len (l : List Xa) (a : Xa) : 1 ≤ (putX l a).length ∧ (putX l a).length ≤ l.length + 1 := by
  induction l with
  | nil => simp [putX]
  | cons y l ih =>
    unfold putX
    split
    · simp only [List.length_cons]; omega
    · split <;> simp only [List.length_cons] <;> omega
theorem put_mem {l : List Xa} {a x : Xa} (h : x ∈ putX l a) : x = a ∨ x ∈ l := by
  induction l with
  | nil => simp [putX] at h; exact .inl h
  | cons y l ih =>
    unfold putX at h
    split at h
    · rcases List.mem_cons.1 h with h | h
      · exact .inr (by simp [h])
      · rcases ih h with h | h
        · exact .inl h
        · exact .inr (by simp [h])
    · split at h
      · rcases List.mem_cons.1 h with h | h
        · exact .inl h
        · exact .inr (by simp [h])
      · rcases List.mem_cons.1 h with h | h
        · exact .inl h
        · exact .inr h
/-- Names that rise. -/
def PW (l : List Xa) : Prop := l.Pairwise fun x y => x.1 < y.1
theorem asc_pw : ∀ {l : List Xa}, asc l = true ↔ PW l
  | [] => by simp [asc, PW]
  | [x] => by simp [asc, PW]
  | x :: y :: r => by
    have ih := asc_pw (l := y :: r)
    unfold asc
    rw [Bool.and_eq_true, decide_eq_true_eq, ih]
    constructor
    · rintro ⟨h1, h2⟩
      refine List.pairwise_cons.2 ⟨fun z hz => ?_, h2⟩
      rcases List.mem_cons.1 hz with rfl | hz
      · exact h1
      · exact lt_trans h1 ((List.pairwise_cons.1 h2).1 z hz)
    · intro h
      obtain ⟨h1, h2⟩ := List.pairwise_cons.1 h
      exact ⟨h1 y (by simp), h2⟩
theorem put_pw {l : List Xa} {a : Xa} (h : PW l) : PW (putX l a) := by
  unfold PW at h ⊢
  induction l with
  | nil => simp [putX]
  | cons y l ih =>
    obtain ⟨h1, h2⟩ := List.pairwise_cons.1 h
    unfold putX
    split
    · rename_i hlt
      refine List.pairwise_cons.2 ⟨fun x hx => ?_, ih h2⟩
      rcases put_mem hx with rfl | hx
      · exact hlt
      · exact h1 x hx
    · split
      · rename_i he
        refine List.pairwise_cons.2 ⟨fun x hx => ?_, h2⟩
        rw [← he]
        exact h1 x hx
      · rename_i hn he
        have hlt := lt_total hn he
        refine List.pairwise_cons.2 ⟨fun x hx => ?_, h⟩
        rcases List.mem_cons.1 hx with rfl | hx
        · exact hlt
        · exact lt_trans hlt (h1 x hx)
/-- A list with rising names is known by what it says of each name. -/
def look (l : List Xa) (n : List UInt8) : Option (List UInt8) := (l.find? fun x => x.1 == n).map (·.2)
theorem look_nil (n : List UInt8) : look [] n = none := rfl
theorem look_cons (x : Xa) (l : List Xa) (n : List UInt8) : look (x :: l) n = if x.1 = n then some x.2 else look l n := by
  unfold look
  rw [List.find?_cons]
  by_cases h : x.1 = n
  · rw [if_pos h, show (x.1 == n) = true by rw [h]; exact beq_self_eq_true n]; rfl
  · rw [if_neg h, show (x.1 == n) = false by rw [beq_eq_false_iff_ne]; exact h]
theorem look_none {l : List Xa} {n : List UInt8} (h : ∀ x ∈ l, x.1 ≠ n) : look l n = none := by
  induction l with
  | nil => rfl
  | cons x l ih => rw [look_cons, if_neg (h x (by simp)), ih (fun y hy => h y (by simp [hy]))]
theorem look_put {l : List Xa} (h : PW l) (a : Xa) (n : List UInt8) : look (putX l a) n = if a.1 = n then some a.2 else look l n := by
  induction l with
  | nil => rw [show putX [] a = [a] from rfl, look_cons]
  | cons y l ih =>
    obtain ⟨h1, h2⟩ := List.pairwise_cons.1 h
    unfold putX
    split
    · rename_i hlt
      rw [look_cons, look_cons, ih h2]
      by_cases hy : y.1 = n
      · rw [if_pos hy, if_neg (by rw [← hy]; exact fun e => lt_ne hlt e.symm)]; simp [hy]
      · rw [if_neg hy, if_neg hy]
    · split
      · rename_i he
        rw [look_cons, look_cons, he]
        by_cases hn : a.1 = n
        · rw [if_pos hn, if_pos hn]
        · rw [if_neg hn, if_neg hn, if_neg hn]
      · rw [look_cons]
theorem look_mem {l : List Xa} {n v : List UInt8} (h : look l n = some v) : (n, v) ∈ l := by
  induction l with
  | nil => cases h
  | cons x l ih =>
    rw [look_cons] at h
    split at h
    · rename_i he
      obtain rfl := Option.some.inj h
      exact List.mem_cons.2 (.inl (by rw [← he]))
    · exact List.mem_cons.2 (.inr (ih h))
theorem look_of {l : List Xa} (h : PW l) {x : Xa} (hx : x ∈ l) : look l x.1 = some x.2 := by
  induction l with
  | nil => cases hx
  | cons y l ih =>
    obtain ⟨h1, h2⟩ := List.pairwise_cons.1 h
    rw [look_cons]
    rcases List.mem_cons.1 hx with rfl | hx
    · rw [if_pos rfl]
    · rw [if_neg (lt_ne (h1 x hx)), ih h2 hx]
theorem look_inj : ∀ {l m : List Xa}, PW l → PW m → (∀ n, look l n = look m n) → l = m
  | [], [], _, _, _ => rfl
  | [], y :: m, _, hm, h => by
    have := h y.1
    rw [look_nil, look_cons, if_pos rfl] at this
    cases this
  | x :: l, [], hl, _, h => by
    have := h x.1
    rw [look_nil, look_cons, if_pos rfl] at this
    cases this
  | x :: l, y :: m, hl, hm, h => by
    obtain ⟨l1, l2⟩ := List.pairwise_cons.1 hl
    obtain ⟨m1, m2⟩ := List.pairwise_cons.1 hm
    have hxy : x.1 = y.1 := by
      have hx := h x.1
      have hy := h y.1
      rw [look_cons, look_cons, if_pos rfl] at hx
      rw [look_cons, look_cons, if_pos (rfl : y.1 = y.1)] at hy
      refine Classical.byContradiction fun hne => ?_
      rw [if_neg (Ne.symm hne)] at hx
      rw [if_neg hne] at hy
      have a1 := m1 _ (look_mem hx.symm)
      have a2 := l1 _ (look_mem hy)
      exact lt_asymm a1 a2
    have hv : x.2 = y.2 := by
      have hx := h x.1
      rw [look_cons, look_cons, if_pos rfl, if_pos hxy.symm] at hx
      exact Option.some.inj hx
    obtain rfl : x = y := Prod.ext hxy hv
    refine congrArg (x :: ·) (look_inj l2 m2 fun n => ?_)
    have hn := h n
    rw [look_cons, look_cons] at hn
    by_cases he : x.1 = n
    · rw [look_none (fun z hz => he ▸ (lt_ne (l1 z hz)).symm), look_none (fun z hz => he ▸ (lt_ne (m1 z hz)).symm)]
    · rw [if_neg he, if_neg he] at hn
      exact hn
end XatM
end Go.Proofs.Ytajjhndpdjfcpaa
