/- Bundle of 3 texts. -/
import Derived.Test.YtbhnhoenjoagbaaGreatDoorBnAB
import Derived.Test.YtbhnhoenjoagbaaGreatDoorBnAA
import Derived.Shelf.Strings.BuilderF
import Derived.Lib.RepeatB
import Derived.Lib.CutLaws
import Derived.Deep.LoopGhost
import Derived.Deep.DeepCutAuto
import Derived.Deep.CutBlock
import Derived.Deep.QuietTactic
import Derived.Deep.RegionHeld3
import Derived.BigQuiet
import Derived.Below
import Derived.Outline
/- What the fields are, as plain mathematics: a field is read again. -/
namespace Go.Proofs.YtbhnhoenjoagbaaGreatDoor.HeadW
open Go.RowKit
open NumM

theorem wrap_step (x c : Int) : wrap64 (wrap64 x * 256 + c) = wrap64 (x * 256 + c) := by unfold wrap64; omega
theorem emod_step (n P : Int) (hP : 0 < P) : n % (P * 256) = n / 256 % P * 256 + n % 256 := by
  have h1 := Int.mul_ediv_add_emod n 256
  have h2 := Int.mul_ediv_add_emod (n / 256) P
  have h3 : n = (P * 256) * (n / 256 / P) + (n / 256 % P * 256 + n % 256) := by
    have e : (P * 256) * (n / 256 / P) = 256 * (P * (n / 256 / P)) := by rw [Int.mul_comm P 256, Int.mul_assoc]
    rw [e]
    generalize P * (n / 256 / P) = y at *
    omega
  have h4 := Int.emod_nonneg n (b := 256) (by decide)
  have h5 := Int.emod_lt_of_pos n (b := 256) (by decide)
  have h6 := Int.emod_nonneg (n / 256) (b := P) (by omega)
  have h7 := Int.emod_lt_of_pos (n / 256) hP
  have h8 : 0 ≤ n / 256 % P * 256 + n % 256 ∧ n / 256 % P * 256 + n % 256 < P * 256 := by omega
  generalize n / 256 % P * 256 + n % 256 = r at *
  rw [h3, Int.mul_add_emod_self_left, Int.emod_eq_of_lt h8.1 h8.2]

theorem basVs_bes (a : Int) (ha : a = 0 ∨ a = -1) (k : Nat) (n : Int) : basVs a (bes k n) = wrap64 (a * 256 ^ k + n % 256 ^ k) := by
  induction k generalizing n with
  | zero => rcases ha with rfl | rfl <;> simp [bes, basVs, wrap64]
  | succ k ih =>
    have h1 : bes (k + 1) n = bes k (n / 256) ++ [UInt8.ofNat (n % 256).toNat] := rfl
    rw [h1, basVs_snoc, ih, byte_of, wrap_step, Int.pow_succ, emod_step n (256 ^ k) (Int.pow_pos (by decide))]
    congr 1
    rw [Int.add_mul, ← Int.mul_assoc]
    omega

theorem octV_digs (k n : Nat) : octV (digs k n) = ((n % 8 ^ k : Nat) : Int) := by
  induction k generalizing n with
  | zero => simp [digs, octV, Nat.mod_one]
  | succ k ih =>
    have h1 : digs (k + 1) n = digs k (n / 8) ++ [UInt8.ofNat (48 + n % 8)] := rfl
    have h2 : (UInt8.ofNat (48 + n % 8)).toNat = 48 + n % 8 := by simp; omega
    rw [h1, octV_snoc, ih, h2, Nat.pow_succ, Nat.mul_comm (8 ^ k) 8, Nat.mod_mul]
    omega

theorem octO_form {n v : Int} {l : List UInt8} (h : octO n v = some l) : ∃ (m d : Nat), n = m ∧ v = (d : Int) + 1 ∧ (d = 7 ∨ d = 11) ∧ m < 8 ^ d ∧ l = digs d m ++ [0] := by
  unfold octO at h
  split at h
  · rename_i hc
    injection h with h
    subst h
    simp only [Bool.and_eq_true, decide_eq_true_eq] at hc
    obtain ⟨⟨hv, h0⟩, h1⟩ := hc
    obtain ⟨m, rfl⟩ := Int.eq_ofNat_of_zero_le h0
    have h : v = 8 ∨ v = 12 := by simpa [isW] using hv
    rcases h with rfl | rfl
    · exact ⟨m, 7, rfl, rfl, .inl rfl, by have h2 : (m : Int) < 2097152 := h1; omega, rfl⟩
    · exact ⟨m, 11, rfl, rfl, .inr rfl, by have h2 : (m : Int) < 8589934592 := h1; omega, rfl⟩
  · cases h
theorem basO_form {n v : Int} {l : List UInt8} (h : basO n v = some l) : ∃ d : Nat, v = (d : Int) + 1 ∧ ((d = 7 ∧ -72057594037927936 ≤ n ∧ n < 72057594037927936) ∨ d = 11) ∧ l = (if n < 0 then 255 else 128) :: bes d n := by
  unfold basO at h
  split at h
  · rename_i hc
    injection h with h
    subst h
    simp only [Bool.and_eq_true, Bool.or_eq_true, decide_eq_true_eq, beq_iff_eq] at hc
    obtain ⟨hv, hr⟩ := hc
    have h : v = 8 ∨ v = 12 := by simpa [isW] using hv
    rcases h with rfl | rfl
    · exact ⟨7, rfl, .inl ⟨rfl, by omega, by omega⟩, rfl⟩
    · exact ⟨11, rfl, .inr rfl, rfl⟩
  · cases h

theorem octO_length {n v : Int} {l : List UInt8} (h : octO n v = some l) : (l.length : Int) = v := by
  obtain ⟨m, d, _, rfl, _, _, rfl⟩ := octO_form h
  simp [digs_length]
theorem basO_length {n v : Int} {l : List UInt8} (h : basO n v = some l) : (l.length : Int) = v := by
  obtain ⟨d, rfl, _, rfl⟩ := basO_form h
  simp [bes_length]
theorem fieldO_cases {n v : Int} {l : List UInt8} (h : fieldO n v = some l) : octO n v = some l ∨ (octO n v = none ∧ basO n v = some l) := by
  unfold fieldO at h
  rcases ho : octO n v with _ | m
  · rw [ho] at h; exact .inr ⟨rfl, h⟩
  · rw [ho] at h; exact .inl h
theorem fieldO_length {n v : Int} {l : List UInt8} (h : fieldO n v = some l) : (l.length : Int) = v := by
  rcases fieldO_cases h with h | ⟨_, h⟩
  · exact octO_length h
  · exact basO_length h

/-- The first byte of each form. -/
theorem octO_head {n v : Int} {l : List UInt8} (h : octO n v = some l) : ∃ c r, l = c :: r ∧ 48 ≤ c.toNat ∧ c.toNat ≤ 55 := by
  obtain ⟨m, d, _, _, hd, _, rfl⟩ := octO_form h
  obtain ⟨k, rfl⟩ : ∃ k, d = k + 1 := ⟨d - 1, by omega⟩
  rw [digs_cons]
  exact ⟨_, _, rfl, by simp; omega, by simp; omega⟩
theorem basO_head {n v : Int} {l : List UInt8} (h : basO n v = some l) : ∃ c r, l = c :: r ∧ ((n < 0 ∧ c = 255) ∨ (0 ≤ n ∧ c = 128)) := by
  obtain ⟨d, _, _, rfl⟩ := basO_form h
  by_cases h0 : n < 0
  · exact ⟨_, _, rfl, .inl ⟨h0, if_pos h0⟩⟩
  · exact ⟨_, _, rfl, .inr ⟨by omega, if_neg h0⟩⟩

/-- What octal digits say is what they were made of. -/
theorem octW_of {n v : Int} {l : List UInt8} (h : octO n v = some l) : octW l = n := by
  obtain ⟨m, d, rfl, _, _, hm, rfl⟩ := octO_form h
  unfold octW
  rw [List.length_append, List.length_singleton, Nat.add_sub_cancel, List.take_left', octV_digs, Nat.mod_eq_of_lt hm]
  rfl
theorem basV_of {n v : Int} {l : List UInt8} (hn : -9223372036854775808 ≤ n ∧ n ≤ 9223372036854775807) (h : basO n v = some l) : basV l = n := by
  obtain ⟨d, _, hd, rfl⟩ := basO_form h
  unfold basV
  have hs : basStart ((if n < 0 then 255 else 128) :: bes d n) = if n < 0 then -1 else 0 := by
    by_cases h0 : n < 0 <;> simp [basStart, h0]
  rw [hs, List.drop_succ_cons, List.drop_zero]
  by_cases h0 : n < 0
  · rw [if_pos h0, basVs_bes _ (.inr rfl)]
    rcases hd with ⟨rfl, h1, h2⟩ | rfl
    · unfold wrap64; omega
    · unfold wrap64; omega
  · rw [if_neg h0, basVs_bes _ (.inl rfl)]
    rcases hd with ⟨rfl, h1, h2⟩ | rfl
    · unfold wrap64; omega
    · unfold wrap64; omega

theorem fldV_oct {l : List UInt8} {c : UInt8} {r : List UInt8} (h : l = c :: r) (hc : c.toNat < 128) : fldV l = octW l := by
  subst h; simp [fldV, octW, hc]
theorem fldV_bas {l : List UInt8} {c : UInt8} {r : List UInt8} (h : l = c :: r) (hc : 128 ≤ c.toNat) : fldV l = basV l := by
  subst h
  have : ¬ c.toNat < 128 := by omega
  simp [fldV, this]
theorem fldV_of {n v : Int} {l : List UInt8} (hn : -9223372036854775808 ≤ n ∧ n ≤ 9223372036854775807) (h : fieldO n v = some l) : fldV l = n := by
  rcases fieldO_cases h with h | ⟨_, h⟩
  · obtain ⟨c, r, hl, h1, h2⟩ := octO_head h
    rw [fldV_oct hl (by omega), octW_of h]
  · obtain ⟨c, r, hl, hc⟩ := basO_head h
    rw [fldV_bas hl (by rcases hc with ⟨_, rfl⟩ | ⟨_, rfl⟩ <;> decide), basV_of hn h]

/-- A field is read again. -/
theorem rdFld_of {n v : Int} {l : List UInt8} (hn : -9223372036854775808 ≤ n ∧ n ≤ 9223372036854775807) (h : fieldO n v = some l) : rdFld l = some n := by
  unfold rdFld rdO
  rw [fldV_of hn h, fieldO_length h, if_pos h]
theorem rdFld_form {v : Int} {l : List UInt8} (h : rdFld l = some v) : fieldO v l.length = some l := by
  unfold rdFld rdO at h
  split at h
  · injection h with h; subst h; assumption
  · cases h
theorem rdFld_short {l : List UInt8} (h : isW l.length = false) : rdFld l = none := by
  unfold rdFld rdO
  rw [fieldO_bad _ _ h]
  simp
theorem fieldO_none {n v : Int} (hv : isW v = true) (h : fieldO n v = none) : v = 8 ∧ (n < -72057594037927936 ∨ 72057594037927936 ≤ n) := by
  have h2 : basO n v = none := by
    unfold fieldO at h
    rcases ho : octO n v with _ | m
    · rw [ho] at h; exact h
    · rw [ho] at h; cases h
  have hv' : v = 8 ∨ v = 12 := by simpa [isW] using hv
  rcases hv' with rfl | rfl
  · simp [basO, hv] at h2
    exact ⟨rfl, by omega⟩
  · simp [basO, hv] at h2
end Go.Proofs.YtbhnhoenjoagbaaGreatDoor.HeadW

/- Header blocks, as plain mathematics: what is valid, the block, what a block says. -/
namespace Go.Proofs.YtbhnhoenjoagbaaGreatDoor.HeadM
open Go.Proofs.YtbhnhoenjoagbaaGreatDoor.HeadW
open NumM

structure Hd where
  name : ByteArray
  mode : Int
  uid : Int
  gid : Int
  size : Int
  mtime : Int
  typ : UInt8
  link : ByteArray
  uname : ByteArray
  gname : ByteArray
  major : Int
  minor : Int
  pre : ByteArray

theorem Hd.ext' {a b : Hd} (h1 : a.name = b.name) (h2 : a.mode = b.mode) (h3 : a.uid = b.uid) (h4 : a.gid = b.gid) (h5 : a.size = b.size) (h6 : a.mtime = b.mtime) (h7 : a.typ = b.typ) (h8 : a.link = b.link) (h9 : a.uname = b.uname) (h10 : a.gname = b.gname) (h11 : a.major = b.major) (h12 : a.minor = b.minor) (h13 : a.pre = b.pre) : a = b := by
  cases a; cases b; simp_all

def L (s : ByteArray) : List UInt8 := s.data.toList
def strOf (l : List UInt8) : ByteArray := ⟨l.toArray⟩
theorem strOf_L (s : ByteArray) : strOf (L s) = s := by cases s; simp [strOf, L]
theorem L_strOf (l : List UInt8) : L (strOf l) = l := by simp [strOf, L]

/-- A text with bytes 0 behind it. -/
def padL (l : List UInt8) (n : Nat) : List UInt8 := l ++ List.replicate (n - l.length) 0
/-- The field of a number (none: nothing). -/
def fl (n w : Int) : List UInt8 := (fieldO n w).getD []
def sumL (l : List UInt8) : Nat := (l.map (·.toNat)).sum
def magicL : List UInt8 := [117, 115, 116, 97, 114, 0, 48, 48]
def blanks : List UInt8 := [32, 32, 32, 32, 32, 32, 32, 32]
/-- The eight bytes of a sum. -/
def chkL (n : Nat) : List UInt8 := digs 6 n ++ [0, 32]

def aheadL (h : Hd) : List UInt8 := padL (L h.name) 100 ++ (fl h.mode 8 ++ (fl h.uid 8 ++ (fl h.gid 8 ++ (fl h.size 12 ++ fl h.mtime 12))))
def behindL (h : Hd) : List UInt8 := [h.typ] ++ (padL (L h.link) 100 ++ (magicL ++ (padL (L h.uname) 32 ++ (padL (L h.gname) 32 ++ (fl h.major 8 ++ (fl h.minor 8 ++ (padL (L h.pre) 155 ++ List.replicate 12 0)))))))
def putL (h : Hd) : List UInt8 := aheadL h ++ (chkL (sumL (aheadL h) + 256 + sumL (behindL h)) ++ behindL h)

def mayT (l : List UInt8) (n : Nat) : Bool := decide (l.length ≤ n) && !l.contains 0
def hasF (n w : Int) : Bool := (fieldO n w).isSome
def mayN (n w : Int) : Bool := decide (0 ≤ n) && hasF n w
def mayTs (h : Hd) : Bool := mayT (L h.name) 100 && (mayT (L h.link) 100 && (mayT (L h.uname) 32 && (mayT (L h.gname) 32 && mayT (L h.pre) 155)))
def mayNs (h : Hd) : Bool := mayN h.mode 8 && (mayN h.uid 8 && (mayN h.gid 8 && (mayN h.major 8 && (mayN h.minor 8 && (mayN h.size 12 && hasF h.mtime 12)))))
def mayH (h : Hd) : Bool := mayTs h && mayNs h
def putH (h : Hd) : List UInt8 := if mayH h = true then putL h else []

/-- The part of a block from a to b. -/
def cut (b : List UInt8) (i j : Nat) : List UInt8 := (b.take j).drop i
/-- What stands ahead of the first byte 0. -/
def upto (l : List UInt8) : List UInt8 := l.takeWhile (· != 0)
def rd (l : List UInt8) : Int := numOf (rdFld l)
def guess (b : List UInt8) : Hd where
  name := strOf (upto (cut b 0 100))
  mode := rd (cut b 100 108)
  uid := rd (cut b 108 116)
  gid := rd (cut b 116 124)
  size := rd (cut b 124 136)
  mtime := rd (cut b 136 148)
  typ := b.getD 156 0
  link := strOf (upto (cut b 157 257))
  uname := strOf (upto (cut b 265 297))
  gname := strOf (upto (cut b 297 329))
  major := rd (cut b 329 337)
  minor := rd (cut b 337 345)
  pre := strOf (upto (cut b 345 500))
def okB (b : List UInt8) : Bool := decide (putH (guess b) = b)

theorem cut_mid (A B C : List UInt8) (i j : Nat) (hi : A.length = i) (hj : i + B.length = j) : cut (A ++ (B ++ C)) i j = B := by
  subst hi hj
  unfold cut
  rw [← List.append_assoc, List.take_left' (by simp), List.drop_left' rfl]
theorem cut_end (A B : List UInt8) (i j : Nat) (hi : A.length = i) (hj : i + B.length = j) : cut (A ++ B) i j = B := by
  have := cut_mid A B [] i j hi hj
  simpa using this
theorem padL_length {l : List UInt8} {n : Nat} (h : l.length ≤ n) : (padL l n).length = n := by simp [padL]; omega
theorem mayT_iff {l : List UInt8} {n : Nat} : mayT l n = true ↔ l.length ≤ n ∧ (0 : UInt8) ∉ l := by simp [mayT]
theorem upto_padL {l : List UInt8} {n : Nat} (h : mayT l n = true) : upto (padL l n) = l := by
  obtain ⟨_, h0⟩ := mayT_iff.1 h
  unfold upto padL
  rw [List.takeWhile_append_of_pos]
  · have : List.takeWhile (fun x : UInt8 => x != 0) (List.replicate (n - l.length) 0) = [] := by
      cases n - l.length <;> simp [List.replicate_succ]
    rw [this, List.append_nil]
  · intro x hx
    have : x ≠ 0 := fun e => h0 (e ▸ hx)
    simpa using this
theorem hasF_fl {n w : Int} (h : hasF n w = true) : fieldO n w = some (fl n w) := by
  unfold hasF at h
  unfold fl
  rcases hx : fieldO n w with _ | l
  · rw [hx] at h; cases h
  · rfl
theorem mayN_hasF {n w : Int} (h : mayN n w = true) : hasF n w = true ∧ 0 ≤ n := by
  simp [mayN] at h
  exact ⟨h.2, h.1⟩
theorem fl_length {n w : Int} (h : hasF n w = true) : ((fl n w).length : Int) = w := fieldO_length (hasF_fl h)
theorem digs6_sum : True := trivial

/-- All the parts of a valid header. -/
structure Parts (h : Hd) : Prop where
  t1 : mayT (L h.name) 100 = true
  t2 : mayT (L h.link) 100 = true
  t3 : mayT (L h.uname) 32 = true
  t4 : mayT (L h.gname) 32 = true
  t5 : mayT (L h.pre) 155 = true
  n1 : mayN h.mode 8 = true
  n2 : mayN h.uid 8 = true
  n3 : mayN h.gid 8 = true
  n4 : mayN h.major 8 = true
  n5 : mayN h.minor 8 = true
  n6 : mayN h.size 12 = true
  n7 : hasF h.mtime 12 = true
theorem parts_of {h : Hd} (H : mayH h = true) : Parts h := by
  simp only [mayH, mayTs, mayNs, Bool.and_eq_true] at H
  obtain ⟨⟨t1, t2, t3, t4, t5⟩, n1, n2, n3, n4, n5, n6, n7⟩ := H
  exact ⟨t1, t2, t3, t4, t5, n1, n2, n3, n4, n5, n6, n7⟩
structure Lens (h : Hd) : Prop where
  a1 : (padL (L h.name) 100).length = 100
  a2 : (fl h.mode 8).length = 8
  a3 : (fl h.uid 8).length = 8
  a4 : (fl h.gid 8).length = 8
  a5 : (fl h.size 12).length = 12
  a6 : (fl h.mtime 12).length = 12
  b1 : (padL (L h.link) 100).length = 100
  b2 : (padL (L h.uname) 32).length = 32
  b3 : (padL (L h.gname) 32).length = 32
  b4 : (fl h.major 8).length = 8
  b5 : (fl h.minor 8).length = 8
  b6 : (padL (L h.pre) 155).length = 155
theorem lens_of {h : Hd} (H : mayH h = true) : Lens h := by
  have P := parts_of H
  refine ⟨padL_length (mayT_iff.1 P.t1).1, ?_, ?_, ?_, ?_, ?_, padL_length (mayT_iff.1 P.t2).1, padL_length (mayT_iff.1 P.t3).1, padL_length (mayT_iff.1 P.t4).1, ?_, ?_, padL_length (mayT_iff.1 P.t5).1⟩
  · have := fl_length (mayN_hasF P.n1).1; omega
  · have := fl_length (mayN_hasF P.n2).1; omega
  · have := fl_length (mayN_hasF P.n3).1; omega
  · have := fl_length (mayN_hasF P.n6).1; omega
  · have := fl_length P.n7; omega
  · have := fl_length (mayN_hasF P.n4).1; omega
  · have := fl_length (mayN_hasF P.n5).1; omega
theorem ahead_length {h : Hd} (H : mayH h = true) : (aheadL h).length = 148 := by
  have l := lens_of H
  simp [aheadL, l.a1, l.a2, l.a3, l.a4, l.a5, l.a6]
theorem behind_length {h : Hd} (H : mayH h = true) : (behindL h).length = 356 := by
  have l := lens_of H
  simp [behindL, magicL, l.b1, l.b2, l.b3, l.b4, l.b5, l.b6]
theorem chk_length (n : Nat) : (chkL n).length = 8 := by simp [chkL, digs_length]
theorem put_length {h : Hd} (H : mayH h = true) : (putL h).length = 512 := by
  simp [putL, ahead_length H, behind_length H, chk_length]

/-- Where the parts of a block stand. -/
structure Stands (h : Hd) (b : List UInt8) : Prop where
  c1 : cut b 0 100 = padL (L h.name) 100
  c2 : cut b 100 108 = fl h.mode 8
  c3 : cut b 108 116 = fl h.uid 8
  c4 : cut b 116 124 = fl h.gid 8
  c5 : cut b 124 136 = fl h.size 12
  c6 : cut b 136 148 = fl h.mtime 12
  c7 : cut b 148 156 = chkL (sumL (aheadL h) + 256 + sumL (behindL h))
  c8 : b.getD 156 0 = h.typ
  c9 : cut b 157 257 = padL (L h.link) 100
  c10 : cut b 257 265 = magicL
  c11 : cut b 265 297 = padL (L h.uname) 32
  c12 : cut b 297 329 = padL (L h.gname) 32
  c13 : cut b 329 337 = fl h.major 8
  c14 : cut b 337 345 = fl h.minor 8
  c15 : cut b 345 500 = padL (L h.pre) 155
  c16 : cut b 500 512 = List.replicate 12 0
  c17 : b.take 148 = aheadL h
  c18 : b.drop 156 = behindL h
theorem stands {h : Hd} (H : mayH h = true) : Stands h (putL h) := by
  have l := lens_of H
  have la := ahead_length H
  have lb := behind_length H
  obtain ⟨K, hK⟩ : ∃ K, chkL (sumL (aheadL h) + 256 + sumL (behindL h)) = K := ⟨_, rfl⟩
  have lk : K.length = 8 := by rw [← hK]; exact chk_length _
  have e : putL h = aheadL h ++ (K ++ behindL h) := by unfold putL; rw [hK]
  have c17 : (aheadL h ++ (K ++ behindL h)).take 148 = aheadL h := List.take_left' la
  have c18 : (aheadL h ++ (K ++ behindL h)).drop 156 = behindL h := by
    rw [← List.append_assoc]; exact List.drop_left' (by simp [la, lk])
  have c7 : cut (aheadL h ++ (K ++ behindL h)) 148 156 = K := cut_mid _ _ _ _ _ la (by rw [lk])
  rw [e]
  have E : aheadL h ++ (K ++ behindL h) = padL (L h.name) 100 ++ (fl h.mode 8 ++ (fl h.uid 8 ++ (fl h.gid 8 ++ (fl h.size 12 ++ (fl h.mtime 12 ++ (K ++ ([h.typ] ++ (padL (L h.link) 100 ++ (magicL ++ (padL (L h.uname) 32 ++ (padL (L h.gname) 32 ++ (fl h.major 8 ++ (fl h.minor 8 ++ (padL (L h.pre) 155 ++ List.replicate 12 0)))))))))))))) := by
    simp only [aheadL, behindL, List.append_assoc]
  have lm : magicL.length = 8 := rfl
  refine ⟨?_, ?_, ?_, ?_, ?_, ?_, hK ▸ c7, ?_, ?_, ?_, ?_, ?_, ?_, ?_, ?_, ?_, c17, c18⟩
  all_goals rw [E]
  · exact cut_mid [] _ _ 0 100 rfl (by simp [l.a1])
  · exact cut_mid _ _ _ _ _ l.a1 (by simp [l.a2])
  · rw [← List.append_assoc]
    exact cut_mid _ _ _ _ _ (by simp [l.a1, l.a2]) (by simp [l.a3])
  · rw [← List.append_assoc, ← List.append_assoc]
    exact cut_mid _ _ _ _ _ (by simp [l.a1, l.a2, l.a3]) (by simp [l.a4])
  · rw [← List.append_assoc, ← List.append_assoc, ← List.append_assoc]
    exact cut_mid _ _ _ _ _ (by simp [l.a1, l.a2, l.a3, l.a4]) (by simp [l.a5])
  · rw [← List.append_assoc, ← List.append_assoc, ← List.append_assoc, ← List.append_assoc]
    exact cut_mid _ _ _ _ _ (by simp [l.a1, l.a2, l.a3, l.a4, l.a5]) (by simp [l.a6])
  · rw [← E, List.getD_eq_getElem?_getD, ← List.append_assoc, List.getElem?_append_right (by simp [la, lk])]
    simp [la, lk, behindL]
  all_goals rw [← E, ← List.append_assoc]; unfold behindL
  · rw [← List.append_assoc]
    exact cut_mid _ _ _ _ _ (by simp [la, lk]) (by simp [l.b1])
  · rw [← List.append_assoc, ← List.append_assoc]
    exact cut_mid _ _ _ _ _ (by simp [la, lk, l.b1]) (by simp [lm])
  · rw [← List.append_assoc, ← List.append_assoc, ← List.append_assoc]
    exact cut_mid _ _ _ _ _ (by simp [la, lk, l.b1, lm]) (by simp [l.b2])
  · rw [← List.append_assoc, ← List.append_assoc, ← List.append_assoc, ← List.append_assoc]
    exact cut_mid _ _ _ _ _ (by simp [la, lk, l.b1, lm, l.b2]) (by simp [l.b3])
  · rw [← List.append_assoc, ← List.append_assoc, ← List.append_assoc, ← List.append_assoc, ← List.append_assoc]
    exact cut_mid _ _ _ _ _ (by simp [la, lk, l.b1, lm, l.b2, l.b3]) (by simp [l.b4])
  · rw [← List.append_assoc, ← List.append_assoc, ← List.append_assoc, ← List.append_assoc, ← List.append_assoc, ← List.append_assoc]
    exact cut_mid _ _ _ _ _ (by simp [la, lk, l.b1, lm, l.b2, l.b3, l.b4]) (by simp [l.b5])
  · rw [← List.append_assoc, ← List.append_assoc, ← List.append_assoc, ← List.append_assoc, ← List.append_assoc, ← List.append_assoc, ← List.append_assoc]
    exact cut_mid _ _ _ _ _ (by simp [la, lk, l.b1, lm, l.b2, l.b3, l.b4, l.b5]) (by simp [l.b6])
  · rw [← List.append_assoc, ← List.append_assoc, ← List.append_assoc, ← List.append_assoc, ← List.append_assoc, ← List.append_assoc, ← List.append_assoc, ← List.append_assoc]
    exact cut_end _ _ _ _ (by simp [la, lk, l.b1, lm, l.b2, l.b3, l.b4, l.b5, l.b6]) (by simp)

/-- Numbers that an int may be. -/
structure Ints (h : Hd) : Prop where
  i1 : -9223372036854775808 ≤ h.mode ∧ h.mode ≤ 9223372036854775807
  i2 : -9223372036854775808 ≤ h.uid ∧ h.uid ≤ 9223372036854775807
  i3 : -9223372036854775808 ≤ h.gid ∧ h.gid ≤ 9223372036854775807
  i4 : -9223372036854775808 ≤ h.size ∧ h.size ≤ 9223372036854775807
  i5 : -9223372036854775808 ≤ h.mtime ∧ h.mtime ≤ 9223372036854775807
  i6 : -9223372036854775808 ≤ h.major ∧ h.major ≤ 9223372036854775807
  i7 : -9223372036854775808 ≤ h.minor ∧ h.minor ≤ 9223372036854775807
theorem rd_fl {n w : Int} (hn : -9223372036854775808 ≤ n ∧ n ≤ 9223372036854775807) (h : hasF n w = true) : rdFld (fl n w) = some n := rdFld_of hn (hasF_fl h)
theorem str_of {l : List UInt8} {s : ByteArray} (h : l = L s) : strOf l = s := by rw [h, strOf_L]
/-- A header is told again. -/
theorem guess_of {h : Hd} {b : List UInt8} (H : mayH h = true) (I : Ints h) (S : Stands h b) : guess b = h := by
  have P := parts_of H
  have r : ∀ {n w}, (-9223372036854775808 ≤ n ∧ n ≤ 9223372036854775807) → hasF n w = true → rd (fl n w) = n := by
    intro n w hn hf
    unfold rd
    rw [rd_fl hn hf]; rfl
  unfold guess
  rw [S.c1, S.c2, S.c3, S.c4, S.c5, S.c6, S.c8, S.c9, S.c11, S.c12, S.c13, S.c14, S.c15]
  rw [upto_padL P.t1, upto_padL P.t2, upto_padL P.t3, upto_padL P.t4, upto_padL P.t5]
  rw [r I.i1 (mayN_hasF P.n1).1, r I.i2 (mayN_hasF P.n2).1, r I.i3 (mayN_hasF P.n3).1, r I.i4 (mayN_hasF P.n6).1, r I.i5 P.n7, r I.i6 (mayN_hasF P.n4).1, r I.i7 (mayN_hasF P.n5).1]
  simp only [strOf_L]
theorem guess_put {h : Hd} (H : mayH h = true) (I : Ints h) : guess (putL h) = h := guess_of H I (stands H)
theorem put_may {h : Hd} (H : mayH h = true) : putH h = putL h := if_pos H
theorem put_not {h : Hd} (H : mayH h = false) : putH h = [] := by unfold putH; rw [H]; rfl
theorem ok_put {h : Hd} (H : mayH h = true) (I : Ints h) : okB (putL h) = true := by
  unfold okB
  rw [guess_put H I, put_may H]; exact decide_eq_true rfl
/-- What the block says counts just if all its numbers can be read. -/
theorem ok_may {b : List UInt8} (hb : b ≠ []) (h : okB b = true) : mayH (guess b) = true ∧ putL (guess b) = b := by
  unfold okB at h
  have h := of_decide_eq_true h
  cases hm : mayH (guess b) with
  | false => rw [put_not hm] at h; exact absurd h.symm hb
  | true => rw [put_may hm] at h; exact ⟨rfl, h⟩
structure Reads (b : List UInt8) : Prop where
  r1 : ∃ v, rdFld (cut b 100 108) = some v
  r2 : ∃ v, rdFld (cut b 108 116) = some v
  r3 : ∃ v, rdFld (cut b 116 124) = some v
  r4 : ∃ v, rdFld (cut b 124 136) = some v
  r5 : ∃ v, rdFld (cut b 136 148) = some v
  r6 : ∃ v, rdFld (cut b 329 337) = some v
  r7 : ∃ v, rdFld (cut b 337 345) = some v
theorem rd_fl' {n w : Int} {l : List UInt8} (e : l = fl n w) (hn : n = rd l) (h : hasF n w = true) : ∃ v, rdFld l = some v := by
  rcases hx : rdFld l with _ | v
  · exfalso
    have h0 : n = 0 := by rw [hn]; unfold rd; rw [hx]; rfl
    have := rd_fl (n := n) (w := w) (by rw [h0]; decide) h
    rw [← e, hx] at this
    cases this
  · exact ⟨v, rfl⟩
theorem ok_reads {b : List UInt8} (hb : b ≠ []) (h : okB b = true) : Reads b := by
  obtain ⟨hm, hp⟩ := ok_may hb h
  have P := parts_of hm
  have S := stands hm
  rw [hp] at S
  exact ⟨rd_fl' S.c2 rfl (mayN_hasF P.n1).1, rd_fl' S.c3 rfl (mayN_hasF P.n2).1, rd_fl' S.c4 rfl (mayN_hasF P.n3).1, rd_fl' S.c5 rfl (mayN_hasF P.n6).1, rd_fl' S.c6 rfl P.n7, rd_fl' S.c13 rfl (mayN_hasF P.n4).1, rd_fl' S.c14 rfl (mayN_hasF P.n5).1⟩
end Go.Proofs.YtbhnhoenjoagbaaGreatDoor.HeadM

/- The library's functions that package head calls: strings.IndexByte, Clone, Cut at a byte 0, Repeat of one byte 0. -/
namespace Go.Proofs.YtbhnhoenjoagbaaGreatDoor.HeadW
open Go.RowKit
open HeadM
set_option linter.unusedVariables false

theorem size_L (s : ByteArray) : (L s).length = s.size := by simp [L]
theorem strOf_sz (l : List UInt8) : (strOf l).size = l.length := by rw [← size_L, L_strOf]
theorem L_app (a b : ByteArray) : L (a ++ b) = L a ++ L b := bytes_list a b
theorem strOf_app (a b : List UInt8) : strOf a ++ strOf b = strOf (a ++ b) := bytes_ext (by rw [bytes_list]; simp [strOf])
theorem L_inj {a b : ByteArray} (h : L a = L b) : a = b := bytes_ext h
theorem str_L {s : ByteArray} {l : List UInt8} (h : L s = l) : s = strOf l := by rw [← h, strOf_L]
theorem beq_L (A B : ByteArray) : (A.toList == B.toList) = decide (L A = L B) := by
  have e : ∀ X : ByteArray, X.toList = L X := fun X => Lib.toList_data X
  rw [e, e]
  by_cases h : L A = L B
  · rw [h, decide_eq_true rfl]; exact beq_self_eq_true _
  · rw [decide_eq_false h, beq_eq_false_iff_ne]; exact h
theorem below_dn {B : Nat} {a w : World} (h : Below B a w) (n : Nat) : Below B a (w.drewN n) := ⟨h.os, h.tape, h.output, h.size, h.block⟩

theorem indexByte_any (s : ByteArray) (c : UInt8) (x : Int) (hx : x = (c.toNat : Int)) (w : World) :
    Calls Tryz.prog 144 #[.string s, .int .u8 x] w fun e w' => e = .returned (.int .i64 (Lib.indexByte (L s) c)) ∧ w = w' := by
  subst hx
  refine (Tryz.strings_IndexByte s (c.toNat : Int) w).mono ?_
  rintro e w' ⟨rfl, rfl⟩
  refine ⟨?_, rfl⟩
  rw [show ((c.toNat : Int).toNat).toUInt8 = c by simp]
  rfl
set_option maxRecDepth 100000 in
theorem liteIndexByte_any (s : ByteArray) (c : Int) (w : World) :
    Calls Tryz.prog 199 #[.string s, .int .u8 c] w fun e w' => e = .returned (.int .i64 (Lib.indexByte (L s) c.toNat.toUInt8)) ∧ w' = w := by
  go_enter Tryz.func199, Tryz.ntmps199
  go_wp2
  rw [run_callFunc_extern Tryz.func250 (by kernel_rfl) (by kernel_rfl) (by kernel_rfl) (e := Extern.BytealgIndexByte.indexByte) (by kernel_rfl), Lib.run_indexByteString]
  simp only [Result.andThen]
  rw [Oper.upon_value]
  go_wp2
  go_ret
  exact ⟨rfl, rfl⟩
theorem clone_any (s : ByteArray) (w : World) (hs : s.size ≤ 281474976710656) :
    Calls Tryz.prog 63 #[.string s] w fun e w' => e = .returned (.string s) ∧ Below w.heap.size w w' := by
  have h := Tryz.stringslite_Clone s
  go_enter Tryz.func63, Tryz.ntmps63
  go_wp2_with fail
  refine (h _ hs).mono ?_
  rintro e w' ⟨rfl, hb⟩
  go_wp2_with fail
  go_ret
  exact ⟨rfl, hb⟩
theorem liteIndex_any (s : ByteArray) (w : World) :
    Calls Tryz.prog 264 #[.string s, .string ⟨#[0]⟩] w fun e w' => e = .returned (.int .i64 (Lib.indexByte (L s) 0)) ∧ w' = w := by
  have hz : (⟨#[0]⟩ : ByteArray).size = 1 := rfl
  have hi : ∀ w, (Instr.index 9 (.string ⟨#[0]⟩) (.int .i64 0)).run Tryz.prog w = .ok (.int .u8 0) w := fun w => by kernel_rfl
  have hc := liteIndexByte_any s 0 w
  obtain ⟨Z, hZ⟩ : ∃ Z : ByteArray, (⟨#[0]⟩ : ByteArray) = Z := ⟨_, rfl⟩
  rw [hZ] at hz hi
  have hq := beq_L Z s
  rw [← hZ] at hq
  have hL : L (⟨#[0]⟩ : ByteArray) = [0] := rfl
  rw [hL] at hq
  rw [hZ] at hq ⊢
  clear hZ
  have hx : [0] = L s → Lib.indexByte (L s) 0 = 0 := fun h => by rw [← h]; rfl
  rcases hb : decide ([0] = L s) with _ | _
  · rw [hb] at hq
    clear hb hx
    go_enter Tryz.func264, Tryz.ntmps264
    go_wp2_with fail
    refine hc.mono ?_
    rintro e w' ⟨rfl, rfl⟩
    go_wp2_with fail
    go_ret
    exact ⟨rfl, rfl⟩
  · have h0 := hx (of_decide_eq_true hb)
    rw [h0]
    rw [hb] at hq
    clear hb hx h0 hc
    go_enter Tryz.func264, Tryz.ntmps264
    go_wp2_with fail
    go_ret
    exact ⟨rfl, rfl⟩
/-- What stands ahead of the first byte 0, by its place. -/
theorem upto_index (l : List UInt8) : (Lib.indexByte l 0 = -1 ∧ upto l = l) ∨ (∃ i : Nat, Lib.indexByte l 0 = i ∧ i < l.length ∧ upto l = l.take i) := by
  induction l with
  | nil => exact .inl ⟨rfl, rfl⟩
  | cons b l ih =>
    unfold Lib.indexByte
    by_cases hb : b = 0
    · subst hb
      exact .inr ⟨0, by simp, by simp, by simp [upto]⟩
    · have hbf : (b == 0) = false := by simpa using hb
      have hu : upto (b :: l) = b :: upto l := by simp [upto, hb]
      rw [hbf, hu]
      rcases ih with ⟨h1, h2⟩ | ⟨i, h1, h2, h3⟩
      · left
        rw [h1, h2]
        exact ⟨by simp, rfl⟩
      · right
        refine ⟨i + 1, ?_, by simp; omega, by rw [h3]; rfl⟩
        rw [h1]
        have : ((i : Int) == -1) = false := by rw [beq_eq_false_iff_ne]; omega
        rw [this]
        rfl
theorem mayT_index (l : List UInt8) (n : Nat) : mayT l n = (decide (l.length ≤ n) && decide (Lib.indexByte l 0 < 0)) := by
  unfold mayT
  congr 1
  have : l.contains 0 = !decide (Lib.indexByte l 0 < 0) := by
    rcases h : decide (Lib.indexByte l 0 < 0) with _ | _
    · have h1 := of_decide_eq_false h
      obtain ⟨o, ho⟩ := Int.eq_ofNat_of_zero_le (show 0 ≤ Lib.indexByte l 0 by omega)
      have h2 := (Lib.indexByte_some ho).1
      simp only [Bool.not_false, List.contains_iff_mem]
      exact List.mem_of_getElem? h2
    · have h1 := of_decide_eq_true h
      have h2 := Lib.indexByte_ge l 0
      have h3 := Lib.indexByte_none (show Lib.indexByte l 0 = -1 by omega)
      rw [Bool.not_true]
      rw [Bool.eq_false_iff]
      intro h4
      have h5 := List.contains_iff_mem.1 h4
      obtain ⟨k, hk⟩ := List.getElem?_of_mem h5
      exact h3 k hk
  rw [this, Bool.not_not]
theorem cut_yes (s : ByteArray) (i : Nat) (h : Lib.indexByte (L s) 0 = i) (hi : i < s.size) (hs : s.size ≤ 100000) (w : World) :
    Calls Tryz.prog 306 #[.string s, .string ⟨#[0]⟩] w fun e w' => e = .returned (.tuple #[.string (s.extract 0 i), .string (s.extract (i + 1) s.size), .bool true]) ∧ Below w.heap.size w w' := by
  have hc := Lib.hid (liteIndex_any s)
  have hz : (⟨#[0]⟩ : ByteArray).size = 1 := rfl
  rw [h] at hc
  clear h
  obtain ⟨Z, hZ⟩ : ∃ Z : ByteArray, (⟨#[0]⟩ : ByteArray) = Z := ⟨_, rfl⟩
  rw [hZ] at hz hc
  rw [hZ]
  clear hZ
  go_enter Tryz.func306, Tryz.ntmps306
  go_wp2_with fail
  refine (hc.out _).mono ?_
  rintro e w' ⟨rfl, rfl⟩
  go_wp2_with fail
  go_quiet (fail)
  go_wp2_with fail
  exact bodyPost_ret (v := .tuple #[.string (s.extract 0 i), .string (s.extract (i + 1) s.size), .bool true]) (by simp [results, Tryz.results306, go_sem, *]) rfl ⟨rfl, by (repeat' (first | exact Below.refl _ _ | assumption | refine gr_drew ?_ | refine gr_drewN ?_ _ | refine gr_alloc ?_ _ | refine gr_set ?_ ?_ _ | refine gr_call ?_ (by assumption)) <;> (try (simp; done)) <;> (try (simp; omega)) <;> (try omega))⟩
theorem cut_no (s : ByteArray) (h : Lib.indexByte (L s) 0 = -1) (w : World) :
    Calls Tryz.prog 306 #[.string s, .string ⟨#[0]⟩] w fun e w' => e = .returned (.tuple #[.string s, .string ⟨#[]⟩, .bool false]) ∧ Below w.heap.size w w' := by
  have hc := Lib.hid (liteIndex_any s)
  rw [h] at hc
  clear h
  obtain ⟨Z, hZ⟩ : ∃ Z : ByteArray, (⟨#[0]⟩ : ByteArray) = Z := ⟨_, rfl⟩
  rw [hZ] at hc
  rw [hZ]
  clear hZ
  go_enter Tryz.func306, Tryz.ntmps306
  go_wp2_with fail
  refine (hc.out _).mono ?_
  rintro e w' ⟨rfl, rfl⟩
  go_wp2_with fail
  exact bodyPost_ret (v := .tuple #[.string s, .string ⟨#[]⟩, .bool false]) (by simp [results, Tryz.results306, go_sem, *]) rfl ⟨rfl, by (repeat' (first | exact Below.refl _ _ | assumption | refine gr_drew ?_ | refine gr_drewN ?_ _ | refine gr_alloc ?_ _ | refine gr_set ?_ ?_ _ | refine gr_call ?_ (by assumption)) <;> (try (simp; done)) <;> (try (simp; omega)) <;> (try omega))⟩
theorem cut0_any (s : ByteArray) (hs : s.size ≤ 100000) : ∃ (t : ByteArray) (b : Bool), ∀ w,
    Calls Tryz.prog 269 #[.string s, .string ⟨#[0]⟩] w fun e w' => e = .returned (.tuple #[.string (strOf (upto (L s))), .string t, .bool b]) ∧ Below w.heap.size w w' := by
  rcases upto_index (L s) with ⟨h1, h2⟩ | ⟨i, h1, h2, h3⟩
  · refine ⟨⟨#[]⟩, false, fun w => ?_⟩
    rw [h2, strOf_L]
    have hc := cut_no s h1
    obtain ⟨Z, hZ⟩ : ∃ Z : ByteArray, (⟨#[0]⟩ : ByteArray) = Z := ⟨_, rfl⟩
    rw [hZ] at hc
    rw [hZ]
    go_enter Tryz.func269, Tryz.ntmps269
    go_wp2_with fail
    refine (hc _).mono ?_
    rintro e w1 ⟨rfl, hbw1⟩
    have hzw1 := hbw1.size
    try simp at hzw1
    go_wp2_with fail
    exact bodyPost_ret (v := .tuple #[.string s, .string ⟨#[]⟩, .bool false]) (by simp [results, Tryz.results269, go_sem, *]) rfl ⟨rfl, by (repeat' (first | exact Below.refl _ _ | assumption | refine gr_drew ?_ | refine gr_drewN ?_ _ | refine gr_alloc ?_ _ | refine gr_set ?_ ?_ _ | refine gr_call ?_ (by assumption)) <;> (try (simp; done)) <;> (try (simp; omega)) <;> (try omega))⟩
  · refine ⟨s.extract (i + 1) s.size, true, fun w => ?_⟩
    have hi : i < s.size := by rw [← size_L]; exact h2
    have e : s.extract 0 i = strOf (upto (L s)) := by
      rw [h3]
      apply str_L
      unfold L
      rw [Lib.extract_data]
      simp
    have hc := cut_yes s i h1 hi hs
    rw [e] at hc
    obtain ⟨Z, hZ⟩ : ∃ Z : ByteArray, (⟨#[0]⟩ : ByteArray) = Z := ⟨_, rfl⟩
    rw [hZ] at hc
    rw [hZ]
    go_enter Tryz.func269, Tryz.ntmps269
    go_wp2_with fail
    refine (hc _).mono ?_
    rintro e w1 ⟨rfl, hbw1⟩
    have hzw1 := hbw1.size
    try simp at hzw1
    go_wp2_with fail
    exact bodyPost_ret (v := .tuple #[.string (strOf (upto (L s))), .string (s.extract (i + 1) s.size), .bool true]) (by simp [results, Tryz.results269, go_sem, *]) rfl ⟨rfl, by (repeat' (first | exact Below.refl _ _ | assumption | refine gr_drew ?_ | refine gr_drewN ?_ _ | refine gr_alloc ?_ _ | refine gr_set ?_ ?_ _ | refine gr_call ?_ (by assumption)) <;> (try (simp; done)) <;> (try (simp; omega)) <;> (try omega))⟩
end Go.Proofs.YtbhnhoenjoagbaaGreatDoor.HeadW
