/- Header blocks, as plain mathematics: what is valid, the block, what a block says. -/
import Derived.Test.YtkkmhfgfkjeooaaNumFacts
namespace Go.Proofs.Ytkkmhfgfkjeooaa.HeadM
open NumM

structure Hd where
  name : ByteArray
  mode : Int
  uid : Int
  gid : Int
  size : Int
  mtime : Int
  typ : UInt8
  link : ByteArray
  uname : ByteArray
  gname : ByteArray
  major : Int
  minor : Int
  pre : ByteArray

theorem Hd.ext' {a b : Hd} (h1 : a.name = b.name) (h2 : a.mode = b.mode) (h3 : a.uid = b.uid) (h4 : a.gid = b.gid) (h5 : a.size = b.size) (h6 : a.mtime = b.mtime) (h7 : a.typ = b.typ) (h8 : a.link = b.link) (h9 : a.uname = b.uname) (h10 : a.gname = b.gname) (h11 : a.major = b.major) (h12 : a.minor = b.minor) (h13 : a.pre = b.pre) : a = b := by
  cases a; cases b; simp_all

def L (s : ByteArray) : List UInt8 := s.data.toList
def strOf (l : List UInt8) : ByteArray := ⟨l.toArray⟩
theorem strOf_L (s : ByteArray) : strOf (L s) = s := by cases s; simp [strOf, L]
theorem L_strOf (l : List UInt8) : L (strOf l) = l := by simp [strOf, L]

/-- A text with bytes 0 behind it. -/
def padL (l : List UInt8) (n : Nat) : List UInt8 := l ++ List.replicate (n - l.length) 0
/-- The field of a number (none: nothing). -/
def fl (n w : Int) : List UInt8 := (fieldO n w).getD []
def sumL (l : List UInt8) : Nat := (l.map (·.toNat)).sum
def magicL : List UInt8 := [117, 115, 116, 97, 114, 0, 48, 48]
def blanks : List UInt8 := [32, 32, 32, 32, 32, 32, 32, 32]
/-- The eight bytes of a sum. -/
def chkL (n : Nat) : List UInt8 := digs 6 n ++ [0, 32]

def aheadL (h : Hd) : List UInt8 := padL (L h.name) 100 ++ (fl h.mode 8 ++ (fl h.uid 8 ++ (fl h.gid 8 ++ (fl h.size 12 ++ fl h.mtime 12))))
def behindL (h : Hd) : List UInt8 := [h.typ] ++ (padL (L h.link) 100 ++ (magicL ++ (padL (L h.uname) 32 ++ (padL (L h.gname) 32 ++ (fl h.major 8 ++ (fl h.minor 8 ++ (padL (L h.pre) 155 ++ List.replicate 12 0)))))))
def putL (h : Hd) : List UInt8 := aheadL h ++ (chkL (sumL (aheadL h) + 256 + sumL (behindL h)) ++ behindL h)

def mayT (l : List UInt8) (n : Nat) : Bool := decide (l.length ≤ n) && !l.contains 0
def hasF (n w : Int) : Bool := (fieldO n w).isSome
def mayN (n w : Int) : Bool := decide (0 ≤ n) && hasF n w
def mayTs (h : Hd) : Bool := mayT (L h.name) 100 && (mayT (L h.link) 100 && (mayT (L h.uname) 32 && (mayT (L h.gname) 32 && mayT (L h.pre) 155)))
def mayNs (h : Hd) : Bool := mayN h.mode 8 && (mayN h.uid 8 && (mayN h.gid 8 && (mayN h.major 8 && (mayN h.minor 8 && (mayN h.size 12 && hasF h.mtime 12)))))
def mayH (h : Hd) : Bool := mayTs h && mayNs h
def putH (h : Hd) : List UInt8 := if mayH h = true then putL h else []

/-- The part of a block from a to b. -/
def cut (b : List UInt8) (i j : Nat) : List UInt8 := (b.take j).drop i
/-- What stands ahead of the first byte 0. -/
def upto (l : List UInt8) : List UInt8 := l.takeWhile (· != 0)
def rd (l : List UInt8) : Int := numOf (rdFld l)
def guess (b : List UInt8) : Hd where
  name := strOf (upto (cut b 0 100))
  mode := rd (cut b 100 108)
  uid := rd (cut b 108 116)
  gid := rd (cut b 116 124)
  size := rd (cut b 124 136)
  mtime := rd (cut b 136 148)
  typ := b.getD 156 0
  link := strOf (upto (cut b 157 257))
  uname := strOf (upto (cut b 265 297))
  gname := strOf (upto (cut b 297 329))
  major := rd (cut b 329 337)
  minor := rd (cut b 337 345)
  pre := strOf (upto (cut b 345 500))
def okB (b : List UInt8) : Bool := decide (putH (guess b) = b)

theorem cut_mid (A B C : List UInt8) (i j : Nat) (hi : A.length = i) (hj : i + B.length = j) : cut (A ++ (B ++ C)) i j = B := by
  subst hi hj
  unfold cut
  rw [← List.append_assoc, List.take_left' (by simp), List.drop_left' rfl]
theorem cut_end (A B : List UInt8) (i j : Nat) (hi : A.length = i) (hj : i + B.length = j) : cut (A ++ B) i j = B := by
  have := cut_mid A B [] i j hi hj
  simpa using this
theorem padL_length {l : List UInt8} {n : Nat} (h : l.length ≤ n) : (padL l n).length = n := by simp [padL]; omega
theorem mayT_iff {l : List UInt8} {n : Nat} : mayT l n = true ↔ l.length ≤ n ∧ (0 : UInt8) ∉ l := by simp [mayT]
theorem upto_padL {l : List UInt8} {n : Nat} (h : mayT l n = true) : upto (padL l n) = l := by
  obtain ⟨_, h0⟩ := mayT_iff.1 h
  unfold upto padL
  rw [List.takeWhile_append_of_pos]
  · have : List.takeWhile (fun x : UInt8 => x != 0) (List.replicate (n - l.length) 0) = [] := by
      cases n - l.length <;> simp [List.replicate_succ]
    rw [this, List.append_nil]
  · intro x hx
    have : x ≠ 0 := fun e => h0 (e ▸ hx)
    simpa using this
theorem hasF_fl {n w : Int} (h : hasF n w = true) : fieldO n w = some (fl n w) := by
  unfold hasF at h
  unfold fl
  rcases hx : fieldO n w with _ | l
  · rw [hx] at h; cases h
  · rfl
theorem mayN_hasF {n w : Int} (h : mayN n w = true) : hasF n w = true ∧ 0 ≤ n := by
  simp [mayN] at h
  exact ⟨h.2, h.1⟩
theorem fl_length {n w : Int} (h : hasF n w = true) : ((fl n w).length : Int) = w := fieldO_length (hasF_fl h)
theorem digs6_sum : True := trivial

/-- All the parts of a valid header. -/
structure Parts (h : Hd) : Prop where
  t1 : mayT (L h.name) 100 = true
  t2 : mayT (L h.link) 100 = true
  t3 : mayT (L h.uname) 32 = true
  t4 : mayT (L h.gname) 32 = true
  t5 : mayT (L h.pre) 155 = true
  n1 : mayN h.mode 8 = true
  n2 : mayN h.uid 8 = true
  n3 : mayN h.gid 8 = true
  n4 : mayN h.major 8 = true
  n5 : mayN h.minor 8 = true
  n6 : mayN h.size 12 = true
  n7 : hasF h.mtime 12 = true
theorem parts_of {h : Hd} (H : mayH h = true) : Parts h := by
  simp only [mayH, mayTs, mayNs, Bool.and_eq_true] at H
  obtain ⟨⟨t1, t2, t3, t4, t5⟩, n1, n2, n3, n4, n5, n6, n7⟩ := H
  exact ⟨t1, t2, t3, t4, t5, n1, n2, n3, n4, n5, n6, n7⟩
structure Lens (h : Hd) : Prop where
  a1 : (padL (L h.name) 100).length = 100
  a2 : (fl h.mode 8).length = 8
  a3 : (fl h.uid 8).length = 8
  a4 : (fl h.gid 8).length = 8
  a5 : (fl h.size 12).length = 12
  a6 : (fl h.mtime 12).length = 12
  b1 : (padL (L h.link) 100).length = 100
  b2 : (padL (L h.uname) 32).length = 32
  b3 : (padL (L h.gname) 32).length = 32
  b4 : (fl h.major 8).length = 8
  b5 : (fl h.minor 8).length = 8
  b6 : (padL (L h.pre) 155).length = 155
theorem lens_of {h : Hd} (H : mayH h = true) : Lens h := by
  have P := parts_of H
  refine ⟨padL_length (mayT_iff.1 P.t1).1, ?_, ?_, ?_, ?_, ?_, padL_length (mayT_iff.1 P.t2).1, padL_length (mayT_iff.1 P.t3).1, padL_length (mayT_iff.1 P.t4).1, ?_, ?_, padL_length (mayT_iff.1 P.t5).1⟩
  · have := fl_length (mayN_hasF P.n1).1; omega
  · have := fl_length (mayN_hasF P.n2).1; omega
  · have := fl_length (mayN_hasF P.n3).1; omega
  · have := fl_length (mayN_hasF P.n6).1; omega
  · have := fl_length P.n7; omega
  · have := fl_length (mayN_hasF P.n4).1; omega
  · have := fl_length (mayN_hasF P.n5).1; omega
theorem ahead_length {h : Hd} (H : mayH h = true) : (aheadL h).length = 148 := by
  have l := lens_of H
  simp [aheadL, l.a1, l.a2, l.a3, l.a4, l.a5, l.a6]
theorem behind_length {h : Hd} (H : mayH h = true) : (behindL h).length = 356 := by
  have l := lens_of H
  simp [behindL, magicL, l.b1, l.b2, l.b3, l.b4, l.b5, l.b6]
theorem chk_length (n : Nat) : (chkL n).length = 8 := by simp [chkL, digs_length]
theorem put_length {h : Hd} (H : mayH h = true) : (putL h).length = 512 := by
  simp [putL, ahead_length H, behind_length H, chk_length]

/-- Where the parts of a block stand. -/
structure Stands (h : Hd) (b : List UInt8) : Prop where
  c1 : cut b 0 100 = padL (L h.name) 100
  c2 : cut b 100 108 = fl h.mode 8
  c3 : cut b 108 116 = fl h.uid 8
  c4 : cut b 116 124 = fl h.gid 8
  c5 : cut b 124 136 = fl h.size 12
  c6 : cut b 136 148 = fl h.mtime 12
  c7 : cut b 148 156 = chkL (sumL (aheadL h) + 256 + sumL (behindL h))
  c8 : b.getD 156 0 = h.typ
  c9 : cut b 157 257 = padL (L h.link) 100
  c10 : cut b 257 265 = magicL
  c11 : cut b 265 297 = padL (L h.uname) 32
  c12 : cut b 297 329 = padL (L h.gname) 32
  c13 : cut b 329 337 = fl h.major 8
  c14 : cut b 337 345 = fl h.minor 8
  c15 : cut b 345 500 = padL (L h.pre) 155
  c16 : cut b 500 512 = List.replicate 12 0
  c17 : b.take 148 = aheadL h
  c18 : b.drop 156 = behindL h
theorem stands {h : Hd} (H : mayH h = true) : Stands h (putL h) := by
  have l := lens_of H
  have la := ahead_length H
  have lb := behind_length H
  obtain ⟨K, hK⟩ : ∃ K, chkL (sumL (aheadL h) + 256 + sumL (behindL h)) = K := ⟨_, rfl⟩
  have lk : K.length = 8 := by rw [← hK]; exact chk_length _
  have e : putL h = aheadL h ++ (K ++ behindL h) := by unfold putL; rw [hK]
  have c17 : (aheadL h ++ (K ++ behindL h)).take 148 = aheadL h := List.take_left' la
  have c18 : (aheadL h ++ (K ++ behindL h)).drop 156 = behindL h := by
    rw [← List.append_assoc]; exact List.drop_left' (by simp [la, lk])
  have c7 : cut (aheadL h ++ (K ++ behindL h)) 148 156 = K := cut_mid _ _ _ _ _ la (by rw [lk])
  rw [e]
  have E : aheadL h ++ (K ++ behindL h) = padL (L h.name) 100 ++ (fl h.mode 8 ++ (fl h.uid 8 ++ (fl h.gid 8 ++ (fl h.size 12 ++ (fl h.mtime 12 ++ (K ++ ([h.typ] ++ (padL (L h.link) 100 ++ (magicL ++ (padL (L h.uname) 32 ++ (padL (L h.gname) 32 ++ (fl h.major 8 ++ (fl h.minor 8 ++ (padL (L h.pre) 155 ++ List.replicate 12 0)))))))))))))) := by
    simp only [aheadL, behindL, List.append_assoc]
  have lm : magicL.length = 8 := rfl
  refine ⟨?_, ?_, ?_, ?_, ?_, ?_, hK ▸ c7, ?_, ?_, ?_, ?_, ?_, ?_, ?_, ?_, ?_, c17, c18⟩
  all_goals rw [E]
  · exact cut_mid [] _ _ 0 100 rfl (by simp [l.a1])
  · exact cut_mid _ _ _ _ _ l.a1 (by simp [l.a2])
  · rw [← List.append_assoc]
    exact cut_mid _ _ _ _ _ (by simp [l.a1, l.a2]) (by simp [l.a3])
  · rw [← List.append_assoc, ← List.append_assoc]
    exact cut_mid _ _ _ _ _ (by simp [l.a1, l.a2, l.a3]) (by simp [l.a4])
  · rw [← List.append_assoc, ← List.append_assoc, ← List.append_assoc]
    exact cut_mid _ _ _ _ _ (by simp [l.a1, l.a2, l.a3, l.a4]) (by simp [l.a5])
  · rw [← List.append_assoc, ← List.append_assoc, ← List.append_assoc, ← List.append_assoc]
    exact cut_mid _ _ _ _ _ (by simp [l.a1, l.a2, l.a3, l.a4, l.a5]) (by simp [l.a6])
  · rw [← E, List.getD_eq_getElem?_getD, ← List.append_assoc, List.getElem?_append_right (by simp [la, lk])]
    simp [la, lk, behindL]
  all_goals rw [← E, ← List.append_assoc]; unfold behindL
  · rw [← List.append_assoc]
    exact cut_mid _ _ _ _ _ (by simp [la, lk]) (by simp [l.b1])
  · rw [← List.append_assoc, ← List.append_assoc]
    exact cut_mid _ _ _ _ _ (by simp [la, lk, l.b1]) (by simp [lm])
  · rw [← List.append_assoc, ← List.append_assoc, ← List.append_assoc]
    exact cut_mid _ _ _ _ _ (by simp [la, lk, l.b1, lm]) (by simp [l.b2])
  · rw [← List.append_assoc, ← List.append_assoc, ← List.append_assoc, ← List.append_assoc]
    exact cut_mid _ _ _ _ _ (by simp [la, lk, l.b1, lm, l.b2]) (by simp [l.b3])
  · rw [← List.append_assoc, ← List.append_assoc, ← List.append_assoc, ← List.append_assoc, ← List.append_assoc]
    exact cut_mid _ _ _ _ _ (by simp [la, lk, l.b1, lm, l.b2, l.b3]) (by simp [l.b4])
  · rw [← List.append_assoc, ← List.append_assoc, ← List.append_assoc, ← List.append_assoc, ← List.append_assoc, ← List.append_assoc]
    exact cut_mid _ _ _ _ _ (by simp [la, lk, l.b1, lm, l.b2, l.b3, l.b4]) (by simp [l.b5])
  · rw [← List.append_assoc, ← List.append_assoc, ← List.append_assoc, ← List.append_assoc, ← List.append_assoc, ← List.append_assoc, ← List.append_assoc]
    exact cut_mid _ _ _ _ _ (by simp [la, lk, l.b1, lm, l.b2, l.b3, l.b4, l.b5]) (by simp [l.b6])
  · rw [← List.append_assoc, ← List.append_assoc, ← List.append_assoc, ← List.append_assoc, ← List.append_assoc, ← List.append_assoc, ← List.append_assoc, ← List.append_assoc]
    exact cut_end _ _ _ _ (by simp [la, lk, l.b1, lm, l.b2, l.b3, l.b4, l.b5, l.b6]) (by simp)

/-- Numbers that an int may be. -/
structure Ints (h : Hd) : Prop where
  i1 : -9223372036854775808 ≤ h.mode ∧ h.mode ≤ 9223372036854775807
  i2 : -9223372036854775808 ≤ h.uid ∧ h.uid ≤ 9223372036854775807
  i3 : -9223372036854775808 ≤ h.gid ∧ h.gid ≤ 9223372036854775807
  i4 : -9223372036854775808 ≤ h.size ∧ h.size ≤ 9223372036854775807
  i5 : -9223372036854775808 ≤ h.mtime ∧ h.mtime ≤ 9223372036854775807
  i6 : -9223372036854775808 ≤ h.major ∧ h.major ≤ 9223372036854775807
  i7 : -9223372036854775808 ≤ h.minor ∧ h.minor ≤ 9223372036854775807
theorem rd_fl {n w : Int} (hn : -9223372036854775808 ≤ n ∧ n ≤ 9223372036854775807) (h : hasF n w = true) : rdFld (fl n w) = some n := rdFld_of hn (hasF_fl h)
theorem str_of {l : List UInt8} {s : ByteArray} (h : l = L s) : strOf l = s := by rw [h, strOf_L]
/-- A header is told again. -/
theorem guess_of {h : Hd} {b : List UInt8} (H : mayH h = true) (I : Ints h) (S : Stands h b) : guess b = h := by
  have P := parts_of H
  have r : ∀ {n w}, (-9223372036854775808 ≤ n ∧ n ≤ 9223372036854775807) → hasF n w = true → rd (fl n w) = n := by
    intro n w hn hf
    unfold rd
    rw [rd_fl hn hf]; rfl
  unfold guess
  rw [S.c1, S.c2, S.c3, S.c4, S.c5, S.c6, S.c8, S.c9, S.c11, S.c12, S.c13, S.c14, S.c15]
  rw [upto_padL P.t1, upto_padL P.t2, upto_padL P.t3, upto_padL P.t4, upto_padL P.t5]
  rw [r I.i1 (mayN_hasF P.n1).1, r I.i2 (mayN_hasF P.n2).1, r I.i3 (mayN_hasF P.n3).1, r I.i4 (mayN_hasF P.n6).1, r I.i5 P.n7, r I.i6 (mayN_hasF P.n4).1, r I.i7 (mayN_hasF P.n5).1]
  simp only [strOf_L]
theorem guess_put {h : Hd} (H : mayH h = true) (I : Ints h) : guess (putL h) = h := guess_of H I (stands H)
theorem put_may {h : Hd} (H : mayH h = true) : putH h = putL h := if_pos H
theorem put_not {h : Hd} (H : mayH h = false) : putH h = [] := by unfold putH; rw [H]; rfl
theorem ok_put {h : Hd} (H : mayH h = true) (I : Ints h) : okB (putL h) = true := by
  unfold okB
  rw [guess_put H I, put_may H]; exact decide_eq_true rfl
/-- What the block says counts just if all its numbers can be read. -/
theorem ok_may {b : List UInt8} (hb : b ≠ []) (h : okB b = true) : mayH (guess b) = true ∧ putL (guess b) = b := by
  unfold okB at h
  have h := of_decide_eq_true h
  cases hm : mayH (guess b) with
  | false => rw [put_not hm] at h; exact absurd h.symm hb
  | true => rw [put_may hm] at h; exact ⟨rfl, h⟩
structure Reads (b : List UInt8) : Prop where
  r1 : ∃ v, rdFld (cut b 100 108) = some v
  r2 : ∃ v, rdFld (cut b 108 116) = some v
  r3 : ∃ v, rdFld (cut b 116 124) = some v
  r4 : ∃ v, rdFld (cut b 124 136) = some v
  r5 : ∃ v, rdFld (cut b 136 148) = some v
  r6 : ∃ v, rdFld (cut b 329 337) = some v
  r7 : ∃ v, rdFld (cut b 337 345) = some v
theorem rd_fl' {n w : Int} {l : List UInt8} (e : l = fl n w) (hn : n = rd l) (h : hasF n w = true) : ∃ v, rdFld l = some v := by
  rcases hx : rdFld l with _ | v
  · exfalso
    have h0 : n = 0 := by rw [hn]; unfold rd; rw [hx]; rfl
    have := rd_fl (n := n) (w := w) (by rw [h0]; decide) h
    rw [← e, hx] at this
    cases this
  · exact ⟨v, rfl⟩
theorem ok_reads {b : List UInt8} (hb : b ≠ []) (h : okB b = true) : Reads b := by
  obtain ⟨hm, hp⟩ := ok_may hb h
  have P := parts_of hm
  have S := stands hm
  rw [hp] at S
  exact ⟨rd_fl' S.c2 rfl (mayN_hasF P.n1).1, rd_fl' S.c3 rfl (mayN_hasF P.n2).1, rd_fl' S.c4 rfl (mayN_hasF P.n3).1, rd_fl' S.c5 rfl (mayN_hasF P.n6).1, rd_fl' S.c6 rfl P.n7, rd_fl' S.c13 rfl (mayN_hasF P.n4).1, rd_fl' S.c14 rfl (mayN_hasF P.n5).1⟩
end Go.Proofs.Ytkkmhfgfkjeooaa.HeadM
