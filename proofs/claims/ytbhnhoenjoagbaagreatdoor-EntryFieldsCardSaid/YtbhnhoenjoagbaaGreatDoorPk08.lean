/- Bundle of 7 texts. -/
import Derived.Test.YtbhnhoenjoagbaaGreatDoorDec
import Derived.Lib.Atoi
import Derived.Lib.IndexLaws
import Derived.Lib.IndexMore
import Derived.Lib.Strings
import Derived.Test.YtbhnhoenjoagbaaGreatDoorKit
import Derived.Test.YtbhnhoenjoagbaaGreatDoorRows
import Derived.Deep.QuietTactic
import Derived.Deep.RegionHeld3
import Derived.BigQuiet
import Derived.Outline
import Derived.Below
import Derived.Lib.LaidTab
import Derived.Lib.AppendIntMem
import Derived.Lib.ItoaMem
import Derived.Test.YtbhnhoenjoagbaaGreatDoorShelf
import Derived.OwnWalk
import Derived.Deep.AppendLies
/- Records in plain Lean: how long one is, its bytes, the one that some bytes begin with, all of some bytes. -/
namespace Go.Proofs.YtbhnhoenjoagbaaGreatDoor.RecW
namespace RecM
open Go.Lib (decDigits nDigits decDigits_length)

def lenF (r : Nat) : Nat := if r ≤ 8 then r + 1 else if r ≤ 97 then r + 2 else if r ≤ 996 then r + 3 else if r ≤ 9995 then r + 4 else if r ≤ 99994 then r + 5 else r + 6
def digN (n : Nat) : Nat := if n < 10 then 1 else if n < 100 then 2 else if n < 1000 then 3 else if n < 10000 then 4 else if n < 100000 then 5 else 6
theorem dec_digN (n : Nat) (h : n < 1000000) : (decDigits n).length = digN n := by
  unfold digN
  split
  · rw [decDigits_length]; exact Lib.nDigits_small (by assumption)
  · split
    · exact DecM.dec_len_eq 1 n (by omega) (by omega)
    · split
      · exact DecM.dec_len_eq 2 n (by omega) (by omega)
      · split
        · exact DecM.dec_len_eq 3 n (by omega) (by omega)
        · split
          · exact DecM.dec_len_eq 4 n (by omega) (by omega)
          · exact DecM.dec_len_eq 5 n (by omega) (by omega)
theorem lenF_true (r : Nat) (h : r ≤ 900000) : r + digN (lenF r) = lenF r := by
  unfold lenF digN
  repeat' split
  all_goals omega
theorem lenF_least (r n : Nat) (h0 : r < n) (h : n < lenF r) : r + digN n ≠ n := by
  unfold lenF at h
  unfold digN
  repeat' split at h
  all_goals (repeat' split) <;> omega
theorem lenF_bounds (r : Nat) : r + 1 ≤ lenF r ∧ lenF r ≤ r + 6 := by
  unfold lenF
  repeat' split
  all_goals omega
theorem digN_bounds (n : Nat) : 1 ≤ digN n ∧ digN n ≤ 6 := by
  unfold digN
  repeat' split
  all_goals omega

def encF (k v : List UInt8) : List UInt8 := decDigits (lenF (3 + k.length + v.length)) ++ 32 :: (k ++ 61 :: (v ++ [10]))
theorem enc_length (k v : List UInt8) (h : 3 + k.length + v.length ≤ 900000) : (encF k v).length = lenF (3 + k.length + v.length) := by
  have h1 := lenF_true _ h
  have h2 := (lenF_bounds (3 + k.length + v.length)).2
  rw [← dec_digN _ (by omega)] at h1
  unfold encF
  simp only [List.length_append, List.length_cons, List.length_nil]
  omega

def keyB (k : List UInt8) : Bool := decide (1 ≤ k.length) && decide (k.length ≤ 255) && !k.contains 0 && !k.contains 61
def mayB (k v : List UInt8) : Bool := keyB k && decide (lenF (3 + k.length + v.length) ≤ 65536)
theorem may_iff (k v : List UInt8) : mayB k v = true ↔ 1 ≤ k.length ∧ k.length ≤ 255 ∧ (0 : UInt8) ∉ k ∧ (61 : UInt8) ∉ k ∧ lenF (3 + k.length + v.length) ≤ 65536 := by
  simp [mayB, keyB, and_assoc]
def putF (k v : List UInt8) : List UInt8 := if mayB k v then encF k v else []
theorem enc_ne (k v : List UInt8) : encF k v ≠ [] := by
  intro h
  have := congrArg List.length h
  unfold encF at this
  simp at this
theorem put_some {k v X : List UInt8} (h : putF k v = X) (hX : X ≠ []) : mayB k v = true ∧ encF k v = X := by
  unfold putF at h
  split at h
  · exact ⟨by assumption, h⟩
  · exact absurd h.symm hX
def getF (t : List UInt8) : Option (List UInt8 × List UInt8 × Nat) :=
  if Lib.indexByte (t.take 6) 32 < 0 then none else
  match Lib.atoi (t.take (Lib.indexByte (t.take 6) 32).toNat) with
  | none => none
  | some n =>
    if n < Lib.indexByte (t.take 6) 32 + 1 ∨ (t.length : Int) < n then none else
    let c := Lib.cut (Lib.trimSuffix ((t.take n.toNat).drop ((Lib.indexByte (t.take 6) 32).toNat + 1)) [10]) [61]
    if putF c.1 c.2.1 = t.take n.toNat then some (c.1, c.2.1, n.toNat) else none

def Begins (t k v : List UInt8) (n : Nat) : Prop := mayB k v = true ∧ ∃ r, t = encF k v ++ r ∧ n = (encF k v).length

theorem begins_of {t k v : List UInt8} {n : Nat} (h1 : 1 ≤ n) (h2 : n ≤ t.length) (h : putF k v = t.take n) : Begins t k v n := by
  have hne : t.take n ≠ [] := by
    intro e
    have := congrArg List.length e
    rw [List.length_take, List.length_nil] at this
    omega
  obtain ⟨hm, he⟩ := put_some h hne
  refine ⟨hm, t.drop n, by rw [he, List.take_append_drop], ?_⟩
  rw [he, List.length_take]
  omega

theorem index_app (a b : List UInt8) (c : UInt8) (h : c ∉ a) : Lib.indexByte (a ++ c :: b) c = a.length := by
  induction a with
  | nil => simp [Lib.indexByte]
  | cons x a ih =>
    have hx : ¬ x = c := fun e => h (by simp [e])
    have h2 := ih (fun e => h (List.mem_cons_of_mem _ e))
    rw [List.cons_append, Lib.indexByte, if_neg (by simpa using hx), h2, if_neg (by simp)]
    simp
theorem index_miss (a : List UInt8) (c : UInt8) (h : c ∉ a) : Lib.indexByte a c = -1 := by
  induction a with
  | nil => rfl
  | cons x a ih =>
    have hx : ¬ x = c := fun e => h (by simp [e])
    rw [Lib.indexByte, if_neg (by simpa using hx), ih (fun e => h (List.mem_cons_of_mem _ e))]
    rfl
theorem index_one (l : List UInt8) (c : UInt8) : Lib.index l [c] = Lib.indexByte l c := by
  induction l with
  | nil => rfl
  | cons b l ih =>
    rw [Lib.index, Lib.indexByte, ih]
    by_cases h : b = c
    · subst h; simp
    · have h' : ¬ c = b := fun e => h e.symm
      simp [h, h']
theorem index_iff (l : List UInt8) (c : UInt8) : Lib.indexByte l c < 0 ↔ c ∉ l := by
  constructor
  · intro h hm
    obtain ⟨a, b, rfl, hn⟩ : ∃ a b, l = a ++ c :: b ∧ c ∉ a := by
      obtain ⟨a, b, h1, h2⟩ := List.eq_append_cons_of_mem hm
      exact ⟨a, b, h1, h2⟩
    rw [index_app _ _ _ hn] at h
    omega
  · intro h
    rw [index_miss l c h]; decide
theorem cut_app (a b : List UInt8) (h : (61 : UInt8) ∉ a) : Lib.cut (a ++ 61 :: b) [61] = (a, b, true) := by
  unfold Lib.cut
  rw [index_one, index_app _ _ _ h, if_pos (by omega)]
  simp

theorem get_begins {t k v : List UInt8} {n : Nat} (h : getF t = some (k, v, n)) : Begins t k v n := by
  unfold getF at h
  split at h
  · cases h
  · rename_i h0
    split at h
    · cases h
    · rename_i m hm
      split at h
      · cases h
      · rename_i hb
        simp only at h
        split at h
        · rename_i hp
          simp only [Option.some.injEq, Prod.mk.injEq] at h
          obtain ⟨rfl, rfl, rfl⟩ := h
          exact begins_of (by omega) (by omega) hp
        · cases h
theorem get_pos {t k v : List UInt8} {n : Nat} (h : getF t = some (k, v, n)) : 1 ≤ n ∧ n ≤ t.length := by
  obtain ⟨hm, r, rfl, rfl⟩ := get_begins h
  have := enc_ne k v
  exact ⟨List.length_pos_iff.2 this, by simp⟩

def allF (s : List UInt8) : Option (List (List UInt8 × List UInt8)) :=
  if s = [] then some [] else
  match h : getF s with
  | none => none
  | some (k, v, n) => (allF (s.drop n)).map ((k, v) :: ·)
termination_by s.length
decreasing_by
  have := get_pos h
  rw [List.length_drop]
  omega
theorem all_nil : allF [] = some [] := by rw [allF]; rfl
def joinF (l : List (List UInt8 × List UInt8)) : List UInt8 := (l.map fun r => putF r.1 r.2).flatten
def allMay (l : List (List UInt8 × List UInt8)) : Prop := ∀ r ∈ l, mayB r.1 r.2 = true
theorem put_may {k v : List UInt8} (h : mayB k v = true) : putF k v = encF k v := by unfold putF; rw [if_pos h]
end RecM
end Go.Proofs.YtbhnhoenjoagbaaGreatDoor.RecW

/- Records in plain Lean: the document's answer is the program's; what the statements without it ask. -/
namespace Go.Proofs.YtbhnhoenjoagbaaGreatDoor.RecW
namespace RecM
open Go.Lib (decDigits nDigits decDigits_length)

def scanF (n i : Nat) : List UInt8 → Nat × Nat
  | [] => (n, i)
  | c :: l => if DecM.isDig c = true ∧ n ≤ 65536 then scanF (n * 10 + (c.toNat - 48)) (i + 1) l else (n, i)
def refMid (t : List UInt8) : List UInt8 := (t.take ((scanF 0 0 t).1 - 1)).drop ((scanF 0 0 t).2 + 1)
def refF (t : List UInt8) : Option (List UInt8 × List UInt8 × Nat) :=
  if t.length < (scanF 0 0 t).1 ∨ (scanF 0 0 t).1 < (scanF 0 0 t).2 + 3 then none else
  if Lib.indexByte (refMid t) 61 < 0 then none else
  if putF ((refMid t).take (Lib.indexByte (refMid t) 61).toNat) ((refMid t).drop ((Lib.indexByte (refMid t) 61).toNat + 1)) = t.take (scanF 0 0 t).1
  then some ((refMid t).take (Lib.indexByte (refMid t) 61).toNat, (refMid t).drop ((Lib.indexByte (refMid t) 61).toNat + 1), (scanF 0 0 t).1) else none
end RecM
end Go.Proofs.YtbhnhoenjoagbaaGreatDoor.RecW

/- Small facts for the walks over records. -/
namespace Go.Proofs.YtbhnhoenjoagbaaGreatDoor.RecW
open Go.RowKit
set_option linter.unusedVariables false

theorem idxAt {P : Program} {t : TypeId} (ht : P.underlying t = some .string) (S : ByteArray) (i : Nat) (h : i < S.size) : ∃ c : UInt8, S.data.toList[i]? = some c ∧ ∀ w, (Instr.index t (.string S) (.int .i64 (i : Int))).run P w = .ok (.int .u8 (c.toNat : Int)) w := by
  refine ⟨S[i], ?_, ?_⟩
  · rw [List.getElem?_eq_getElem (by simpa using h)]; rfl
  · intro w
    simp [go_sem, ht, h]
theorem dropAt {l : List UInt8} {i : Nat} {c : UInt8} (h : l[i]? = some c) : l.drop i = c :: l.drop (i + 1) := by
  obtain ⟨hi, rfl⟩ := List.getElem?_eq_some_iff.1 h
  exact List.drop_eq_getElem_cons hi
theorem len_list (S : ByteArray) : S.data.toList.length = S.size := by simp
def strOf (l : List UInt8) : ByteArray := ⟨l.toArray⟩
theorem strOf_list (l : List UInt8) : (strOf l).data.toList = l := by simp [strOf]
theorem strOf_size (l : List UInt8) : (strOf l).size = l.length := by rw [← len_list, strOf_list]
theorem strOf_self (S : ByteArray) : strOf S.data.toList = S := bytes_ext (by rw [strOf_list])
theorem strOf_eq {l m : List UInt8} (h : l = m) : strOf l = strOf m := by rw [h]
theorem str_eq {S : ByteArray} {l : List UInt8} (h : S.data.toList = l) : S = strOf l := by rw [← h, strOf_self]
theorem toNat_ne {a b : UInt8} (h : a ≠ b) : ((a.toNat : Int) == (b.toNat : Int)) = false := by
  rw [beq_eq_false_iff_ne]
  intro e
  exact h (UInt8.toNat_inj.1 (by omega))
end Go.Proofs.YtbhnhoenjoagbaaGreatDoor.RecW

/- What strconv and strings lean on in memory; what numbers out of texts lean on beside it. -/
namespace Go.Proofs.YtbhnhoenjoagbaaGreatDoor
open Go.RowKit

structure AmbB (w : World) : Prop where
  tab : Lib.TabIs Tryz.prog w "internal/strconv.uint64pow10" .u64 Lib.pow10Tab
  len : ∃ m, w.cell? ⟨3, 0, none⟩ = some (.int .i64 m)
theorem AmbB.on {w w' : World} (h : AmbB w) (hb : Below w.heap.size w w') : AmbB w' := by
  obtain ⟨m, hm⟩ := h.len
  exact ⟨Lib.tabBelow_of_tabIs h.tab w' hb, m, cell_kept hb hm⟩
structure AmbF (w : World) : Prop where
  b : AmbB w
  err : ∃ ev, w.cell? ⟨6, 0, none⟩ = some ev ∧ (ev = .nilIface ∨ ∃ te pe, ev = .iface te pe)
  rng : ∃ ev, w.cell? ⟨7, 0, none⟩ = some ev ∧ (ev = .nilIface ∨ ∃ te pe, ev = .iface te pe)
theorem AmbF.on {w w' : World} (h : AmbF w) (hb : Below w.heap.size w w') : AmbF w' := by
  obtain ⟨ev, hv, hev⟩ := h.err
  obtain ⟨rv, hr, hrv⟩ := h.rng
  exact ⟨h.b.on hb, ⟨ev, cell_kept hb hv, hev⟩, ⟨rv, cell_kept hb hr, hrv⟩⟩
instance (w : World) : Coe (AmbF w) (AmbB w) := ⟨fun h => h.b⟩
end Go.Proofs.YtbhnhoenjoagbaaGreatDoor

/- What the walks over records lean on in memory: three of the library's variables; they stay as they are whatever a call makes. -/
namespace Go.Proofs.YtbhnhoenjoagbaaGreatDoor.RecW
open Go.RowKit
open RecM
set_option linter.unusedVariables false

theorem below_grown {B : Nat} {a w : World} (h : Below B a w) (hB : B ≤ w.heap.size) (k : Nat) (os : Array Obj) : Below B a (Go.Sort.grow (w.drewN k) os) := h.trans (Lib.below_grow B w hB k os)
theorem itoa_dec (n : Nat) : Lib.itoa (n : Int) = Lib.decDigits n := by unfold Lib.itoa; rw [if_neg (by omega)]; rfl
theorem itoa_any (n : Nat) (w : World) (hA : AmbB w) (h1 : n ≤ 9000000000) :
    Calls Tryz.prog 65 #[.int .i64 (n : Int)] w fun e w' => e = .returned (.string (strOf (Lib.decDigits n))) ∧ Below w.heap.size w w' :=
  (Tryz.strconv_Itoa (n : Int) (by omega) (by omega) w hA.tab).mono fun _ _ ⟨he, k, os, hw⟩ => ⟨by rw [he, itoa_dec]; rfl, by rw [hw]; exact below_grown (Below.refl _ _) (Nat.le_refl _) k os⟩
theorem indexByte_any (s : ByteArray) (c : UInt8) (x : Int) (hx : x = (c.toNat : Int)) (w : World) :
    Calls Tryz.prog 144 #[.string s, .int .u8 x] w fun e w' => e = .returned (.int .i64 (Lib.indexByte s.data.toList c)) ∧ w = w' := by
  subst hx
  refine (Tryz.strings_IndexByte s (c.toNat : Int) w).mono ?_
  rintro e w' ⟨rfl, rfl⟩
  refine ⟨?_, rfl⟩
  rw [show ((c.toNat : Int).toNat).toUInt8 = c by simp]
theorem clone_any (s : ByteArray) (w : World) (hs : s.size ≤ 281474976710656) :
    Calls Tryz.prog 63 #[.string s] w fun e w' => e = .returned (.string s) ∧ Below w.heap.size w w' := by
  have h := Tryz.stringslite_Clone s
  go_enter Tryz.func63, Tryz.ntmps63
  go_wp2_with fail
  refine (h _ hs).mono ?_
  rintro e w1 ⟨rfl, hb1⟩
  go_wp2_with fail
  go_ret
  exact ⟨rfl, hb1⟩
theorem digits_any (n : Nat) (w : World) (hA : AmbB w) (h1 : n < 1000000) :
    Calls Tryz.prog 235 #[.int .i64 (n : Int)] w fun e w' => e = .returned (.int .i64 (digN n : Int)) ∧ Below w.heap.size w w' := by
  have hc := itoa_any n
  have hs : (strOf (Lib.decDigits n)).size = digN n := by rw [strOf_size, dec_digN n h1]
  have h2 : n ≤ 9000000000 := by omega
  generalize strOf (Lib.decDigits n) = S at *
  go_enter Tryz.func235, Tryz.ntmps235
  go_wp2_with fail
  refine (hc _ hA h2).mono ?_
  rintro e w1 ⟨rfl, hb1⟩
  go_wp2_with fail
  go_ret
  exact ⟨rfl, hb1⟩
end Go.Proofs.YtbhnhoenjoagbaaGreatDoor.RecW

/- Walks over package rec: a key, a record's length, whether it may be, its bytes. -/
namespace Go.Proofs.YtbhnhoenjoagbaaGreatDoor.RecW
open Go.RowKit
open RecM
open Go.Lib (decDigits)
set_option linter.unusedVariables false

theorem index_neg (l : List UInt8) (c : UInt8) : decide (Lib.indexByte l c < 0) = !l.contains c := by
  by_cases h : c ∈ l
  · rw [decide_eq_false (fun e => (index_iff l c).1 e h)]; simp [h]
  · rw [decide_eq_true ((index_iff l c).2 h)]; simp [h]
theorem mayKey_any (K : ByteArray) (w : World) :
    Calls Tryz.prog 185 #[.string K] w fun e w' => e = .returned (.bool (keyB K.data.toList)) ∧ w = w' := by
  have h0 := Lib.hid (indexByte_any K 0 0 rfl)
  have h61 := Lib.hid (indexByte_any K 61 61 rfl)
  have n0 := index_neg K.data.toList 0
  have n61 := index_neg K.data.toList 61
  unfold keyB
  rw [len_list]
  generalize Lib.indexByte K.data.toList 0 = i0 at *
  generalize Lib.indexByte K.data.toList 61 = i61 at *
  rw [← n0, ← n61]
  clear n0 n61
  by_cases h1 : K.size < 1
  · have h1' : decide ((K.size : Int) < 1) = true := by simp; omega
    have hr := Lib.hid (show (decide (1 ≤ K.size) && decide (K.size ≤ 255) && decide (i0 < 0) && decide (i61 < 0)) = false by rw [decide_eq_false (by omega)]; rfl)
    generalize (decide (1 ≤ K.size) && decide (K.size ≤ 255) && decide (i0 < 0) && decide (i61 < 0)) = b at *
    clear h1
    go_enter Tryz.func185, Tryz.ntmps185
    go_wp2_with fail
    go_ret
    exact ⟨ret_bool hr.out.symm, rfl⟩
  · have h1' : decide ((K.size : Int) < 1) = false := by simp; omega
    by_cases h2 : 255 < K.size
    · have h2' : decide (255 < (K.size : Int)) = true := by simp; omega
      have hr := Lib.hid (show (decide (1 ≤ K.size) && decide (K.size ≤ 255) && decide (i0 < 0) && decide (i61 < 0)) = false by rw [decide_eq_false (p := K.size ≤ 255) (by omega)]; simp)
      generalize (decide (1 ≤ K.size) && decide (K.size ≤ 255) && decide (i0 < 0) && decide (i61 < 0)) = b at *
      clear h1 h2
      go_enter Tryz.func185, Tryz.ntmps185
      go_wp2_with fail
      go_ret
      exact ⟨ret_bool hr.out.symm, rfl⟩
    · have h2' : decide (255 < (K.size : Int)) = false := by simp; omega
      have hr := Lib.hid (show (decide (1 ≤ K.size) && decide (K.size ≤ 255) && decide (i0 < 0) && decide (i61 < 0)) = (decide (i0 < 0) && decide (i61 < 0)) by rw [decide_eq_true (p := K.size ≤ 255) (by omega), decide_eq_true (p := 1 ≤ K.size) (by omega)]; simp)
      generalize (decide (1 ≤ K.size) && decide (K.size ≤ 255) && decide (i0 < 0) && decide (i61 < 0)) = b at *
      clear h1 h2
      by_cases h3 : i0 < 0
      · have h3' : decide (i0 < 0) = true := by simpa using h3
        rw [h3'] at hr
        clear h3
        go_enter Tryz.func185, Tryz.ntmps185
        go_wp2_with fail
        refine (h0.out _).mono ?_
        rintro e w' ⟨rfl, rfl⟩
        go_wp2_with fail
        refine (h61.out _).mono ?_
        rintro e w' ⟨rfl, rfl⟩
        go_wp2_with fail
        go_ret
        exact ⟨ret_bool (by rw [hr.out]; simp), rfl⟩
      · have h3' : decide (i0 < 0) = false := by simpa using h3
        rw [h3'] at hr
        clear h3
        go_enter Tryz.func185, Tryz.ntmps185
        go_wp2_with fail
        refine (h0.out _).mono ?_
        rintro e w' ⟨rfl, rfl⟩
        go_wp2_with fail
        go_ret
        exact ⟨ret_bool (by rw [hr.out]; simp), rfl⟩

theorem length_any (K V : ByteArray) (hs : K.size + V.size ≤ 100000) (w : World) (hA : AmbB w) :
    Calls Tryz.prog 186 #[.agg #[.string K, .string V]] w fun e w' => e = .returned (.int .i64 (lenF (3 + K.size + V.size) : Int)) ∧ Below w.heap.size w w' := by
  obtain ⟨r, hr⟩ : ∃ r, 3 + K.size + V.size = r := ⟨_, rfl⟩
  rw [hr]
  have hr2 : (3 : Int) + (K.size : Int) + (V.size : Int) = (r : Int) := by omega
  have hr1 : r ≤ 100003 := by omega
  have hb := lenF_bounds r
  have ht := Lib.hid (lenF_true r (by omega))
  have hl := Lib.hid (lenF_least r)
  go_enter Tryz.func186, Tryz.ntmps186
  go_wp2_with fail
  go_loopw [4] (fun nv wr => ∃ n : Nat, nv = .int .i64 (n : Int) ∧ r + 1 ≤ n ∧ n ≤ lenF r ∧ Below w.heap.size w wr) (fun nv _ => lenF r - (intOf nv).toNat)
  case atStart => exact ⟨r + 1, by congr 1, by omega, by omega, by (repeat' (first | exact Below.refl _ _ | assumption | refine gr_drew ?_ | refine gr_drewN ?_ _ | refine gr_alloc ?_ _ | refine gr_set ?_ ?_ _ | refine gr_call ?_ (by assumption)) <;> (try (simp; done)) <;> (try (simp; omega)) <;> (try omega))⟩
  case round =>
    obtain ⟨n, rfl, hn1, hn2, hbl⟩ := hrel
    have hd6 := digN_bounds n
    have hd1 := hd6.1
    have hd2 := hd6.2
    have hcall := Lib.hid (fun W (h : AmbB W) => digits_any n W h (by omega))
    by_cases hlt : n < lenF r
    · have hne := hl.out n (by omega) hlt
      have htest : ((r : Int) + (digN n : Int) != (n : Int)) = true := by
        rw [bne_iff_ne]; omega
      have hlt2 : n + 1 ≤ lenF r := hlt
      clear hne hlt hd6
      go_wp2_with fail
      refine (hcall.out _ (hA.on hbl)).mono ?_
      rintro e w1 ⟨rfl, hb1⟩
      have hbl1 := gr_call hbl hb1
      go_wp2_with fail
      go_roundw
      case rel => exact ⟨n + 1, by go_num, by omega, by omega, hbl1⟩
      case measure => simp only [intOf]; omega
    · obtain rfl : n = lenF r := by omega
      have htest : ((r : Int) + (digN (lenF r) : Int) != ((lenF r : Nat) : Int)) = false := by
        have := ht.out
        rw [bne_eq_false_iff_eq]; omega
      clear hlt hd6
      go_wp2_with fail
      refine (hcall.out _ (hA.on hbl)).mono ?_
      rintro e w1 ⟨rfl, hb1⟩
      have hbl1 := gr_call hbl hb1
      go_wp2_with fail
      go_ret
      exact ⟨rfl, hbl1⟩

theorem may_any (K V : ByteArray) (hs : K.size + V.size ≤ 100000) (w : World) (hA : AmbB w) :
    Calls Tryz.prog 119 #[.agg #[.string K, .string V]] w fun e w' => e = .returned (.bool (mayB K.data.toList V.data.toList)) ∧ Below w.heap.size w w' := by
  have hk := Lib.hid (mayKey_any K)
  have hl := Lib.hid (length_any K V hs)
  unfold mayB
  rw [len_list, len_list]
  have hm := (lenF_bounds (3 + K.size + V.size)).2
  have hm2 : (lenF (3 + K.size + V.size)) ≤ 200000 := by omega
  generalize keyB K.data.toList = b at *
  generalize lenF (3 + K.size + V.size) = m at *
  clear hm
  cases b
  · go_enter Tryz.func119, Tryz.ntmps119
    go_wp2_with fail
    refine (hk.out _).mono ?_
    rintro e w' ⟨rfl, rfl⟩
    go_wp2_with fail
    go_ret
    exact ⟨rfl, by (repeat' (first | exact Below.refl _ _ | assumption | refine gr_drew ?_ | refine gr_drewN ?_ _ | refine gr_alloc ?_ _ | refine gr_set ?_ ?_ _ | refine gr_call ?_ (by assumption)) <;> (try (simp; done)) <;> (try (simp; omega)) <;> (try omega))⟩
  · have hd : decide ((m : Int) ≤ 65536) = decide (m ≤ 65536) := by
      by_cases h : m ≤ 65536
      · rw [decide_eq_true h]; exact decide_eq_true (by omega)
      · rw [decide_eq_false h]; exact decide_eq_false (by omega)
    rw [Bool.true_and]
    have Hd := Lib.hid hd
    clear hd
    go_enter Tryz.func119, Tryz.ntmps119
    go_wp2_with fail
    refine (hk.out _).mono ?_
    rintro e w' ⟨rfl, rfl⟩
    go_wp2_with fail
    refine (hl.out _ (hA.on (by (repeat' (first | exact Below.refl _ _ | assumption | refine gr_drew ?_ | refine gr_drewN ?_ _ | refine gr_alloc ?_ _ | refine gr_set ?_ ?_ _ | refine gr_call ?_ (by assumption)) <;> (try (simp; done)) <;> (try (simp; omega)) <;> (try omega))))).mono ?_
    rintro e w1 ⟨rfl, hbw1⟩
    have hzw1 := hbw1.size
    try simp at hzw1
    go_wp2_with fail
    go_ret
    exact ⟨ret_bool Hd.out, by (repeat' (first | exact Below.refl _ _ | assumption | refine gr_drew ?_ | refine gr_drewN ?_ _ | refine gr_alloc ?_ _ | refine gr_set ?_ ?_ _ | refine gr_call ?_ (by assumption)) <;> (try (simp; done)) <;> (try (simp; omega)) <;> (try omega))⟩

theorem put_any (K V : ByteArray) (hs : K.size + V.size ≤ 100000) (w : World) (hA : AmbB w) :
    Calls Tryz.prog 187 #[.agg #[.string K, .string V]] w fun e w' => e = .returned (.string (strOf (putF K.data.toList V.data.toList))) ∧ Below w.heap.size w w' := by
  have hmay := Lib.hid (may_any K V hs)
  have hlen := Lib.hid (length_any K V hs)
  unfold putF
  obtain ⟨m, hm⟩ : ∃ m, lenF (3 + K.size + V.size) = m := ⟨_, rfl⟩
  have hmb := lenF_bounds (3 + K.size + V.size)
  rw [hm] at hlen hmb
  have hm9 : m ≤ 9000000000 := by omega
  obtain ⟨E, hE⟩ : ∃ E, encF K.data.toList V.data.toList = E := ⟨_, rfl⟩
  obtain ⟨D, hD⟩ : ∃ D : ByteArray, strOf (decDigits m) = D := ⟨_, rfl⟩
  have hDs : D.size ≤ 6 := by
    rw [← hD, strOf_size, dec_digN m (by omega)]; exact (digN_bounds m).2
  have HE := Lib.hid (show D ++ ⟨#[32]⟩ ++ K ++ ⟨#[61]⟩ ++ V ++ ⟨#[10]⟩ = strOf E by
    apply str_eq
    rw [← hE]
    unfold encF
    rw [len_list, len_list, hm, ← hD]
    simp only [bytes_list, strOf_list]
    simp)
  have hi := Lib.hid (fun W (h : AmbB W) => itoa_any m W h hm9)
  rw [hD] at hi
  rw [hE]
  generalize mayB K.data.toList V.data.toList = b at *
  clear hE hD hm
  have q1 : ¬ 9223372036854775807 < D.size + 1 := by omega
  have q2 : ¬ 9223372036854775807 < D.size + 1 + K.size := by omega
  have q3 : ¬ 9223372036854775807 < D.size + 1 + K.size + 1 := by omega
  have q4 : ¬ 9223372036854775807 < D.size + 1 + K.size + 1 + V.size := by omega
  have q5 : ¬ 9223372036854775807 < D.size + 1 + K.size + 1 + V.size + 1 := by omega
  cases b
  · go_enter Tryz.func187, Tryz.ntmps187
    go_wp2_with fail
    refine (hmay.out _ (hA.on (by (repeat' (first | exact Below.refl _ _ | assumption | refine gr_drew ?_ | refine gr_drewN ?_ _ | refine gr_alloc ?_ _ | refine gr_set ?_ ?_ _ | refine gr_call ?_ (by assumption)) <;> (try (simp; done)) <;> (try (simp; omega)) <;> (try omega))))).mono ?_
    rintro e w1 ⟨rfl, hbw1⟩
    have hzw1 := hbw1.size
    try simp at hzw1
    go_wp2_with fail
    go_ret
    exact ⟨rfl, by (repeat' (first | exact Below.refl _ _ | assumption | refine gr_drew ?_ | refine gr_drewN ?_ _ | refine gr_alloc ?_ _ | refine gr_set ?_ ?_ _ | refine gr_call ?_ (by assumption)) <;> (try (simp; done)) <;> (try (simp; omega)) <;> (try omega))⟩
  · go_enter Tryz.func187, Tryz.ntmps187
    go_wp2_with fail
    refine (hmay.out _ (hA.on (by (repeat' (first | exact Below.refl _ _ | assumption | refine gr_drew ?_ | refine gr_drewN ?_ _ | refine gr_alloc ?_ _ | refine gr_set ?_ ?_ _ | refine gr_call ?_ (by assumption)) <;> (try (simp; done)) <;> (try (simp; omega)) <;> (try omega))))).mono ?_
    rintro e w1 ⟨rfl, hbw1⟩
    have hzw1 := hbw1.size
    try simp at hzw1
    have : w.heap.size < w1.heap.size := by omega
    have : w.heap.size ≤ w1.heap.size := by omega
    have : w1.cell? ⟨w.heap.size, 0, none⟩ = some (.string K) := cell_kept hbw1 (by simp [go_sem, *])
    have : w1.frozen? ⟨w.heap.size, 0, none⟩ = false := free_kept hbw1 (v := .string K) (by simp [go_sem, *]) (by simp [go_sem, *])
    have : w.heap.size < w1.heap.size := by omega
    have : w.heap.size ≤ w1.heap.size := by omega
    have : w1.cell? ⟨w.heap.size, 1, none⟩ = some (.string V) := cell_kept hbw1 (by simp [go_sem, *])
    have : w1.frozen? ⟨w.heap.size, 1, none⟩ = false := free_kept hbw1 (v := .string V) (by simp [go_sem, *]) (by simp [go_sem, *])
    have hB1 : Below w.heap.size w w1 := by (repeat' (first | exact Below.refl _ _ | assumption | refine gr_drew ?_ | refine gr_drewN ?_ _ | refine gr_alloc ?_ _ | refine gr_set ?_ ?_ _ | refine gr_call ?_ (by assumption)) <;> (try (simp; done)) <;> (try (simp; omega)) <;> (try omega))
    have hA1 := hA.on (gr_drew hB1)
    go_wp2_with fail
    go_region_held3 (fun w' => AmbB w' ∧ Below w.heap.size w w' ∧ w'.cell? ⟨w.heap.size, 0, none⟩ = some (.string K) ∧ w'.cell? ⟨w.heap.size, 1, none⟩ = some (.string V))
      (first | (go_keep; done) | (go_split_ands; (repeat' apply And.intro) <;> (first | assumption | exact Amb.on (by assumption) hb1 | exact AmbB.on (by assumption) hb1 | exact gr_call (by assumption) hb1 | exact cell_kept hb1 (by assumption) | (show Below _ _ _; (repeat' (first | exact Below.refl _ _ | assumption | refine gr_drew ?_ | refine gr_drewN ?_ _ | refine gr_alloc ?_ _ | refine gr_set ?_ ?_ _ | refine gr_call ?_ (by assumption)) <;> (try (simp; done)) <;> (try (simp; omega)) <;> (try omega)); done) | (go_keep; done) | (simp [go_sem, *]; done))))
      (first
        | (go_at_call 65; go_split_ands; refine (hi.out _ (by assumption)).mono ?_; rintro e w1 ⟨rfl, hb1⟩)
        | (go_at_call 186; go_split_ands; refine (hlen.out _ (by assumption)).mono ?_; rintro e w1 ⟨rfl, hb1⟩))
    all_goals
      go_wp2_with fail
      go_ret
      go_split_ands
      exact ⟨ret_str HE.out, by (repeat' (first | exact Below.refl _ _ | assumption | refine gr_drew ?_ | refine gr_drewN ?_ _ | refine gr_alloc ?_ _ | refine gr_set ?_ ?_ _ | refine gr_call ?_ (by assumption)) <;> (try (simp; done)) <;> (try (simp; omega)) <;> (try omega))⟩
end Go.Proofs.YtbhnhoenjoagbaaGreatDoor.RecW

/- Slices of records: one that a call makes by appending; one that can be read. -/
namespace Go.Proofs.YtbhnhoenjoagbaaGreatDoor.RecW
open Go.RowKit
set_option linter.unusedVariables false

def recCells : List (List UInt8 × List UInt8) → List Value
  | [] => []
  | r :: l => .string (strOf r.1) :: .string (strOf r.2) :: recCells l
theorem recCells_at (l : List (List UInt8 × List UInt8)) : ∀ (j : Nat) (h : j < l.length), (recCells l)[2 * j]? = some (.string (strOf l[j].1)) ∧ (recCells l)[2 * j + 1]? = some (.string (strOf l[j].2)) := by
  induction l with
  | nil => intro j h; simp at h
  | cons r l ih =>
    intro j h
    cases j with
    | zero => exact ⟨rfl, rfl⟩
    | succ j =>
      have := ih j (by simpa using h)
      simp only [recCells, show 2 * (j + 1) = 2 * j + 1 + 1 by omega, List.getElem?_cons_succ, List.getElem_cons_succ]
      exact this

def RecRow (B : Nat) (v : Value) (l : List (List UInt8 × List UInt8)) (w : World) : Prop := w.ownsRow B 28 2 v l.length (recCells l)
theorem RecRow.nil (w : World) (B : Nat) : RecRow B (.slice none 0 0) [] w := World.ownsRow_nil w B _ _
theorem RecRow.drew {B : Nat} {v : Value} {l : List (List UInt8 × List UInt8)} {w : World} (h : RecRow B v l w) : RecRow B v l w.drew := World.ownsRow.drew h
theorem RecRow.alloc {B : Nat} {v : Value} {l : List (List UInt8 × List UInt8)} {w : World} (h : RecRow B v l w) (o : Obj) : RecRow B v l (w.alloc o) := World.ownsRow.alloc h o
theorem RecRow.call {B : Nat} {v : Value} {l : List (List UInt8 × List UInt8)} {w w1 : World} (h : RecRow B v l w) (hb : Below w.heap.size w w1) : RecRow B v l w1 := by
  refine World.ownsRow.kept h (row := none) ⟨hb.os, hb.tape, hb.output, hb.size, fun k hk _ => hb.block k hk⟩ ?_
  cases hv : v.ownBlock with
  | none => exact Or.inl rfl
  | some k => exact Or.inr (by simp)
theorem RecRow.lt {B : Nat} {v : Value} {l : List (List UInt8 × List UInt8)} {w : World} (h : RecRow B v l w) : ∀ k, v.ownBlock = some k → k < w.heap.size := fun k hk => (World.ownsRow.lt h k hk).2

def RecAt (v : Value) (l : List (List UInt8 × List UInt8)) (w : World) : Prop :=
  (l = [] ∧ ∃ p cap, v = .slice p 0 cap) ∨
  ∃ g cap, v = .slice (some ⟨g, 0, none⟩) l.length cap ∧ l.length ≤ cap ∧ g < w.heap.size ∧ ∀ j (h : j < l.length), w.cell? ⟨g, 2 * j, none⟩ = some (.string (strOf l[j].1)) ∧ w.cell? ⟨g, 2 * j + 1, none⟩ = some (.string (strOf l[j].2))
theorem RecRow.at {B : Nat} {v : Value} {l : List (List UInt8 × List UInt8)} {w : World} (h : RecRow B v l w) : RecAt v l w := by
  have h' := h
  rcases h.2 with ⟨hv, h0⟩ | ⟨g, cap, cur, hv, hB, hg, hc1, hc2, hcs, ht⟩
  · exact .inl ⟨List.eq_nil_of_length_eq_zero h0, none, 0, hv⟩
  · subst hv
    refine .inr ⟨g, cap, rfl, hc1, (Array.getElem?_eq_some_iff.1 hg).1, fun j hj => ?_⟩
    have h2 := recCells_at l j hj
    have e1 := World.ownsRow.cells h' rfl _ _ h2.1
    have e2 := World.ownsRow.cells h' rfl _ _ h2.2
    rw [addr_zero_add] at e1 e2
    exact ⟨e1, e2⟩
theorem RecAt.call {v : Value} {l : List (List UInt8 × List UInt8)} {w w1 : World} (h : RecAt v l w) (hb : Below w.heap.size w w1) : RecAt v l w1 := by
  rcases h with h | ⟨g, cap, hv, hc, hg, hj⟩
  · exact .inl h
  · exact .inr ⟨g, cap, hv, hc, Nat.lt_of_lt_of_le hg hb.size, fun j h => ⟨cell_kept hb (hj j h).1, cell_kept hb (hj j h).2⟩⟩
theorem RecAt.shape {v : Value} {l : List (List UInt8 × List UInt8)} {w : World} (h : RecAt v l w) : ∃ p cap, v = .slice p l.length cap := by
  rcases h with ⟨rfl, p, cap, hv⟩ | ⟨g, cap, hv, _⟩
  · exact ⟨p, cap, hv⟩
  · exact ⟨_, _, hv⟩
theorem RecAt.open {v : Value} {l : List (List UInt8 × List UInt8)} {w : World} (h : RecAt v l w) (hl : l ≠ []) :
    ∃ g cap, v = .slice (some ⟨g, 0, none⟩) l.length cap ∧ l.length ≤ cap ∧ g < w.heap.size ∧ ∀ j (h : j < l.length), w.cell? ⟨g, 2 * j, none⟩ = some (.string (strOf l[j].1)) ∧ w.cell? ⟨g, 2 * j + 1, none⟩ = some (.string (strOf l[j].2)) := by
  rcases h with ⟨h, _⟩ | h
  · exact absurd h hl
  · exact h

end Go.Proofs.YtbhnhoenjoagbaaGreatDoor.RecW
