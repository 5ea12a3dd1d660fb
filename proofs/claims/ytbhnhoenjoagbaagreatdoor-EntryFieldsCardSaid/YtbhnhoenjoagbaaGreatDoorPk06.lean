/- Bundle of 6 texts. -/
import Derived.Test.YtbhnhoenjoagbaaGreatDoorHdMay2
import Derived.Test.YtbhnhoenjoagbaaGreatDoorPk04
import Derived.Test.YtbhnhoenjoagbaaGreatDoorHdRefBase
import Derived.Test.YtbhnhoenjoagbaaGreatDoorKit
import Derived.Test.YtbhnhoenjoagbaaGreatDoorPk01
import Derived.Shelf.Strings.BuilderF
import Derived.Lib.RepeatB
import Derived.Lib.TrimByte
import Derived.Deep.LoopGhost
import Derived.Deep.DeepCutAuto
import Derived.Deep.CutBlock
import Derived.Deep.QuietTactic
import Derived.Deep.RegionHeld3
import Derived.BigQuiet
import Derived.Below
import Derived.Outline
import Derived.Test.YtbhnhoenjoagbaaGreatDoorRows
import Derived.Test.YtbhnhoenjoagbaaGreatDoorChecked
/- Walks over the document's answer for package head: has, short, whole, filled, MayHead, text, Join. -/
namespace Go.Proofs.YtbhnhoenjoagbaaGreatDoor.HeadW
open Go.RowKit
open HeadM NumM
set_option linter.unusedVariables false

theorem idxAt {P : Program} {t : TypeId} (ht : P.underlying t = some .string) (S : ByteArray) (i : Nat) (h : i < S.size) : ∃ c : UInt8, (L S)[i]? = some c ∧ ∀ w, (Instr.index t (.string S) (.int .i64 (i : Int))).run P w = .ok (.int .u8 (c.toNat : Int)) w := by
  refine ⟨S[i], ?_, ?_⟩
  · rw [List.getElem?_eq_getElem (by rw [size_L]; exact h)]; rfl
  · intro w
    simp [go_sem, ht, h]
theorem dropAt {l : List UInt8} {i : Nat} {c : UInt8} (h : l[i]? = some c) : l.drop i = c :: l.drop (i + 1) := by
  obtain ⟨hi, rfl⟩ := List.getElem?_eq_some_iff.1 h
  exact List.drop_eq_getElem_cons hi
theorem toNat_ne {a b : UInt8} (h : a ≠ b) : ((a.toNat : Int) == (b.toNat : Int)) = false := by
  rw [beq_eq_false_iff_ne]
  intro e
  exact h (UInt8.toNat_inj.1 (by omega))

theorem has_any (S : ByteArray) (c : UInt8) (x : Int) (hx : x = (c.toNat : Int)) (hS : S.size ≤ 9000000000) (w : World) :
    Calls Tryz.prog 95 #[.string S, .int .u8 x] w fun e w' => e = .returned (.bool ((L S).contains c)) ∧ w' = w := by
  obtain ⟨n, hn⟩ : ∃ n, S.size = n := ⟨_, rfl⟩
  have Hx := Lib.hid hx
  obtain ⟨M, hL⟩ : ∃ M, L S = M := ⟨_, rfl⟩
  have hln := Lib.hid (show M.length = n by rw [← hL, ← hn, size_L])
  have HI := Lib.hid (fun i (h : i < n) => idxAt Tryz.underlying9 S i (by omega))
  rw [hL] at HI ⊢
  rw [hn] at hS
  obtain ⟨r, hr⟩ : ∃ r, M.contains c = r := ⟨_, rfl⟩
  have Hrr := Lib.hid hr
  rw [hr]
  clear hx hL hr
  go_enter Tryz.func95, Tryz.ntmps95
  go_wp2_with fail
  go_loopw [5] (fun iv wr => ∃ i : Nat, iv = .int .i64 (i : Int) ∧ i ≤ n ∧ wr = w ∧ Hid (r = (M.drop i).contains c)) (fun iv _ => n - (intOf iv).toNat)
  case atStart => exact ⟨0, rfl, by omega, rfl, Lib.hid (by simp [← Hrr.out])⟩
  case round =>
    obtain ⟨i, rfl, hi, rfl, HR⟩ := hrel
    by_cases hlt : i < n
    · have hlt' : (i : Int) < (n : Int) := by omega
      obtain ⟨d, hd, hidx⟩ := HI.out i hlt
      by_cases hdc : d = c
      · have heq : ((d.toNat : Int) == x) = true := by rw [hdc, Hx.out]; simp
        have Hr := Lib.hid (show r = true by rw [HR.out, dropAt hd, hdc]; simp)
        clear hd hdc HR
        go_wp2
        go_ret
        exact ⟨ret_bool Hr.out.symm, rfl⟩
      · have heq : ((d.toNat : Int) == x) = false := by rw [Hx.out]; exact toNat_ne hdc
        have Hr := Lib.hid (show r = (M.drop (i + 1)).contains c by rw [HR.out, dropAt hd, List.contains_cons]; simp [Ne.symm hdc])
        clear hd hdc HR
        go_wp2
        go_roundw
        case rel => exact ⟨i + 1, by go_num, by omega, by trivial, Hr⟩
        case measure => simp [intOf]; omega
    · have hlt' : ¬ (i : Int) < (n : Int) := by omega
      have Hr := Lib.hid (show r = false by rw [HR.out, List.drop_eq_nil_of_le (by rw [hln.out]; omega)]; rfl)
      clear HR
      go_wp2
      go_ret
      exact ⟨ret_bool Hr.out.symm, rfl⟩

theorem short_any (s : ByteArray) (n : Nat) (x : Int) (hx : x = (n : Int)) (hn : n ≤ 8000) (w : World) :
    Calls Tryz.prog 32 #[.string s, .int .i64 x] w fun e w' => e = .returned (.bool (mayT (L s) n)) ∧ w' = w := by
  unfold mayT
  rw [size_L]
  subst hx
  rcases h : decide (s.size ≤ n) with _ | _
  · have h1 := of_decide_eq_false h
    have h2 : decide ((s.size : Int) ≤ (n : Int)) = false := decide_eq_false (by omega)
    clear h1
    go_enter Tryz.func32, Tryz.ntmps32
    go_wp2_with fail
    go_ret
    exact ⟨rfl, rfl⟩
  · have h1 := of_decide_eq_true h
    have h2 : decide ((s.size : Int) ≤ (n : Int)) = true := decide_eq_true (by omega)
    have hc := Lib.hid (fun w => has_any s 0 0 rfl (by omega) w)
    generalize (L s).contains 0 = b at *
    clear h1
    go_enter Tryz.func32, Tryz.ntmps32
    go_wp2_with fail
    refine (hc.out _).mono ?_
    rintro e w' ⟨rfl, rfl⟩
    go_wp2_with fail
    go_ret
    exact ⟨rfl, rfl⟩

theorem refFld (n v : Int) (hn : -9223372036854775808 ≤ n ∧ n ≤ 9223372036854775807) (w : World) :
    Calls Tryz.prog 34 #[.int .i64 n, .int .i64 v] w fun e w' => e = .returned (.agg #[.string (strOf (fl n v)), .bool (hasF n v)]) ∧ Below w.heap.size w w' := refField_any n v hn w
theorem fld1 (x : ByteArray) (b : Bool) (w : World) : (Instr.field 72 (.agg #[.string x, .bool b]) 1).run Tryz.prog w = .ok (.bool b) w := by kernel_rfl
theorem whole_any (n v : Int) (hn : -9223372036854775808 ≤ n ∧ n ≤ 9223372036854775807) (w : World) :
    Calls Tryz.prog 33 #[.int .i64 n, .int .i64 v] w fun e w' => e = .returned (.bool (mayN n v)) ∧ Below w.heap.size w w' := by
  have hc := Lib.hid (refFld n v hn)
  unfold mayN
  have h1f := fld1
  clear hn
  by_cases h0 : 0 ≤ n
  · rw [decide_eq_true h0]
    go_enter Tryz.func33, Tryz.ntmps33
    go_wp2_with fail
    refine (hc.out _).mono ?_
    rintro e w1 ⟨rfl, hbw1⟩
    have hzw1 := hbw1.size
    try simp at hzw1
    go_wp2_with fail
    go_ret
    exact ⟨rfl, by (repeat' (first | exact Below.refl _ _ | assumption | refine gr_drew ?_ | refine gr_drewN ?_ _ | refine gr_alloc ?_ _ | refine gr_set ?_ ?_ _ | refine gr_call ?_ (by assumption)) <;> (try (simp; done)) <;> (try (simp; omega)) <;> (try omega))⟩
  · rw [decide_eq_false h0]
    go_enter Tryz.func33, Tryz.ntmps33
    go_wp2_with fail
    go_ret
    exact ⟨rfl, by (repeat' (first | exact Below.refl _ _ | assumption | refine gr_drew ?_ | refine gr_drewN ?_ _ | refine gr_alloc ?_ _ | refine gr_set ?_ ?_ _ | refine gr_call ?_ (by assumption)) <;> (try (simp; done)) <;> (try (simp; omega)) <;> (try omega))⟩

set_option maxHeartbeats 2000000 in
theorem refMay_any (h : Hd) (I : Ints h) (w : World) :
    Calls Tryz.prog 10 #[.agg #[.string h.name, .int .i64 h.mode, .int .i64 h.uid, .int .i64 h.gid, .int .i64 h.size, .int .i64 h.mtime, .int .u8 (h.typ.toNat : Int), .string h.link, .string h.uname, .string h.gname, .int .i64 h.major, .int .i64 h.minor, .string h.pre]] w fun e w' => e = .returned (.bool (mayH h)) ∧ Below w.heap.size w w' := by
  have c100 := Lib.hid (fun s w => short_any s 100 100 rfl (by omega) w)
  have c32 := Lib.hid (fun s w => short_any s 32 32 rfl (by omega) w)
  have c155 := Lib.hid (fun s w => short_any s 155 155 rfl (by omega) w)
  have kmode := Lib.hid (whole_any h.mode 8 I.i1)
  have kuid := Lib.hid (whole_any h.uid 8 I.i2)
  have kgid := Lib.hid (whole_any h.gid 8 I.i3)
  have kmajor := Lib.hid (whole_any h.major 8 I.i6)
  have kminor := Lib.hid (whole_any h.minor 8 I.i7)
  have ksize := Lib.hid (whole_any h.size 12 I.i4)
  have kmtime := Lib.hid (refFld h.mtime 12 I.i5)
  have h1f := fld1
  have hb0 := BlkIs.made w 23 #[.string h.name, .int .i64 h.mode, .int .i64 h.uid, .int .i64 h.gid, .int .i64 h.size, .int .i64 h.mtime, .int .u8 (h.typ.toNat : Int), .string h.link, .string h.uname, .string h.gname, .int .i64 h.major, .int .i64 h.minor, .string h.pre]
  clear I
  go_enter Tryz.func10, Tryz.ntmps10
  go_wp2_with fail
  refine (c100.out _ _).mono ?_
  rintro e w' ⟨rfl, rfl⟩
  rcases q0 : mayT (L h.name) 100 with _ | _
  · go_wp2_with fail
    go_ret
    exact ⟨ret_bool (by simp [mayH, mayTs, mayNs, q0]), by (repeat' (first | exact Below.refl _ _ | assumption | refine gr_drew ?_ | refine gr_drewN ?_ _ | refine gr_alloc ?_ _ | refine gr_set ?_ ?_ _ | refine gr_call ?_ (by assumption)) <;> (try (simp; done)) <;> (try (simp; omega)) <;> (try omega))⟩
  go_wp2_with fail
  refine (c100.out _ _).mono ?_
  rintro e w' ⟨rfl, rfl⟩
  rcases q1 : mayT (L h.link) 100 with _ | _
  · go_wp2_with fail
    go_ret
    exact ⟨ret_bool (by simp [mayH, mayTs, mayNs, q1]), by (repeat' (first | exact Below.refl _ _ | assumption | refine gr_drew ?_ | refine gr_drewN ?_ _ | refine gr_alloc ?_ _ | refine gr_set ?_ ?_ _ | refine gr_call ?_ (by assumption)) <;> (try (simp; done)) <;> (try (simp; omega)) <;> (try omega))⟩
  go_wp2_with fail
  refine (c32.out _ _).mono ?_
  rintro e w' ⟨rfl, rfl⟩
  rcases q2 : mayT (L h.uname) 32 with _ | _
  · go_wp2_with fail
    go_ret
    exact ⟨ret_bool (by simp [mayH, mayTs, mayNs, q2]), by (repeat' (first | exact Below.refl _ _ | assumption | refine gr_drew ?_ | refine gr_drewN ?_ _ | refine gr_alloc ?_ _ | refine gr_set ?_ ?_ _ | refine gr_call ?_ (by assumption)) <;> (try (simp; done)) <;> (try (simp; omega)) <;> (try omega))⟩
  go_wp2_with fail
  refine (c32.out _ _).mono ?_
  rintro e w' ⟨rfl, rfl⟩
  rcases q3 : mayT (L h.gname) 32 with _ | _
  · go_wp2_with fail
    go_ret
    exact ⟨ret_bool (by simp [mayH, mayTs, mayNs, q3]), by (repeat' (first | exact Below.refl _ _ | assumption | refine gr_drew ?_ | refine gr_drewN ?_ _ | refine gr_alloc ?_ _ | refine gr_set ?_ ?_ _ | refine gr_call ?_ (by assumption)) <;> (try (simp; done)) <;> (try (simp; omega)) <;> (try omega))⟩
  go_wp2_with fail
  refine (c155.out _ _).mono ?_
  rintro e w' ⟨rfl, rfl⟩
  rcases q4 : mayT (L h.pre) 155 with _ | _
  · go_wp2_with fail
    go_ret
    exact ⟨ret_bool (by simp [mayH, mayTs, mayNs, q4]), by (repeat' (first | exact Below.refl _ _ | assumption | refine gr_drew ?_ | refine gr_drewN ?_ _ | refine gr_alloc ?_ _ | refine gr_set ?_ ?_ _ | refine gr_call ?_ (by assumption)) <;> (try (simp; done)) <;> (try (simp; omega)) <;> (try omega))⟩
  go_wp2_with fail
  refine (kmode.out _).mono ?_
  rintro e w1 ⟨rfl, hbw1⟩
  have hb1 := hb0.kept hbw1 hb0.size
  clear hb0
  have c1 := hb1.cell_some 2 _ rfl
  rcases q5 : mayN h.mode 8 with _ | _
  · go_wp2_with fail
    go_ret
    exact ⟨ret_bool (by simp [mayH, mayTs, mayNs, q5]), by (repeat' (first | exact Below.refl _ _ | assumption | refine gr_drew ?_ | refine gr_drewN ?_ _ | refine gr_alloc ?_ _ | refine gr_set ?_ ?_ _ | refine gr_call ?_ (by assumption)) <;> (try (simp; done)) <;> (try (simp; omega)) <;> (try omega))⟩
  go_wp2_with fail
  refine (kuid.out _).mono ?_
  rintro e w2 ⟨rfl, hbw2⟩
  have hb2 := hb1.kept hbw2 hb1.size
  clear hb1
  have c2 := hb2.cell_some 3 _ rfl
  rcases q6 : mayN h.uid 8 with _ | _
  · go_wp2_with fail
    go_ret
    exact ⟨ret_bool (by simp [mayH, mayTs, mayNs, q6]), by (repeat' (first | exact Below.refl _ _ | assumption | refine gr_drew ?_ | refine gr_drewN ?_ _ | refine gr_alloc ?_ _ | refine gr_set ?_ ?_ _ | refine gr_call ?_ (by assumption)) <;> (try (simp; done)) <;> (try (simp; omega)) <;> (try omega))⟩
  go_wp2_with fail
  refine (kgid.out _).mono ?_
  rintro e w3 ⟨rfl, hbw3⟩
  have hb3 := hb2.kept hbw3 hb2.size
  clear hb2
  have c3 := hb3.cell_some 10 _ rfl
  rcases q7 : mayN h.gid 8 with _ | _
  · go_wp2_with fail
    go_ret
    exact ⟨ret_bool (by simp [mayH, mayTs, mayNs, q7]), by (repeat' (first | exact Below.refl _ _ | assumption | refine gr_drew ?_ | refine gr_drewN ?_ _ | refine gr_alloc ?_ _ | refine gr_set ?_ ?_ _ | refine gr_call ?_ (by assumption)) <;> (try (simp; done)) <;> (try (simp; omega)) <;> (try omega))⟩
  go_wp2_with fail
  refine (kmajor.out _).mono ?_
  rintro e w4 ⟨rfl, hbw4⟩
  have hb4 := hb3.kept hbw4 hb3.size
  clear hb3
  have c4 := hb4.cell_some 11 _ rfl
  rcases q8 : mayN h.major 8 with _ | _
  · go_wp2_with fail
    go_ret
    exact ⟨ret_bool (by simp [mayH, mayTs, mayNs, q8]), by (repeat' (first | exact Below.refl _ _ | assumption | refine gr_drew ?_ | refine gr_drewN ?_ _ | refine gr_alloc ?_ _ | refine gr_set ?_ ?_ _ | refine gr_call ?_ (by assumption)) <;> (try (simp; done)) <;> (try (simp; omega)) <;> (try omega))⟩
  go_wp2_with fail
  refine (kminor.out _).mono ?_
  rintro e w5 ⟨rfl, hbw5⟩
  have hb5 := hb4.kept hbw5 hb4.size
  clear hb4
  have c5 := hb5.cell_some 4 _ rfl
  rcases q9 : mayN h.minor 8 with _ | _
  · go_wp2_with fail
    go_ret
    exact ⟨ret_bool (by simp [mayH, mayTs, mayNs, q9]), by (repeat' (first | exact Below.refl _ _ | assumption | refine gr_drew ?_ | refine gr_drewN ?_ _ | refine gr_alloc ?_ _ | refine gr_set ?_ ?_ _ | refine gr_call ?_ (by assumption)) <;> (try (simp; done)) <;> (try (simp; omega)) <;> (try omega))⟩
  go_wp2_with fail
  refine (ksize.out _).mono ?_
  rintro e w6 ⟨rfl, hbw6⟩
  have hb6 := hb5.kept hbw6 hb5.size
  clear hb5
  have c6 := hb6.cell_some 5 _ rfl
  rcases q10 : mayN h.size 12 with _ | _
  · go_wp2_with fail
    go_ret
    exact ⟨ret_bool (by simp [mayH, mayTs, mayNs, q10]), by (repeat' (first | exact Below.refl _ _ | assumption | refine gr_drew ?_ | refine gr_drewN ?_ _ | refine gr_alloc ?_ _ | refine gr_set ?_ ?_ _ | refine gr_call ?_ (by assumption)) <;> (try (simp; done)) <;> (try (simp; omega)) <;> (try omega))⟩
  go_wp2_with fail
  refine (kmtime.out _).mono ?_
  rintro e w7 ⟨rfl, hbw7⟩
  have hb7 := hb6.kept hbw7 hb6.size
  clear hb6
  rcases q11 : hasF h.mtime 12 with _ | _
  · go_wp2_with fail
    go_ret
    exact ⟨ret_bool (by simp [mayH, mayTs, mayNs, q11]), by (repeat' (first | exact Below.refl _ _ | assumption | refine gr_drew ?_ | refine gr_drewN ?_ _ | refine gr_alloc ?_ _ | refine gr_set ?_ ?_ _ | refine gr_call ?_ (by assumption)) <;> (try (simp; done)) <;> (try (simp; omega)) <;> (try omega))⟩
  go_wp2_with fail
  go_ret
  exact ⟨ret_bool (by simp [mayH, mayTs, mayNs, q0, q1, q2, q3, q4, q5, q6, q7, q8, q9, q10, q11]), by (repeat' (first | exact Below.refl _ _ | assumption | refine gr_drew ?_ | refine gr_drewN ?_ _ | refine gr_alloc ?_ _ | refine gr_set ?_ ?_ _ | refine gr_call ?_ (by assumption)) <;> (try (simp; done)) <;> (try (simp; omega)) <;> (try omega))⟩
end Go.Proofs.YtbhnhoenjoagbaaGreatDoor.HeadW

/- Package pad by lists of bytes and whole numbers: how many bytes a number of them takes, what fills them, what stands at a place. -/
namespace Go.Proofs.YtbhnhoenjoagbaaGreatDoor.PadW
namespace PadM

def L (s : ByteArray) : List UInt8 := s.data.toList
def strOf (l : List UInt8) : ByteArray := ⟨l.toArray⟩
theorem strOf_L (s : ByteArray) : strOf (L s) = s := by cases s; simp [strOf, L]
theorem L_strOf (l : List UInt8) : L (strOf l) = l := by simp [strOf, L]
theorem size_L (s : ByteArray) : (L s).length = s.size := by simp [L]
theorem strOf_sz (l : List UInt8) : (strOf l).size = l.length := by rw [← size_L, L_strOf]
theorem L_app (a b : ByteArray) : L (a ++ b) = L a ++ L b := bytes_list a b
theorem strOf_app (a b : List UInt8) : strOf a ++ strOf b = strOf (a ++ b) := bytes_ext (by rw [bytes_list]; simp [strOf])
theorem str_L {s : ByteArray} {l : List UInt8} (h : L s = l) : s = strOf l := by rw [← h, strOf_L]

def sz (n : Int) : Int := (max 0 (min n 4611686018427387904) + 511) / 512 * 512
theorem sz_in {n : Int} (h0 : 0 ≤ n) (h1 : n ≤ 4611686018427387904) : n ≤ sz n ∧ sz n < n + 512 ∧ sz n ≤ 4611686018427387904 ∧ sz n % 512 = 0 := by unfold sz; omega
def more (n : Nat) : Nat := (sz n).toNat - n
theorem more_in {n : Nat} (h : n ≤ 1000000) : (sz n).toNat = n + more n ∧ more n < 512 ∧ (n + more n) % 512 = 0 ∧ sz n = (n : Int) + (more n : Int) := by
  have := sz_in (n := n) (by omega) (by omega)
  unfold more
  omega
def padL (l : List UInt8) : List UInt8 := l ++ List.replicate (more l.length) 0
theorem padL_length (l : List UInt8) : (padL l).length = l.length + more l.length := by simp [padL]

def getP (l : List UInt8) (a n : Int) : List UInt8 × Int × Int :=
  if a < 0 ∨ (l.length : Int) < a ∨ n < 0 ∨ 4611686018427387904 < n then ([], 0, 1) else
  if (l.length : Int) - a < sz n then ([], 0, 5) else
  if (((l.drop a.toNat).take (sz n).toNat).drop n.toNat).all (· == 0) then ((l.drop a.toNat).take n.toNat, a + sz n, 0) else ([], 0, 4)
end PadM
end Go.Proofs.YtbhnhoenjoagbaaGreatDoor.PadW

/- The library's functions that package pad calls: strings.Clone, Trim of one byte 0. -/
namespace Go.Proofs.YtbhnhoenjoagbaaGreatDoor.PadW
open Go.RowKit
open PadM
set_option linter.unusedVariables false

theorem clone_any (s : ByteArray) (w : World) (hs : s.size ≤ 281474976710656) :
    Calls Tryz.prog 63 #[.string s] w fun e w' => e = .returned (.string s) ∧ Below w.heap.size w w' := by
  have h := Tryz.stringslite_Clone s
  go_enter Tryz.func63, Tryz.ntmps63
  go_wp2_with fail
  refine (h _ hs).mono ?_
  rintro e w' ⟨rfl, hb⟩
  go_wp2_with fail
  go_ret
  exact ⟨rfl, hb⟩
end Go.Proofs.YtbhnhoenjoagbaaGreatDoor.PadW

/- strings.Repeat of one byte 0, in this program (the builder's copy check ends in a refusal where the shelf's has a panic). -/
namespace Go.Proofs.YtbhnhoenjoagbaaGreatDoor.PadW
open Go.RowKit
open PadM
set_option linter.unusedVariables false

theorem check_f (B b : Nat) (bs : List Value) (w : World) (h : Lib.IsBuilderF 142 5 B b bs w) :
    Calls Tryz.prog 195 #[.pointer (some ⟨b, 0, none⟩)] w fun e w' => e = .returned (.tuple #[]) ∧ (Lib.BuilderAtF 142 5 B b (.pointer (some ⟨b, 0, none⟩)) bs w' ∧ Below B w w') := by
  rcases h with h | h
  · refine (check_fresh b w h.cell0 h.shape h.frozen0).mono ?_
    rintro e w' ⟨rfl, rfl⟩
    exact ⟨rfl, h.used _, (Below.refl B w).setCell (p := ⟨b, 0, none⟩) h.1 _⟩
  · refine (check_used b w h.cell0).mono ?_
    rintro e w' ⟨rfl, rfl⟩
    exact ⟨rfl, h, Below.refl B _⟩

set_option maxHeartbeats 2000000 in
set_option maxRecDepth 100000 in
theorem writeString_f (B b : Nat) (bs : List Value) (s : ByteArray) (w : World) (h : Lib.IsBuilderF 142 5 B b bs w) (hlen : bs.length + s.size ≤ 140737488355328) (hBw : B ≤ w.heap.size) :
    Calls Tryz.prog 135 #[.pointer (some ⟨b, 0, none⟩), .string s] w fun e w' => e = .returned (.tuple #[.int .i64 s.size, .nilIface]) ∧ (Lib.IsBuilderF 142 5 B b (bs ++ Lib.strCells s) w' ∧ Below B w w') := by
  obtain ⟨i0, hi, hz0, hz1, hz2⟩ := info_parts (show (Tryz.prog.info? 5).map (fun i => (i.zero, i.size, i.bytes)) = some (some (.int .u8 0), 1, 1) by kernel_rfl)
  go_enter Tryz.func135, Tryz.ntmps135
  go_wp2_with (go_at_call 195; refine (check_f B b bs _ h).mono ?_)
  rintro e w1 ⟨rfl, h1, hb1⟩
  obtain ⟨hB, v, hbk, hown, hne⟩ := h1
  have hBw1 := hb1.size
  have c0 : w1.cell? ⟨b, 0, none⟩ = some (.pointer (some ⟨b, 0, none⟩)) := by rw [Lib.cell_of_heap hbk]; rfl
  have c1 : w1.cell? ⟨b, 1, none⟩ = some v := by rw [Lib.cell_of_heap hbk]; rfl
  have hlt : b < w1.heap.size := (Array.getElem?_eq_some_iff.1 hbk).1
  go_wp2_with (at_builtin; refine Lib.wpList_append_own_stringF _ rfl _ _ 49 9 rfl B 5 i0 Tryz.underlying49 Tryz.underlying9 hi hz0 hz1 hz2 _ _ _ rfl hown s rfl ?c3 ?c4 ?c5 ?_)
  case c3 => unfold maxLen; omega
  case c4 => omega
  case c5 => omega
  intro v' w2 hown' hgrow _
  have hb2 : w2.heap[b]? = some (.cells #[.pointer (some ⟨b, 0, none⟩), v] 142 (0, 0)) := by
    rw [hgrow.block b hlt (fun e => hne e.symm)]
    exact hbk
  have d1 : w2.cell? ⟨b, 1, none⟩ = some v := by rw [Lib.cell_of_heap hb2]; rfl
  have f1 : w2.frozen? ⟨b, 1, none⟩ = false := Lib.frozen_of_heap hb2 1
  obtain ⟨ao, n', cap, rfl⟩ : ∃ ao n' cap, v' = .slice ao n' cap := by
    rcases hown'.2 with ⟨hv, _⟩ | ⟨g, cap, cur, fz, hv, _⟩
    · exact ⟨_, _, _, hv⟩
    · exact ⟨_, _, _, hv⟩
  go_wp2
  go_ret2
  refine ⟨rfl, .inr ?_, ?_⟩
  · exact Lib.BuilderAtF.put (T := 142) (e := 5) hB hb2 (bs' := bs ++ Lib.strCells s) (by simpa [Lib.strCells_length] using hown') (by decide)
  · exact (hb1.grown hgrow (by omega) (fun k hk => (hown.lt k hk).1)).setCell (p := ⟨b, 1, none⟩) hB _

def Zs (b q : Nat) (w : World) : Prop := Lib.IsBuilderF 142 5 b b (Lib.byteCells (List.replicate q 0)) w
theorem zs_len (b q : Nat) (w : World) (h : Zs b q w) :
    Calls Tryz.prog 140 #[.pointer (some ⟨b, 0, none⟩)] w fun e w' => e = .returned (.int .i64 (q : Int)) ∧ w' = w := by
  have := Tryz.Builder_Len_f b b _ w h
  rw [Lib.byteCells_length, List.length_replicate] at this
  exact this
theorem zs_lt {b q : Nat} {w : World} (h : Zs b q w) : b < w.heap.size := by
  rcases h with h | h
  · obtain ⟨_, v, hb, _⟩ := h; exact (Array.getElem?_eq_some_iff.1 hb).1
  · obtain ⟨_, v, hb, _⟩ := h; exact (Array.getElem?_eq_some_iff.1 hb).1
theorem zs_str (b q : Nat) (w : World) (h : Zs b q w) :
    Calls Tryz.prog 137 #[.pointer (some ⟨b, 0, none⟩)] w fun e w' => e = .returned (.string (strOf (List.replicate q 0))) ∧ (Zs b q w' ∧ Below b w w') :=
  Tryz.Builder_String_any_f b b _ w h (Nat.le_of_lt (zs_lt h))
theorem zs_write (b q k : Nat) (s : ByteArray) (hs : L s = List.replicate k 0) (w : World) (h : Zs b q w) (hq : q + k ≤ 100000) :
    Calls Tryz.prog 135 #[.pointer (some ⟨b, 0, none⟩), .string s] w fun e w' => e = .returned (.tuple #[.int .i64 s.size, .nilIface]) ∧ (Zs b (q + k) w' ∧ Below b w w') := by
  have hz : s.size = k := by rw [← size_L, hs, List.length_replicate]
  refine (writeString_f b b _ s w h (by rw [Lib.byteCells_length, List.length_replicate]; omega) (Nat.le_of_lt (zs_lt h))).mono ?_
  rintro e w' ⟨h1, h2, h3⟩
  refine ⟨h1, ?_, h3⟩
  unfold Zs
  rw [← List.replicate_append_replicate, Lib.byteCells_append, ← hs]
  rw [Lib.strCells_eq] at h2
  exact h2
theorem zs_grow (n : Nat) (w : World) (hn : n ≤ 200000) :
    Calls Tryz.prog 139 #[.pointer (some ⟨w.heap.size, 0, none⟩), .int .i64 (n : Int)] (w.alloc (.cells #[.pointer none, .slice none 0 0] 142)) fun e w' => e = .returned (.tuple #[]) ∧ (Zs w.heap.size 0 w' ∧ Below w.heap.size w w') := by
  refine (Tryz.Builder_Grow_fresh w.heap.size w.heap.size n _ (Nat.le_refl _) (heap_alloc_new w _) (by simp) (by omega)).mono ?_
  rintro e w' ⟨h1, h2, h3⟩
  exact ⟨h1, Lib.IsBuilderF.of (.inr h2), ((Below.refl _ w).alloc (Nat.le_refl _) _).trans h3⟩

theorem run_min_three {P : Program} {w : World} (ts : Array TypeId) (t : TypeId) (k k' k'' : IntKind) (x y z : Int) :
    (Builtin.min_ ts t #[.int k x, .int k' y, .int k'' z]).run P w = .ok (.int k (if z < (if y < x then y else x) then z else (if y < x then y else x))) w := by
  simp [Builtin.min_, Builtin.min2]

set_option maxHeartbeats 3200000 in
set_option maxRecDepth 100000 in
theorem rep_two (c : Nat) (hc2 : 2 ≤ c) (hc : c ≤ 8000) (w : World) :
    Calls Tryz.prog 156 #[.string ⟨#[0]⟩, .int .i64 (c : Int)] w fun e w' => e = .returned (.string (strOf (List.replicate c 0))) ∧ Below w.heap.size w w' := by
  have hMul := Lib.hid (fun w => Tryz.bits_Mul 1 c (by omega) (by omega) w)
  have e1 : 1 * c / 18446744073709551616 = 0 := by omega
  have e2 : 1 * c % 18446744073709551616 = c := by omega
  rw [e1, e2] at hMul
  clear e1 e2
  have hz : (⟨#[0]⟩ : ByteArray).size = 1 := rfl
  have hL : L (⟨#[0]⟩ : ByteArray) = List.replicate 1 0 := rfl
  have hi : ∀ w, (Instr.index 9 (.string ⟨#[0]⟩) (.int .i64 0)).run Tryz.prog w = .ok (.int .u8 0) w := fun w => by kernel_rfl
  obtain ⟨Z, hZ⟩ : ∃ Z : ByteArray, (⟨#[0]⟩ : ByteArray) = Z := ⟨_, rfl⟩
  rw [hZ] at hz hi hL
  rw [hZ]
  clear hZ
  have hL := Lib.hid hL
  go_enter Tryz.func156, Tryz.ntmps156
  go_wp2_with (first
    | (go_at_call 206; go_fit (hMul.out _); rintro e w' ⟨rfl, hw⟩; rw [hw])
    | (go_at_call 139; refine (zs_grow c w (by omega)).mono ?_; rintro e W1 ⟨rfl, h1, b1⟩))
  refine (zs_write w.heap.size 0 1 Z hL.out W1 h1 (by omega)).mono ?_
  rintro e W2 ⟨rfl, h2, b2⟩
  rw [Nat.zero_add] at h2
  have b02 : Below w.heap.size w W2 := b1.trans b2
  clear h1 b1 b2 hMul hi hw
  go_wp2_with fail
  go_loopg [] (c - 1) (fun g wx => ∃ q : Nat, 1 ≤ q ∧ q + g = c ∧ Zs w.heap.size q wx ∧ Below w.heap.size w wx)
  case atStart => exact ⟨1, Nat.le_refl _, by omega, h2, b02⟩
  case round =>
    obtain ⟨q, hq1, hqg, hB, hbx⟩ := hrel
    have cLen := Lib.hid (zs_len w.heap.size q wr hB)
    have cStr := Lib.hid (zs_str w.heap.size q wr hB)
    obtain ⟨S, hS⟩ : ∃ S : ByteArray, strOf (List.replicate q 0) = S := ⟨_, rfl⟩
    rw [hS] at cStr
    cases gk with
    | zero =>
      obtain rfl : q = c := by omega
      have hQn : ¬ ((q : Int) < (q : Int)) := by omega
      go_wp2_with (first
        | (go_at_call 140; go_fit cLen.out; rintro e w' ⟨rfl, hw⟩; rw [hw])
        | (go_at_call 137; go_fit cStr.out; rintro e W3 ⟨rfl, h3, b3⟩))
      go_ret
      exact ⟨by rw [hS]; rfl, hbx.trans b3⟩
    | succ g =>
      have hqc : q < c := by omega
      have hSd : L S = List.replicate q 0 := by rw [← hS, L_strOf]
      have hSz : S.size = q := by rw [← hS, strOf_sz, List.length_replicate]
      have hQn : (q : Int) < (c : Int) := by omega
      obtain ⟨k, hk⟩ : ∃ k : Nat, k = min (c - q) q := ⟨_, rfl⟩
      have hk1 : 1 ≤ k := by omega
      have hkq : k ≤ q := by omega
      have hkc : q + k ≤ c := by omega
      have hmin3 : ∀ (ts : Array TypeId) (t : TypeId) (W : World), (Builtin.min_ ts t #[.int .i64 ((c : Int) - (q : Int)), .int .i64 (q : Int), .int .i64 (c : Int)]).run Tryz.prog W = .ok (.int .i64 (k : Int)) W := fun ts t W => by
        rw [run_min_three]
        congr 2
        omega
      have hX : L (S.extract 0 k) = List.replicate k 0 := by
        show (S.extract 0 k).data.toList = _
        rw [Lib.extract_data]
        have : S.data.toList = List.replicate q 0 := hSd
        rw [this]
        simp
        omega
      have hX := Lib.hid hX
      clear hSd hk hS
      go_wp2_with (first
        | (go_at_call 140; go_fit cLen.out; rintro e w' ⟨rfl, hw⟩; rw [hw])
        | (go_at_call 137; go_fit cStr.out; rintro e W3 ⟨rfl, h3, b3⟩))
      refine (zs_write w.heap.size q k (S.extract 0 k) hX.out W3 h3 (by omega)).mono ?_
      rintro e W4 ⟨rfl, h4, b4⟩
      go_wp2_with fail
      go_roundg (c - (q + k))
      case measure => omega
      case rel => exact ⟨q + k, by omega, by omega, h4, hbx.trans (b3.trans b4)⟩
set_option maxRecDepth 100000 in
theorem rep_zero (w : World) :
    Calls Tryz.prog 156 #[.string ⟨#[0]⟩, .int .i64 0] w fun e w' => e = .returned (.string ⟨#[]⟩) ∧ w = w' := by
  obtain ⟨Z, hZ⟩ : ∃ Z : ByteArray, (⟨#[0]⟩ : ByteArray) = Z := ⟨_, rfl⟩
  rw [hZ]
  clear hZ
  go_enter Tryz.func156, Tryz.ntmps156
  go_wp2
  go_ret
  exact ⟨rfl, rfl⟩
set_option maxRecDepth 100000 in
theorem rep_one (w : World) :
    Calls Tryz.prog 156 #[.string ⟨#[0]⟩, .int .i64 1] w fun e w' => e = .returned (.string ⟨#[0]⟩) ∧ w = w' := by
  obtain ⟨Z, hZ⟩ : ∃ Z : ByteArray, (⟨#[0]⟩ : ByteArray) = Z := ⟨_, rfl⟩
  rw [hZ]
  clear hZ
  go_enter Tryz.func156, Tryz.ntmps156
  go_wp2
  go_ret
  exact ⟨rfl, rfl⟩
theorem rep_any (c : Nat) (x : Int) (hx : x = (c : Int)) (hc : c ≤ 8000) (w : World) :
    Calls Tryz.prog 156 #[.string ⟨#[0]⟩, .int .i64 x] w fun e w' => e = .returned (.string (strOf (List.replicate c 0))) ∧ Below w.heap.size w w' := by
  subst hx
  match c, hc with
  | 0, _ => exact (rep_zero w).mono fun e w' ⟨he, hw⟩ => ⟨he, hw ▸ Below.refl _ _⟩
  | 1, _ => exact (rep_one w).mono fun e w' ⟨he, hw⟩ => ⟨he, hw ▸ Below.refl _ _⟩
  | c + 2, hc => exact rep_two (c + 2) (by omega) hc w
end Go.Proofs.YtbhnhoenjoagbaaGreatDoor.PadW

/- Walks: pad.Size, and the document's. -/
namespace Go.Proofs.YtbhnhoenjoagbaaGreatDoor.PadW
open Go.RowKit
open PadM
set_option linter.unusedVariables false

theorem size_any (n : Int) (w : World) :
    Calls Tryz.prog 155 #[.int .i64 n] w fun e w' => e = .returned (.int .i64 (sz n)) ∧ w = w' := by
  go_enter Tryz.func155, Tryz.ntmps155
  go_wp2_with fail
  all_goals go_ret
  all_goals exact ⟨ret_num (by unfold sz; omega), rfl⟩
end Go.Proofs.YtbhnhoenjoagbaaGreatDoor.PadW

/- A strings.Builder of a call's own by the bytes that it holds (Bld): one byte more, its length, its string, a fresh one grown; the letter at a place. -/
namespace Go.Proofs.YtbhnhoenjoagbaaGreatDoor
open Go.RowKit
set_option linter.unusedVariables false

theorem idx_at {P : Program} {t : TypeId} (ht : P.underlying t = some .string) (S : ByteArray) (i : Nat) (h : i < S.size) : ∃ c : UInt8, S.data.toList[i]? = some c ∧ ∀ w, (Instr.index t (.string S) (.int .i64 (i : Int))).run P w = .ok (.int .u8 (c.toNat : Int)) w := by
  refine ⟨S[i], ?_, ?_⟩
  · rw [List.getElem?_eq_getElem (by simpa using h)]; rfl
  · intro w
    simp [go_sem, ht, h]
theorem drop_at {l : List UInt8} {i : Nat} {c : UInt8} (h : l[i]? = some c) : l.drop i = c :: l.drop (i + 1) := by
  obtain ⟨hi, rfl⟩ := List.getElem?_eq_some_iff.1 h
  exact List.drop_eq_getElem_cons hi
theorem writeByte_b (b : Nat) (l : List UInt8) (c : UInt8) (x : Int) (hx : x = (c.toNat : Int)) (w : World) (h : Bld b l w) (hlen : l.length + 1 ≤ 100000) (hb : b < w.heap.size) :
    Calls Tryz.prog 134 #[.pointer (some ⟨b, 0, none⟩), .int .u8 x] w fun e w' => e = .returned .nilIface ∧ (Bld b (l ++ [c]) w' ∧ Below b w w') := by
  subst hx
  refine (writeByte_any b b _ (c.toNat : Int) w h (by rw [Lib.byteCells_length]; omega) (Nat.le_of_lt hb)).mono ?_
  rintro e w' ⟨h1, h2, h3⟩
  refine ⟨h1, ?_, h3⟩
  unfold Bld
  rw [Lib.byteCells_append]
  exact h2
theorem writeFill_b (b : Nat) (l : List UInt8) (w : World) (h : Bld b l w) (hlen : l.length + 1 ≤ 100000) (hb : b < w.heap.size) :
    Calls Tryz.prog 135 #[.pointer (some ⟨b, 0, none⟩), .string ⟨#[61]⟩] w fun e w' => e = .returned (.tuple #[.int .i64 1, .nilIface]) ∧ (Bld b (l ++ [61]) w' ∧ Below b w w') := by
  refine (writeString_any b b _ ⟨#[61]⟩ w h (by rw [Lib.byteCells_length]; show l.length + 1 ≤ _; omega) (Nat.le_of_lt hb)).mono ?_
  rintro e w' ⟨h1, h2, h3⟩
  refine ⟨h1, ?_, h3⟩
  unfold Bld
  rw [Lib.byteCells_append]
  exact h2
theorem writeStr_b (b : Nat) (l : List UInt8) (s : ByteArray) (w : World) (h : Bld b l w) (hlen : l.length + s.size ≤ 1000000) (hb : b < w.heap.size) :
    Calls Tryz.prog 135 #[.pointer (some ⟨b, 0, none⟩), .string s] w fun e w' => e = .returned (.tuple #[.int .i64 s.size, .nilIface]) ∧ (Bld b (l ++ s.data.toList) w' ∧ Below b w w') := by
  refine (writeString_any b b _ s w h (by rw [Lib.byteCells_length]; omega) (Nat.le_of_lt hb)).mono ?_
  rintro e w' ⟨h1, h2, h3⟩
  refine ⟨h1, ?_, h3⟩
  unfold Bld
  rw [Lib.byteCells_append]
  exact h2
theorem newBld (w : World) : Bld w.heap.size [] (w.alloc (.cells #[.pointer none, .slice none 0 0] 142)) :=
  .inl ⟨Nat.le_refl _, _, heap_alloc_new w _, World.ownsRow_nil _ _ _ _, by simp [Value.ownBlock]⟩
theorem bld_lt {b : Nat} {l : List UInt8} {w : World} (h : Bld b l w) : b < w.heap.size := by
  rcases h with h | h <;> exact h.lt
def bldLen (b : Nat) (w : World) : Nat := match w.cell? ⟨b, 1, none⟩ with
  | some (.slice _ n _) => n
  | _ => 0
theorem bldLen_of {b : Nat} {l : List UInt8} {w : World} (h : Bld b l w) : bldLen b w = l.length := by
  obtain ⟨p, hB, v, hbk, hown, hne⟩ : ∃ p, Lib.BuilderAt 142 5 b b p (Lib.byteCells l) w := by
    rcases h with h | h
    · exact ⟨_, h⟩
    · exact ⟨_, h⟩
  have c1 : w.cell? ⟨b, 1, none⟩ = some v := by rw [Lib.cell_of_heap hbk]; rfl
  rw [Lib.byteCells_length] at hown
  unfold bldLen
  rw [c1]
  rcases hown.2 with ⟨hv, h0⟩ | ⟨g, cap, cur, hv, _⟩
  · subst hv; simpa using h0.symm
  · subst hv; rfl
theorem len_b (b : Nat) (l : List UInt8) (w : World) (h : Bld b l w) :
    Calls Tryz.prog 140 #[.pointer (some ⟨b, 0, none⟩)] w fun e w' => e = .returned (.int .i64 (l.length : Int)) ∧ w' = w := by
  have := Tryz.Builder_Len b b _ w h
  rw [Lib.byteCells_length] at this
  exact this
theorem string_b (b : Nat) (l : List UInt8) (w : World) (h : Bld b l w) :
    Calls Tryz.prog 137 #[.pointer (some ⟨b, 0, none⟩)] w fun e w' => e = .returned (.string ⟨l.toArray⟩) ∧ Below b w w' := by
  refine (Tryz.Builder_String_any b b l w h (Nat.le_of_lt (bld_lt h))).mono ?_
  rintro e w' h1
  exact h1
theorem grow_b (n : Nat) (x : Int) (hx : x = (n : Int)) (w : World) (hn : n ≤ 200000) :
    Calls Tryz.prog 139 #[.pointer (some ⟨w.heap.size, 0, none⟩), .int .i64 x] (w.alloc (.cells #[.pointer none, .slice none 0 0] 142)) fun e w' => e = .returned (.tuple #[]) ∧ (Bld w.heap.size [] w' ∧ Below w.heap.size w w') := by
  subst hx
  refine (Tryz.Builder_Grow_fresh w.heap.size w.heap.size n _ (Nat.le_refl _) (heap_alloc_new w _) (by simp) (by omega)).mono ?_
  rintro e w' ⟨h1, h2, h3⟩
  exact ⟨h1, .inr h2, ((Below.refl _ w).alloc (Nat.le_refl _) _).trans h3⟩
end Go.Proofs.YtbhnhoenjoagbaaGreatDoor
