/- Bundle of 4 texts. -/
import Derived.Test.YtbhnhoenjoagbaaGreatDoorPk08
import Derived.Test.YtbhnhoenjoagbaaGreatDoorPk07
import Derived.Test.YtbhnhoenjoagbaaGreatDoorKit
import Derived.Test.YtbhnhoenjoagbaaGreatDoorRows
import Derived.Lib.LaidTab
import Derived.OpenShut
import Derived.ChangeOld
/- Walks over package rec: Join. -/
namespace Go.Proofs.YtbhnhoenjoagbaaGreatDoor.RecW
open Go.RowKit
open RecM
set_option linter.unusedVariables false

theorem _root_.Go.Proofs.YtbhnhoenjoagbaaGreatDoor.Bld.alloc {b : Nat} {l : List UInt8} {w : World} (h : Bld b l w) (o : Obj) : Bld b l (w.alloc o) := h.keep (gr_alloc (Below.refl _ w) o)
theorem join_succ (l : List (List UInt8 × List UInt8)) (i : Nat) (h : i < l.length) : joinF (l.take (i + 1)) = joinF (l.take i) ++ putF l[i].1 l[i].2 := by
  rw [List.take_succ_eq_append_getElem h]
  unfold joinF
  rw [List.map_append, List.flatten_append, List.map_cons, List.map_nil, List.flatten_cons, List.flatten_nil, List.append_nil]
theorem put_len (k v : List UInt8) (h : k.length + v.length ≤ 9000) : (putF k v).length ≤ 9009 := by
  unfold putF
  split
  · have h1 := enc_length k v (by omega)
    have h2 := (lenF_bounds (3 + k.length + v.length)).2
    omega
  · simp
theorem join_len (l : List (List UInt8 × List UInt8)) (h : ∀ r ∈ l, r.1.length + r.2.length ≤ 9000) : (joinF l).length ≤ l.length * 9009 := by
  induction l with
  | nil => simp [joinF]
  | cons r l ih =>
    have h1 := put_len r.1 r.2 (h r (List.mem_cons_self ..))
    have h2 := ih (fun y hy => h y (List.mem_cons_of_mem _ hy))
    have e : joinF (r :: l) = putF r.1 r.2 ++ joinF l := by unfold joinF; rw [List.map_cons, List.flatten_cons]
    rw [e, List.length_append, List.length_cons]
    omega

set_option maxHeartbeats 1600000 in
theorem join_any (v : Value) (l : List (List UInt8 × List UInt8)) (w : World) (hA : AmbB w) (hat : RecAt v l w) (hs : ∀ r ∈ l, r.1.length + r.2.length ≤ 9000) (hl : l.length ≤ 100) :
    Calls Tryz.prog 120 #[v] w fun e w' => e = .returned (.string (strOf (joinF l))) ∧ Below w.heap.size w w' := by
  obtain ⟨p, cap, rfl⟩ := hat.shape
  obtain ⟨n, hn⟩ : ∃ n, l.length = n := ⟨_, rfl⟩
  have HN := Lib.hid hn
  have HS := Lib.hid hs
  have Hat := Lib.hid hat
  rw [hn] at hl ⊢
  clear hs hat hn
  go_enter Tryz.func120, Tryz.ntmps120
  go_wp2_with fail
  go_loopw [8] (fun iv wr => ∃ i : Nat, iv = .int .i64 (i : Int) ∧ i ≤ n ∧ Bld w.heap.size (joinF (l.take i)) wr ∧ Below w.heap.size w wr) (fun iv _ => n - (intOf iv).toNat)
  case atStart => exact ⟨0, rfl, by omega, newBld w, by (repeat' (first | exact Below.refl _ _ | assumption | refine gr_drew ?_ | refine gr_drewN ?_ _ | refine gr_alloc ?_ _ | refine gr_set ?_ ?_ _ | refine gr_call ?_ (by assumption)) <;> (try (simp; done)) <;> (try (simp; omega)) <;> (try omega))⟩
  case round =>
    obtain ⟨i, rfl, hi, hB, hbl⟩ := hrel
    rename_i wr
    by_cases hlt : i < n
    · have hlt' : decide ((i : Int) < (n : Int)) = true := decide_eq_true (by omega)
      have hlt2 : decide (i < n) = true := decide_eq_true hlt
      have hil : i < l.length := by rw [HN.out]; exact hlt
      obtain ⟨g, cap', ev, hc, hg, hj⟩ := Hat.out.open (by intro e; rw [e] at hil; simp at hil)
      simp only [Value.slice.injEq] at ev
      obtain ⟨rfl, _, rfl⟩ := ev
      have c0 := cell_kept hbl (hj i hil).1
      have c1 := cell_kept hbl (hj i hil).2
      rw [Nat.mul_comm 2 i] at c0 c1
      have hsz := HS.out l[i] (List.getElem_mem hil)
      have Hsucc := Lib.hid (join_succ l i hil)
      have hjl := join_len (l.take (i + 1)) (fun r hr => HS.out r (List.mem_of_mem_take hr))
      rw [Hsucc.out, List.length_append, List.length_take] at hjl
      obtain ⟨r, hr⟩ : ∃ r, l[i] = r := ⟨_, rfl⟩
      rw [hr] at c0 c1 hsz Hsucc hjl
      obtain ⟨k, u⟩ := r
      dsimp only at c0 c1 hsz Hsucc hjl
      have hp := Lib.hid (fun W h => put_any (strOf k) (strOf u) (by rw [strOf_size, strOf_size]; omega) W h)
      rw [strOf_list, strOf_list] at hp
      have hw1 : (joinF (l.take i)).length + (strOf (putF k u)).size ≤ 1000000 := by rw [strOf_size]; omega
      have HP := Lib.hid (strOf_list (putF k u))
      have i1 : (i : Int) < (n : Int) := by omega
      have i0 : (0 : Int) ≤ (i : Int) := by omega
      generalize putF k u = P at *
      have hB2 := hB.alloc (.cells #[.string (strOf k), .string (strOf u)] 28)
      clear hj hr hsz hjl hlt hB
      go_wp2_with fail
      refine (hp.out _ (hA.on (by (repeat' (first | exact Below.refl _ _ | assumption | refine gr_drew ?_ | refine gr_drewN ?_ _ | refine gr_alloc ?_ _ | refine gr_set ?_ ?_ _ | refine gr_call ?_ (by assumption)) <;> (try (simp; done)) <;> (try (simp; omega)) <;> (try omega))))).mono ?_
      rintro e w1 ⟨rfl, hb1⟩
      have hB3 := hB2.keep hb1
      have hbl1 : Below w.heap.size w w1 := by (repeat' (first | exact Below.refl _ _ | assumption | refine gr_drew ?_ | refine gr_drewN ?_ _ | refine gr_alloc ?_ _ | refine gr_set ?_ ?_ _ | refine gr_call ?_ (by assumption)) <;> (try (simp; done)) <;> (try (simp; omega)) <;> (try omega))
      clear hB2 hb1
      go_wp2_with fail
      refine (writeStr_b w.heap.size _ (strOf P) w1 hB3 hw1 (bld_lt hB3)).mono ?_
      rintro e w2 ⟨rfl, hB4, hb2⟩
      rw [HP.out, ← Hsucc.out] at hB4
      have hbl2 : Below w.heap.size w w2 := hbl1.trans hb2
      clear hB3 hb2
      go_wp2_with fail
      go_roundw
      case rel => exact ⟨i + 1, by go_num, by omega, hB4, hbl2⟩
      case measure => simp only [intOf]; omega
    · have hlt' : decide ((i : Int) < (n : Int)) = false := decide_eq_false (by omega)
      have hlt2 : decide (i < n) = false := decide_eq_false hlt
      rw [List.take_of_length_le (by rw [HN.out]; omega)] at hB
      clear hlt
      go_wp2_with fail
      refine (string_b _ _ _ hB).mono ?_
      rintro e w2 ⟨rfl, hb2⟩
      go_wp2_with fail
      go_ret
      exact ⟨rfl, hbl.trans hb2⟩
end Go.Proofs.YtbhnhoenjoagbaaGreatDoor.RecW

/- Walks over the document's answer for records: digits, a byte of a text, a record's bytes, whether it may be. -/
namespace Go.Proofs.YtbhnhoenjoagbaaGreatDoor.RecW
open Go.RowKit
open DecM
open RecM
open Go.Lib (decDigits itoa)
set_option linter.unusedVariables false

theorem dec_step (m : Nat) (h : 10 ≤ m) : decDigits m = decDigits (m / 10) ++ [UInt8.ofNat (48 + m % 10)] := by
  rw [decDigits, dif_neg (by omega)]
theorem refDigits_any (n : Nat) (w : World) (hn : n < 9223372036854775808) :
    Calls Tryz.prog 75 #[.int .i64 n] w fun e w' => e = .returned (.string (strOf (decDigits n))) ∧ Below w.heap.size w w' := by
  have hl : (decDigits n).length ≤ 19 := dec_len 18 n (by omega)
  have Hl := Lib.hid hl
  clear hl
  go_enter Tryz.func75, Tryz.ntmps75
  go_wp2_with fail
  go_loopw [0, 3] (fun nv sv wr => ∃ (m : Nat) (S : List UInt8), m ≤ n ∧ nv = .int .i64 m ∧ sv = .string ⟨S.toArray⟩ ∧ Hid (decDigits m ++ S = decDigits n) ∧ Below w.heap.size w wr) (fun nv _ _ => (intOf nv).toNat)
  case atStart => exact ⟨n, [], Nat.le_refl _, rfl, rfl, by simp [Hid], Below.refl _ _⟩
  case round =>
    obtain ⟨m, S, hm, rfl, rfl, HS, hbl⟩ := hrel
    have hS : S.length ≤ 19 := by
      have := congrArg List.length HS.out
      have h2 := Hl.out
      simp at this; omega
    by_cases hgo : 10 ≤ m
    · have hu : (48 + (m : Int) % 10) = ((UInt8.ofNat (48 + m % 10)).toNat : Int) := by simp; omega
      have HS' := Lib.hid (show decDigits (m / 10) ++ (UInt8.ofNat (48 + m % 10) :: S) = decDigits n by rw [← HS.out, dec_step m hgo]; simp)
      generalize UInt8.ofNat (48 + m % 10) = u at *
      have hcv := fun W => conv_one (P := Tryz.prog) (src := 49) (dst := 9) Tryz.underlying49 Tryz.underlying5 Tryz.underlying9 u (48 + (m : Int) % 10) hu W
      clear hu HS
      have hbl2 := gr_alloc hbl (.cells #[.int .u8 (48 + (m : Int) % 10)] 5)
      go_wp2
      all_goals
        go_roundw
        case rel => exact ⟨m / 10, u :: S, by omega, by go_num, by rw [one_more], HS', hbl2⟩
        case measure => simp [intOf]; omega
    · have hu : (48 + (m : Int)) = ((UInt8.ofNat (48 + m)).toNat : Int) := by simp; omega
      have Hd := Lib.hid (show decDigits n = UInt8.ofNat (48 + m) :: S by rw [← HS.out, decDigits, dif_pos (by omega)]; rfl)
      generalize UInt8.ofNat (48 + m) = u at *
      have hcv := fun W => conv_one (P := Tryz.prog) (src := 49) (dst := 9) Tryz.underlying49 Tryz.underlying5 Tryz.underlying9 u (48 + (m : Int)) hu W
      have hlt : decide ((10 : Int) ≤ (m : Int)) = false := by simp; omega
      clear hu HS
      go_wp2
      go_ret
      exact ⟨ret_bytes (by rw [Hd.out]; simp), by (repeat' (first | exact Below.refl _ _ | assumption | refine gr_drew ?_ | refine gr_drewN ?_ _ | refine gr_alloc ?_ _ | refine gr_set ?_ ?_ _ | refine gr_call ?_ (by assumption)) <;> (try (simp; done)) <;> (try (simp; omega)) <;> (try omega))⟩

theorem refHas_any (S : ByteArray) (c : UInt8) (x : Int) (hx : x = (c.toNat : Int)) (hS : S.size ≤ 1000000) (w : World) :
    Calls Tryz.prog 95 #[.string S, .int .u8 x] w fun e w' => e = .returned (.bool (S.data.toList.contains c)) ∧ w' = w := by
  obtain ⟨n, hn⟩ : ∃ n, S.size = n := ⟨_, rfl⟩
  have Hx := Lib.hid hx
  obtain ⟨L, hL⟩ : ∃ L, S.data.toList = L := ⟨_, rfl⟩
  have hln := Lib.hid (show L.length = n by rw [← hL, ← hn]; simp)
  have HI := Lib.hid (fun i (h : i < n) => idxAt Tryz.underlying9 S i (by omega))
  rw [hL] at HI ⊢
  rw [hn] at hS
  obtain ⟨r, hr⟩ : ∃ r, L.contains c = r := ⟨_, rfl⟩
  have Hrr := Lib.hid hr
  rw [hr]
  clear hx hL hr
  go_enter Tryz.func95, Tryz.ntmps95
  go_wp2_with fail
  go_loopw [5] (fun iv wr => ∃ i : Nat, iv = .int .i64 (i : Int) ∧ i ≤ n ∧ wr = w ∧ Hid (r = (L.drop i).contains c)) (fun iv _ => n - (intOf iv).toNat)
  case atStart => exact ⟨0, rfl, by omega, rfl, Lib.hid (by simp [← Hrr.out])⟩
  case round =>
    obtain ⟨i, rfl, hi, rfl, HR⟩ := hrel
    by_cases hlt : i < n
    · have hlt' : (i : Int) < (n : Int) := by omega
      obtain ⟨d, hd, hidx⟩ := HI.out i hlt
      by_cases hdc : d = c
      · have heq : ((d.toNat : Int) == x) = true := by rw [hdc, Hx.out]; simp
        have Hr := Lib.hid (show r = true by rw [HR.out, dropAt hd, hdc]; simp)
        clear hd hdc HR
        go_wp2
        go_ret
        exact ⟨ret_bool Hr.out.symm, rfl⟩
      · have heq : ((d.toNat : Int) == x) = false := by rw [Hx.out]; exact toNat_ne hdc
        have Hr := Lib.hid (show r = (L.drop (i + 1)).contains c by rw [HR.out, dropAt hd, List.contains_cons]; simp [Ne.symm hdc])
        clear hd hdc HR
        go_wp2
        go_roundw
        case rel => exact ⟨i + 1, by go_num, by omega, by trivial, Hr⟩
        case measure => simp [intOf]; omega
    · have hlt' : ¬ (i : Int) < (n : Int) := by omega
      have Hr := Lib.hid (show r = false by rw [HR.out, List.drop_eq_nil_of_le (by rw [hln.out]; omega)]; rfl)
      clear HR
      go_wp2
      go_ret
      exact ⟨ret_bool Hr.out.symm, rfl⟩
end Go.Proofs.YtbhnhoenjoagbaaGreatDoor.RecW

/- Walks over the document's answer for records: a record's bytes. -/
namespace Go.Proofs.YtbhnhoenjoagbaaGreatDoor.RecW
open Go.RowKit
open DecM
open RecM
open Go.Lib (decDigits itoa)
set_option linter.unusedVariables false

theorem refRecord_any (K V : ByteArray) (hs : K.size + V.size ≤ 100000) (w : World) :
    Calls Tryz.prog 127 #[.agg #[.string K, .string V]] w fun e w' => e = .returned (.string (strOf (encF K.data.toList V.data.toList))) ∧ Below w.heap.size w w' := by
  obtain ⟨B, hB⟩ : ∃ B : ByteArray, B = (⟨#[32]⟩ : ByteArray) ++ K ++ ⟨#[61]⟩ ++ V ++ ⟨#[10]⟩ := ⟨_, rfl⟩
  obtain ⟨r, hr⟩ : ∃ r, 3 + K.data.toList.length + V.data.toList.length = r := ⟨_, rfl⟩
  have hBl : B.data.toList = 32 :: (K.data.toList ++ 61 :: (V.data.toList ++ [10])) := by rw [hB]; simp
  have hBs : B.size = r := by rw [← len_list, hBl, ← hr]; simp; omega
  have hr1 : r ≤ 100003 := by rw [← hr, len_list, len_list]; omega
  obtain ⟨E, hE⟩ : ∃ E, encF K.data.toList V.data.toList = E := ⟨_, rfl⟩
  have HE := Lib.hid (show decDigits (lenF r) ++ B.data.toList = E by rw [← hE, hBl, ← hr]; rfl)
  have HB := Lib.hid hB
  have HR := Lib.hid (show r = 3 + K.size + V.size by rw [← hr, len_list, len_list])
  rw [hE]
  have hk1 : ¬ 9223372036854775807 < 1 + K.size := by omega
  have hk2 : ¬ 9223372036854775807 < 1 + K.size + 1 := by omega
  have hk3 : ¬ 9223372036854775807 < 1 + K.size + 1 + V.size := by omega
  have hk4 : ¬ 9223372036854775807 < 1 + K.size + 1 + V.size + 1 := by omega
  have hb := lenF_bounds r
  have ht := Lib.hid (lenF_true r (by omega))
  have hl := Lib.hid (lenF_least r)
  clear hr hBl hE hB
  go_enter Tryz.func127, Tryz.ntmps127
  go_wp2_with fail
  go_loopw [4] (fun nv wr => ∃ n : Nat, nv = .int .i64 (n : Int) ∧ r + 1 ≤ n ∧ n ≤ lenF r ∧ Below w.heap.size w wr) (fun nv _ => lenF r - (intOf nv).toNat)
  case atStart => exact ⟨r + 1, by congr 1; have := HR.out; omega, by omega, by omega, by (repeat' (first | exact Below.refl _ _ | assumption | refine gr_drew ?_ | refine gr_drewN ?_ _ | refine gr_alloc ?_ _ | refine gr_set ?_ ?_ _ | refine gr_call ?_ (by assumption)) <;> (try (simp; done)) <;> (try (simp; omega)) <;> (try omega))⟩
  case round =>
    obtain ⟨n, rfl, hn1, hn2, hbl⟩ := hrel
    by_cases hlt : n < lenF r
    · have hne := hl.out n (by omega) hlt
      have hD := dec_digN n (by omega)
      have hdl : (strOf (decDigits n)).size = digN n := by rw [strOf_size, hD]
      have hd6 := digN_bounds n
      have htest : ((n : Int) != 1 + (K.size : Int) + 1 + (V.size : Int) + 1 + ((strOf (decDigits n)).size : Int)) = true := by
        rw [bne_iff_ne]; have := HR.out; omega
      have hd2 : (strOf (decDigits n)).size ≤ 6 := by omega
      have hcall := Lib.hid (refDigits_any n)
      have hn9 : n < 9223372036854775808 := by omega
      have hlt2 : n + 1 ≤ lenF r := hlt
      clear hne hD hlt hdl hd6
      go_wp2_with fail
      refine (hcall.out _ hn9).mono ?_
      rintro e w1 ⟨rfl, hb1⟩
      have hbl1 := gr_call hbl hb1
      go_wp2_with fail
      go_roundw
      case rel => exact ⟨n + 1, by go_num, by omega, by omega, hbl1⟩
      case measure => simp only [intOf]; omega
    · obtain rfl : n = lenF r := by omega
      have hD := dec_digN (lenF r) (by omega)
      have hdl : (strOf (decDigits (lenF r))).size = digN (lenF r) := by rw [strOf_size, hD]
      have hd6 := digN_bounds (lenF r)
      have htest : (((lenF r : Nat) : Int) != 1 + (K.size : Int) + 1 + (V.size : Int) + 1 + ((strOf (decDigits (lenF r))).size : Int)) = false := by
        have := HR.out; have := ht.out
        rw [bne_eq_false_iff_eq]; omega
      have hd2 : (strOf (decDigits (lenF r))).size ≤ 6 := by omega
      have hcall := Lib.hid (refDigits_any (lenF r))
      have hn9 : lenF r < 9223372036854775808 := by omega
      have HL := Lib.hid (show (strOf (decDigits (lenF r)) ++ B) = strOf E by
        apply str_eq
        rw [bytes_list, strOf_list, HE.out])
      rw [HB.out] at HL
      have hcat : ¬ 9223372036854775807 < (strOf (decDigits (lenF r))).size + (1 + K.size + 1 + V.size + 1) := by omega
      generalize lenF r = m at *
      generalize strOf (decDigits m) = D at *
      clear hD hlt hdl hd6
      go_wp2_with fail
      refine (hcall.out _ hn9).mono ?_
      rintro e w1 ⟨rfl, hb1⟩
      have hbl1 := gr_call hbl hb1
      go_wp2_with fail
      refine (hcall.out _ hn9).mono ?_
      rintro e w2 ⟨rfl, hb2⟩
      have hbl2 := gr_call hbl1 hb2
      go_wp2_with fail
      go_ret
      exact ⟨ret_str HL.out, hbl2⟩

theorem refMay_any (K V : ByteArray) (hs : K.size + V.size ≤ 100000) (w : World) :
    Calls Tryz.prog 57 #[.agg #[.string K, .string V]] w fun e w' => e = .returned (.bool (mayB K.data.toList V.data.toList)) ∧ Below w.heap.size w w' := by
  obtain ⟨b, hb⟩ : ∃ b, mayB K.data.toList V.data.toList = b := ⟨_, rfl⟩
  have hm := may_iff K.data.toList V.data.toList
  rw [len_list, len_list] at hm
  have hrec := Lib.hid (refRecord_any K V hs)
  have hlen := enc_length K.data.toList V.data.toList (by rw [len_list, len_list]; omega)
  rw [len_list, len_list] at hlen
  have hlb := lenF_bounds (3 + K.size + V.size)
  have h0 := Lib.hid (refHas_any K 0 0 rfl (by omega))
  have h61 := Lib.hid (refHas_any K 61 61 rfl (by omega))
  rw [hb] at hm ⊢
  have hsz : (strOf (encF K.data.toList V.data.toList)).size = lenF (3 + K.size + V.size) := by rw [strOf_size, hlen]
  generalize strOf (encF K.data.toList V.data.toList) = E at *
  generalize lenF (3 + K.size + V.size) = m at *
  generalize hc0 : K.data.toList.contains (0 : UInt8) = c0 at *
  generalize hc61 : K.data.toList.contains (61 : UInt8) = c61 at *
  have hm0 : (0 : UInt8) ∉ K.data.toList ↔ c0 = false := by rw [← hc0]; simp
  have hm61 : (61 : UInt8) ∉ K.data.toList ↔ c61 = false := by rw [← hc61]; simp
  rw [hm0, hm61] at hm
  have Hm := Lib.hid hm
  clear hm hm0 hm61 hc0 hc61 hlen hb
  by_cases h1 : 1 ≤ K.size
  · have h1' : (0 : Int) < (K.size : Int) := by omega
    by_cases h2 : K.size ≤ 255
    · have h2' : decide ((K.size : Int) ≤ 255) = true := by simp; omega
      cases c0
      · cases c61
        · by_cases h3 : V.size ≤ 65536
          · have h3' : decide ((V.size : Int) ≤ 65536) = true := by simp; omega
            by_cases h4 : m ≤ 65536
            · have h4' : decide ((m : Int) ≤ 65536) = true := by simp; omega
              have Hb := Lib.hid (show b = true by exact Hm.out.2 ⟨h1, h2, rfl, rfl, h4⟩)
              clear Hm
              go_enter Tryz.func57, Tryz.ntmps57
              go_wp2_with fail
              refine (h0.out _).mono ?_
              rintro e w' ⟨rfl, rfl⟩
              go_wp2_with fail
              refine (h61.out _).mono ?_
              rintro e w' ⟨rfl, rfl⟩
              go_wp2_with fail
              refine (hrec.out _).mono ?_
              rintro e w1 ⟨rfl, hb1⟩
              go_wp2_with fail
              go_ret
              exact ⟨ret_bool Hb.out.symm, by (repeat' (first | exact Below.refl _ _ | assumption | refine gr_drew ?_ | refine gr_drewN ?_ _ | refine gr_alloc ?_ _ | refine gr_set ?_ ?_ _ | refine gr_call ?_ (by assumption)) <;> (try (simp; done)) <;> (try (simp; omega)) <;> (try omega))⟩
            · have h4' : decide ((m : Int) ≤ 65536) = false := by simp; omega
              have Hb := Lib.hid (show b = false by cases b with | false => rfl | true => (have hh := Hm.out.1 rfl; first | (simp at hh; done) | (simp at hh; omega) | omega))
              clear Hm
              go_enter Tryz.func57, Tryz.ntmps57
              go_wp2_with fail
              refine (h0.out _).mono ?_
              rintro e w' ⟨rfl, rfl⟩
              go_wp2_with fail
              refine (h61.out _).mono ?_
              rintro e w' ⟨rfl, rfl⟩
              go_wp2_with fail
              refine (hrec.out _).mono ?_
              rintro e w1 ⟨rfl, hb1⟩
              go_wp2_with fail
              go_ret
              exact ⟨ret_bool Hb.out.symm, by (repeat' (first | exact Below.refl _ _ | assumption | refine gr_drew ?_ | refine gr_drewN ?_ _ | refine gr_alloc ?_ _ | refine gr_set ?_ ?_ _ | refine gr_call ?_ (by assumption)) <;> (try (simp; done)) <;> (try (simp; omega)) <;> (try omega))⟩
          · have h3' : decide ((V.size : Int) ≤ 65536) = false := by simp; omega
            have Hb := Lib.hid (show b = false by cases b with | false => rfl | true => (have hh := Hm.out.1 rfl; first | (simp at hh; done) | (simp at hh; omega) | omega))
            clear Hm
            go_enter Tryz.func57, Tryz.ntmps57
            go_wp2_with fail
            refine (h0.out _).mono ?_
            rintro e w' ⟨rfl, rfl⟩
            go_wp2_with fail
            refine (h61.out _).mono ?_
            rintro e w' ⟨rfl, rfl⟩
            go_wp2_with fail
            go_ret
            exact ⟨ret_bool Hb.out.symm, by (repeat' (first | exact Below.refl _ _ | assumption | refine gr_drew ?_ | refine gr_drewN ?_ _ | refine gr_alloc ?_ _ | refine gr_set ?_ ?_ _ | refine gr_call ?_ (by assumption)) <;> (try (simp; done)) <;> (try (simp; omega)) <;> (try omega))⟩
        · skip
          have Hb := Lib.hid (show b = false by cases b with | false => rfl | true => (have hh := Hm.out.1 rfl; first | (simp at hh; done) | (simp at hh; omega) | omega))
          clear Hm
          go_enter Tryz.func57, Tryz.ntmps57
          go_wp2_with fail
          refine (h0.out _).mono ?_
          rintro e w' ⟨rfl, rfl⟩
          go_wp2_with fail
          refine (h61.out _).mono ?_
          rintro e w' ⟨rfl, rfl⟩
          go_wp2_with fail
          go_ret
          exact ⟨ret_bool Hb.out.symm, by (repeat' (first | exact Below.refl _ _ | assumption | refine gr_drew ?_ | refine gr_drewN ?_ _ | refine gr_alloc ?_ _ | refine gr_set ?_ ?_ _ | refine gr_call ?_ (by assumption)) <;> (try (simp; done)) <;> (try (simp; omega)) <;> (try omega))⟩
      · skip
        have Hb := Lib.hid (show b = false by cases b with | false => rfl | true => (have hh := Hm.out.1 rfl; first | (simp at hh; done) | (simp at hh; omega) | omega))
        clear Hm
        go_enter Tryz.func57, Tryz.ntmps57
        go_wp2_with fail
        refine (h0.out _).mono ?_
        rintro e w' ⟨rfl, rfl⟩
        go_wp2_with fail
        go_ret
        exact ⟨ret_bool Hb.out.symm, by (repeat' (first | exact Below.refl _ _ | assumption | refine gr_drew ?_ | refine gr_drewN ?_ _ | refine gr_alloc ?_ _ | refine gr_set ?_ ?_ _ | refine gr_call ?_ (by assumption)) <;> (try (simp; done)) <;> (try (simp; omega)) <;> (try omega))⟩
    · have h2' : decide ((K.size : Int) ≤ 255) = false := by simp; omega
      have Hb := Lib.hid (show b = false by cases b with | false => rfl | true => (have hh := Hm.out.1 rfl; first | (simp at hh; done) | (simp at hh; omega) | omega))
      clear Hm
      go_enter Tryz.func57, Tryz.ntmps57
      go_wp2_with fail
      go_ret
      exact ⟨ret_bool Hb.out.symm, by (repeat' (first | exact Below.refl _ _ | assumption | refine gr_drew ?_ | refine gr_drewN ?_ _ | refine gr_alloc ?_ _ | refine gr_set ?_ ?_ _ | refine gr_call ?_ (by assumption)) <;> (try (simp; done)) <;> (try (simp; omega)) <;> (try omega))⟩
  · have h1' : ¬ (0 : Int) < (K.size : Int) := by omega
    have Hb := Lib.hid (show b = false by cases b with | false => rfl | true => (have hh := Hm.out.1 rfl; first | (simp at hh; done) | (simp at hh; omega) | omega))
    clear Hm
    go_enter Tryz.func57, Tryz.ntmps57
    go_wp2_with fail
    go_ret
    exact ⟨ret_bool Hb.out.symm, by (repeat' (first | exact Below.refl _ _ | assumption | refine gr_drew ?_ | refine gr_drewN ?_ _ | refine gr_alloc ?_ _ | refine gr_set ?_ ?_ _ | refine gr_call ?_ (by assumption)) <;> (try (simp; done)) <;> (try (simp; omega)) <;> (try omega))⟩
theorem refPut_any (K V : ByteArray) (hs : K.size + V.size ≤ 100000) (w : World) :
    Calls Tryz.prog 58 #[.agg #[.string K, .string V]] w fun e w' => e = .returned (.string (strOf (putF K.data.toList V.data.toList))) ∧ Below w.heap.size w w' := by
  have hrec := Lib.hid (refRecord_any K V hs)
  have hmay := Lib.hid (refMay_any K V hs)
  unfold putF
  generalize encF K.data.toList V.data.toList = E at *
  generalize mayB K.data.toList V.data.toList = b at *
  cases b
  · go_enter Tryz.func58, Tryz.ntmps58
    go_wp2_with fail
    refine (hmay.out _).mono ?_
    rintro e w1 ⟨rfl, hb1⟩
    have hg1 := gr_call (gr_alloc (Below.refl _ _) _) hb1
    go_wp2_with fail
    go_ret
    exact ⟨rfl, hg1⟩
  · go_enter Tryz.func58, Tryz.ntmps58
    go_wp2_with fail
    refine (hmay.out _).mono ?_
    rintro e w1 ⟨rfl, hbw1⟩
    have hzw1 := hbw1.size
    try simp at hzw1
    have : w.heap.size < w1.heap.size := by omega
    have : w.heap.size ≤ w1.heap.size := by omega
    have : w1.cell? ⟨w.heap.size, 0, none⟩ = some (.string K) := cell_kept hbw1 (by simp [go_sem, *])
    have : w1.frozen? ⟨w.heap.size, 0, none⟩ = false := free_kept hbw1 (v := .string K) (by simp [go_sem, *]) (by simp [go_sem, *])
    have : w.heap.size < w1.heap.size := by omega
    have : w.heap.size ≤ w1.heap.size := by omega
    have : w1.cell? ⟨w.heap.size, 1, none⟩ = some (.string V) := cell_kept hbw1 (by simp [go_sem, *])
    have : w1.frozen? ⟨w.heap.size, 1, none⟩ = false := free_kept hbw1 (v := .string V) (by simp [go_sem, *]) (by simp [go_sem, *])
    have hg1 := gr_call (gr_alloc (Below.refl _ _) _) hbw1
    go_wp2_with fail
    refine (hrec.out _).mono ?_
    rintro e w2 ⟨rfl, hb2⟩
    have hg2 := gr_call hg1 hb2
    go_wp2_with fail
    go_ret
    exact ⟨rfl, hg2⟩
end Go.Proofs.YtbhnhoenjoagbaaGreatDoor.RecW

/- A listed table of structs and arrays of plain things: its cells are those of its datum, flat, one behind the other. -/
namespace Go.Proofs.YtbhnhoenjoagbaaGreatDoor
namespace TabM
open Go.ChangeShapes

def flat {H : Type} : Nat → DataW H → List Value
  | 0, _ => []
  | n + 1, .agg ds => ds.flatMap (flat n)
  | _ + 1, .lit (.int k z) => [.int k z]
  | _ + 1, .lit (.bool b) => [.bool b]
  | _ + 1, .lit (.string l) => [.string ⟨l.toArray⟩]
  | _ + 1, _ => []
def tiles (P : Program) : Nat → List Field → Nat → Bool
  | off, [], all => off == all
  | off, f :: fs, all => f.offset == off && tiles P (off + P.cellsOf f.type) fs all
def fits {H : Type} (P : Program) : Nat → TypeId → DataW H → Bool
  | 0, _, _ => false
  | n + 1, t, .agg ds => match P.underlying t with
    | some (.array m e) => ds.length == m && P.cellsOf t == m * P.cellsOf e && ds.all (fits P n e)
    | some (.struct fs) => tiles P 0 fs.toList (P.cellsOf t) && ds.length == fs.size && ((fs.toList.zip ds).all fun x => fits P n x.1.type x.2)
    | _ => false
  | _ + 1, t, .lit (.int k _) => match P.underlying t with
    | some (.int k') => k == k'
    | _ => false
  | _ + 1, t, .lit (.bool _) => match P.underlying t with
    | some .bool => true
    | _ => false
  | _ + 1, t, .lit (.string _) => match P.underlying t with
    | some .string => true
    | _ => false
  | _ + 1, _, _ => false

theorem tiles_flat {P : Program} (cs : List Value) : ∀ (fs : List Field) (parts : List (List Value)) (off : Nat), tiles P off fs cs.length = true → parts.length = fs.length →
    (∀ (i : Nat) f, fs[i]? = some f → parts[i]? = some ((cs.drop f.offset).take (P.cellsOf f.type))) → cs.drop off = parts.flatten
  | [], parts, off, ht, hl, _ => by
    simp only [tiles, beq_iff_eq] at ht
    obtain rfl : parts = [] := List.eq_nil_of_length_eq_zero hl
    simp [ht]
  | f :: fs, parts, off, ht, hl, hf => by
    simp only [tiles, Bool.and_eq_true, beq_iff_eq] at ht
    obtain ⟨h0, ht⟩ := ht
    match parts, hl with
    | p :: ps, hl =>
      have ih := tiles_flat cs fs ps _ ht (by simpa using hl) (fun i g hg => by simpa using hf (i + 1) g (by simpa using hg))
      have hp := hf 0 f rfl
      simp only [List.getElem?_cons_zero, Option.some.injEq] at hp
      rw [List.flatten_cons, ← ih, hp, h0, ← List.drop_drop, List.take_append_drop]

theorem flat_of {H : Type} {enc : TypeId × Value → H} {P : Program} {w : World} {base : Nat} {sp : Nat → Bool} {held : Bool} : ∀ (n : Nat) (d : DataW H) (t : TypeId) (fuel : Nat) (cs : List Value) (p : List MemPlace),
    DataW.trod enc P w base sp held fuel t cs = some (d, p) → fits P n t d = true → cs = flat n d
  | 0, _, _, _, _, _, _, hf => by simp [fits] at hf
  | n + 1, .agg ds, t, fuel, cs, p, h, hf => by
    unfold fits at hf
    split at hf
    · rename_i m e hu
      obtain ⟨xs, q, _, hx, hl, hlen, hi⟩ := DataW.trod_array hu h
      simp only [Bool.and_eq_true, beq_iff_eq, List.all_eq_true] at hf
      obtain ⟨⟨h1, h2⟩, h3⟩ := hf
      obtain rfl : ds = xs.map (·.1) := by
        have := congrArg Prod.fst hx
        simpa using this
      have hpart : ∀ i, i < m → (cs.drop (i * P.cellsOf e)).take (P.cellsOf e) = flat n ((xs.map (·.1)).getD i (.agg [])) := by
        intro i hm
        have hi' := hi i hm
        have hxi : xs[i]? = some (xs[i]'(by omega)) := List.getElem?_eq_getElem (by omega)
        rw [hxi] at hi'
        have := flat_of n (xs[i]'(by omega)).1 e q _ (xs[i]'(by omega)).2 hi' (h3 _ (List.mem_map_of_mem (List.getElem_mem (by omega))))
        rw [this]
        simp [List.getD, hxi]
      show cs = (xs.map (·.1)).flatMap (flat n)
      have hgo : ∀ j, j ≤ m → cs.drop ((m - j) * P.cellsOf e) = ((xs.map (·.1)).drop (m - j)).flatMap (flat n) := by
        intro j
        induction j with
        | zero =>
          intro _
          rw [Nat.sub_zero, List.drop_eq_nil_of_le (by omega), List.drop_eq_nil_of_le (by simp; omega)]
          rfl
        | succ j ih =>
          intro hj
          have ih := ih (by omega)
          have e1 : m - j = (m - (j + 1)) + 1 := by omega
          rw [e1] at ih
          have hlt : m - (j + 1) < (xs.map (·.1)).length := by simp; omega
          rw [List.drop_eq_getElem_cons hlt, List.flatMap_cons, ← ih, Nat.add_mul, Nat.one_mul, ← List.drop_drop]
          have := hpart (m - (j + 1)) (by omega)
          rw [show (xs.map (·.1)).getD (m - (j + 1)) (.agg []) = (xs.map (·.1))[m - (j + 1)] by simp only [List.getD, List.getElem?_eq_getElem hlt, Option.getD_some]] at this
          rw [← this, List.take_append_drop]
      have := hgo m (Nat.le_refl _)
      simpa using this
    · rename_i fs hu
      obtain ⟨xs, q, _, hx, hl, hlen, hi⟩ := DataW.trod_struct hu h
      simp only [Bool.and_eq_true, beq_iff_eq, List.all_eq_true] at hf
      obtain ⟨⟨h1, h2⟩, h3⟩ := hf
      obtain rfl : ds = xs.map (·.1) := by
        have := congrArg Prod.fst hx
        simpa using this
      show cs = (xs.map (·.1)).flatMap (flat n)
      rw [← hl] at h1
      have := tiles_flat cs fs.toList ((xs.map (·.1)).map (flat n)) 0 h1 (by simpa using hlen) (by
        intro i f hfi
        have hfi' : fs[i]? = some f := by simpa using hfi
        have hi' := hi i f hfi'
        have hil : i < xs.length := by rw [hlen]; exact (Array.getElem?_eq_some_iff.1 hfi').1
        have hxi : xs[i]? = some xs[i] := List.getElem?_eq_getElem hil
        rw [hxi] at hi'
        have := flat_of n xs[i].1 f.type q _ xs[i].2 hi' (h3 (f, xs[i].1) (by
          rw [List.mem_iff_getElem?]
          exact ⟨i, by simp [List.getElem?_zip_eq_some, hfi', hxi]⟩))
        rw [this]
        simp [hxi])
      rw [List.drop_zero] at this
      rw [List.flatMap_def]
      exact this
    · cases hf
  | n + 1, .lit l, t, fuel, cs, p, h, hf => by
    cases l with
    | int k z =>
      unfold fits at hf
      split at hf
      · rename_i k' hu
        obtain ⟨z', hc, hx, _⟩ := DataW.trod_int hu h
        have hx := congrArg Prod.fst hx
        simp only [DataW.lit.injEq, Lit.int.injEq] at hx
        obtain ⟨rfl, rfl⟩ := hx
        exact hc
      · cases hf
    | bool b =>
      unfold fits at hf
      split at hf
      · rename_i hu
        obtain ⟨z', hc, hx⟩ := DataW.trod_bool hu h
        have hx := congrArg Prod.fst hx
        simp only [DataW.lit.injEq, Lit.bool.injEq] at hx
        obtain rfl := hx
        exact hc
      · cases hf
    | string l =>
      unfold fits at hf
      split at hf
      · rename_i hu
        obtain ⟨z', hc, hx, _⟩ := DataW.trod_string hu h
        have hx := congrArg Prod.fst hx
        simp only [DataW.lit.injEq, Lit.string.injEq] at hx
        obtain rfl := hx
        show cs = [Value.string ⟨z'.data.toList.toArray⟩]
        rw [hc]
      · cases hf
    | _ => simp [fits] at hf
  | _ + 1, .nil, _, _, _, _, _, hf | _ + 1, .ptr _, _, _, _, _, _, hf | _ + 1, .slice _ _, _, _, _, _, _, hf | _ + 1, .iface _ _, _, _, _, _, _, hf | _ + 1, .map _, _, _, _, _, _, hf | _ + 1, .held _, _, _, _, _, _, hf => by simp [fits] at hf

theorem cells_of_head {P : Program} {W : World} {name : String} {d : DataW Unit} {rest : List (String × DataW Unit)} {g : Nat} {t : TypeId} (n : Nat)
    (hg : P.globalNamed name = some g) (hty : (P.globals[g]?).map (·.type) = some t) (hf : fits P n t d = true)
    (h : laidMet P ((name, d) :: rest) W) : ∀ i v, (flat n d)[i]? = some v → W.cell? ⟨g, i, none⟩ = some v := by
  obtain ⟨ps, ⟨g', t', cs, fuel, p, q, hg', ht', hvar, hd, _, _⟩, _⟩ := h
  obtain rfl := Option.some.inj (hg.symm.trans hg')
  obtain rfl := Option.some.inj (hty.symm.trans ht')
  intro i v hv
  rw [World.var?_cell hg hvar i]
  rw [← flat_of n d t fuel cs.toList p hd hf] at hv
  simpa using hv
end TabM
end Go.Proofs.YtbhnhoenjoagbaaGreatDoor
