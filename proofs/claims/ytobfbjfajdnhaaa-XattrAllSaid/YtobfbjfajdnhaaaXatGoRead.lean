/- Package xattr: read. -/
import Derived.Test.YtobfbjfajdnhaaaXatGoWith
import Derived.Test.YtobfbjfajdnhaaaXatGoMay2
import Derived.Test.YtobfbjfajdnhaaaXatRefFrom
namespace Go.Proofs.Ytobfbjfajdnhaaa
open Go.RowKit
open XatM
set_option linter.unusedVariables false

theorem put_ge (l : List Xa) (a : Xa) : l.length ≤ (putX l a).length := by
  induction l with
  | nil => simp
  | cons y l ih =>
    unfold putX
    split
    · simp only [List.length_cons]; omega
    · split <;> simp only [List.length_cons] <;> omega
theorem from_ge {acc l : List Xa} {rs : List Xa} (hf : fromGo acc rs = some l) : acc.length ≤ l.length := by
  induction rs generalizing acc with
  | nil => obtain rfl := Option.some.inj hf; exact Nat.le_refl _
  | cons r rs ih =>
    rcases hr : recX r with _ | _ | x
    · rw [from_cons_none hr] at hf; exact ih hf
    · rw [from_cons_bad hr] at hf; cases hf
    · rw [from_cons_some hr] at hf
      exact Nat.le_trans (put_ge acc x) (ih hf)
/-- What is left to say. -/
def restL (acc rs : List Xa) : Option (List Xa) := match fromGo acc rs with
  | some l => if mayL l then some l else none
  | none => none
theorem rest_none {acc rs : List Xa} {r : Xa} (h : recX r = none) : restL acc (r :: rs) = restL acc rs := by unfold restL; rw [from_cons_none h]
theorem rest_bad {acc rs : List Xa} {r : Xa} (h : recX r = some none) : restL acc (r :: rs) = none := by unfold restL; rw [from_cons_bad h]
theorem rest_some {acc rs : List Xa} {r x : Xa} (h : recX r = some (some x)) : restL acc (r :: rs) = restL (putX acc x) rs := by unfold restL; rw [from_cons_some h]
theorem rest_more {acc rs : List Xa} (h : ¬ acc.length ≤ 32) : restL acc rs = none := by
  unfold restL
  rcases hf : fromGo acc rs with _ | l
  · rfl
  · have := from_ge hf
    have hm : mayL l = false := by unfold mayL; rw [decide_eq_false (by omega)]; rfl
    simp only [hm]
    rfl
theorem rest_nil (acc : List Xa) : restL acc [] = if mayL acc then some acc else none := rfl
/-- How read ends. -/
def readEnd (B : Nat) (o : Option (List Xa)) (e : Ending) (w' : World) : Prop := match o with
  | some l => ∃ v, e = .returned v ∧ Row xatE B v l w'
  | none => e = .panicked noXat
attribute [local irreducible] Row At

set_option maxHeartbeats 3200000 in
set_option maxRecDepth 100000 in
theorem read_go (v : Value) (rs : List Xa) (w : World) (hat : At recE v rs w) (hl : rs.length ≤ 1000000) (hsz : ∀ x ∈ rs, x.1.length ≤ 20000 ∧ x.2.length ≤ 20000) :
    Calls Try.prog 22 #[v] w fun e w' => readEnd w.heap.size (fromL rs) e w' ∧ Below w.heap.size w w' := by
  obtain ⟨o, ho⟩ : ∃ o, fromL rs = o := ⟨_, rfl⟩
  have Ho := Lib.hid (show restL [] (rs.drop 0) = o by rw [List.drop_zero]; exact ho)
  rw [ho]
  clear ho
  obtain ⟨z, hz⟩ : ∃ z, rs.length = z := ⟨_, rfl⟩
  obtain ⟨p, cap, rfl, hcap, hcell⟩ := two_look rec_two hat
  rw [hz] at hl hcap hat ⊢
  have Hcell := Lib.hid hcell
  have Hz := Lib.hid hz
  have Hsz := Lib.hid hsz
  clear hcell hz hat hsz
  go_enter Try.func22, Try.ntmps22
  go_wp2_with fail
  go_loopw [3, 10] (fun lv iv wr => ∃ (i : Nat) (acc : List Xa), iv = .int .i64 (i : Int) ∧ i ≤ z ∧ Row xatE w.heap.size lv acc wr ∧ Below w.heap.size w wr ∧ acc.length ≤ 32 ∧ Hid (PW acc) ∧ Hid (restL acc (rs.drop i) = o)) (fun _ iv _ => z - (intOf iv).toNat)
  case atStart => exact ⟨0, [], rfl, by omega, Row.nil _ _, Below.refl _ _, by simp, Lib.hid List.Pairwise.nil, Lib.hid Ho.out⟩
  case round =>
    obtain ⟨i, acc, rfl, hi, hR, hbl, hacc, HP, HR⟩ := hrel
    rename World => wr
    obtain ⟨q, cp, hsh, _⟩ := hR.at.shape
    obtain ⟨j, hj⟩ : ∃ j, acc.length = j := ⟨_, rfl⟩
    rw [hj] at hsh
    clear hj
    subst hsh
    by_cases hlt : i < z
    · have hlt' : decide ((i : Int) < (z : Int)) = true := decide_eq_true (by omega)
      have hlt2 : decide (i < z) = true := decide_eq_true hlt
      have hi' : i < rs.length := by rw [Hz.out]; exact hlt
      obtain ⟨g, off, rfl, hg, c0, c1⟩ := Hcell.out i hi'
      replace c0 := cell_kept hbl c0
      replace c1 := cell_kept hbl c1
      obtain ⟨s0, s1⟩ := Hsz.out rs[i] (List.getElem_mem hi')
      have HD := Lib.hid (List.drop_eq_getElem_cons hi')
      obtain ⟨r, hr⟩ : ∃ r, rs[i] = r := ⟨_, rfl⟩
      rw [hr] at c0 c1 s0 s1 HD
      obtain ⟨K, hK⟩ : ∃ O, strOf r.1 = O := ⟨_, rfl⟩
      obtain ⟨V, hV⟩ : ∃ O, strOf r.2 = O := ⟨_, rfl⟩
      have hKV : (K.data.toList, V.data.toList) = r := by rw [← hK, ← hV, strOf_list, strOf_list]
      have hd := Lib.hid (fun W => decode_go K V (by rw [← hK, strOf_size]; omega) (by rw [← hV, strOf_size]; omega) W)
      rw [hKV] at hd
      rw [hK] at c0
      rw [hV] at c1
      clear hK hV hKV hr hi' s0 s1
      rcases hrec : recX r with _ | _ | x
      · have HN := Lib.hid (show restL acc (rs.drop (i + 1)) = o by rw [← HR.out, HD.out, rest_none hrec])
        rw [hrec] at hd
        clear hrec HD HR
        go_wp2_with fail
        refine (hd.out _).mono ?_
        rintro e w2 ⟨he, hb2⟩
        obtain rfl : e = .returned (.tuple #[.agg #[.string ⟨#[]⟩, .string ⟨#[]⟩], .bool false]) := he
        have hb3 : Below wr.heap.size wr w2 := (gr_alloc (Below.refl _ _) _).trans (hb2.mono (by simp))
        replace hR := hR.call hb3
        replace hbl := gr_call hbl hb3
        clear hb2 hb3 hd
        go_wp2_with fail
        go_roundw
        case rel => exact ⟨i + 1, acc, rfl, by omega, hR.alloc _, gr_alloc hbl _, hacc, HP, HN⟩
        case measure => simp only [intOf]; omega
      · have HN := Lib.hid (show none = o by rw [← HR.out, HD.out, rest_bad hrec])
        rw [hrec] at hd
        clear hrec HD HR
        go_wp2_with fail
        refine (hd.out _).mono ?_
        rintro e w2 ⟨he, hb2⟩
        obtain rfl : e = .panicked noXat := he
        have hb3 : Below wr.heap.size wr w2 := (gr_alloc (Below.refl _ _) _).trans (hb2.mono (by simp))
        replace hbl := gr_call hbl hb3
        clear hb2 hb3 hd
        go_wp2_with fail
        exact ⟨rfl, by rw [← HN.out]; rfl, hbl⟩
      · have HN := Lib.hid (show restL (putX acc x) (rs.drop (i + 1)) = o by rw [← HR.out, HD.out, rest_some hrec])
        have HP2 := Lib.hid (put_pw (a := x) HP.out)
        rw [hrec] at hd
        clear hrec HD HR
        have hw := Lib.hid (fun W (h : Row xatE w.heap.size (.slice q j cp) acc W) (hb : w.heap.size ≤ W.heap.size) => with_any w.heap.size (.slice q j cp) acc x W h HP.out hacc hb)
        obtain ⟨N, hN⟩ : ∃ O, strOf x.1 = O := ⟨_, rfl⟩
        obtain ⟨U, hU⟩ : ∃ O, strOf x.2 = O := ⟨_, rfl⟩
        have htv : twoV x = .agg #[.string N, .string U] := by unfold twoV; rw [hN, hU]
        have hd2 : Hid (∀ W, Calls Try.prog 36 #[.agg #[.string K, .string V]] W fun e w' => e = .returned (.tuple #[.agg #[.string N, .string U], .bool true]) ∧ Below W.heap.size W w') := Lib.hid (fun W => by
          have h := hd.out W
          rw [← htv]
          exact h)
        rw [htv] at hw
        clear hN hU htv hd
        go_wp2_with fail
        refine (hd2.out _).mono ?_
        rintro e w2 ⟨rfl, hb2⟩
        have hb3 : Below wr.heap.size wr w2 := (gr_alloc (Below.refl _ _) _).trans (hb2.mono (by simp))
        replace hR := hR.call hb3
        replace hbl := gr_call hbl hb3
        clear hb2 hb3 hd2
        have hw2 := Lib.hid (hw.out _ (hR.alloc (.cells #[.string N, .string U] 42)) (by have := hbl.size; simp; omega))
        have hbA : Below w.heap.size w (w2.alloc (.cells #[.string N, .string U] 42)) := gr_alloc hbl _
        clear hw hbl hR
        go_wp2_with fail
        refine (hw2.out).mono ?_
        rintro e w3 ⟨he, hb3⟩
        replace hbA := hbA.trans hb3
        clear hb3 hw2
        unfold withEnd at he
        by_cases h32 : (putX acc x).length ≤ 32
        · rw [if_pos h32] at he
          obtain ⟨v', rfl, hR⟩ := he
          go_wp2_with fail
          go_roundw
          case rel => exact ⟨i + 1, _, rfl, by omega, hR, hbA, h32, HP2, HN⟩
          case measure => simp only [intOf]; omega
        · rw [if_neg h32] at he
          subst he
          have HE := Lib.hid (show none = o by rw [← HN.out, rest_more h32])
          clear h32 HN
          go_wp2_with fail
          exact ⟨rfl, by rw [← HE.out]; rfl, hbA⟩
    · have hlt' : decide ((i : Int) < (z : Int)) = false := decide_eq_false (by omega)
      have hlt2 : decide (i < z) = false := decide_eq_false hlt
      have HN := Lib.hid (show (if mayL acc then some acc else none) = o by rw [← HR.out, List.drop_eq_nil_of_le (by rw [Hz.out]; omega), rest_nil])
      have hm := Lib.hid (MayX_go EscW.Put_any (.slice q j cp) acc wr hR.at (by omega))
      clear HR
      rcases hmy : mayL acc with _ | _
      · rw [hmy] at hm HN
        have HE : Hid (none = o) := Lib.hid HN.out
        clear HN hmy
        go_wp2_with fail
        refine (hm.out).mono ?_
        rintro e w2 ⟨rfl, hb2⟩
        replace hbl := gr_call hbl hb2
        clear hb2
        go_wp2_with fail
        exact ⟨rfl, by rw [← HE.out]; rfl, hbl⟩
      · rw [hmy] at hm HN
        have HE : Hid (some acc = o) := Lib.hid HN.out
        clear HN hmy
        go_wp2_with fail
        refine (hm.out).mono ?_
        rintro e w2 ⟨rfl, hb2⟩
        replace hbl := gr_call hbl hb2
        replace hR := hR.call hb2
        clear hb2
        go_wp2_with fail
        go_ret
        exact ⟨by rw [← HE.out]; exact ⟨_, rfl, hR⟩, hbl⟩
end Go.Proofs.Ytobfbjfajdnhaaa
