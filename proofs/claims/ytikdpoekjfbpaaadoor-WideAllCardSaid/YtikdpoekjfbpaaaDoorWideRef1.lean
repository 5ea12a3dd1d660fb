/- The document's answer: the letters of bits, bytes among others, whether a list is valid, whether two are one. -/
import Derived.Test.YtikdpoekjfbpaaaDoorWideRow
import Derived.Deep.QuietTactic
import Derived.Shelf.RegionOpenPlain
namespace Go.Proofs.YtikdpoekjfbpaaaDoor
open Go.RowKit
open WideM
set_option linter.unusedVariables false
attribute [local irreducible] Row At

theorem lets_yes {n i : Nat} {l : List UInt8} {c : UInt8} (hi : l[i]? = some c) (h : n / 2 ^ i % 2 = 1) : lets n (l.take (i + 1)) = lets n (l.take i) ++ [c] := by
  obtain ⟨hl, rfl⟩ := List.getElem?_eq_some_iff.1 hi
  rw [List.take_succ_eq_append_getElem hl, lets_snoc, List.length_take, Nat.min_eq_left (by omega), if_pos h]
theorem lets_no {n i : Nat} {l : List UInt8} {c : UInt8} (hi : l[i]? = some c) (h : ¬ n / 2 ^ i % 2 = 1) : lets n (l.take (i + 1)) = lets n (l.take i) := by
  obtain ⟨hl, rfl⟩ := List.getElem?_eq_some_iff.1 hi
  rw [List.take_succ_eq_append_getElem hl, lets_snoc, List.length_take, Nat.min_eq_left (by omega), if_neg h, List.append_nil]
theorem extract_one (S : ByteArray) (i : Nat) {c : UInt8} (h : S.data.toList[i]? = some c) : S.extract i (i + 1) = strOf [c] := by
  obtain ⟨hl, rfl⟩ := List.getElem?_eq_some_iff.1 h
  refine str_eq ?_
  simp only [ByteArray.data_extract, Array.toList_extract, List.extract]
  rw [List.drop_eq_getElem_cons hl, show i + 1 - i = 1 by omega]
  rfl
/-- The test of a bit. -/
theorem bit_is (n i : Nat) (hn : n < 9223372036854775808) : (bits .and .i64 ((n : Int) / 2 ^ i) 1 == 1) = decide (n / 2 ^ i % 2 = 1) := by
  have e : ((n : Int) / 2 ^ i) = ((n / 2 ^ i : Nat) : Int) := by simp
  have hlt : n / 2 ^ i < 9223372036854775808 := Nat.lt_of_le_of_lt (Nat.div_le_self _ _) hn
  rw [e, show (1 : Int) = ((1 : Nat) : Int) from rfl, and_i64 _ 1 hlt (by omega), Nat.and_one_is_mod]
  by_cases h : n / 2 ^ i % 2 = 1
  · rw [h, decide_eq_true rfl]; rfl
  · rw [decide_eq_false h, beq_eq_false_iff_ne]; omega

set_option maxHeartbeats 1600000 in
theorem refBits_any (n : Nat) (hn : n < 16384) (L : ByteArray) (hL : L.size ≤ 14) (w : World) :
    Calls Tryd.prog 27 #[.int .i64 (n : Int), .string L] w fun e w' => e = .returned (.string (strOf (lets n L.data.toList))) ∧ w = w' := by
  obtain ⟨z, hz⟩ : ∃ z, L.size = z := ⟨_, rfl⟩
  have Hlen := Lib.hid (show L.data.toList.length = z by rw [len_list, hz])
  have Hidx := Lib.hid (fun i h => idxAt (P := Tryd.prog) Tryd.underlying9 L i (by rw [hz]; exact h))
  have Hext := Lib.hid (fun i c h => extract_one L i (c := c) h)
  have hsl : ∀ (i : Nat) (W : World), i < z → (Instr.slice 9 (.string L) (some (.int .i64 (i : Int))) (some (.int .i64 ((i : Int) + 1))) none).run Tryd.prog W = .ok (.string (L.extract i (i + 1))) W := by
    intro i W h1
    have e : ((i : Int) + 1) = ((i + 1 : Nat) : Int) := by omega
    rw [e]
    have h2 : i + 1 ≤ z := h1
    simp [go_sem, hz, h2, -Int.natCast_add]
  have Hsl := Lib.hid hsl
  have Hbit := Lib.hid (fun i => bit_is n i (by omega))
  rw [hz] at hL
  clear hsl
  go_enter Tryd.func27, Tryd.ntmps27
  go_wp2_with fail
  go_loopw [5, 6] (fun sv iv wr => ∃ (i : Nat) (S : ByteArray), iv = .int .i64 (i : Int) ∧ i ≤ z ∧ sv = .string S ∧ S.size ≤ i ∧ Hid (S.data.toList = lets n (L.data.toList.take i)) ∧ wr = w) (fun _ iv _ => z - (intOf iv).toNat)
  case atStart => exact ⟨0, ⟨#[]⟩, rfl, by omega, rfl, by decide, Lib.hid (by simp [lets]), rfl⟩
  case round =>
    obtain ⟨i, S, rfl, hi, rfl, hS, HR, rfl⟩ := hrel
    by_cases hlt : i < z
    · have hlt' : decide ((i : Int) < (z : Int)) = true := decide_eq_true (by omega)
      have hlt2 : decide (i < z) = true := decide_eq_true hlt
      obtain ⟨c, hc, _⟩ := Hidx.out i hlt
      have hb := Hbit.out i
      by_cases hn1 : n / 2 ^ i % 2 = 1
      · rw [decide_eq_true hn1] at hb
        have HE := Lib.hid (lets_yes hc hn1)
        have hsl := fun W => Hsl.out i W hlt
        rw [Hext.out i c hc] at hsl
        obtain ⟨C, hC⟩ : ∃ C, strOf [c] = C := ⟨_, rfl⟩
        have hCs : C.size = 1 := by rw [← hC, strOf_size]; rfl
        have HC := Lib.hid (show C.data.toList = [c] by rw [← hC, strOf_list])
        rw [hC] at hsl
        have hbig : ¬ 9223372036854775807 < S.size + C.size := by omega
        have HT : Hid ((S ++ C).data.toList = lets n (L.data.toList.take (i + 1))) := Lib.hid (by rw [HE.out, ← HR.out, ← HC.out]; simp [bytes_list])
        have hTs : (S ++ C).size ≤ i + 1 := by rw [ByteArray.size_append]; omega
        clear hn1 hc hC HE HR
        go_wp2_with fail
        go_roundw
        case rel => exact ⟨i + 1, _, rfl, by omega, rfl, hTs, HT, trivial⟩
        case measure => simp only [intOf]; omega
      · rw [decide_eq_false hn1] at hb
        have HT := Lib.hid (show S.data.toList = lets n (L.data.toList.take (i + 1)) by rw [HR.out, lets_no hc hn1])
        clear hn1 hc HR
        go_wp2_with fail
        go_roundw
        case rel => exact ⟨i + 1, _, rfl, by omega, rfl, by omega, HT, trivial⟩
        case measure => simp only [intOf]; omega
    · have hlt' : decide ((i : Int) < (z : Int)) = false := decide_eq_false (by omega)
      have hlt2 : decide (i < z) = false := decide_eq_false hlt
      have HE := Lib.hid (show S = strOf (lets n L.data.toList) from str_eq (by rw [HR.out, List.take_of_length_le (by rw [Hlen.out]; omega)]))
      clear HR
      go_wp2_with fail
      go_ret
      exact ⟨by rw [HE.out]; rfl, rfl⟩

theorem any_step {l m : List UInt8} {i : Nat} {c : UInt8} (h : l[i]? = some c) : anyOf (l.drop i) m = (m.contains c || anyOf (l.drop (i + 1)) m) := by rw [dropAt h]; rfl
theorem con_step {m : List UInt8} {k : Nat} {c d : UInt8} (h : m[k]? = some d) (hne : ¬ c = d) : (m.drop k).contains c = (m.drop (k + 1)).contains c := by
  rw [dropAt h, List.contains_cons, beq_eq_false_iff_ne.2 hne, Bool.false_or]
set_option maxHeartbeats 3200000 in
set_option maxRecDepth 100000 in
theorem refHasAny_any (S M : ByteArray) (hS : S.size ≤ 1000000) (hM : M.size ≤ 1000000) (w : World) :
    Calls Tryd.prog 22 #[.string S, .string M] w fun e w' => e = .returned (.bool (anyOf S.data.toList M.data.toList)) ∧ Below w.heap.size w w' := by
  obtain ⟨z, hz⟩ : ∃ z, S.size = z := ⟨_, rfl⟩
  obtain ⟨y, hy⟩ : ∃ y, M.size = y := ⟨_, rfl⟩
  have Hlen := Lib.hid (show S.data.toList.length = z by rw [len_list, hz])
  have Hlen2 := Lib.hid (show M.data.toList.length = y by rw [len_list, hy])
  rw [hz] at hS
  rw [hy] at hM
  have Hidx := Lib.hid (fun i h => idxAt (P := Tryd.prog) Tryd.underlying9 S i (by rw [hz]; exact h))
  have Hidx2 := Lib.hid (fun i h => idxAt (P := Tryd.prog) Tryd.underlying9 M i (by rw [hy]; exact h))
  go_enter Tryd.func22, Tryd.ntmps22
  go_wp2_with fail
  go_loopw [5] (fun iv wr => ∃ (i : Nat), iv = .int .i64 (i : Int) ∧ i ≤ z ∧ Below w.heap.size w wr ∧ Hid (anyOf S.data.toList M.data.toList = anyOf (S.data.toList.drop i) M.data.toList)) (fun iv _ => z - (intOf iv).toNat)
  case atStart => exact ⟨0, rfl, by omega, Below.refl _ _, Lib.hid (by simp)⟩
  case round =>
    obtain ⟨i, rfl, hi, hbl, HR⟩ := hrel
    rename World => w1
    by_cases hlt : i < z
    · have hlt' : decide ((i : Int) < (z : Int)) = true := decide_eq_true (by omega)
      have hlt2 : decide (i < z) = true := decide_eq_true hlt
      obtain ⟨c, hc, hidx⟩ := Hidx.out i hlt
      have HS := Lib.hid (any_step (m := M.data.toList) hc)
      clear hc
      go_wp2_with fail
      go_loopw [6] (fun kv wr => ∃ (k : Nat), kv = .int .i64 (k : Int) ∧ k ≤ y ∧ Below w.heap.size w wr ∧ Hid (M.data.toList.contains c = (M.data.toList.drop k).contains c)) (fun kv _ => y - (intOf kv).toNat)
      case atStart => exact ⟨0, rfl, by omega, hbl, Lib.hid (by simp)⟩
      case round =>
        clear hbl
        obtain ⟨k, rfl, hk, hbl, HK⟩ := hrel
        rename_i wr
        by_cases hkt : k < y
        · have hkt' : decide ((k : Int) < (y : Int)) = true := decide_eq_true (by omega)
          have hkt2 : decide (k < y) = true := decide_eq_true hkt
          obtain ⟨d, hd, hidx2⟩ := Hidx2.out k hkt
          by_cases hcd : c = d
          · subst hcd
            have hs : ((c.toNat : Int) == (c.toNat : Int)) = true := beq_self_eq_true _
            have HE := Lib.hid (show anyOf S.data.toList M.data.toList = true by rw [HR.out, HS.out, HK.out, dropAt hd]; simp)
            clear HR HS HK hd
            go_wp2_with fail
            go_quiet (fail)
            go_wp2_with fail
            go_ret
            exact ⟨by rw [HE.out]; rfl, by (repeat' (first | exact Below.refl _ _ | assumption | refine gr_drew ?_ | refine gr_drewN ?_ _ | refine gr_alloc ?_ _ | refine gr_set ?_ ?_ _ | refine gr_call ?_ (by assumption)) <;> (try (simp; done)) <;> (try (simp; omega)) <;> (try omega))⟩
          · have hs : ((c.toNat : Int) == (d.toNat : Int)) = false := toNat_ne hcd
            have HE := Lib.hid (show M.data.toList.contains c = (M.data.toList.drop (k + 1)).contains c by rw [HK.out, con_step hd hcd])
            clear HK hd hcd
            go_wp2_with fail
            go_quiet (fail)
            go_wp2_with fail
            go_roundw
            case rel => exact ⟨k + 1, rfl, by omega, by (repeat' (first | exact Below.refl _ _ | assumption | refine gr_drew ?_ | refine gr_drewN ?_ _ | refine gr_alloc ?_ _ | refine gr_set ?_ ?_ _ | refine gr_call ?_ (by assumption)) <;> (try (simp; done)) <;> (try (simp; omega)) <;> (try omega)), HE⟩
            case measure => simp only [intOf]; omega
        · have hkt' : decide ((k : Int) < (y : Int)) = false := decide_eq_false (by omega)
          have hkt2 : decide (k < y) = false := decide_eq_false hkt
          have HE := Lib.hid (show anyOf S.data.toList M.data.toList = anyOf (S.data.toList.drop (i + 1)) M.data.toList by
            rw [HR.out, HS.out, HK.out, List.drop_eq_nil_of_le (by rw [Hlen2.out]; omega)]; simp)
          clear HR HS HK
          go_wp2_with fail
          go_roundw
          case rel => exact ⟨i + 1, rfl, by omega, by (repeat' (first | exact Below.refl _ _ | assumption | refine gr_drew ?_ | refine gr_drewN ?_ _ | refine gr_alloc ?_ _ | refine gr_set ?_ ?_ _ | refine gr_call ?_ (by assumption)) <;> (try (simp; done)) <;> (try (simp; omega)) <;> (try omega)), HE⟩
          case measure => simp only [intOf]; omega
    · have hlt' : decide ((i : Int) < (z : Int)) = false := decide_eq_false (by omega)
      have hlt2 : decide (i < z) = false := decide_eq_false hlt
      have HE := Lib.hid (show anyOf S.data.toList M.data.toList = false by rw [HR.out, List.drop_eq_nil_of_le (by rw [Hlen.out]; omega)]; rfl)
      clear HR
      go_wp2_with fail
      go_ret
      exact ⟨by rw [HE.out]; rfl, by (repeat' (first | exact Below.refl _ _ | assumption | refine gr_drew ?_ | refine gr_drewN ?_ _ | refine gr_alloc ?_ _ | refine gr_set ?_ ?_ _ | refine gr_call ?_ (by assumption)) <;> (try (simp; done)) <;> (try (simp; omega)) <;> (try omega))⟩

/-! ### Whether a list is valid -/
theorem okPart_no {a : Wid} (h : okType a.ty = false ∨ okBits a.fl 128 = false ∨ okBits a.ms 16384 = false ∨ okWho a.who.data.toList = false) : okPart a = false := by
  unfold okPart
  rcases h with h | h | h | h <;> rw [h] <;> simp
theorem okWho_no {l : List UInt8} (h : l = [] ∨ 255 < l.length ∨ anyOf l noL = true) : okWho l = false := by
  unfold okWho
  rcases h with h | h | h
  · subst h; rfl
  · rw [decide_eq_false (p := l.length ≤ 255) (by omega)]; simp
  · rw [h]; simp
theorem okPart_yes {a : Wid} (h1 : 1 ≤ a.ty) (h2 : a.ty ≤ 2) (h3 : 0 ≤ a.fl) (h4 : a.fl ≤ 127) (h5 : 0 ≤ a.ms) (h6 : a.ms ≤ 16383) (h7 : a.who.size ≠ 0) (h8 : a.who.size ≤ 255) : okPart a = !anyOf a.who.data.toList noL := by
  unfold okPart okType okBits okWho
  have e : a.who.data.toList ≠ [] := fun e => h7 (by rw [← len_list, e]; rfl)
  rw [len_list, decide_eq_true h3, decide_eq_true h5, decide_eq_true (p := a.fl < 128) (by omega), decide_eq_true (p := a.ms < 16384) (by omega), decide_eq_true h8, decide_eq_true e]
  have : a.ty = 1 ∨ a.ty = 2 := by omega
  rcases this with e | e <;> rw [e] <;> simp
theorem no_lit : (⟨#[0, 58, 44, 10]⟩ : ByteArray).data.toList = noL := rfl
theorem all_step {l : List Wid} {i : Nat} (hi : i < l.length) : (l.drop i).all okPart = (okPart l[i] && (l.drop (i + 1)).all okPart) := by rw [drop_cons hi]; rfl

set_option maxHeartbeats 6400000 in
set_option maxRecDepth 100000 in
theorem refMay_any (v : Value) (l : List Wid) (w : World) (hat : At wideE v l w) (hl : l.length ≤ 1000000) :
    Calls Tryd.prog 10 #[v] w fun e w' => e = .returned (.bool (may l)) ∧ Below w.heap.size w w' := by
  have Hany := Lib.hid refHasAny_any
  obtain ⟨z, hz⟩ : ∃ z, l.length = z := ⟨_, rfl⟩
  obtain ⟨p, cap, rfl, hcap, hcell⟩ := wide_look hat
  rw [hz] at hl hcap ⊢
  have Hcell := Lib.hid hcell
  have Hz := Lib.hid hz
  clear hcell hat hz
  go_enter Tryd.func10, Tryd.ntmps10
  go_wp2_with fail
  go_loopw [3] (fun iv wr => ∃ i : Nat, iv = .int .i64 (i : Int) ∧ i ≤ z ∧ Below w.heap.size w wr ∧ Hid (l.all okPart = (l.drop i).all okPart)) (fun iv _ => z - (intOf iv).toNat)
  case atStart => exact ⟨0, rfl, by omega, Below.refl _ _, Lib.hid (by simp)⟩
  case round =>
    obtain ⟨i, rfl, hi, hbl, HR⟩ := hrel
    rename_i wr
    by_cases hlt : i < z
    · have hlt' : decide ((i : Int) < (z : Int)) = true := decide_eq_true (by omega)
      have hlt2 : decide (i < z) = true := decide_eq_true hlt
      have hi' : i < l.length := by rw [Hz.out]; exact hlt
      obtain ⟨g, off, rfl, hg, hc⟩ := Hcell.out i hi'
      obtain ⟨c0, c1, c2, c3⟩ := hc.kept hbl
      have HS := Lib.hid (all_step hi')
      have HN : Hid (okPart l[i] = false → may l = false) := Lib.hid (fun h => by unfold may; rw [HR.out, HS.out, h]; simp)
      have HY : Hid (okPart l[i] = true → l.all okPart = (l.drop (i + 1)).all okPart) := Lib.hid (fun h => by rw [HR.out, HS.out, h]; simp)
      have Hok := Lib.hid (okPart_no (a := l[i]))
      have Hoky := Lib.hid (okPart_yes (a := l[i]))
      have hgs := hbl.size
      generalize l[i] = a at *
      obtain ⟨t, f, m, W⟩ := a
      obtain ⟨y, hy⟩ : ∃ y, W.size = y := ⟨_, rfl⟩
      have hWl := len_list W
      rw [hy] at hWl Hoky
      simp only at c0 c1 c2 c3 Hok Hoky
      clear hc HS HR
      by_cases h1 : t < 1
      · have HE := Lib.hid (HN.out (Hok.out (.inl (by unfold okType; rw [decide_eq_false (p := t = 1) (by omega), decide_eq_false (p := t = 2) (by omega)]; rfl))))
        have f1 : decide (t < 1) = true := decide_eq_true (by omega)
        clear HN HY Hok Hoky hWl h1
        go_wp2_with fail
        go_ret
        exact ⟨by rw [HE.out]; rfl, by (repeat' (first | exact Below.refl _ _ | assumption | refine gr_drew ?_ | refine gr_drewN ?_ _ | refine gr_alloc ?_ _ | refine gr_set ?_ ?_ _ | refine gr_call ?_ (by assumption)) <;> (try (simp; done)) <;> (try (simp; omega)) <;> (try omega))⟩
      by_cases h2 : 2 < t
      · have HE := Lib.hid (HN.out (Hok.out (.inl (by unfold okType; rw [decide_eq_false (p := t = 1) (by omega), decide_eq_false (p := t = 2) (by omega)]; rfl))))
        have f1 : decide (t < 1) = false := decide_eq_false (by omega)
        have f2 : decide (2 < t) = true := decide_eq_true (by omega)
        clear HN HY Hok Hoky hWl h1 h2
        go_wp2_with fail
        go_ret
        exact ⟨by rw [HE.out]; rfl, by (repeat' (first | exact Below.refl _ _ | assumption | refine gr_drew ?_ | refine gr_drewN ?_ _ | refine gr_alloc ?_ _ | refine gr_set ?_ ?_ _ | refine gr_call ?_ (by assumption)) <;> (try (simp; done)) <;> (try (simp; omega)) <;> (try omega))⟩
      by_cases h3 : f < 0
      · have HE := Lib.hid (HN.out (Hok.out (.inr (.inl (by unfold okBits; rw [decide_eq_false (p := 0 ≤ f) (by omega)]; simp)))))
        have f1 : decide (t < 1) = false := decide_eq_false (by omega)
        have f2 : decide (2 < t) = false := decide_eq_false (by omega)
        have f3 : decide (f < 0) = true := decide_eq_true (by omega)
        clear HN HY Hok Hoky hWl h1 h2 h3
        go_wp2_with fail
        go_ret
        exact ⟨by rw [HE.out]; rfl, by (repeat' (first | exact Below.refl _ _ | assumption | refine gr_drew ?_ | refine gr_drewN ?_ _ | refine gr_alloc ?_ _ | refine gr_set ?_ ?_ _ | refine gr_call ?_ (by assumption)) <;> (try (simp; done)) <;> (try (simp; omega)) <;> (try omega))⟩
      by_cases h4 : 127 < f
      · have HE := Lib.hid (HN.out (Hok.out (.inr (.inl (by unfold okBits; rw [decide_eq_false (p := f < 128) (by omega)]; simp)))))
        have f1 : decide (t < 1) = false := decide_eq_false (by omega)
        have f2 : decide (2 < t) = false := decide_eq_false (by omega)
        have f3 : decide (f < 0) = false := decide_eq_false (by omega)
        have f4 : decide (127 < f) = true := decide_eq_true (by omega)
        clear HN HY Hok Hoky hWl h1 h2 h3 h4
        go_wp2_with fail
        go_ret
        exact ⟨by rw [HE.out]; rfl, by (repeat' (first | exact Below.refl _ _ | assumption | refine gr_drew ?_ | refine gr_drewN ?_ _ | refine gr_alloc ?_ _ | refine gr_set ?_ ?_ _ | refine gr_call ?_ (by assumption)) <;> (try (simp; done)) <;> (try (simp; omega)) <;> (try omega))⟩
      by_cases h5 : m < 0
      · have HE := Lib.hid (HN.out (Hok.out (.inr (.inr (.inl (by unfold okBits; rw [decide_eq_false (p := 0 ≤ m) (by omega)]; simp))))))
        have f1 : decide (t < 1) = false := decide_eq_false (by omega)
        have f2 : decide (2 < t) = false := decide_eq_false (by omega)
        have f3 : decide (f < 0) = false := decide_eq_false (by omega)
        have f4 : decide (127 < f) = false := decide_eq_false (by omega)
        have f5 : decide (m < 0) = true := decide_eq_true (by omega)
        clear HN HY Hok Hoky hWl h1 h2 h3 h4 h5
        go_wp2_with fail
        go_ret
        exact ⟨by rw [HE.out]; rfl, by (repeat' (first | exact Below.refl _ _ | assumption | refine gr_drew ?_ | refine gr_drewN ?_ _ | refine gr_alloc ?_ _ | refine gr_set ?_ ?_ _ | refine gr_call ?_ (by assumption)) <;> (try (simp; done)) <;> (try (simp; omega)) <;> (try omega))⟩
      by_cases h6 : 16383 < m
      · have HE := Lib.hid (HN.out (Hok.out (.inr (.inr (.inl (by unfold okBits; rw [decide_eq_false (p := m < 16384) (by omega)]; simp))))))
        have f1 : decide (t < 1) = false := decide_eq_false (by omega)
        have f2 : decide (2 < t) = false := decide_eq_false (by omega)
        have f3 : decide (f < 0) = false := decide_eq_false (by omega)
        have f4 : decide (127 < f) = false := decide_eq_false (by omega)
        have f5 : decide (m < 0) = false := decide_eq_false (by omega)
        have f6 : decide (16383 < m) = true := decide_eq_true (by omega)
        clear HN HY Hok Hoky hWl h1 h2 h3 h4 h5 h6
        go_wp2_with fail
        go_ret
        exact ⟨by rw [HE.out]; rfl, by (repeat' (first | exact Below.refl _ _ | assumption | refine gr_drew ?_ | refine gr_drewN ?_ _ | refine gr_alloc ?_ _ | refine gr_set ?_ ?_ _ | refine gr_call ?_ (by assumption)) <;> (try (simp; done)) <;> (try (simp; omega)) <;> (try omega))⟩
      by_cases h7 : y = 0
      · have HE := Lib.hid (HN.out (Hok.out (.inr (.inr (.inr (okWho_no (.inl (List.eq_nil_of_length_eq_zero (by rw [hWl]; exact h7)))))))))
        have f1 : decide (t < 1) = false := decide_eq_false (by omega)
        have f2 : decide (2 < t) = false := decide_eq_false (by omega)
        have f3 : decide (f < 0) = false := decide_eq_false (by omega)
        have f4 : decide (127 < f) = false := decide_eq_false (by omega)
        have f5 : decide (m < 0) = false := decide_eq_false (by omega)
        have f6 : decide (16383 < m) = false := decide_eq_false (by omega)
        have f7 : ((y : Int) == 0) = true := by rw [h7]; rfl
        clear HN HY Hok Hoky hWl h1 h2 h3 h4 h5 h6 h7
        go_wp2_with fail
        go_ret
        exact ⟨by rw [HE.out]; rfl, by (repeat' (first | exact Below.refl _ _ | assumption | refine gr_drew ?_ | refine gr_drewN ?_ _ | refine gr_alloc ?_ _ | refine gr_set ?_ ?_ _ | refine gr_call ?_ (by assumption)) <;> (try (simp; done)) <;> (try (simp; omega)) <;> (try omega))⟩
      by_cases h8 : 255 < y
      · have HE := Lib.hid (HN.out (Hok.out (.inr (.inr (.inr (okWho_no (.inr (.inl (by rw [hWl]; omega)))))))))
        have f1 : decide (t < 1) = false := decide_eq_false (by omega)
        have f2 : decide (2 < t) = false := decide_eq_false (by omega)
        have f3 : decide (f < 0) = false := decide_eq_false (by omega)
        have f4 : decide (127 < f) = false := decide_eq_false (by omega)
        have f5 : decide (m < 0) = false := decide_eq_false (by omega)
        have f6 : decide (16383 < m) = false := decide_eq_false (by omega)
        have f7 : ((y : Int) == 0) = false := beq_eq_false_iff_ne.2 (by omega)
        have f8 : decide ((255 : Int) < (y : Int)) = true := decide_eq_true (by omega)
        clear HN HY Hok Hoky hWl h1 h2 h3 h4 h5 h6 h7 h8
        go_wp2_with fail
        go_ret
        exact ⟨by rw [HE.out]; rfl, by (repeat' (first | exact Below.refl _ _ | assumption | refine gr_drew ?_ | refine gr_drewN ?_ _ | refine gr_alloc ?_ _ | refine gr_set ?_ ?_ _ | refine gr_call ?_ (by assumption)) <;> (try (simp; done)) <;> (try (simp; omega)) <;> (try omega))⟩
      have f1 : decide (t < 1) = false := decide_eq_false (by omega)
      have f2 : decide (2 < t) = false := decide_eq_false (by omega)
      have f3 : decide (f < 0) = false := decide_eq_false (by omega)
      have f4 : decide (127 < f) = false := decide_eq_false (by omega)
      have f5 : decide (m < 0) = false := decide_eq_false (by omega)
      have f6 : decide (16383 < m) = false := decide_eq_false (by omega)
      have f7 : ((y : Int) == 0) = false := beq_eq_false_iff_ne.2 (by omega)
      have f8 : decide ((255 : Int) < (y : Int)) = false := decide_eq_false (by omega)
      have hok := Hoky.out (by omega) (by omega) (by omega) (by omega) (by omega) (by omega) (by omega) (by omega)
      have hh := Lib.hid (Hany.out W ⟨#[0, 58, 44, 10]⟩ (by rw [hy]; omega) (by decide))
      rw [no_lit] at hh
      have HNN := Lib.hid (fun (h : anyOf W.data.toList noL = true) => HN.out (by rw [hok, h]; rfl))
      have HYY := Lib.hid (fun (h : anyOf W.data.toList noL = false) => HY.out (by rw [hok, h]; rfl))
      generalize anyOf W.data.toList noL = b at *
      clear HN HY Hok Hoky hWl hok h1 h2 h3 h4 h5 h6 h7 h8
      rcases b with _ | _
      · have HE := Lib.hid (HYY.out rfl)
        clear HNN HYY
        go_wp2_with fail
        refine (hh.out _).mono ?_
        rintro e w2 ⟨rfl, hb2⟩
        have hbl2 := gr_call (gr_alloc hbl _) hb2
        clear hb2 hh
        go_wp2_with fail
        go_roundw
        case rel => exact ⟨i + 1, rfl, by omega, hbl2, HE⟩
        case measure => simp only [intOf]; omega
      · have HE := Lib.hid (HNN.out rfl)
        clear HNN HYY
        go_wp2_with fail
        refine (hh.out _).mono ?_
        rintro e w2 ⟨rfl, hb2⟩
        have hbl2 := gr_call (gr_alloc hbl _) hb2
        clear hb2 hh
        go_wp2_with fail
        go_ret
        exact ⟨by rw [HE.out]; rfl, hbl2⟩
    · have hlt' : decide ((i : Int) < (z : Int)) = false := decide_eq_false (by omega)
      have hlt2 : decide (i < z) = false := decide_eq_false hlt
      have HE := Lib.hid (show l.all okPart = true by rw [HR.out, List.drop_eq_nil_of_le (by rw [Hz.out]; omega)]; rfl)
      have hd : decide ((z : Int) ≤ 32) = decide (z ≤ 32) := decide_eq_decide.2 (by omega)
      have HM := Lib.hid (show may l = decide (z ≤ 32) by unfold may; rw [HE.out, Hz.out]; simp)
      generalize decide (z ≤ 32) = q at *
      clear HR HE
      go_wp2_with fail
      go_ret
      exact ⟨by rw [HM.out]; rfl, by (repeat' (first | exact Below.refl _ _ | assumption | refine gr_drew ?_ | refine gr_drewN ?_ _ | refine gr_alloc ?_ _ | refine gr_set ?_ ?_ _ | refine gr_call ?_ (by assumption)) <;> (try (simp; done)) <;> (try (simp; omega)) <;> (try omega))⟩
end Go.Proofs.YtikdpoekjfbpaaaDoor
