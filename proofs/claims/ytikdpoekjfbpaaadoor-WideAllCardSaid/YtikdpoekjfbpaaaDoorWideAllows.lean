/- Walks over package wide: what a list allows. -/
import Derived.Test.YtikdpoekjfbpaaaDoorWideGet
namespace Go.Proofs.YtikdpoekjfbpaaaDoor
open Go.RowKit
open WideM
set_option linter.unusedVariables false

theorem containsS_is (ws : List (List UInt8)) (c : ByteArray) : Lib.containsS (ws.map strOf) c = ws.contains c.data.toList := by
  rw [Bool.eq_iff_iff, Lib.containsS_iff, List.contains_iff_mem, List.mem_map]
  constructor
  · rintro ⟨a, ha, rfl⟩
    rw [strOf_list]; exact ha
  · intro h
    exact ⟨_, h, strOf_self c⟩
theorem contains_any (x : Value) (ws : List (List UInt8)) (c : ByteArray) (w : World) (hax : At strE x ws w) (hl : ws.length ≤ 1000000) :
    Calls Tryd.prog 28 #[x, .string c] w fun e w' => e = .returned (.bool (ws.contains c.data.toList)) ∧ w' = w := by
  by_cases hw : ws = []
  · subst hw
    obtain ⟨p, cap, rfl, _⟩ := hax.shape
    exact Tryd.slices_Contains_string_empty p cap c w
  · obtain ⟨g, off, cap, rfl, hcap, hg, hc⟩ := str_open hax hw
    have := Tryd.slices_Contains_string g off ws.length cap (ws.map strOf) c w (by simp) (by omega) (fun j hj => by
      rw [List.length_map] at hj
      rw [hc j hj]
      simp [List.getD, hj])
    rw [List.take_of_length_le (by simp), containsS_is] at this
    exact this
attribute [local irreducible] Row At
theorem allows_step {l : List Wid} {ws : List (List UInt8)} {b i : Nat} (hi : i < l.length) :
    allowsL (l.drop i) ws b = if hasBit l[i].ms b = true ∧ ws.contains l[i].who.data.toList = true then decide (l[i].ty = 1) else allowsL (l.drop (i + 1)) ws b := by
  rw [drop_cons hi]; rfl
theorem hasBit_is {m : Int} (b : Nat) (h0 : 0 ≤ m) (h1 : m < 16384) : (bits .and .i64 (m / 2 ^ b) 1 == 1) = hasBit m b := by
  obtain ⟨n, rfl⟩ : ∃ n : Nat, m = (n : Int) := ⟨m.toNat, by omega⟩
  unfold hasBit
  rw [Int.toNat_natCast]
  exact bit_is n b (by omega)

set_option maxHeartbeats 3200000 in
theorem allows_any (v x : Value) (l : List Wid) (ws : List (List UInt8)) (b : Int) (w : World) (hat : At wideE v l w) (hax : At strE x ws w) (hok : ∀ a ∈ l, okPart a = true) (hl : l.length ≤ 1000000) (hw : ws.length ≤ 1000000) :
    Calls Tryd.prog 14 #[v, x, .int .i64 b] w fun e w' => e = .returned (.bool (allows l ws b)) ∧ Below w.heap.size w w' := by
  unfold allows
  by_cases hb0 : b < 0
  · have d0 : decide (b < 0) = true := decide_eq_true hb0
    rw [if_neg (by omega)]
    clear hb0
    go_enter Tryd.func14, Tryd.ntmps14
    go_wp2_with fail
    go_ret
    exact ⟨rfl, Below.refl _ _⟩
  have d0 : decide (b < 0) = false := decide_eq_false hb0
  by_cases hb1 : 14 ≤ b
  · have d1 : decide (14 ≤ b) = true := decide_eq_true hb1
    rw [if_neg (by omega)]
    clear hb0 hb1
    go_enter Tryd.func14, Tryd.ntmps14
    go_wp2_with fail
    go_ret
    exact ⟨rfl, Below.refl _ _⟩
  have d1 : decide (14 ≤ b) = false := decide_eq_false hb1
  rw [if_pos ⟨by omega, by omega⟩]
  obtain ⟨k, rfl⟩ : ∃ k : Nat, b = (k : Int) := ⟨b.toNat, by omega⟩
  rw [Int.toNat_natCast]
  have hk : k < 14 := by omega
  have Hcon := Lib.hid (fun c w' (hb : Below w.heap.size w w') => contains_any x ws c w' (hax.call hb) hw)
  have Hok := Lib.hid (fun a (h : a ∈ l) => okPart_iff (hok a h))
  obtain ⟨p2, cap2, rfl, _⟩ := hax.shape
  obtain ⟨z, hz⟩ : ∃ z, l.length = z := ⟨_, rfl⟩
  obtain ⟨p, cap, rfl, hcap, hcell⟩ := wide_look hat
  rw [hz] at hl hcap ⊢
  have Hcell := Lib.hid hcell
  have Hz := Lib.hid hz
  clear hcell hat hax hz hok hb0 hb1
  generalize ws.length = y at *
  go_enter Tryd.func14, Tryd.ntmps14
  go_wp2_with fail
  go_loopw [17] (fun iv wr => ∃ i : Nat, iv = .int .i64 (i : Int) ∧ i ≤ z ∧ Below w.heap.size w wr ∧ Hid (allowsL l ws k = allowsL (l.drop i) ws k)) (fun iv _ => z - (intOf iv).toNat)
  case atStart => exact ⟨0, rfl, by omega, Below.refl _ _, Lib.hid (by simp)⟩
  case round =>
    obtain ⟨i, rfl, hi, hbl, HR⟩ := hrel
    rename World => wr
    by_cases hlt : i < z
    · have hlt' : decide ((i : Int) < (z : Int)) = true := decide_eq_true (by omega)
      have hlt2 : decide (i < z) = true := decide_eq_true hlt
      have hi' : i < l.length := by rw [Hz.out]; exact hlt
      obtain ⟨g, off, rfl, hg, hc⟩ := Hcell.out i hi'
      obtain ⟨c0, c1, c2, c3⟩ := hc.kept hbl
      have HS := Lib.hid (allows_step (ws := ws) (b := k) hi')
      have hok := Hok.out l[i] (List.getElem_mem hi')
      generalize l[i] = a at *
      clear hc
      obtain ⟨t, f, m, W⟩ := a
      simp only at c0 c1 c2 c3 hok
      have hbit := hasBit_is k hok.2.2.2.1 hok.2.2.2.2.1
      have hbl2 := gr_alloc hbl (.cells #[.int .i64 t, .int .i64 f, .int .i64 m, .string W] 41)
      have hcn := Lib.hid (Hcon.out W _ hbl2)
      have HS2 : Hid (allowsL (l.drop i) ws k = if hasBit m k = true ∧ ws.contains W.data.toList = true then decide (t = 1) else allowsL (l.drop (i + 1)) ws k) := Lib.hid HS.out
      generalize hasBit m k = q at *
      generalize ws.contains W.data.toList = q2 at *
      clear HS hok
      rcases q with _ | _
      · have HE := Lib.hid (show allowsL l ws k = allowsL (l.drop (i + 1)) ws k by rw [HR.out, HS2.out, if_neg (by simp)])
        clear HR HS2 hcn
        go_wp2_with fail
        go_roundw
        case rel => exact ⟨i + 1, rfl, by omega, hbl2, HE⟩
        case measure => simp only [intOf]; omega
      · rcases q2 with _ | _
        · have HE := Lib.hid (show allowsL l ws k = allowsL (l.drop (i + 1)) ws k by rw [HR.out, HS2.out, if_neg (by simp)])
          clear HR HS2
          go_wp2_with fail
          refine (hcn.out).mono ?_
          rintro e w1 ⟨rfl, rfl⟩
          go_wp2_with fail
          go_roundw
          case rel => exact ⟨i + 1, rfl, by omega, hbl2, HE⟩
          case measure => simp only [intOf]; omega
        · have ht : (t == 1) = decide (t = 1) := by by_cases h : t = 1 <;> simp [h]
          have HE := Lib.hid (show allowsL l ws k = decide (t = 1) by rw [HR.out, HS2.out, if_pos (by simp)])
          generalize decide (t = 1) = r at *
          clear HR HS2
          go_wp2_with fail
          refine (hcn.out).mono ?_
          rintro e w1 ⟨rfl, rfl⟩
          go_wp2_with fail
          go_ret
          exact ⟨by rw [HE.out]; rfl, hbl2⟩
    · have hlt' : decide ((i : Int) < (z : Int)) = false := decide_eq_false (by omega)
      have hlt2 : decide (i < z) = false := decide_eq_false hlt
      have HE := Lib.hid (show allowsL l ws k = false by rw [HR.out, List.drop_eq_nil_of_le (by rw [Hz.out]; omega)]; rfl)
      clear HR
      go_wp2_with fail
      go_ret
      exact ⟨by rw [HE.out]; rfl, hbl⟩
end Go.Proofs.YtikdpoekjfbpaaaDoor
