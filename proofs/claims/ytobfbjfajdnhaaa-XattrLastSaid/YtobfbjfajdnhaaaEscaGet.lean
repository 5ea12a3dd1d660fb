/- Walks over package escape: number, decode, Get. -/
import Derived.Test.YtobfbjfajdnhaaaEscaPut
import Derived.Recover
namespace Go.Proofs.Ytobfbjfajdnhaaa.EscW
open Go.RowKit
open EscM
set_option linter.unusedVariables false

theorem indexDigits (c : UInt8) (w : World) :
    Calls Try.prog 29 #[.string ⟨#[48, 49, 50, 51, 52, 53, 54, 55, 56, 57, 65, 66, 67, 68, 69, 70]⟩, .int .u8 (c.toNat : Int)] w fun e w' => e = .returned (.int .i64 (match dig c with | some k => (k : Int) | none => -1)) ∧ w' = w := by
  refine (Try.strings_IndexByte ⟨digits.toArray⟩ (c.toNat : Int) w).mono ?_
  rintro e w' ⟨rfl, rfl⟩
  refine ⟨?_, rfl⟩
  have h := index_dig c
  simp only [Int.toNat_natCast]
  rw [show c.toNat.toUInt8 = c by simp]
  show Ending.returned (Value.int IntKind.i64 (Lib.indexByte digits c)) = _
  rw [h]
  cases dig c <;> rfl

/-- The number of the digit at a place. -/
def digAt (l : List UInt8) (p : Nat) : Option Nat := (l[p]?).bind dig
/-- What ends the decoding. -/
def notPut : List PanicEntry := [{ v := .iface 90 (.agg #[]), recovered := false }]

theorem number_yes (S : ByteArray) (hS : S.size ≤ 30000) (p : Nat) (k : Nat) (h : digAt S.data.toList p = some k) (x : Int) (hx : x = (p : Int)) (w : World) :
    Calls Try.prog 69 #[.string S, .int .i64 x] w fun e w' => e = .returned (.int .u8 (k : Int)) ∧ w' = w := by
  subst hx
  obtain ⟨c, hc, hk⟩ := Option.bind_eq_some_iff.1 h
  obtain ⟨n, hn⟩ : ∃ n, S.size = n := ⟨_, rfl⟩
  have hp : p < S.size := by have := (List.getElem?_eq_some_iff.1 hc).1; simpa using this
  obtain ⟨c', hc', hidx⟩ := idx_at Try.underlying9 S p hp
  obtain rfl : c' = c := by rw [hc] at hc'; exact (Option.some.inj hc').symm
  have hdi := indexDigits c'
  rw [hk] at hdi
  have hk16 := (H_dig hk).2
  have h0 : ¬ (k : Int) < 0 := by omega
  have h1 : (k : Int) % 256 = (k : Int) := by omega
  have h2 : ¬ (n : Int) ≤ (p : Int) := by omega
  clear h hc hc' hk
  go_enter Try.func69, Try.ntmps69
  go_wp2_with fail
  refine (hdi _).mono ?_
  rintro e w4 ⟨rfl, rfl⟩
  go_wp2_with fail
  go_ret
  exact ⟨rfl, rfl⟩
theorem number_no (S : ByteArray) (hS : S.size ≤ 30000) (p : Nat) (h : digAt S.data.toList p = none) (x : Int) (hx : x = (p : Int)) (w : World) :
    Calls Try.prog 69 #[.string S, .int .i64 x] w fun e w' => e = .panicked notPut ∧ w' = w := by
  subst hx
  obtain ⟨n, hn⟩ : ∃ n, S.size = n := ⟨_, rfl⟩
  by_cases hp : p < S.size
  · obtain ⟨c, hc, hidx⟩ := idx_at Try.underlying9 S p hp
    have hk : dig c = none := by unfold digAt at h; rw [hc] at h; exact h
    have hdi := indexDigits c
    rw [hk] at hdi
    have h2 : ¬ (n : Int) ≤ (p : Int) := by omega
    clear h hc hk
    go_enter Try.func69, Try.ntmps69
    go_wp2_with fail
    refine (hdi _).mono ?_
    rintro e w4 ⟨rfl, rfl⟩
    go_wp2_with fail
    exact ⟨rfl, rfl, rfl⟩
  · have h2 : (n : Int) ≤ (p : Int) := by omega
    clear h hp
    go_enter Try.func69, Try.ntmps69
    go_wp2_with fail
    exact ⟨rfl, rfl, rfl⟩

theorem get_at {l : List UInt8} {i : Nat} {c : UInt8} (hc : l[i]? = some c) (h37 : c.toNat = 37) :
    get (l.drop i) = match digAt l (i + 1), digAt l (i + 2) with
      | some x, some y => if self (hexOf x y) then none else (get (l.drop (i + 3))).map (hexOf x y :: ·)
      | _, _ => none := by
  rw [drop_at hc]
  rcases ha : l[i + 1]? with _ | a
  · have h1 : l.drop (i + 1) = [] := List.drop_eq_nil_of_le (List.getElem?_eq_none_iff.1 ha)
    rw [h1, get_short c _ h37 (by simp)]
    simp [digAt, ha]
  · rw [drop_at ha]
    rcases hb : l[i + 1 + 1]? with _ | b
    · have h1 : l.drop (i + 1 + 1) = [] := List.drop_eq_nil_of_le (List.getElem?_eq_none_iff.1 hb)
      rw [h1, get_short c _ h37 (by simp)]
      rw [show i + 1 + 1 = i + 2 from rfl] at hb
      simp only [digAt, ha, hb, Option.bind_some, Option.bind_none]
      cases dig a <;> rfl
    · rw [drop_at hb, get_mark c a b _ h37]
      rw [show i + 1 + 1 = i + 2 from rfl] at hb
      simp only [digAt, ha, hb, Option.bind_some]
      rfl
theorem digAt_lt {l : List UInt8} {p k : Nat} (h : digAt l p = some k) : p < l.length ∧ k < 16 := by
  obtain ⟨c, hc, hk⟩ := Option.bind_eq_some_iff.1 h
  exact ⟨(List.getElem?_eq_some_iff.1 hc).1, (H_dig hk).2⟩
theorem or16 (x y : Nat) (hx : x < 16) (hy : y < 16) : bits .or .u8 ((x : Int) * 16) (y : Int) = ((hexOf x y).toNat : Int) := by
  rw [hexOf_nat x y hx hy, show (x : Int) * 16 = ((x * 16 : Nat) : Int) by omega, or_u8 _ _ (by omega) (by omega)]
  have h3 : x * 16 ||| y = x * 16 + y := by
    rw [Nat.mul_comm]
    exact (Nat.two_pow_add_eq_or_of_lt (i := 4) hy x).symm
  rw [h3]

/-- How the decoding ends. -/
def DecEnd (o : Option (List UInt8)) (e : Ending) : Prop := match o with
  | some l => e = .returned (.string ⟨l.toArray⟩)
  | none => e = .panicked notPut

set_option maxHeartbeats 1600000 in
theorem decode_any (t : ByteArray) (ht : t.size ≤ 30000) (w : World) :
    Calls Try.prog 60 #[.string t] w fun e w' => DecEnd (get t.data.toList) e ∧ Below w.heap.size w w' := by
  obtain ⟨n, hn⟩ : ∃ n, t.size = n := ⟨_, rfl⟩
  have ht' := ht
  rw [hn] at ht
  have hsl := Lib.hid (show t.data.toList.length = n by rw [← hn]; simp)
  go_enter Try.func60, Try.ntmps60
  go_wp2_with fail
  refine (grow_b n _ rfl w (by omega)).mono ?_
  rintro e w1 ⟨rfl, hB, hb1⟩
  go_wp2_with fail
  go_loopw [4] (fun iv wr => ∃ (i : Nat) (acc : List UInt8), iv = .int .i64 (i : Int) ∧ i ≤ n ∧ Bld w.heap.size acc wr ∧ Below w.heap.size w wr ∧ (get (t.data.toList.drop i)).map (acc ++ ·) = get t.data.toList ∧ acc.length ≤ i) (fun iv _ => n - (intOf iv).toNat)
  case atStart => exact ⟨0, [], rfl, Nat.zero_le _, hB, hb1, by simp only [List.nil_append, List.drop_zero]; cases get t.data.toList <;> rfl, by simp⟩
  case round =>
    clear hB hb1
    obtain ⟨i, acc, rfl, hi, hB, hbl, hacc, hal⟩ := hrel
    by_cases hlt : i < n
    · obtain ⟨c, hc, hidx⟩ := idx_at Try.underlying9 t i (by omega)
      have hlt' : (i : Int) < (n : Int) := by omega
      by_cases h37 : c.toNat = 37
      · rw [h37] at hidx
        rw [get_at hc h37] at hacc
        clear hc h37
        rcases hx : digAt t.data.toList (i + 1) with _ | x
        · have hno := number_no t ht' (i + 1) hx ((i : Int) + 1) (by omega)
          have Hnone := Lib.hid (show get t.data.toList = none by rw [← hacc, hx]; rfl)
          clear hacc hx
          go_wp2_with fail
          refine (hno _).mono ?_
          rintro e w4 ⟨rfl, rfl⟩
          go_wp2_with fail
          exact ⟨rfl, by rw [Hnone.out]; rfl, hbl⟩
        · have h1 := number_yes t ht' (i + 1) x hx ((i : Int) + 1) (by omega)
          obtain ⟨-, hx16⟩ := digAt_lt hx
          rcases hy : digAt t.data.toList (i + 2) with _ | y
          · have hno := number_no t ht' (i + 2) hy ((i : Int) + 2) (by omega)
            have Hnone := Lib.hid (show get t.data.toList = none by rw [← hacc, hx, hy]; rfl)
            clear hacc hx hy
            go_wp2_with fail
            refine (h1 _).mono ?_
            rintro e w4 ⟨rfl, rfl⟩
            go_wp2_with fail
            refine (hno _).mono ?_
            rintro e w5 ⟨rfl, rfl⟩
            go_wp2_with fail
            exact ⟨rfl, by rw [Hnone.out]; rfl, hbl⟩
          · have h2 := number_yes t ht' (i + 2) y hy ((i : Int) + 2) (by omega)
            obtain ⟨hl2, hy16⟩ := digAt_lt hy
            rw [hsl.out] at hl2
            have hor := or16 x y hx16 hy16
            have Hacc := Lib.hid hacc
            have H1 := plain_any (hexOf x y)
            rw [hx, hy] at hacc
            simp only at hacc
            generalize hexOf x y = b at *
            by_cases hs : self b = true
            · rw [hs] at H1
              have Hnone := Lib.hid (show get t.data.toList = none by rw [← hacc, if_pos hs]; rfl)
              clear hacc hx hy hs Hacc
              go_wp2_with fail
              refine (h1 _).mono ?_
              rintro e w4 ⟨rfl, rfl⟩
              go_wp2_with fail
              refine (h2 _).mono ?_
              rintro e w5 ⟨rfl, rfl⟩
              go_wp2_with fail
              refine (H1 _).mono ?_
              rintro e w6 ⟨rfl, rfl⟩
              go_wp2_with fail
              exact ⟨rfl, by rw [Hnone.out]; rfl, hbl⟩
            · rw [if_neg hs] at hacc
              rw [Bool.not_eq_true] at hs
              rw [hs] at H1
              have Hacc := Lib.hid hacc
              clear hacc hx hy hs
              go_wp2_with fail
              refine (h1 _).mono ?_
              rintro e w4 ⟨rfl, rfl⟩
              go_wp2_with fail
              refine (h2 _).mono ?_
              rintro e w5 ⟨rfl, rfl⟩
              go_wp2_with fail
              refine (H1 _).mono ?_
              rintro e w6 ⟨rfl, rfl⟩
              go_wp2_with fail
              refine (writeByte_b _ acc b _ rfl _ hB (by omega) (bld_lt hB)).mono ?_
              rintro e w7 ⟨rfl, hB7, hb7⟩
              have hbl7 := hbl.trans hb7
              clear hB hbl hidx H1 h1 h2 hor
              go_wp2_with fail
              go_roundw
              case rel =>
                refine ⟨i + 3, _, by congr 1, by omega, hB7, hbl7, ?_, by simp; omega⟩
                rw [← Hacc.out, Option.map_map]
                congr 1
                funext z
                simp
              case measure => simp only [intOf]; omega
      · have h37' : ((c.toNat : Int) == 37) = false := by rw [beq_eq_false_iff_ne]; omega
        have H1 := plain_any c
        rw [drop_at hc, get_plain c _ h37] at hacc
        by_cases hs : self c = true
        · rw [hs] at H1
          rw [if_pos hs] at hacc
          have Hacc := Lib.hid hacc
          clear hacc hs hc h37
          go_wp2_with fail
          refine (H1 _).mono ?_
          rintro e w6 ⟨rfl, rfl⟩
          go_wp2_with fail
          refine (writeByte_b _ acc c _ rfl _ hB (by omega) (bld_lt hB)).mono ?_
          rintro e w7 ⟨rfl, hB7, hb7⟩
          have hbl7 := hbl.trans hb7
          clear hB hbl hidx H1
          go_wp2_with fail
          go_roundw
          case rel =>
            refine ⟨i + 1, _, rfl, by omega, hB7, hbl7, ?_, by simp; omega⟩
            rw [← Hacc.out, Option.map_map]
            congr 1
            funext z
            simp
          case measure => simp only [intOf]; omega
        · rw [if_neg hs] at hacc
          rw [Bool.not_eq_true] at hs
          rw [hs] at H1
          have Hnone := Lib.hid (show get t.data.toList = none by rw [← hacc]; rfl)
          clear hacc hs hc h37
          go_wp2_with fail
          refine (H1 _).mono ?_
          rintro e w6 ⟨rfl, rfl⟩
          go_wp2_with fail
          exact ⟨rfl, by rw [Hnone.out]; rfl, hbl⟩
    · have hlt' : ¬ (i : Int) < (n : Int) := by omega
      rw [List.drop_eq_nil_of_le (by rw [hsl.out]; omega)] at hacc
      rw [show EscM.get [] = some [] from rfl, Option.map_some, List.append_nil] at hacc
      have Hacc := Lib.hid hacc
      clear hacc
      go_wp2_with fail
      refine (string_b _ acc _ hB).mono ?_
      rintro e w5 ⟨rfl, hb5⟩
      have hbl5 := hbl.trans hb5
      go_wp2_with fail
      go_ret
      exact ⟨by rw [← Hacc.out]; rfl, hbl5⟩

theorem catch_panic (p : Addr) (x : Bool) (u : TypeId) (pv : Value) (older : List PanicEntry) (w : World) (hc : w.cell? p = some (.bool x)) (hz : w.frozen? p = false) :
    CallsD Try.prog 59 #[.pointer (some p)] (.panicking ({ v := .iface u pv, recovered := false } :: older)) w fun e u' w' =>
      e = .returned (.tuple #[]) ∧ u' = .panicking ({ v := .iface u pv, recovered := true } :: older) ∧ w' = w.setCell p (.bool false) := by
  refine callsD_of_wpS Try.func59 rfl fun c₀ cs hu => ?_
  apply wpS_region
  simp [wpOpsS, go_sem, recoverD, hu, Try.ntmps59, hc, hz, bodyPostS, results, Try.results59]
theorem catch_idle (p : Addr) (x : Bool) (w : World) (hc : w.cell? p = some (.bool x)) (hz : w.frozen? p = false) :
    CallsD Try.prog 59 #[.pointer (some p)] .returning w fun e u' w' => e = .returned (.tuple #[]) ∧ u' = .returning ∧ w' = w.setCell p (.bool true) := by
  refine callsD_of_wpS Try.func59 rfl fun c₀ cs hu => ?_
  apply wpS_region
  simp [wpOpsS, go_sem, recoverD, hu, Try.ntmps59, hc, hz, bodyPostS, results, Try.results59]
  cases c₀
  simp_all

/-- What Get hands back. -/
def getRet (o : Option (List UInt8)) : Value := match o with
  | some l => .tuple #[.string ⟨l.toArray⟩, .bool true]
  | none => .tuple #[.string ⟨#[]⟩, .bool false]

set_option maxHeartbeats 800000 in
theorem Get_any (t : ByteArray) (ht : t.size ≤ 30000) (w : World) :
    Calls Try.prog 49 #[.string t] w fun e w' => e = .returned (getRet (EscM.get t.data.toList)) ∧ Below w.heap.size w w' := by
  have hmf : ∀ (fn : Fn) (first cap : Array Value) (w : World), (Instr.makeFunc fn first cap).run Try.prog w = .ok (.func fn first cap) w := fun _ _ _ _ => rfl
  go_enter_defers Try.func49, Try.ntmps49
  go_wp2_with fail
  refine (decode_any t ht _).mono ?_
  rintro e w2 ⟨he, hb2⟩
  have hc0 : (w.alloc (.cells #[.bool false] 4)).cell? ⟨w.heap.size, 0, none⟩ = some (.bool false) := by simp [go_sem]
  have hf0 : (w.alloc (.cells #[.bool false] 4)).frozen? ⟨w.heap.size, 0, none⟩ = false := by simp [go_sem]
  have hc2 := cell_kept hb2 hc0
  have hf2 := free_kept hb2 hc0 hf0
  have hs2 := hb2.size
  have hb : Below w.heap.size w w2 := ((Below.refl _ w).alloc (Nat.le_refl _) _).trans (hb2.mono (by simp))
  clear hc0 hf0
  rcases hg : EscM.get t.data.toList with _ | l
  · rw [hg] at he
    obtain rfl : e = .panicked notPut := he
    have Hg := Lib.hid hg
    clear hg hb2
    go_wp2_with fail
    refine leaves_cons (f := 59) (args := #[.pointer (some ⟨w.heap.size, 0, none⟩)]) (by simp) (by simp [go_sem]) ?_
    refine (catch_panic ⟨w.heap.size, 0, none⟩ false _ _ [] w2 hc2 hf2).mono ?_
    rintro e u' w'' ⟨rfl, rfl, rfl⟩
    simp [Leaves, settle, results, Try.results49, go_sem, notPut, hc2, hf2]
    rw [Hg.out]
    exact ⟨rfl, hb.setCell (Nat.le_refl _) _⟩
  · rw [hg] at he
    obtain rfl : e = .returned (.string ⟨l.toArray⟩) := he
    have Hg := Lib.hid hg
    clear hg hb2
    go_wp2_with fail
    refine leaves_cons (f := 59) (args := #[.pointer (some ⟨w.heap.size, 0, none⟩)]) (by simp) (by simp [go_sem]) ?_
    refine (catch_idle ⟨w.heap.size, 0, none⟩ true _ ?_ ?_).mono ?_
    · simp [go_sem, hc2]
    · simp [go_sem, hf2]
    rintro e u' w'' ⟨rfl, rfl, rfl⟩
    simp [Leaves, settle, results, Try.results49, go_sem, hc2, hf2]
    rw [Hg.out]
    exact ⟨rfl, (hb.setCell (Nat.le_refl _) _).setCell (Nat.le_refl _) _⟩
theorem Get_yes (t : ByteArray) (ht : t.size ≤ 30000) (l : List UInt8) (hl : put l = t.data.toList) (w : World) :
    Calls Try.prog 49 #[.string t] w fun e w' => e = .returned (.tuple #[.string ⟨l.toArray⟩, .bool true]) ∧ Below w.heap.size w w' := by
  refine (Get_any t ht w).mono ?_
  rintro e w' ⟨rfl, hb⟩
  refine ⟨?_, hb⟩
  rw [(get_iff _ _).2 hl]
  rfl
theorem Get_no (t : ByteArray) (ht : t.size ≤ 30000) (hl : EscM.get t.data.toList = none) (w : World) :
    Calls Try.prog 49 #[.string t] w fun e w' => e = .returned (.tuple #[.string ⟨#[]⟩, .bool false]) ∧ Below w.heap.size w w' := by
  refine (Get_any t ht w).mono ?_
  rintro e w' ⟨rfl, hb⟩
  refine ⟨?_, hb⟩
  rw [hl]
  rfl

end Go.Proofs.Ytobfbjfajdnhaaa.EscW
