/- Walks over package text: read, Bad, Count, Valid. -/
import Derived.Test.YthmmcmpbpfnocaaDoorTextChar
namespace Go.Proofs.YthmmcmpbpfnocaaDoor
open Go.RowKit
open TextM
set_option linter.unusedVariables false

theorem ext_list (S : ByteArray) (i : Nat) : (S.extract i S.size).data.toList = S.data.toList.drop i := by
  simp
  exact List.take_of_length_le (by simp)
theorem rd_at {L : List UInt8} {i k : Nat} (h : rd L = ((rd (L.drop i)).1 + i, (rd (L.drop i)).2.1 + k, (rd (L.drop i)).2.2)) (hs : sg (L.drop i) ≠ 0) :
    rd L = ((rd (L.drop (i + sg (L.drop i)))).1 + (i + sg (L.drop i)), (rd (L.drop (i + sg (L.drop i)))).2.1 + (k + 1), (rd (L.drop (i + sg (L.drop i)))).2.2) := by
  rw [h, rd_step hs, List.drop_drop]
  simp only [Prod.mk.injEq]
  exact ⟨by omega, by omega, trivial⟩
theorem rd_end {L : List UInt8} {i k : Nat} (h : rd L = ((rd (L.drop i)).1 + i, (rd (L.drop i)).2.1 + k, (rd (L.drop i)).2.2)) (hs : sg (L.drop i) = 0) (hi : i < L.length) :
    badI L = (i : Int) ∧ cntN L = k := by
  rw [rd_bad hs (by intro he; have := congrArg List.length he; rw [List.length_drop, List.length_nil] at this; omega)] at h
  unfold badI cntN
  rw [h]
  simp
theorem rd_all {L : List UInt8} {i k : Nat} (h : rd L = ((rd (L.drop i)).1 + i, (rd (L.drop i)).2.1 + k, (rd (L.drop i)).2.2)) (hi : i = L.length) :
    badI L = -1 ∧ cntN L = k := by
  subst hi
  rw [List.drop_length, rd_nil] at h
  unfold badI cntN
  rw [h]
  simp
theorem sg_of {l : List UInt8} {k : Nat} (h : sgn l = some k) : sg l = k := by unfold sg; rw [h]; rfl
theorem sg_of_none {l : List UInt8} (h : sgn l = none) : sg l = 0 := by unfold sg; rw [h]; rfl

theorem catch_panic (u : TypeId) (pv : Value) (older : List PanicEntry) (w : World) :
    CallsD Tryd.prog 17 #[] (.panicking ({ v := .iface u pv, recovered := false } :: older)) w fun e u' w' =>
      e = .returned (.tuple #[]) ∧ u' = .panicking ({ v := .iface u pv, recovered := true } :: older) ∧ w' = w := by
  refine callsD_of_wpS Tryd.func17 rfl fun c₀ cs hu => ?_
  apply wpS_region
  simp [wpOpsS, go_sem, recoverD, hu, Tryd.ntmps17, bodyPostS, results, Tryd.results17]
theorem catch_idle (w : World) :
    CallsD Tryd.prog 17 #[] .returning w fun e u' w' => e = .returned (.tuple #[]) ∧ u' = .returning ∧ w' = w := by
  refine callsD_of_wpS Tryd.func17 rfl fun c₀ cs hu => ?_
  apply wpS_region
  simp [wpOpsS, go_sem, recoverD, hu, Tryd.ntmps17, bodyPostS, results, Tryd.results17]
  cases c₀
  simp_all

set_option maxHeartbeats 1600000 in
theorem read_any (S : ByteArray) (hS : S.size ≤ 1000000) (w : World) (hA : Amb w) :
    Calls Tryd.prog 15 #[.string S] w fun e w' => e = .returned (.tuple #[.int .i64 (badI S.data.toList), .int .i64 (cntN S.data.toList : Int)]) ∧ Below w.heap.size w w' := by
  obtain ⟨n, hn⟩ : ∃ n, S.size = n := ⟨_, rfl⟩
  obtain ⟨L, hL⟩ : ∃ L, S.data.toList = L := ⟨_, rfl⟩
  have hln := Lib.hid (show L.length = n by rw [← hL, ← hn]; simp)
  have HX := Lib.hid (fun i => (show (S.extract i n).data.toList = L.drop i by rw [← hn, ext_list, hL]))
  have HZ := Lib.hid (fun i (hi : i ≤ n) => (show (S.extract i n).size = n - i by simp; omega))
  rw [hL]
  clear hL
  rw [hn] at hS
  have hmf : ∀ (fn : Fn) (first cap : Array Value) (w : World), (Instr.makeFunc fn first cap).run Tryd.prog w = .ok (.func fn first cap) w := fun _ _ _ _ => rfl
  go_enter_defers Tryd.func15, Tryd.ntmps15
  go_wp2_with fail
  go_loopw [2, 3] (fun bv kv wr => ∃ i k : Nat, bv = .int .i64 (i : Int) ∧ kv = .int .i64 (k : Int) ∧ i ≤ n ∧ k ≤ i ∧ Below w.heap.size w wr ∧ Hid (rd L = ((rd (L.drop i)).1 + i, (rd (L.drop i)).2.1 + k, (rd (L.drop i)).2.2))) (fun bv _ _ => n - (intOf bv).toNat)
  case atStart => exact ⟨0, 0, rfl, rfl, by omega, by omega, Below.refl _ _, Lib.hid (by simp)⟩
  case round =>
    obtain ⟨i, k, rfl, rfl, hi, hk, hbl, HR⟩ := hrel
    rename_i wr
    by_cases hlt : i < n
    · have hlt' : (i : Int) < (n : Int) := by omega
      have hch := character_any (S.extract i n) (by rw [HZ.out i hi]; omega) (by rw [HZ.out i hi]; omega)
      rw [HX.out i] at hch
      go_wp2_with fail
      refine (hch _ (hA.on hbl)).mono ?_
      rintro e w1 ⟨he, hb1⟩
      have hbl1 := gr_call hbl hb1
      have Hrd := Lib.hid (HR.out)
      rcases hsg : sgn (L.drop i) with _ | m
      · rw [hsg] at he
        obtain rfl : e = .panicked endsEarly := he
        have Hend := Lib.hid (rd_end HR.out (sg_of_none hsg) (by rw [hln.out]; exact hlt))
        clear hsg hch hb1
        go_wp2_with fail
        refine leaves_cons (f := 17) (args := #[]) (by simp) (by simp [go_sem]) ?_
        refine (catch_panic _ _ [] w1).mono ?_
        rintro e u' w'' ⟨rfl, rfl, rfl⟩
        simp [Leaves, settle, results, Tryd.results15, go_sem, endsEarly]
        rw [Hend.out.1, Hend.out.2]
        exact ⟨⟨rfl, rfl⟩, hbl1⟩
      · rw [hsg] at he
        obtain rfl : e = .returned (.int .i64 (m : Int)) := he
        have hsz := sg_of hsg
        by_cases hm : m = 0
        · subst hm
          have Hend := Lib.hid (rd_end HR.out hsz (by rw [hln.out]; exact hlt))
          clear hsg hch hb1 hsz
          go_wp2_with fail
          refine leaves_cons (f := 17) (args := #[]) (by simp) (by simp [go_sem]) ?_
          refine (catch_idle w1).mono ?_
          rintro e u' w'' ⟨rfl, rfl, rfl⟩
          simp [Leaves, settle, results, Tryd.results15, go_sem]
          rw [Hend.out.1, Hend.out.2]
          exact ⟨⟨rfl, rfl⟩, hbl1⟩
        · have hst := rd_at HR.out (by rw [hsz]; exact hm)
          have hle := sg_len (L.drop i)
          rw [hsz, List.length_drop, hln.out] at hle
          rw [hsz] at hst
          have Hst := Lib.hid hst
          have hm4 := sg_le (L.drop i)
          rw [hsz] at hm4
          have hmz : ((m : Int) == 0) = false := by rw [beq_eq_false_iff_ne]; omega
          clear hsg hch hb1 hsz hst
          go_wp2_with fail
          go_roundw
          case rel => exact ⟨i + m, k + 1, by first | rfl | go_num, by first | rfl | go_num, by omega, by omega, hbl1, Hst⟩
          case measure => simp only [intOf]; omega
    · have hlt' : ¬ (i : Int) < (n : Int) := by omega
      have Hend := Lib.hid (rd_all HR.out (by rw [hln.out]; omega))
      go_wp2_with fail
      refine leaves_cons (f := 17) (args := #[]) (by simp) (by simp [go_sem]) ?_
      refine (catch_idle wr).mono ?_
      rintro e u' w'' ⟨rfl, rfl, rfl⟩
      simp [Leaves, settle, results, Tryd.results15, go_sem]
      rw [Hend.out.1, Hend.out.2]
      exact ⟨⟨rfl, rfl⟩, hbl⟩

theorem bad_any (S : ByteArray) (hS : S.size ≤ 1000000) (w : World) (hA : Amb w) :
    Calls Tryd.prog 10 #[.string S] w fun e w' => e = .returned (.int .i64 (badI S.data.toList)) ∧ Below w.heap.size w w' := by
  have hrd := read_any S hS w hA
  go_enter Tryd.func10, Tryd.ntmps10
  go_wp2_with fail
  refine hrd.mono ?_
  rintro e w1 ⟨rfl, hb1⟩
  go_wp2_with fail
  go_ret
  exact ⟨rfl, hb1⟩
theorem count_any (S : ByteArray) (hS : S.size ≤ 1000000) (w : World) (hA : Amb w) :
    Calls Tryd.prog 12 #[.string S] w fun e w' => e = .returned (.int .i64 (cntN S.data.toList : Int)) ∧ Below w.heap.size w w' := by
  have hrd := read_any S hS w hA
  go_enter Tryd.func12, Tryd.ntmps12
  go_wp2_with fail
  refine hrd.mono ?_
  rintro e w1 ⟨rfl, hb1⟩
  go_wp2_with fail
  go_ret
  exact ⟨rfl, hb1⟩
/-- Is all of it characters? -/
def validB (l : List UInt8) : Bool := (rd l).2.2
theorem valid_bad (l : List UInt8) : (badI l == -1) = validB l := by
  unfold badI validB
  cases (rd l).2.2
  · rw [if_neg (by decide), beq_eq_false_iff_ne]; omega
  · rfl
theorem valid_neg (l : List UInt8) : decide (badI l < 0) = validB l := by
  unfold badI validB
  cases (rd l).2.2
  · rw [if_neg (by decide)]; exact decide_eq_false (by omega)
  · rfl
theorem valid_any (S : ByteArray) (hS : S.size ≤ 1000000) (w : World) (hA : Amb w) :
    Calls Tryd.prog 8 #[.string S] w fun e w' => e = .returned (.bool (validB S.data.toList)) ∧ Below w.heap.size w w' := by
  have hrd := bad_any S hS w hA
  have hv := valid_bad S.data.toList
  generalize badI S.data.toList = x at *
  go_enter Tryd.func8, Tryd.ntmps8
  go_wp2_with fail
  refine hrd.mono ?_
  rintro e w1 ⟨rfl, hb1⟩
  go_wp2_with fail
  go_ret
  exact ⟨rfl, hb1⟩
end Go.Proofs.YthmmcmpbpfnocaaDoor
