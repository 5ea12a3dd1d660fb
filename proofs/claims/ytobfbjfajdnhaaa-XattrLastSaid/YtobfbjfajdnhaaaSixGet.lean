/- Walks over package sixty: number, unfilled, decode, Get. -/
import Derived.Test.YtobfbjfajdnhaaaSixPut
import Derived.Recover
namespace Go.Proofs.Ytobfbjfajdnhaaa.SixW
open Go.RowKit
open SixM
set_option linter.unusedVariables false

theorem indexLetters (c : UInt8) (w : World) :
    Calls Try.prog 29 #[.string ⟨#[65, 66, 67, 68, 69, 70, 71, 72, 73, 74, 75, 76, 77, 78, 79, 80, 81, 82, 83, 84, 85, 86, 87, 88, 89, 90, 97, 98, 99, 100, 101, 102, 103, 104, 105, 106, 107, 108, 109, 110, 111, 112, 113, 114, 115, 116, 117, 118, 119, 120, 121, 122, 48, 49, 50, 51, 52, 53, 54, 55, 56, 57, 43, 47]⟩, .int .u8 (c.toNat : Int)] w fun e w' => e = .returned (.int .i64 (match num c with | some k => (k : Int) | none => -1)) ∧ w' = w := by
  refine (Try.strings_IndexByte ⟨letters.toArray⟩ (c.toNat : Int) w).mono ?_
  rintro e w' ⟨rfl, rfl⟩
  refine ⟨?_, rfl⟩
  have h := index_num c
  simp only [Int.toNat_natCast]
  rw [show c.toNat.toUInt8 = c by simp]
  show Ending.returned (Value.int IntKind.i64 (Lib.indexByte letters c)) = _
  rw [h]
  cases num c <;> rfl

theorem number_yes (c : UInt8) (k : Nat) (hk : num c = some k) (w : World) :
    Calls Try.prog 71 #[.int .u8 (c.toNat : Int)] w fun e w' => e = .returned (.int .u32 (k : Int)) ∧ w' = w := by
  have hidx := indexLetters c
  rw [hk] at hidx
  have hk64 := (L_num hk).2
  have h0 : ¬ (k : Int) < 0 := by omega
  have h1 : (k : Int) % 4294967296 = (k : Int) := by omega
  go_enter Try.func71, Try.ntmps71
  go_wp2_with fail
  refine (hidx _).mono ?_
  rintro e w4 ⟨rfl, rfl⟩
  go_wp2_with fail
  go_ret
  exact ⟨rfl, rfl⟩

/-- What ends the decoding. -/
def notPut : List PanicEntry := [{ v := .iface 92 (.agg #[]), recovered := false }]

theorem number_no (c : UInt8) (hk : num c = none) (w : World) :
    Calls Try.prog 71 #[.int .u8 (c.toNat : Int)] w fun e w' => e = .panicked notPut ∧ w' = w := by
  have hidx := indexLetters c
  rw [hk] at hidx
  go_enter Try.func71, Try.ntmps71
  go_wp2_with fail
  refine (hidx _).mono ?_
  rintro e w4 ⟨rfl, rfl⟩
  go_wp2_with fail
  exact ⟨rfl, rfl, rfl⟩

theorem trim_len (l : List UInt8) : (Lib.trimSuffix l [61]).length ≤ l.length := by
  unfold Lib.trimSuffix
  split
  · simp
  · exact Nat.le_refl _
theorem trimFill (t : ByteArray) (ht : t.size ≤ 30000) (w : World) :
    Calls Try.prog 74 #[.string t, .string ⟨#[61]⟩] w fun e w' => e = .returned (.string ⟨(Lib.trimSuffix t.data.toList [61]).toArray⟩) ∧ w' = w :=
  Try.strings_TrimSuffix t ⟨#[61]⟩ w (by omega)
theorem unfilled_yes (t : ByteArray) (ht : t.size ≤ 30000) (h4 : t.size % 4 = 0) (w : World) :
    Calls Try.prog 70 #[.string t] w fun e w' => e = .returned (.string ⟨(Lib.trimSuffix (Lib.trimSuffix t.data.toList [61]) [61]).toArray⟩) ∧ w' = w := by
  obtain ⟨n, hn⟩ : ∃ n, t.size = n := ⟨_, rfl⟩
  rw [hn] at ht h4
  have h4' : ((n : Int) % 4 != 0) = false := by simp; omega
  go_enter Try.func70, Try.ntmps70
  go_wp2_with fail
  refine (trimFill t (by omega) _).mono ?_
  rintro e w4 ⟨rfl, rfl⟩
  go_wp2_with fail
  refine (trimFill ⟨(Lib.trimSuffix t.data.toList [61]).toArray⟩ ?_ _).mono ?_
  · show (Lib.trimSuffix t.data.toList [61]).toArray.size ≤ 30000
    have := trim_len t.data.toList
    have h3 : t.data.toList.length = n := by rw [← hn]; simp
    rw [List.size_toArray]
    omega
  rintro e w4 ⟨rfl, rfl⟩
  go_wp2_with fail
  go_ret
  exact ⟨rfl, rfl⟩
theorem unfilled_no (t : ByteArray) (ht : t.size ≤ 30000) (h4 : ¬ t.size % 4 = 0) (w : World) :
    Calls Try.prog 70 #[.string t] w fun e w' => e = .panicked notPut ∧ w' = w := by
  obtain ⟨n, hn⟩ : ∃ n, t.size = n := ⟨_, rfl⟩
  rw [hn] at ht h4
  have h4' : ((n : Int) % 4 != 0) = true := by simp; omega
  go_enter Try.func70, Try.ntmps70
  go_wp2_with fail
  exact ⟨rfl, rfl, rfl⟩

/-- How the decoding of letters ends. -/
def DecEnd (o : Option (List UInt8)) (e : Ending) : Prop := match o with
  | some l => e = .returned (.string ⟨l.toArray⟩)
  | none => e = .panicked notPut
theorem shl32 (r : Nat) (k : Nat) (hk : k < 64) : bits .or .u32 ((r : Int) * 64 % 4294967296) (k : Int) = (((r * 64 + k) % 4294967296 : Nat) : Int) := by
  have h1 : (r : Int) * 64 % 4294967296 = ((r % 67108864 * 64 : Nat) : Int) := by omega
  have h3 : r % 67108864 * 64 ||| k = r % 67108864 * 64 + k := by
    rw [Nat.mul_comm]
    exact (Nat.two_pow_add_eq_or_of_lt (i := 6) hk (r % 67108864)).symm
  rw [h1, u32_or_nat _ _ (by omega) (by omega), h3]
  omega

theorem maskz (r h : Nat) (hr : r < 4294967296) (hh : h ≤ 6) : (bits .and .u32 (r : Int) ((2 ^ h - 1) % 4294967296) != 0) = !decide (r % 2 ^ h = 0) := by
  have e : ((2 ^ h - 1) % 4294967296 : Int) = ((2 ^ h - 1 : Nat) : Int) := by
    obtain rfl | rfl | rfl | rfl | rfl | rfl | rfl : h = 0 ∨ h = 1 ∨ h = 2 ∨ h = 3 ∨ h = 4 ∨ h = 5 ∨ h = 6 := by omega
    all_goals rfl
  have e2 : 2 ^ h - 1 < 4294967296 := by
    obtain rfl | rfl | rfl | rfl | rfl | rfl | rfl : h = 0 ∨ h = 1 ∨ h = 2 ∨ h = 3 ∨ h = 4 ∨ h = 5 ∨ h = 6 := by omega
    all_goals decide
  rw [e, u32_and_nat r _ hr e2, Nat.and_two_pow_sub_one_eq_mod]
  by_cases hz : r % 2 ^ h = 0
  · simp [hz]
  · rw [decide_eq_false hz]
    generalize r % 2 ^ h = v at *
    simp; omega

set_option maxHeartbeats 1600000 in
theorem decode_any (t : ByteArray) (ht : t.size ≤ 30000) (w : World) :
    Calls Try.prog 62 #[.string t] w fun e w' => DecEnd (SixM.get t.data.toList) e ∧ Below w.heap.size w w' := by
  have htl : t.data.toList.length = t.size := by simp
  by_cases h4 : t.size % 4 = 0
  · obtain ⟨u, hu⟩ : ∃ u, Lib.trimSuffix (Lib.trimSuffix t.data.toList [61]) [61] = u := ⟨_, rfl⟩
    have hget : SixM.get t.data.toList = dec 0 0 u := by
      unfold SixM.get unfill
      rw [if_pos (by rw [htl]; exact h4), Option.bind_some, hu]
    have hul : u.length ≤ 30000 := by
      have h1 := trim_len t.data.toList
      have h2 := trim_len (Lib.trimSuffix t.data.toList [61])
      rw [hu] at h2
      omega
    have hunf := unfilled_yes t ht h4
    rw [hu] at hunf
    rw [hget]
    clear hu hget htl h4
    obtain ⟨S, hS⟩ : ∃ S : ByteArray, S = ⟨u.toArray⟩ := ⟨_, rfl⟩
    have hSl : S.data.toList = u := by rw [hS]
    obtain ⟨n, hn⟩ : ∃ n, S.size = n := ⟨_, rfl⟩
    have hun : u.length = n := by rw [← hn, ← hSl]; simp
    rw [← hS] at hunf
    have HS := Lib.hid hSl
    have Hun := Lib.hid hun
    have hn30 : n ≤ 30000 := by omega
    clear hSl hS hun hul
    go_enter Try.func62, Try.ntmps62
    go_wp2_with fail
    refine (hunf _).mono ?_
    rintro e w2 ⟨rfl, rfl⟩
    go_wp2_with fail
    refine (grow_b (n * 6 / 8) _ (by simp) w2 (by omega)).mono ?_
    rintro e w1 ⟨rfl, hB, hb1⟩
    go_wp2_with fail
    go_loopw [5, 6, 17] (fun bv hv iv wr => ∃ (i r h : Nat) (acc : List UInt8), bv = .int .u32 (r : Int) ∧ hv = .int .i64 (h : Int) ∧ iv = .int .i64 (i : Int) ∧ i ≤ n ∧ r < 4294967296 ∧ h % 2 = 0 ∧ h ≤ 6 ∧ Bld w2.heap.size acc wr ∧ Below w2.heap.size w2 wr ∧ (dec h r (u.drop i)).map (acc ++ ·) = dec 0 0 u ∧ acc.length ≤ i) (fun _ _ iv _ => n - (intOf iv).toNat)
    case atStart => exact ⟨0, 0, 0, [], rfl, rfl, rfl, Nat.zero_le _, by decide, by decide, by decide, hB, hb1, by simp only [List.nil_append, List.drop_zero]; cases dec 0 0 u <;> rfl, by simp⟩
    case round =>
      obtain ⟨i, r, h, acc, rfl, rfl, rfl, hi, hr, hh2, hh, hB, hbl, hacc, hal⟩ := hrel
      by_cases hlt : i < n
      · obtain ⟨c, hc, hidx⟩ := idx_at Try.underlying9 S i (by omega)
        rw [HS.out] at hc
        have hlt' : (i : Int) < (n : Int) := by omega
        rw [drop_at hc] at hacc
        rcases hk : num c with _ | k
        · have hnone : dec 0 0 u = none := by rw [← hacc]; simp [dec, hk]
          have Hnone := Lib.hid hnone
          have hno := number_no c hk
          clear hacc hk hnone
          go_wp2_with fail
          refine (hno _).mono ?_
          rintro e w4 ⟨rfl, rfl⟩
          go_wp2_with fail
          exact ⟨rfl, by rw [Hnone.out]; rfl, hbl⟩
        · have hyes := number_yes c k hk
          have hk64 := (L_num hk).2
          have hor := shl32 r k hk64
          have hx1 : (r * 64 + k) % 4294967296 < 4294967296 := Nat.mod_lt _ (by decide)
          simp only [dec, hk] at hacc
          generalize (r * 64 + k) % 4294967296 = x at *
          by_cases h8 : 8 ≤ h + 6
          · rw [if_pos h8] at hacc
            go_wp2_with fail
            refine (hyes _).mono ?_
            rintro e w4 ⟨rfl, rfl⟩
            go_wp2_with fail
            refine (writeByte_b _ acc (UInt8.ofNat (x / 2 ^ (h - 2))) _ (by simp) w4 hB (by omega) (bld_lt hB)).mono ?_
            rintro e w5 ⟨rfl, hB5, hb5⟩
            have hbl5 := hbl.trans hb5
            clear hB hbl hyes hor hidx hk
            go_wp2_with fail
            go_roundw
            case rel =>
              refine ⟨i + 1, x, h - 2, _, rfl, by congr 1; omega, rfl, by omega, hx1, by omega, by omega, hB5, hbl5, ?_, by simp; omega⟩
              rw [← hacc, Option.map_map]
              congr 1
              funext z
              simp
            case measure => simp only [intOf]; omega
          · rw [if_neg h8] at hacc
            go_wp2_with fail
            refine (hyes _).mono ?_
            rintro e w4 ⟨rfl, rfl⟩
            clear hyes hidx hk
            go_wp2_with fail
            go_roundw
            case rel =>
              exact ⟨i + 1, x, h + 6, acc, rfl, rfl, rfl, by omega, hx1, by omega, by omega, hB, hbl, hacc, by omega⟩
            case measure => simp only [intOf]; omega
      · have hlt' : ¬ (i : Int) < (n : Int) := by omega
        have hdr : u.drop i = [] := List.drop_eq_nil_of_le (by have := Hun.out; omega)
        rw [hdr] at hacc
        simp only [dec] at hacc
        have hm := maskz r h hr hh
        by_cases hz : r % 2 ^ h = 0
        · rw [if_pos hz] at hacc
          rw [decide_eq_true hz] at hm
          have Hacc := Lib.hid hacc
          clear hacc hz
          go_wp2_with fail
          refine (string_b _ acc _ hB).mono ?_
          rintro e w5 ⟨rfl, hb5⟩
          have hbl5 := hbl.trans hb5
          go_wp2_with fail
          go_ret
          refine ⟨?_, hbl5⟩
          rw [← Hacc.out]
          show Ending.returned (Value.string ⟨acc.toArray⟩) = Ending.returned (Value.string ⟨(acc ++ []).toArray⟩)
          rw [List.append_nil]
        · rw [if_neg hz] at hacc
          rw [decide_eq_false hz] at hm
          have Hacc := Lib.hid hacc
          clear hacc hz
          go_wp2_with fail
          exact ⟨rfl, by rw [← Hacc.out]; rfl, hbl⟩
  · have hnone : SixM.get t.data.toList = none := by
      unfold SixM.get unfill
      rw [if_neg (by rw [htl]; exact h4)]; rfl
    rw [hnone]
    go_enter Try.func62, Try.ntmps62
    go_wp2_with fail
    refine (unfilled_no t ht h4 _).mono ?_
    rintro e w4 ⟨rfl, rfl⟩
    go_wp2_with fail
    exact ⟨rfl, rfl, Below.refl _ _⟩

theorem catch_panic (p : Addr) (x : Bool) (u : TypeId) (pv : Value) (older : List PanicEntry) (w : World) (hc : w.cell? p = some (.bool x)) (hz : w.frozen? p = false) :
    CallsD Try.prog 61 #[.pointer (some p)] (.panicking ({ v := .iface u pv, recovered := false } :: older)) w fun e u' w' =>
      e = .returned (.tuple #[]) ∧ u' = .panicking ({ v := .iface u pv, recovered := true } :: older) ∧ w' = w.setCell p (.bool false) := by
  refine callsD_of_wpS Try.func61 rfl fun c₀ cs hu => ?_
  apply wpS_region
  simp [wpOpsS, go_sem, recoverD, hu, Try.ntmps61, hc, hz, bodyPostS, results, Try.results61]
theorem catch_idle (p : Addr) (x : Bool) (w : World) (hc : w.cell? p = some (.bool x)) (hz : w.frozen? p = false) :
    CallsD Try.prog 61 #[.pointer (some p)] .returning w fun e u' w' => e = .returned (.tuple #[]) ∧ u' = .returning ∧ w' = w.setCell p (.bool true) := by
  refine callsD_of_wpS Try.func61 rfl fun c₀ cs hu => ?_
  apply wpS_region
  simp [wpOpsS, go_sem, recoverD, hu, Try.ntmps61, hc, hz, bodyPostS, results, Try.results61]
  cases c₀
  simp_all

/-- What Get hands back. -/
def getRet (o : Option (List UInt8)) : Value := match o with
  | some l => .tuple #[.string ⟨l.toArray⟩, .bool true]
  | none => .tuple #[.string ⟨#[]⟩, .bool false]

set_option maxHeartbeats 800000 in
theorem Get_any (t : ByteArray) (ht : t.size ≤ 30000) (w : World) :
    Calls Try.prog 50 #[.string t] w fun e w' => e = .returned (getRet (SixM.get t.data.toList)) ∧ Below w.heap.size w w' := by
  have hmf : ∀ (fn : Fn) (first cap : Array Value) (w : World), (Instr.makeFunc fn first cap).run Try.prog w = .ok (.func fn first cap) w := fun _ _ _ _ => rfl
  go_enter_defers Try.func50, Try.ntmps50
  go_wp2_with fail
  refine (decode_any t ht _).mono ?_
  rintro e w2 ⟨he, hb2⟩
  have hc0 : (w.alloc (.cells #[.bool false] 4)).cell? ⟨w.heap.size, 0, none⟩ = some (.bool false) := by simp [go_sem]
  have hf0 : (w.alloc (.cells #[.bool false] 4)).frozen? ⟨w.heap.size, 0, none⟩ = false := by simp [go_sem]
  have hc2 := cell_kept hb2 hc0
  have hf2 := free_kept hb2 hc0 hf0
  have hs2 := hb2.size
  have hb : Below w.heap.size w w2 := ((Below.refl _ w).alloc (Nat.le_refl _) _).trans (hb2.mono (by simp))
  clear hc0 hf0
  rcases hg : SixM.get t.data.toList with _ | l
  · rw [hg] at he
    obtain rfl : e = .panicked notPut := he
    have Hg := Lib.hid hg
    clear hg hb2
    go_wp2_with fail
    refine leaves_cons (f := 61) (args := #[.pointer (some ⟨w.heap.size, 0, none⟩)]) (by simp) (by simp [go_sem]) ?_
    refine (catch_panic ⟨w.heap.size, 0, none⟩ false _ _ [] w2 hc2 hf2).mono ?_
    rintro e u' w'' ⟨rfl, rfl, rfl⟩
    simp [Leaves, settle, results, Try.results50, go_sem, notPut, hc2, hf2]
    rw [Hg.out]
    exact ⟨rfl, hb.setCell (Nat.le_refl _) _⟩
  · rw [hg] at he
    obtain rfl : e = .returned (.string ⟨l.toArray⟩) := he
    have Hg := Lib.hid hg
    clear hg hb2
    go_wp2_with fail
    refine leaves_cons (f := 61) (args := #[.pointer (some ⟨w.heap.size, 0, none⟩)]) (by simp) (by simp [go_sem]) ?_
    refine (catch_idle ⟨w.heap.size, 0, none⟩ true _ ?_ ?_).mono ?_
    · simp [go_sem, hc2]
    · simp [go_sem, hf2]
    rintro e u' w'' ⟨rfl, rfl, rfl⟩
    simp [Leaves, settle, results, Try.results50, go_sem, hc2, hf2]
    rw [Hg.out]
    exact ⟨rfl, (hb.setCell (Nat.le_refl _) _).setCell (Nat.le_refl _) _⟩
end Go.Proofs.Ytobfbjfajdnhaaa.SixW
