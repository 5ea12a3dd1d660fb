/- The law XattrLimits, walked. -/
import Derived.Test.YtobfbjfajdnhaaaXatAwake
import Derived.Test.YtobfbjfajdnhaaaXatMake
import Derived.Test.YtobfbjfajdnhaaaMake
import Derived.Test.YtobfbjfajdnhaaaXatIsX
namespace Go.Proofs.Ytobfbjfajdnhaaa
open Go.RowKit
open XatM
set_option linter.unusedVariables false

def manyL (c : Nat) : List Xa := (List.range c).map fun i => ([110, UInt8.ofNat (65 + i)], [])
theorem many_succ (i : Nat) : manyL (i + 1) = manyL i ++ [([110, UInt8.ofNat (65 + i)], [])] := by
  unfold manyL
  rw [List.range_succ, List.map_append]
  rfl
theorem many_len (c : Nat) : (manyL c).length = c := by simp [manyL]
theorem many_may : ∀ c : Fin 36, mayL (manyL c.val) = decide (c.val ≤ 32) := by decide +kernel
theorem one_may {N V : List UInt8} (h1 : N ≠ []) (h2 : N.contains 0 = false) : mayL [(N, V)] = (decide ((EscM.put N).length ≤ 238) && decide (V.length ≤ 4096)) := by
  unfold mayL
  simp only [List.all_cons, List.all_nil, Bool.and_true, asc]
  unfold okX
  simp only
  rw [decide_eq_true h1, h2]
  simp
theorem put_rep (k : Nat) : EscM.put (List.replicate k 110) = List.replicate k 110 := by
  induction k with
  | zero => rfl
  | succ k ih => rw [List.replicate_succ, EscM.put_cons, ih]; rfl
theorem rep_no (k : Nat) : (List.replicate k (110 : UInt8)).contains 0 = false := by
  rw [Bool.eq_false_iff]
  intro h
  rw [List.contains_iff_mem, List.mem_replicate] at h
  exact absurd h.2 (by decide)
/-- The name with one byte turned. -/
def oddL (k : Nat) : List UInt8 := (List.replicate k 110).take 75 ++ 255 :: (List.replicate k 110).drop 76
theorem odd_put {k : Nat} (h : 76 ≤ k) : (EscM.put (oddL k)).length = k + 2 := by
  unfold oddL
  rw [List.take_replicate, List.drop_replicate, EscM.put_append, EscM.put_cons, put_rep, put_rep, List.length_append, List.length_append, List.length_replicate, List.length_replicate, show (EscM.enc 255).length = 3 from by decide]
  omega
theorem odd_no (k : Nat) : (oddL k).contains 0 = false := by
  unfold oddL
  rw [Bool.eq_false_iff]
  intro h
  rw [List.contains_iff_mem] at h
  rcases List.mem_append.1 h with h | h
  · rw [List.take_replicate, List.mem_replicate] at h
    exact absurd h.2 (by decide)
  · rcases List.mem_cons.1 h with h | h
    · exact absurd h (by decide)
    · rw [List.drop_replicate, List.mem_replicate] at h
      exact absurd h.2 (by decide)
theorem odd_len {k : Nat} (h : 76 ≤ k) : (oddL k).length = k := by
  unfold oddL
  simp only [List.length_append, List.length_cons, List.length_take, List.length_drop, List.length_replicate]
  omega
theorem no1 : mayL [(([] : List UInt8), [])] = false := by decide +kernel
theorem no2 : mayL [([97, 0], [])] = false := by decide +kernel
theorem no3 : mayL [([97], []), ([97], [])] = false := by decide +kernel
theorem build_x1 (a : ByteArray) (w : World) : (Instr.build 42 #[(0, .string a)]).run Try.prog w = .ok (.agg #[.string a, .string ⟨#[]⟩]) w :=
  run_build w _ _ _ (by kernel_rfl)
theorem build_x2 (a b : ByteArray) (w : World) : (Instr.build 42 #[(0, .string a), (1, .string b)]).run Try.prog w = .ok (.agg #[.string a, .string b]) w :=
  run_build w _ _ _ (by kernel_rfl)
theorem x_one (W : World) (a b : ByteArray) : At xatE (.slice (some ⟨W.heap.size, 0, none⟩) 1 1) [(a.data.toList, b.data.toList)] (W.alloc (.cells #[.string a, .string b] 42)) := by
  have h := (one_xat W (a.data.toList, b.data.toList) 0 (Nat.zero_le _)).at
  simp only [strOf_self] at h
  exact h
theorem x_two (w : World) (a b c d : ByteArray) : At xatE (.slice (some ⟨w.heap.size, 0, none⟩) 2 2) [(a.data.toList, b.data.toList), (c.data.toList, d.data.toList)] (w.alloc (.cells #[.string a, .string b, .string c, .string d] 42)) := by
  refine Row.at (B := 0) (lit_row (E := xatE) w _ _ 0 2 rfl (Nat.zero_le _) (by simp) ?_)
  show [Value.string a, .string b, .string c, .string d] = _
  simp only [cellsE, xatE, strOf_self]
  rfl
attribute [local irreducible] Row At BRow

set_option maxHeartbeats 6400000 in
set_option maxRecDepth 100000 in
theorem xattrLimits_walk (a0 : Int) (a1 : Int) (a2 : Bool) (w : World) (hA : Amb w) (w0 : (Lit.int .u8 a0).wf = true) (w1 : (Lit.int .u8 a1).wf = true) :
    Calls Try.prog 6 #[.int .u8 a0, .int .u8 a1, .bool a2] w fun e w' => e = .returned (.bool true) ∧ Below w.heap.size w w' := by
  have haw := Lib.hid (fun w (hA : Amb w) => awake_true w hA)
  have hw0 : 0 ≤ a0 ∧ a0 ≤ 255 := by simpa [Lit.wf, IntKind.min, IntKind.max, IntKind.signed, IntKind.bits] using w0
  have hw1 : 0 ≤ a1 ∧ a1 ≤ 255 := by simpa [Lit.wf, IntKind.min, IntKind.max, IntKind.signed, IntKind.bits] using w1
  obtain ⟨r, hr, hr20⟩ : ∃ n : Nat, a0 % 20 = (n : Int) ∧ n < 20 := ⟨(a0 % 20).toNat, by omega, by omega⟩
  obtain ⟨s, hs, hs12⟩ : ∃ n : Nat, a1 % 12 = (n : Int) ∧ n < 12 := ⟨(a1 % 12).toNat, by omega, by omega⟩
  obtain ⟨t, ht, ht8⟩ : ∃ n : Nat, a1 % 8 = (n : Int) ∧ n < 8 := ⟨(a1 % 8).toNat, by omega, by omega⟩
  have q0 : Int.tmod a0 20 = (r : Int) := by rw [Int.tmod_eq_emod_of_nonneg hw0.1]; exact hr
  have q1 : Int.tmod a1 12 = (s : Int) := by rw [Int.tmod_eq_emod_of_nonneg hw1.1]; exact hs
  have q2 : Int.tmod a1 8 = (t : Int) := by rw [Int.tmod_eq_emod_of_nonneg hw1.1]; exact ht
  obtain ⟨k, hk⟩ : ∃ k, 225 + r = k := ⟨_, rfl⟩
  obtain ⟨n, hn⟩ : ∃ k, 4090 + s = k := ⟨_, rfl⟩
  obtain ⟨c, hc⟩ : ∃ k, 28 + t = k := ⟨_, rfl⟩
  have y0 : (225 : Int) + (r : Int) = (k : Int) := by omega
  have y1 : (4090 : Int) + (s : Int) = (n : Int) := by omega
  have y2 : (28 : Int) + (t : Int) = (c : Int) := by omega
  have hk9 : 225 ≤ k ∧ k < 245 := by omega
  have hn9 : n < 4102 := by omega
  have hc9 : c < 36 := by omega
  obtain ⟨N1, hN1⟩ : ∃ O : ByteArray, (⟨#[110]⟩ : ByteArray) = O := ⟨_, rfl⟩
  obtain ⟨EE, hEE⟩ : ∃ O : ByteArray, (⟨#[]⟩ : ByteArray) = O := ⟨_, rfl⟩
  have hNl := Lib.hid (show N1.data.toList = [110] ∧ N1.size = 1 by rw [← hN1]; exact ⟨rfl, rfl⟩)
  have hEl := Lib.hid (show EE.data.toList = [] by rw [← hEE])
  obtain ⟨V1, hV1⟩ : ∃ O : ByteArray, (⟨#[118]⟩ : ByteArray) = O := ⟨_, rfl⟩
  obtain ⟨VZ, hVZ⟩ : ∃ O : ByteArray, (⟨(List.replicate n (0 : UInt8)).toArray⟩ : ByteArray) = O := ⟨_, rfl⟩
  obtain ⟨A0, hA0⟩ : ∃ O : ByteArray, (⟨#[97, 0]⟩ : ByteArray) = O := ⟨_, rfl⟩
  obtain ⟨A1, hA1⟩ : ∃ O : ByteArray, (⟨#[97]⟩ : ByteArray) = O := ⟨_, rfl⟩
  obtain ⟨F5, hF5⟩ : ∃ O : ByteArray, (⟨#[255]⟩ : ByteArray) = O := ⟨_, rfl⟩
  have hVl := Lib.hid (show V1.data.toList = [118] ∧ VZ.data.toList = List.replicate n 0 ∧ A0.data.toList = [97, 0] ∧ A1.data.toList = [97] by rw [← hV1, ← hVZ, ← hA0, ← hA1]; exact ⟨rfl, rfl, rfl, rfl⟩)
  have hFl := Lib.hid (show F5.data.toList = [255] ∧ F5.size = 1 by rw [← hF5]; exact ⟨rfl, rfl⟩)
  clear w0 w1 hr hs ht hk hn hc
  go_enter Try.func6, Try.ntmps6
  simp only [hN1, hEE, hV1, hA0, hA1, hF5]
  clear hN1 hEE hV1 hA0 hA1 hF5
  go_wp2_with fail
  go_loopw [7, 9] (fun sv iv wr => ∃ (i : Nat) (S : ByteArray), iv = .int .i64 (i : Int) ∧ sv = .string S ∧ i ≤ k ∧ wr = w ∧ Hid (S.data.toList = List.replicate i 110)) (fun _ iv _ => k - (intOf iv).toNat)
  case atStart => exact ⟨0, EE, rfl, rfl, by omega, rfl, Lib.hid hEl.out⟩
  case round =>
    obtain ⟨i, S, rfl, rfl, hi, rfl, HR⟩ := hrel
    rename World => w
    by_cases hlt : i < k
    · have hlt' : decide ((i : Int) < (k : Int)) = true := decide_eq_true (by omega)
      have hlt2 : decide (i < k) = true := decide_eq_true hlt
      have hSs : S.size = i := by rw [← len_list, HR.out, List.length_replicate]
      obtain ⟨S1, hS1⟩ : ∃ O : ByteArray, S ++ N1 = O := ⟨_, rfl⟩
      have HN : Hid (S1.data.toList = List.replicate (i + 1) 110) := Lib.hid (by rw [← hS1, bytes_list, HR.out, hNl.out.1, List.replicate_succ'])
      have hN1s := hNl.out.2
      have b1 : ¬ 9223372036854775807 < S.size + N1.size := by omega
      have b2 : ¬ 9223372036854775807 < S.size + 1 := by omega
      clear HR hN1s hSs
      go_wp2_with fail
      go_roundw
      case rel => exact ⟨i + 1, S1, rfl, by rw [← hS1], by omega, by first | trivial | rfl, HN⟩
      case measure => simp only [intOf]; omega
    · have hlt' : decide ((i : Int) < (k : Int)) = false := decide_eq_false (by omega)
      have hlt2 : decide (i < k) = false := decide_eq_false hlt
      obtain rfl : i = k := by omega
      have hSs : S.size = i := by rw [← len_list, HR.out, List.length_replicate]
      have HL2 := Lib.hid (show mayL [(V1.data.toList, VZ.data.toList)] = decide (n ≤ 4096) by
        rw [hVl.out.1, hVl.out.2.1, one_may (by decide) (by decide), List.length_replicate, show decide ((EscM.put [118]).length ≤ 238) = true by decide, Bool.true_and])
      rcases a2 with _ | _
      · obtain ⟨NM, rfl⟩ : ∃ N, N = S := ⟨_, rfl⟩
        have HL1 := Lib.hid (show mayL [(NM.data.toList, (⟨#[]⟩ : ByteArray).data.toList)] = decide (i ≤ 238) by
          rw [HR.out, one_may (by intro e; have := congrArg List.length e; rw [List.length_replicate] at this; simp at this; omega) (rep_no _), put_rep, List.length_replicate]
          simp)
        have HBd : Hid (Bounded [(NM.data.toList, (⟨#[]⟩ : ByteArray).data.toList)] ∧ Bounded [(V1.data.toList, VZ.data.toList)]) := Lib.hid ⟨⟨by simp, by simp; omega⟩, ⟨by simp, by rw [hVl.out.1, hVl.out.2.1]; simp; omega⟩⟩
        obtain ⟨bk, hbk⟩ : ∃ x, decide (i ≤ 238) = x := ⟨_, rfl⟩
        have dk : decide ((i : Int) ≤ 238) = bk := by rw [← hbk, decide_eq_decide]; omega
        rw [hbk] at HL1
        clear HR hSs hlt' hlt2 hlt
        have hbw : Below w.heap.size w w := Below.refl _ _
        have hbx1 := build_x1 NM
        have hbx2 := build_x2 V1 VZ
        have hbx3 := build_x1 EE
        have hbx4 := build_x1 A0
        have hbx5 := build_x1 A1
        have wy1 : IntKind.i64.wrap (4090 + (s : Int)) = (n : Int) := by rw [IntKind.wrap_i64]; omega
        have hone0 := x_one w NM ⟨#[]⟩
        have hx0 : Below w.heap.size w (w.alloc (.cells #[.string NM, .string ⟨#[]⟩] 42)) := gr_alloc hbw _
        go_wp2_with (at_make; refine wp_make rfl _ _ rfl (w.alloc (.cells #[.string NM, .string ⟨#[]⟩] 42)) n _ _ rfl rfl (by first | rfl | omega) (by first | rfl | omega) (by omega) ?_)
        intro w3 hr3 hb3 hcv3
        have hVZ2 : (⟨Array.replicate n (0 : UInt8)⟩ : ByteArray) = VZ := by rw [← hVZ]; simp
        first | rw [hVZ2] at hcv3 | rw [hVZ] at hcv3
        replace hb3 : Below (w.alloc (.cells #[.string NM, .string ⟨#[]⟩] 42)).heap.size (w.alloc (.cells #[.string NM, .string ⟨#[]⟩] 42)) w3 := by simpa using hb3
        have hone3 := hone0.call hb3
        replace hb3 := gr_call hx0 hb3
        clear hr3 hone0 hx0 hbw
        generalize (Value.slice (some ⟨w.heap.size, 0, none⟩) 1 1) = vo at *
        have hlong := x_one w3 V1 VZ
        have hone4 := hone3.alloc (.cells #[.string V1, .string VZ] 42)
        have hb4 : Below w.heap.size w (w3.alloc (.cells #[.string V1, .string VZ] 42)) := gr_alloc hb3 _
        go_wp2_with fail
        obtain ⟨wz, hwz⟩ : ∃ W, w3.alloc (.cells #[.string V1, .string VZ] 42) = W := ⟨_, rfl⟩
        rw [hwz] at hone4 hlong hb4 ⊢
        generalize (Value.slice (some ⟨w3.heap.size, 0, none⟩) 1 1) = vl at *
        clear hwz hone3 hb3 hcv3
        go_loopw [12, 13] (fun mv iv wr => ∃ i : Nat, iv = .int .i64 (i : Int) ∧ i ≤ c ∧ Row xatE wz.heap.size mv (manyL i) wr ∧ Below wz.heap.size wz wr) (fun _ iv _ => c - (intOf iv).toNat)
        case atStart => exact ⟨0, rfl, by omega, Row.nil _ _, Below.refl _ _⟩
        case round =>
          obtain ⟨i, rfl, hi, hR, hbz⟩ := hrel
          rename World => wr
          by_cases hlt : i < c
          · have hlt' : decide ((i : Int) < (c : Int)) = true := decide_eq_true (by omega)
            have hlt2 : decide (i < c) = true := decide_eq_true hlt
            obtain ⟨u, hu⟩ : ∃ u, UInt8.ofNat (65 + i) = u := ⟨_, rfl⟩
            have hun : (65 : Int) + (i : Int) = (u.toNat : Int) := by rw [← hu]; simp; omega
            have w65 : IntKind.i64.wrap (65 + (i : Int)) = (u.toNat : Int) := by rw [IntKind.wrap_i64]; omega
            have hult := u.toNat_lt
            have wu : IntKind.u8.wrap (u.toNat : Int) = (u.toNat : Int) := by simp [IntKind.wrap, IntKind.bits, IntKind.signed]; omega
            have wu2 : (u.toNat : Int) % 256 = (u.toNat : Int) := by omega
            have hcv := fun W => conv_one (P := Try.prog) (src := 39) (dst := 9) Try.underlying39 Try.underlying5 Try.underlying9 u (u.toNat : Int) rfl W
            obtain ⟨UB, hUB⟩ : ∃ O : ByteArray, (⟨#[u]⟩ : ByteArray) = O := ⟨_, rfl⟩
            obtain ⟨NU, hNU⟩ : ∃ O : ByteArray, N1 ++ UB = O := ⟨_, rfl⟩
            have hNUl : NU.data.toList = [110, u] := by rw [← hNU, bytes_list, hNl.out.1, ← hUB]; rfl
            have hUBs : UB.size = 1 := by rw [← hUB]; rfl
            have hN1s := hNl.out.2
            have b1 : ¬ 9223372036854775807 < N1.size + UB.size := by omega
            have b2 : ¬ 9223372036854775807 < 1 + UB.size := by omega
            have b3 : ¬ 9223372036854775807 < N1.size + 1 := by omega
            rw [hUB] at hcv
            have hbx := build_x1 NU
            have hsz := hbz.size
            have hm1 := x_one (wr.alloc (.cells #[.int .u8 (u.toNat : Int)] 5)) NU ⟨#[]⟩
            rw [show (wr.alloc (.cells #[.int .u8 (u.toNat : Int)] 5)).heap.size = wr.heap.size + 1 by simp, hNUl] at hm1
            have hRa := (hR.alloc (.cells #[.int .u8 (u.toNat : Int)] 5)).alloc (.cells #[.string NU, .string ⟨#[]⟩] 42)
            have hla : (manyL i).length + [(([110, u], []) : Xa)].length ≤ 1000000 := by rw [many_len]; simp; omega
            have hsa : wz.heap.size ≤ ((wr.alloc (.cells #[.int .u8 (u.toNat : Int)] 5)).alloc (.cells #[.string NU, .string ⟨#[]⟩] 42)).heap.size := by simp; omega
            have hba : Below wz.heap.size wz ((wr.alloc (.cells #[.int .u8 (u.toNat : Int)] 5)).alloc (.cells #[.string NU, .string ⟨#[]⟩] 42)) := gr_alloc (gr_alloc hbz _) _
            have HM := Lib.hid (show manyL (i + 1) = manyL i ++ [([110, u], [])] by rw [many_succ, hu])
            clear hu hun hult hUB hNUl hUBs hN1s hbz
            go_wp2_with (at_builtin; refine wp_append_at xatE rfl _ _ rfl wz.heap.size _ (.slice (some ⟨wr.heap.size + 1, 0, none⟩) 1 1) (manyL i) [([110, u], [])] ((wr.alloc (.cells #[.int .u8 (u.toNat : Int)] 5)).alloc (.cells #[.string NU, .string ⟨#[]⟩] 42)) rfl (by exact hRa) (by rfl) (by exact hm1) hla hsa ?_)
            intro v9 w9 hR9 hb9 _ _
            rw [← HM.out] at hR9
            have hbl9 := hba.trans hb9
            clear hRa hm1 hla hsa hba hb9 hR hcv
            go_wp2_with fail
            go_roundw
            case rel => exact ⟨i + 1, rfl, by omega, hR9, hbl9⟩
            case measure => simp only [intOf]; omega
          · have hlt' : decide ((i : Int) < (c : Int)) = false := decide_eq_false (by omega)
            have hlt2 : decide (i < c) = false := decide_eq_false hlt
            obtain rfl : i = c := by omega
            have hbl := gr_call hb4 hbz
            have hone5 := hone4.call hbz
            have hlong5 := hlong.call hbz
            obtain ⟨pm, cm, rfl, _⟩ := hR.at.shape
            rw [many_len]
            have hM1 := Lib.hid (fun w (hA : Amb w) hat => MayX_any vo _ w hA hat (HBd.out.1))
            have hM2 := Lib.hid (fun w (hA : Amb w) hat => MayX_any vl _ w hA hat (HBd.out.2))
            have hM3 := Lib.hid (fun v w (hA : Amb w) hat => MayX_any v (manyL i) w hA hat ⟨by rw [many_len]; omega, fun x hx => by
              unfold manyL at hx
              obtain ⟨j, _, rfl⟩ := List.mem_map.1 hx
              simp⟩)
            have hM4 := Lib.hid (fun v w (hA : Amb w) hat => MayX_any v [([], [])] w hA hat ⟨by simp, by simp⟩)
            have hM5 := Lib.hid (fun v w (hA : Amb w) hat => MayX_any v [([97, 0], [])] w hA hat ⟨by simp, by simp⟩)
            have hM6 := Lib.hid (fun v w (hA : Amb w) hat => MayX_any v [([97], []), ([97], [])] w hA hat ⟨by simp, by simp⟩)
            obtain ⟨bn, hbn⟩ : ∃ x, decide (n ≤ 4096) = x := ⟨_, rfl⟩
            have dn : decide ((n : Int) ≤ 4096) = bn := by rw [← hbn, decide_eq_decide]; omega
            obtain ⟨bc, hbc⟩ : ∃ x, decide (i ≤ 32) = x := ⟨_, rfl⟩
            have dc : decide ((i : Int) ≤ 32) = bc := by rw [← hbc, decide_eq_decide]; omega
            have s1 : (bk == bk) = true := beq_self_eq_true _
            have s2 : (bn == bn) = true := beq_self_eq_true _
            have s3 : (bc == bc) = true := beq_self_eq_true _
            rw [HL1.out] at hM1
            rw [HL2.out, hbn] at hM2
            rw [show mayL (manyL i) = bc by rw [← hbc]; exact many_may ⟨i, by omega⟩] at hM3
            rw [no1] at hM4
            rw [no2] at hM5
            rw [no3] at hM6
            have hmany := hR.at
            rw [many_len] at hmany
            clear hR hbz hone4 hlong HL1 HL2 hlt hlt' hlt2 HBd
            go_wp2_with fail
            refine (hM1.out _ (hA.on hbl) hone5).mono ?_
            rintro e u1 ⟨rfl, c1⟩
            replace hlong5 := hlong5.call c1
            replace hmany := hmany.call c1
            replace hbl := gr_call hbl c1
            clear c1 hone5
            go_wp2_with fail
            refine (hM2.out _ (hA.on hbl) hlong5).mono ?_
            rintro e u2 ⟨rfl, c2⟩
            replace hmany := hmany.call c2
            replace hbl := gr_call hbl c2
            clear c2 hlong5
            go_wp2_with fail
            refine (hM3.out _ _ (hA.on hbl) hmany).mono ?_
            rintro e u3 ⟨rfl, c3⟩
            replace hbl := gr_call hbl c3
            clear c3 hmany
            go_wp2_with fail
            have ha4 := x_one u3 EE ⟨#[]⟩
            rw [hEl.out] at ha4
            replace hbl := gr_alloc hbl (.cells #[.string EE, .string ⟨#[]⟩] 42)
            refine (hM4.out _ _ (hA.on hbl) ha4).mono ?_
            rintro e u4 ⟨rfl, c4⟩
            replace hbl := gr_call hbl c4
            clear c4 ha4
            go_wp2_with fail
            have ha5 := x_one u4 A0 ⟨#[]⟩
            rw [hVl.out.2.2.1] at ha5
            replace hbl := gr_alloc hbl (.cells #[.string A0, .string ⟨#[]⟩] 42)
            refine (hM5.out _ _ (hA.on hbl) ha5).mono ?_
            rintro e u5 ⟨rfl, c5⟩
            replace hbl := gr_call hbl c5
            clear c5 ha5
            go_wp2_with fail
            have ha6 := x_two u5 A1 ⟨#[]⟩ A1 ⟨#[]⟩
            rw [hVl.out.2.2.2] at ha6
            replace hbl := gr_alloc hbl (.cells #[.string A1, .string ⟨#[]⟩, .string A1, .string ⟨#[]⟩] 42)
            refine (hM6.out _ _ (hA.on hbl) ha6).mono ?_
            rintro e u6 ⟨rfl, c6⟩
            replace hbl := gr_call hbl c6
            clear c6 ha6
            go_wp2_with fail
            refine (haw.out _ (hA.on hbl)).mono ?_
            rintro e u7 ⟨rfl, c7⟩
            replace hbl := gr_call hbl c7
            go_wp2_with fail
            go_ret
            exact ⟨rfl, hbl⟩
      · obtain ⟨TA, hTA, hsA⟩ := slice_to S 75 (by omega)
        obtain ⟨TB, hTB, _, hsB⟩ := slice_off S 76 (by omega)
        replace hsA : ∀ W, (Instr.slice 9 (.string S) none (some (.int .i64 75)) none).run Try.prog W = .ok (.string TA) W := hsA
        replace hsB : ∀ W, (Instr.slice 9 (.string S) (some (.int .i64 76)) none none).run Try.prog W = .ok (.string TB) W := hsB
        obtain ⟨T1, hT1⟩ : ∃ O : ByteArray, TA ++ F5 = O := ⟨_, rfl⟩
        obtain ⟨NM, hNM⟩ : ∃ O : ByteArray, T1 ++ TB = O := ⟨_, rfl⟩
        have hNMl : NM.data.toList = oddL i := by
          rw [← hNM, bytes_list, ← hT1, bytes_list, hTA, hTB, HR.out, hFl.out.1]
          unfold oddL
          simp
        have hTAs : TA.size ≤ 75 := by rw [← len_list, hTA, List.length_take]; omega
        have hTBs : TB.size ≤ 300 := by rw [← len_list, hTB, List.length_drop, len_list]; omega
        have hF5s := hFl.out.2
        have hT1s : T1.size ≤ 76 := by rw [← hT1, ByteArray.size_append]; omega
        have b1 : ¬ 9223372036854775807 < TA.size + F5.size := by omega
        have b2 : ¬ 9223372036854775807 < TA.size + 1 := by omega
        have b3 : ¬ 9223372036854775807 < T1.size + TB.size := by omega
        have HL1 := Lib.hid (show mayL [(NM.data.toList, (⟨#[]⟩ : ByteArray).data.toList)] = decide (i + 2 ≤ 238) by
          rw [hNMl, one_may (by intro e; have := congrArg List.length e; rw [odd_len (by omega)] at this; simp at this; omega) (odd_no _), odd_put (by omega)]
          simp)
        have HBd : Hid (Bounded [(NM.data.toList, (⟨#[]⟩ : ByteArray).data.toList)] ∧ Bounded [(V1.data.toList, VZ.data.toList)]) := Lib.hid ⟨⟨by simp, by rw [hNMl]; simp [odd_len (show 76 ≤ i by omega)]; omega⟩, ⟨by simp, by rw [hVl.out.1, hVl.out.2.1]; simp; omega⟩⟩
        obtain ⟨bk, hbk⟩ : ∃ x, decide (i + 2 ≤ 238) = x := ⟨_, rfl⟩
        have dk : decide ((i : Int) + 2 ≤ 238) = bk := by rw [← hbk, decide_eq_decide]; omega
        have wk2 : IntKind.i64.wrap ((i : Int) + 2) = (i : Int) + 2 := by rw [IntKind.wrap_i64]; omega
        rw [hbk] at HL1
        clear HR hSs hlt' hlt2 hlt hTA hTB hNMl hTAs hTBs hF5s hT1s
        go_wp2_with fail
        go_region
        have hbw : Below w.heap.size w w.drew := gr_drew (Below.refl _ _)
        obtain ⟨wd, hwd⟩ : ∃ W, w.drew = W := ⟨_, rfl⟩
        rw [hwd] at hbw ⊢
        clear hwd
        have hbx1 := build_x1 NM
        have hbx2 := build_x2 V1 VZ
        have hbx3 := build_x1 EE
        have hbx4 := build_x1 A0
        have hbx5 := build_x1 A1
        have wy1 : IntKind.i64.wrap (4090 + (s : Int)) = (n : Int) := by rw [IntKind.wrap_i64]; omega
        have hone0 := x_one wd NM ⟨#[]⟩
        have hx0 : Below w.heap.size w (wd.alloc (.cells #[.string NM, .string ⟨#[]⟩] 42)) := gr_alloc hbw _
        go_wp2_with (at_make; refine wp_make rfl _ _ rfl (wd.alloc (.cells #[.string NM, .string ⟨#[]⟩] 42)) n _ _ rfl rfl (by first | rfl | omega) (by first | rfl | omega) (by omega) ?_)
        intro w3 hr3 hb3 hcv3
        have hVZ2 : (⟨Array.replicate n (0 : UInt8)⟩ : ByteArray) = VZ := by rw [← hVZ]; simp
        first | rw [hVZ2] at hcv3 | rw [hVZ] at hcv3
        replace hb3 : Below (wd.alloc (.cells #[.string NM, .string ⟨#[]⟩] 42)).heap.size (wd.alloc (.cells #[.string NM, .string ⟨#[]⟩] 42)) w3 := by simpa using hb3
        have hone3 := hone0.call hb3
        replace hb3 := gr_call hx0 hb3
        clear hr3 hone0 hx0 hbw
        generalize (Value.slice (some ⟨wd.heap.size, 0, none⟩) 1 1) = vo at *
        have hlong := x_one w3 V1 VZ
        have hone4 := hone3.alloc (.cells #[.string V1, .string VZ] 42)
        have hb4 : Below w.heap.size w (w3.alloc (.cells #[.string V1, .string VZ] 42)) := gr_alloc hb3 _
        go_wp2_with fail
        obtain ⟨wz, hwz⟩ : ∃ W, w3.alloc (.cells #[.string V1, .string VZ] 42) = W := ⟨_, rfl⟩
        rw [hwz] at hone4 hlong hb4 ⊢
        generalize (Value.slice (some ⟨w3.heap.size, 0, none⟩) 1 1) = vl at *
        clear hwz hone3 hb3 hcv3
        go_loopw [12, 13] (fun mv iv wr => ∃ i : Nat, iv = .int .i64 (i : Int) ∧ i ≤ c ∧ Row xatE wz.heap.size mv (manyL i) wr ∧ Below wz.heap.size wz wr) (fun _ iv _ => c - (intOf iv).toNat)
        case atStart => exact ⟨0, rfl, by omega, Row.nil _ _, Below.refl _ _⟩
        case round =>
          obtain ⟨i, rfl, hi, hR, hbz⟩ := hrel
          rename World => wr
          by_cases hlt : i < c
          · have hlt' : decide ((i : Int) < (c : Int)) = true := decide_eq_true (by omega)
            have hlt2 : decide (i < c) = true := decide_eq_true hlt
            obtain ⟨u, hu⟩ : ∃ u, UInt8.ofNat (65 + i) = u := ⟨_, rfl⟩
            have hun : (65 : Int) + (i : Int) = (u.toNat : Int) := by rw [← hu]; simp; omega
            have w65 : IntKind.i64.wrap (65 + (i : Int)) = (u.toNat : Int) := by rw [IntKind.wrap_i64]; omega
            have hult := u.toNat_lt
            have wu : IntKind.u8.wrap (u.toNat : Int) = (u.toNat : Int) := by simp [IntKind.wrap, IntKind.bits, IntKind.signed]; omega
            have wu2 : (u.toNat : Int) % 256 = (u.toNat : Int) := by omega
            have hcv := fun W => conv_one (P := Try.prog) (src := 39) (dst := 9) Try.underlying39 Try.underlying5 Try.underlying9 u (u.toNat : Int) rfl W
            obtain ⟨UB, hUB⟩ : ∃ O : ByteArray, (⟨#[u]⟩ : ByteArray) = O := ⟨_, rfl⟩
            obtain ⟨NU, hNU⟩ : ∃ O : ByteArray, N1 ++ UB = O := ⟨_, rfl⟩
            have hNUl : NU.data.toList = [110, u] := by rw [← hNU, bytes_list, hNl.out.1, ← hUB]; rfl
            have hUBs : UB.size = 1 := by rw [← hUB]; rfl
            have hN1s := hNl.out.2
            have b1 : ¬ 9223372036854775807 < N1.size + UB.size := by omega
            have b2 : ¬ 9223372036854775807 < 1 + UB.size := by omega
            have b3 : ¬ 9223372036854775807 < N1.size + 1 := by omega
            rw [hUB] at hcv
            have hbx := build_x1 NU
            have hsz := hbz.size
            have hm1 := x_one (wr.alloc (.cells #[.int .u8 (u.toNat : Int)] 5)) NU ⟨#[]⟩
            rw [show (wr.alloc (.cells #[.int .u8 (u.toNat : Int)] 5)).heap.size = wr.heap.size + 1 by simp, hNUl] at hm1
            have hRa := (hR.alloc (.cells #[.int .u8 (u.toNat : Int)] 5)).alloc (.cells #[.string NU, .string ⟨#[]⟩] 42)
            have hla : (manyL i).length + [(([110, u], []) : Xa)].length ≤ 1000000 := by rw [many_len]; simp; omega
            have hsa : wz.heap.size ≤ ((wr.alloc (.cells #[.int .u8 (u.toNat : Int)] 5)).alloc (.cells #[.string NU, .string ⟨#[]⟩] 42)).heap.size := by simp; omega
            have hba : Below wz.heap.size wz ((wr.alloc (.cells #[.int .u8 (u.toNat : Int)] 5)).alloc (.cells #[.string NU, .string ⟨#[]⟩] 42)) := gr_alloc (gr_alloc hbz _) _
            have HM := Lib.hid (show manyL (i + 1) = manyL i ++ [([110, u], [])] by rw [many_succ, hu])
            clear hu hun hult hUB hNUl hUBs hN1s hbz
            go_wp2_with (at_builtin; refine wp_append_at xatE rfl _ _ rfl wz.heap.size _ (.slice (some ⟨wr.heap.size + 1, 0, none⟩) 1 1) (manyL i) [([110, u], [])] ((wr.alloc (.cells #[.int .u8 (u.toNat : Int)] 5)).alloc (.cells #[.string NU, .string ⟨#[]⟩] 42)) rfl (by exact hRa) (by rfl) (by exact hm1) hla hsa ?_)
            intro v9 w9 hR9 hb9 _ _
            rw [← HM.out] at hR9
            have hbl9 := hba.trans hb9
            clear hRa hm1 hla hsa hba hb9 hR hcv
            go_wp2_with fail
            go_roundw
            case rel => exact ⟨i + 1, rfl, by omega, hR9, hbl9⟩
            case measure => simp only [intOf]; omega
          · have hlt' : decide ((i : Int) < (c : Int)) = false := decide_eq_false (by omega)
            have hlt2 : decide (i < c) = false := decide_eq_false hlt
            obtain rfl : i = c := by omega
            have hbl := gr_call hb4 hbz
            have hone5 := hone4.call hbz
            have hlong5 := hlong.call hbz
            obtain ⟨pm, cm, rfl, _⟩ := hR.at.shape
            rw [many_len]
            have hM1 := Lib.hid (fun w (hA : Amb w) hat => MayX_any vo _ w hA hat (HBd.out.1))
            have hM2 := Lib.hid (fun w (hA : Amb w) hat => MayX_any vl _ w hA hat (HBd.out.2))
            have hM3 := Lib.hid (fun v w (hA : Amb w) hat => MayX_any v (manyL i) w hA hat ⟨by rw [many_len]; omega, fun x hx => by
              unfold manyL at hx
              obtain ⟨j, _, rfl⟩ := List.mem_map.1 hx
              simp⟩)
            have hM4 := Lib.hid (fun v w (hA : Amb w) hat => MayX_any v [([], [])] w hA hat ⟨by simp, by simp⟩)
            have hM5 := Lib.hid (fun v w (hA : Amb w) hat => MayX_any v [([97, 0], [])] w hA hat ⟨by simp, by simp⟩)
            have hM6 := Lib.hid (fun v w (hA : Amb w) hat => MayX_any v [([97], []), ([97], [])] w hA hat ⟨by simp, by simp⟩)
            obtain ⟨bn, hbn⟩ : ∃ x, decide (n ≤ 4096) = x := ⟨_, rfl⟩
            have dn : decide ((n : Int) ≤ 4096) = bn := by rw [← hbn, decide_eq_decide]; omega
            obtain ⟨bc, hbc⟩ : ∃ x, decide (i ≤ 32) = x := ⟨_, rfl⟩
            have dc : decide ((i : Int) ≤ 32) = bc := by rw [← hbc, decide_eq_decide]; omega
            have s1 : (bk == bk) = true := beq_self_eq_true _
            have s2 : (bn == bn) = true := beq_self_eq_true _
            have s3 : (bc == bc) = true := beq_self_eq_true _
            rw [HL1.out] at hM1
            rw [HL2.out, hbn] at hM2
            rw [show mayL (manyL i) = bc by rw [← hbc]; exact many_may ⟨i, by omega⟩] at hM3
            rw [no1] at hM4
            rw [no2] at hM5
            rw [no3] at hM6
            have hmany := hR.at
            rw [many_len] at hmany
            clear hR hbz hone4 hlong HL1 HL2 hlt hlt' hlt2 HBd
            go_wp2_with fail
            refine (hM1.out _ (hA.on hbl) hone5).mono ?_
            rintro e u1 ⟨rfl, c1⟩
            replace hlong5 := hlong5.call c1
            replace hmany := hmany.call c1
            replace hbl := gr_call hbl c1
            clear c1 hone5
            go_wp2_with fail
            refine (hM2.out _ (hA.on hbl) hlong5).mono ?_
            rintro e u2 ⟨rfl, c2⟩
            replace hmany := hmany.call c2
            replace hbl := gr_call hbl c2
            clear c2 hlong5
            go_wp2_with fail
            refine (hM3.out _ _ (hA.on hbl) hmany).mono ?_
            rintro e u3 ⟨rfl, c3⟩
            replace hbl := gr_call hbl c3
            clear c3 hmany
            go_wp2_with fail
            have ha4 := x_one u3 EE ⟨#[]⟩
            rw [hEl.out] at ha4
            replace hbl := gr_alloc hbl (.cells #[.string EE, .string ⟨#[]⟩] 42)
            refine (hM4.out _ _ (hA.on hbl) ha4).mono ?_
            rintro e u4 ⟨rfl, c4⟩
            replace hbl := gr_call hbl c4
            clear c4 ha4
            go_wp2_with fail
            have ha5 := x_one u4 A0 ⟨#[]⟩
            rw [hVl.out.2.2.1] at ha5
            replace hbl := gr_alloc hbl (.cells #[.string A0, .string ⟨#[]⟩] 42)
            refine (hM5.out _ _ (hA.on hbl) ha5).mono ?_
            rintro e u5 ⟨rfl, c5⟩
            replace hbl := gr_call hbl c5
            clear c5 ha5
            go_wp2_with fail
            have ha6 := x_two u5 A1 ⟨#[]⟩ A1 ⟨#[]⟩
            rw [hVl.out.2.2.2] at ha6
            replace hbl := gr_alloc hbl (.cells #[.string A1, .string ⟨#[]⟩, .string A1, .string ⟨#[]⟩] 42)
            refine (hM6.out _ _ (hA.on hbl) ha6).mono ?_
            rintro e u6 ⟨rfl, c6⟩
            replace hbl := gr_call hbl c6
            clear c6 ha6
            go_wp2_with fail
            refine (haw.out _ (hA.on hbl)).mono ?_
            rintro e u7 ⟨rfl, c7⟩
            replace hbl := gr_call hbl c7
            go_wp2_with fail
            go_ret
            exact ⟨rfl, hbl⟩
end Go.Proofs.Ytobfbjfajdnhaaa
