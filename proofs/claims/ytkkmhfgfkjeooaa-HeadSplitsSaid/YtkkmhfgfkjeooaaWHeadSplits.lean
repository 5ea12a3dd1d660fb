/- The law HeadSplits, walked. -/
import Derived.Test.YtkkmhfgfkjeooaaHeadSplit
import Derived.Test.YtkkmhfgfkjeooaaHeadAwake2
import Derived.Test.YtkkmhfgfkjeooaaRefHead
import Derived.Test.YtkkmhfgfkjeooaaArg
import Derived.Test.YtkkmhfgfkjeooaaNumAwake
namespace Go.Proofs.Ytkkmhfgfkjeooaa
open Go.RowKit
open HeadM NumM
set_option linter.unusedVariables false

theorem slash_hit {l : List UInt8} {j : Nat} (h : slashAt l = (j : Int)) : l[l.length - 101 + j]? = some 47 ∧ ∀ i, l.length - 101 ≤ i → i < l.length - 101 + j → l[i]? ≠ some 47 := by
  obtain ⟨h1, h2⟩ := Lib.indexByte_some h
  rw [List.getElem?_drop] at h1
  refine ⟨h1, fun i hi hlt => ?_⟩
  have := h2 (i - (l.length - 101)) (by omega)
  rw [List.getElem?_drop, show l.length - 101 + (i - (l.length - 101)) = i by omega] at this
  exact this
theorem split_some {l p n : List UInt8} (h : splitL l = some (p, n)) (hl : 100 < l.length) : 0 < p.length ∧ p.length ≤ 155 ∧ 0 < n.length ∧ n.length ≤ 100 ∧ p ++ (47 :: n) = l := by
  unfold splitL at h
  rw [if_neg (by omega)] at h
  by_cases hneg : slashAt l < 0
  · rw [if_pos hneg] at h; cases h
  rw [if_neg hneg] at h
  obtain ⟨j, hj⟩ : ∃ j : Nat, slashAt l = (j : Int) := ⟨(slashAt l).toNat, by omega⟩
  obtain ⟨hat, _⟩ := slash_hit hj
  rw [hj, Int.toNat_natCast] at h
  obtain ⟨k, hk⟩ : ∃ k, l.length - 101 + j = k := ⟨_, rfl⟩
  simp only [hk] at h hat
  have hkl := (List.getElem?_eq_some_iff.1 hat).1
  by_cases hc : k + 1 = l.length ∨ k = 0 ∨ 155 < k
  · rw [if_pos hc] at h; cases h
  rw [if_neg hc] at h
  injection h with h
  injection h with h1 h2
  subst h1 h2
  have hd := dropAt hat
  refine ⟨?_, ?_, ?_, ?_, ?_⟩
  · rw [List.length_take]; omega
  · rw [List.length_take]; omega
  · rw [List.length_drop]; omega
  · rw [List.length_drop]; omega
  · rw [← hd, List.take_append_drop]
theorem split_none {l : List UInt8} (h : splitL l = none) (hl : 100 < l.length) {a : Nat} (ha : a + 1 < l.length) (hs : l[a]? = some 47) (hn : l.length - a - 1 ≤ 100)
    (hb : ∀ i, i < a → l[i]? = some 47 → 100 < l.length - i - 1) : a = 0 ∨ 155 < a := by
  have hge : 0 ≤ slashAt l := by
    rcases Int.lt_or_le (slashAt l) 0 with h0 | h0
    · exfalso
      have h1 : slashAt l = -1 := by have := Lib.indexByte_ge (l.drop (l.length - 101)) 47; unfold slashAt at *; omega
      have := Lib.indexByte_none h1 (a - (l.length - 101))
      rw [List.getElem?_drop, show l.length - 101 + (a - (l.length - 101)) = a by omega] at this
      exact this hs
    · exact h0
  obtain ⟨j, hj⟩ : ∃ j : Nat, slashAt l = (j : Int) := ⟨(slashAt l).toNat, by omega⟩
  obtain ⟨hat, hbef⟩ := slash_hit hj
  have hkl := (List.getElem?_eq_some_iff.1 hat).1
  have e : l.length - 101 + j = a := by
    rcases Nat.lt_trichotomy (l.length - 101 + j) a with h1 | h1 | h1
    · have := hb _ h1 hat; omega
    · exact h1
    · exact absurd hs (hbef a (by omega) h1)
  unfold splitL at h
  rw [if_neg (by omega), if_neg (by omega), hj, Int.toNat_natCast] at h
  simp only [e] at h
  by_cases hc : a + 1 = l.length ∨ a = 0 ∨ 155 < a
  · omega
  · rw [if_neg hc] at h; cases h

theorem buildJoin (n p : ByteArray) (w : World) :
    (Instr.build 23 #[(12, .string p), (0, .string n)]).run Try.prog w =
      .ok (.agg #[.string n, .int .i64 0, .int .i64 0, .int .i64 0, .int .i64 0, .int .i64 0, .int .u8 0, .string ⟨#[]⟩, .string ⟨#[]⟩, .string ⟨#[]⟩, .int .i64 0, .int .i64 0, .string p]) w := run_build w _ _ _ (by kernel_rfl)

/-- What the split of a path comes to. -/
inductive SplitIs (S : ByteArray) : Prop
  | short (h : S.size ≤ 100) (hv : splitV (L S) = .tuple #[.string ⟨#[]⟩, .string S, .bool true])
  | two (P N : ByteArray) (h : 100 < S.size) (h1 : 0 < P.size) (h2 : P.size ≤ 155) (h3 : 0 < N.size) (h4 : N.size ≤ 100) (he : P ++ ⟨#[47]⟩ ++ N = S) (hv : splitV (L S) = .tuple #[.string P, .string N, .bool true])
  | no (h : 100 < S.size) (hl : splitL (L S) = none) (hv : splitV (L S) = .tuple #[.string ⟨#[]⟩, .string ⟨#[]⟩, .bool false])
theorem split_is (S : ByteArray) : SplitIs S := by
  by_cases h : S.size ≤ 100
  · refine .short h ?_
    unfold splitV splitL
    rw [size_L, if_pos h]
    show Value.tuple #[.string (strOf []), .string (strOf (L S)), .bool true] = _
    rw [strOf_L]
    rfl
  · rcases hs : splitL (L S) with _ | ⟨p, n⟩
    · exact .no (by omega) hs (by unfold splitV; rw [hs])
    · obtain ⟨h1, h2, h3, h4, h5⟩ := split_some hs (by rw [size_L]; omega)
      refine .two (strOf p) (strOf n) (by omega) (by rw [strOf_sz]; exact h1) (by rw [strOf_sz]; exact h2) (by rw [strOf_sz]; exact h3) (by rw [strOf_sz]; exact h4) ?_ (by unfold splitV; rw [hs])
      apply L_inj
      rw [L_app, L_app, L_strOf, L_strOf, ← h5]
      have : L (ByteArray.mk #[47]) = [47] := rfl
      rw [this]
      simp

set_option maxHeartbeats 8000000 in
set_option maxRecDepth 100000 in
theorem splits_true (na : Option Addr) (len cap : Nat) (zs : List Int) (w : World) (hrow : IsRow .u8 w na len cap zs) :
    Calls Try.prog 5 #[.slice na len cap] w fun e w' => e = .returned (.bool true) ∧ Below w.heap.size w w' := by
  have hread : ∀ k, k < len → ∃ b off, na = some ⟨b, off, none⟩ ∧ (len ≤ cap ∧ cap ≤ maxLen) ∧ w.cell? ⟨b, off + k, none⟩ = some (.int .u8 (zs.getD k 0)) ∧ 0 ≤ zs.getD k 0 ∧ zs.getD k 0 ≤ 255 := by
    intro k hk
    obtain ⟨b, off, e1, e2, e3, e4⟩ := hrow.open (by omega)
    obtain ⟨e5, e6⟩ := e4 k hk
    exact ⟨b, off, e1, ⟨e3, by rcases hrow with ⟨_, h0, h1, _⟩ | ⟨_, _, _, h1, _⟩ <;> omega⟩, e5, boundsU8 e6⟩
  replace hread := Lib.hid hread
  clear hrow
  have z47 : (⟨#[47]⟩ : ByteArray).size = 1 := rfl
  have z110 : (⟨#[110]⟩ : ByteArray).size = 1 := rfl
  obtain ⟨C47, h47⟩ : ∃ C47 : ByteArray, (⟨#[47]⟩ : ByteArray) = C47 := ⟨_, rfl⟩
  rw [h47] at z47
  obtain ⟨C110, h110⟩ : ∃ C110 : ByteArray, (⟨#[110]⟩ : ByteArray) = C110 := ⟨_, rfl⟩
  rw [h110] at z110
  have haw := awake_true
  go_enter Try.func5, Try.ntmps5
  go_wp2_with fail
  go_loopw [3, 4, 5] (fun sv iv _ wr => ∃ (S : ByteArray) (i : Nat), sv = .string S ∧ iv = .int .i64 (i : Int) ∧ i ≤ len ∧ S.size ≤ 470 ∧ wr = w) (fun _ iv _ _ => len - (intOf iv).toNat)
  case atStart => exact ⟨⟨#[]⟩, 0, rfl, rfl, Nat.zero_le _, by decide, rfl⟩
  case round =>
    obtain ⟨S, i, rfl, rfl, hi, hS, rfl⟩ := hrel
    by_cases hil : i < len
    · by_cases hs4 : S.size < 400
      · obtain ⟨b, off, rfl, ⟨hlc, hcm⟩, hcell, hz0, hz9⟩ := hread.out i hil
        obtain ⟨v, hv⟩ : ∃ v, zs.getD i 0 = v := ⟨_, rfl⟩
        rw [hv] at hcell hz0 hz9
        have hi1 : (i : Int) < (len : Int) := by omega
        have hs1 : (S.size : Int) < 400 := by omega
        obtain ⟨z, hz⟩ : ∃ z, S.size = z := ⟨_, rfl⟩
        rw [hz] at hs1
        have hq1 : ¬ 9223372036854775807 < z + 1 := by omega
        have hvd : v.tdiv 4 = v / 4 := Int.tdiv_eq_ediv_of_nonneg hz0
        obtain ⟨u, hu⟩ : ∃ u : Nat, v / 4 = (u : Int) := ⟨(v / 4).toNat, by omega⟩
        have hu9 : u ≤ 63 := by omega
        rw [hu] at hvd
        by_cases h5 : v % 5 = 0
        · have h5' : v.tmod 5 = 0 := by rw [Int.tmod_eq_emod_of_nonneg hz0]; exact h5
          clear hread hv hS
          go_wp2_with fail
          go_loopw [3, 5] (fun sv kv wx => ∃ (T : ByteArray) (k : Nat), sv = .string T ∧ kv = .int .i64 (k : Int) ∧ k ≤ u ∧ T.size ≤ 401 + k ∧ wx = wr) (fun _ kv _ => u - (intOf kv).toNat)
          case atStart => exact ⟨S ++ C47, 0, rfl, rfl, Nat.zero_le _, by rw [ByteArray.size_append, hz, z47]; omega, rfl⟩
          case round =>
            obtain ⟨T, k, rfl, rfl, hk, hT, rfl⟩ := hrel
            obtain ⟨y, hy⟩ : ∃ y, T.size = y := ⟨_, rfl⟩
            rw [hy] at hT
            have hq2 : ¬ 9223372036854775807 < y + 1 := by omega
            have hk63 : k ≤ 63 := by omega
            by_cases hku : k < u
            · have hku' : (k : Int) < (u : Int) := by omega
              go_wp2
              go_roundw
              case rel => exact ⟨T ++ C110, k + 1, rfl, by go_num, by omega, by rw [ByteArray.size_append, hy, z110]; omega, trivial⟩
              case measure => simp only [intOf]; omega
            · have hku' : ¬ (k : Int) < (u : Int) := by omega
              have hil2 : i + 1 ≤ 9223372036854775807 := by unfold maxLen at hcm; omega
              go_wp2
              go_roundw
              case rel => exact ⟨T, i + 1, rfl, by go_num, by omega, by omega, trivial⟩
              case measure => simp only [intOf]; omega
        · have h5' : ¬ v.tmod 5 = 0 := by rw [Int.tmod_eq_emod_of_nonneg hz0]; exact h5
          clear hread hv hS
          go_wp2_with fail
          go_loopw [3, 5] (fun sv kv wx => ∃ (T : ByteArray) (k : Nat), sv = .string T ∧ kv = .int .i64 (k : Int) ∧ k ≤ u ∧ T.size ≤ 401 + k ∧ wx = wr) (fun _ kv _ => u - (intOf kv).toNat)
          case atStart => exact ⟨S, 0, rfl, rfl, Nat.zero_le _, by omega, rfl⟩
          case round =>
            obtain ⟨T, k, rfl, rfl, hk, hT, rfl⟩ := hrel
            obtain ⟨y, hy⟩ : ∃ y, T.size = y := ⟨_, rfl⟩
            rw [hy] at hT
            have hq2 : ¬ 9223372036854775807 < y + 1 := by omega
            have hk63 : k ≤ 63 := by omega
            by_cases hku : k < u
            · have hku' : (k : Int) < (u : Int) := by omega
              go_wp2
              go_roundw
              case rel => exact ⟨T ++ C110, k + 1, rfl, by go_num, by omega, by rw [ByteArray.size_append, hy, z110]; omega, trivial⟩
              case measure => simp only [intOf]; omega
            · have hku' : ¬ (k : Int) < (u : Int) := by omega
              have hil2 : i + 1 ≤ 9223372036854775807 := by unfold maxLen at hcm; omega
              go_wp2
              go_roundw
              case rel => exact ⟨T, i + 1, rfl, by go_num, by omega, by omega, trivial⟩
              case measure => simp only [intOf]; omega
      · have hi1 : (i : Int) < (len : Int) := by omega
        have hs1 : ¬ (S.size : Int) < 400 := by omega
        have hsp := Lib.hid (fun w => split_any S (by omega) w)
        obtain ⟨z, hz⟩ : ∃ z, S.size = z := ⟨_, rfl⟩
        have h3 := split_is S
        cases h3 with
        | short hsz hv => exfalso; omega
        | two P N hsz p1 p2 p3 p4 he hv =>
          rw [hv] at hsp
          have h1 : ¬ (z : Int) ≤ 100 := by omega
          have q1 : (0 : Int) < (P.size : Int) := by omega
          have q2 : (P.size : Int) ≤ 155 := by omega
          have q3 : (0 : Int) < (N.size : Int) := by omega
          have q4 : (N.size : Int) ≤ 100 := by omega
          have q5 : ¬ 9223372036854775807 < P.size + 1 := by omega
          have q6 : ¬ 9223372036854775807 < P.size + 1 + N.size := by omega
          have hjn := Lib.hid (fun w => join_any { name := N, mode := 0, uid := 0, gid := 0, size := 0, mtime := 0, typ := 0, link := ⟨#[]⟩, uname := ⟨#[]⟩, gname := ⟨#[]⟩, major := 0, minor := 0, pre := P } w (by show N.size ≤ 1000000; omega) (by show P.size ≤ 1000000; omega))
          have hjv : strOf (if L P = [] then L N else L P ++ (47 :: L N)) = S := by
            have hne : L P ≠ [] := by intro e; have h9 := size_L P; rw [e] at h9; have : ([] : List UInt8).length = 0 := rfl; omega
            rw [if_neg hne, ← he]
            apply L_inj
            rw [L_strOf, L_app, L_app]
            have : L (ByteArray.mk #[47]) = [47] := rfl
            rw [this]
            simp
          have hj : ∀ w, Calls Try.prog 19 #[.agg #[.string N, .int .i64 0, .int .i64 0, .int .i64 0, .int .i64 0, .int .i64 0, .int .u8 0, .string ⟨#[]⟩, .string ⟨#[]⟩, .string ⟨#[]⟩, .int .i64 0, .int .i64 0, .string P]] w fun e w' => e = .returned (.string S) ∧ Below w.heap.size w w' := fun w => by
            have h := hjn.out w
            change Calls Try.prog 19 #[.agg #[.string N, .int .i64 0, .int .i64 0, .int .i64 0, .int .i64 0, .int .i64 0, .int .u8 0, .string ⟨#[]⟩, .string ⟨#[]⟩, .string ⟨#[]⟩, .int .i64 0, .int .i64 0, .string P]] w (fun e w' => e = .returned (.string (strOf (if L P = [] then L N else L P ++ (47 :: L N)))) ∧ Below w.heap.size w w') at h
            rw [hjv] at h
            exact h
          have hjl := Lib.hid hj
          have hbj := buildJoin N P
          rw [h47] at he
          have hself : (S.toList == S.toList) = true := by simp
          clear hv hread hjn hj hjv
          go_wp2_with fail
          refine (hsp.out _).mono ?_
          rintro e w1 ⟨rfl, hb1⟩
          go_wp2_with fail
          refine (hjl.out _).mono ?_
          rintro e w2 ⟨rfl, hb2⟩
          go_wp2_with fail
          refine (haw _).mono ?_
          rintro e w3 ⟨rfl, hb3⟩
          go_wp2_with fail
          go_ret
          exact ⟨rfl, by (repeat' (first | exact Below.refl _ _ | assumption | refine gr_drew ?_ | refine gr_drewN ?_ _ | refine gr_alloc ?_ _ | refine gr_set ?_ ?_ _ | refine gr_call ?_ (by assumption)) <;> (try (simp; done)) <;> (try (simp; omega)) <;> (try omega))⟩
        | no hsz hl hv =>
          rw [hv] at hsp
          have h1 : ¬ (z : Int) ≤ 100 := by omega
          have HI := Lib.hid (fun i (h : i < z) => idxAt Try.underlying9 S i (by omega))
          have HN := Lib.hid (fun (a : Nat) (ha : a + 1 < z) (hs : (L S)[a]? = some 47) (hn : z - a - 1 ≤ 100) (hb : ∀ i, i < a → (L S)[i]? = some 47 → 100 < z - i - 1) => split_none hl (by rw [size_L]; omega) (by rw [size_L]; omega) hs (by rw [size_L]; omega) (fun i hi hx => by rw [size_L]; have := hb i hi hx; omega))
          clear hv hl hread
          go_wp2_with fail
          refine (hsp.out _).mono ?_
          rintro e w1 ⟨rfl, hb1⟩
          go_wp2_with fail
          go_loopw [9] (fun av wx => ∃ a : Nat, av = .int .i64 (a : Int) ∧ a + 1 ≤ z ∧ Hid (∀ i, i < a → (L S)[i]? = some 47 → 100 < z - i - 1) ∧ wx = w1) (fun av _ => z - (intOf av).toNat)
          case atStart => exact ⟨0, rfl, by omega, Lib.hid (fun i hi => absurd hi (Nat.not_lt_zero i)), rfl⟩
          case round =>
            obtain ⟨a, rfl, haz, hbef, rfl⟩ := hrel
            have hz8 : z ≤ 8000 := by omega
            by_cases ha : a + 1 < z
            · have ha' : (a : Int) + 1 < (z : Int) := by omega
              obtain ⟨c, hc, hidx⟩ := HI.out a (by omega)
              by_cases hc47 : c = 47
              · have heq : ((c.toNat : Int) != 47) = false := by rw [hc47]; rfl
                have heq2 : (c.toNat : Int) = 47 := by rw [hc47]; rfl
                by_cases h100 : 100 < z - a - 1
                · have h100' : (100 : Int) < (z : Int) - (a : Int) - 1 := by omega
                  have hnx := Lib.hid (show ∀ i, i < a + 1 → (L S)[i]? = some 47 → 100 < z - i - 1 from fun i hi hx => by
                    rcases Nat.lt_succ_iff_lt_or_eq.1 hi with h | h
                    · exact hbef.out i h hx
                    · rw [h]; exact h100)
                  clear hc h100
                  go_wp2
                  go_roundw
                  case rel => exact ⟨a + 1, by go_num, by omega, hnx, trivial⟩
                  case measure => simp only [intOf]; omega
                · have h100' : ¬ (100 : Int) < (z : Int) - (a : Int) - 1 := by omega
                  have hfin := HN.out a ha (by rw [hc, hc47]) (by omega) hbef.out
                  clear hc h100 hbef
                  have g0 : ¬ (z : Int) ≤ (a : Int) + 1 := by omega
                  rcases hfin with h0 | h0
                  · subst h0
                    have hidx0 : ∀ w, (Instr.index 9 (.string S) (.int .i64 0)).run Try.prog w = .ok (.int .u8 (c.toNat : Int)) w := hidx
                    have h100'' : ¬ (100 : Int) < (z : Int) - 1 := by omega
                    have ha2 : (1 : Int) < (z : Int) := by omega
                    clear hidx h100' ha' g0
                    have g0 : ¬ (z : Int) ≤ 1 := by omega
                    go_wp2_with fail
                    refine (haw _).mono ?_
                    rintro e w2 ⟨rfl, hb2⟩
                    go_wp2_with fail
                    go_ret
                    exact ⟨rfl, by (repeat' (first | exact Below.refl _ _ | assumption | refine gr_drew ?_ | refine gr_drewN ?_ _ | refine gr_alloc ?_ _ | refine gr_set ?_ ?_ _ | refine gr_call ?_ (by assumption)) <;> (try (simp; done)) <;> (try (simp; omega)) <;> (try omega))⟩
                  · have g1 : ¬ a = 0 := by omega
                    have g2 : (155 : Int) < (a : Int) := by omega
                    go_wp2_with fail
                    refine (haw _).mono ?_
                    rintro e w2 ⟨rfl, hb2⟩
                    go_wp2_with fail
                    go_ret
                    exact ⟨rfl, by (repeat' (first | exact Below.refl _ _ | assumption | refine gr_drew ?_ | refine gr_drewN ?_ _ | refine gr_alloc ?_ _ | refine gr_set ?_ ?_ _ | refine gr_call ?_ (by assumption)) <;> (try (simp; done)) <;> (try (simp; omega)) <;> (try omega))⟩
              · have heq0 : ((c.toNat : Int) == 47) = false := toNat_ne (b := 47) hc47
                have heq : ((c.toNat : Int) != 47) = true := by rw [bne, heq0]; rfl
                have heq2 : ¬ (c.toNat : Int) = 47 := beq_eq_false_iff_ne.1 heq0
                clear heq0
                have hnx := Lib.hid (show ∀ i, i < a + 1 → (L S)[i]? = some 47 → 100 < z - i - 1 from fun i hi hx => by
                  rcases Nat.lt_succ_iff_lt_or_eq.1 hi with h | h
                  · exact hbef.out i h hx
                  · rw [h, hc] at hx; injection hx with hx; exact absurd hx hc47)
                clear hc
                go_wp2
                go_roundw
                case rel => exact ⟨a + 1, by go_num, by omega, hnx, trivial⟩
                case measure => simp only [intOf]; omega
            · have ha' : ¬ (a : Int) + 1 < (z : Int) := by omega
              have g0 : (z : Int) ≤ (a : Int) + 1 := by omega
              go_wp2_with fail
              refine (haw _).mono ?_
              rintro e w2 ⟨rfl, hb2⟩
              go_wp2_with fail
              go_ret
              exact ⟨rfl, by (repeat' (first | exact Below.refl _ _ | assumption | refine gr_drew ?_ | refine gr_drewN ?_ _ | refine gr_alloc ?_ _ | refine gr_set ?_ ?_ _ | refine gr_call ?_ (by assumption)) <;> (try (simp; done)) <;> (try (simp; omega)) <;> (try omega))⟩
    · have hi1 : ¬ (i : Int) < (len : Int) := by omega
      have hsp := Lib.hid (fun w => split_any S (by omega) w)
      obtain ⟨z, hz⟩ : ∃ z, S.size = z := ⟨_, rfl⟩
      have h3 := split_is S
      cases h3 with
      | short hsz hv =>
        rw [hv] at hsp
        have h1 : (z : Int) ≤ 100 := by omega
        clear hv hread
        go_wp2_with fail
        refine (hsp.out _).mono ?_
        rintro e w1 ⟨rfl, hb1⟩
        go_wp2_with fail
        refine (haw _).mono ?_
        rintro e w2 ⟨rfl, hb2⟩
        go_wp2_with fail
        go_ret
        exact ⟨rfl, by (repeat' (first | exact Below.refl _ _ | assumption | refine gr_drew ?_ | refine gr_drewN ?_ _ | refine gr_alloc ?_ _ | refine gr_set ?_ ?_ _ | refine gr_call ?_ (by assumption)) <;> (try (simp; done)) <;> (try (simp; omega)) <;> (try omega))⟩
      | two P N hsz p1 p2 p3 p4 he hv =>
        rw [hv] at hsp
        have h1 : ¬ (z : Int) ≤ 100 := by omega
        have q1 : (0 : Int) < (P.size : Int) := by omega
        have q2 : (P.size : Int) ≤ 155 := by omega
        have q3 : (0 : Int) < (N.size : Int) := by omega
        have q4 : (N.size : Int) ≤ 100 := by omega
        have q5 : ¬ 9223372036854775807 < P.size + 1 := by omega
        have q6 : ¬ 9223372036854775807 < P.size + 1 + N.size := by omega
        have hjn := Lib.hid (fun w => join_any { name := N, mode := 0, uid := 0, gid := 0, size := 0, mtime := 0, typ := 0, link := ⟨#[]⟩, uname := ⟨#[]⟩, gname := ⟨#[]⟩, major := 0, minor := 0, pre := P } w (by show N.size ≤ 1000000; omega) (by show P.size ≤ 1000000; omega))
        have hjv : strOf (if L P = [] then L N else L P ++ (47 :: L N)) = S := by
          have hne : L P ≠ [] := by intro e; have h9 := size_L P; rw [e] at h9; have : ([] : List UInt8).length = 0 := rfl; omega
          rw [if_neg hne, ← he]
          apply L_inj
          rw [L_strOf, L_app, L_app]
          have : L (ByteArray.mk #[47]) = [47] := rfl
          rw [this]
          simp
        have hj : ∀ w, Calls Try.prog 19 #[.agg #[.string N, .int .i64 0, .int .i64 0, .int .i64 0, .int .i64 0, .int .i64 0, .int .u8 0, .string ⟨#[]⟩, .string ⟨#[]⟩, .string ⟨#[]⟩, .int .i64 0, .int .i64 0, .string P]] w fun e w' => e = .returned (.string S) ∧ Below w.heap.size w w' := fun w => by
          have h := hjn.out w
          change Calls Try.prog 19 #[.agg #[.string N, .int .i64 0, .int .i64 0, .int .i64 0, .int .i64 0, .int .i64 0, .int .u8 0, .string ⟨#[]⟩, .string ⟨#[]⟩, .string ⟨#[]⟩, .int .i64 0, .int .i64 0, .string P]] w (fun e w' => e = .returned (.string (strOf (if L P = [] then L N else L P ++ (47 :: L N)))) ∧ Below w.heap.size w w') at h
          rw [hjv] at h
          exact h
        have hjl := Lib.hid hj
        have hbj := buildJoin N P
        rw [h47] at he
        have hself : (S.toList == S.toList) = true := by simp
        clear hv hread hjn hj hjv
        go_wp2_with fail
        refine (hsp.out _).mono ?_
        rintro e w1 ⟨rfl, hb1⟩
        go_wp2_with fail
        refine (hjl.out _).mono ?_
        rintro e w2 ⟨rfl, hb2⟩
        go_wp2_with fail
        refine (haw _).mono ?_
        rintro e w3 ⟨rfl, hb3⟩
        go_wp2_with fail
        go_ret
        exact ⟨rfl, by (repeat' (first | exact Below.refl _ _ | assumption | refine gr_drew ?_ | refine gr_drewN ?_ _ | refine gr_alloc ?_ _ | refine gr_set ?_ ?_ _ | refine gr_call ?_ (by assumption)) <;> (try (simp; done)) <;> (try (simp; omega)) <;> (try omega))⟩
      | no hsz hl hv =>
        rw [hv] at hsp
        have h1 : ¬ (z : Int) ≤ 100 := by omega
        have HI := Lib.hid (fun i (h : i < z) => idxAt Try.underlying9 S i (by omega))
        have HN := Lib.hid (fun (a : Nat) (ha : a + 1 < z) (hs : (L S)[a]? = some 47) (hn : z - a - 1 ≤ 100) (hb : ∀ i, i < a → (L S)[i]? = some 47 → 100 < z - i - 1) => split_none hl (by rw [size_L]; omega) (by rw [size_L]; omega) hs (by rw [size_L]; omega) (fun i hi hx => by rw [size_L]; have := hb i hi hx; omega))
        clear hv hl hread
        go_wp2_with fail
        refine (hsp.out _).mono ?_
        rintro e w1 ⟨rfl, hb1⟩
        go_wp2_with fail
        go_loopw [9] (fun av wx => ∃ a : Nat, av = .int .i64 (a : Int) ∧ a + 1 ≤ z ∧ Hid (∀ i, i < a → (L S)[i]? = some 47 → 100 < z - i - 1) ∧ wx = w1) (fun av _ => z - (intOf av).toNat)
        case atStart => exact ⟨0, rfl, by omega, Lib.hid (fun i hi => absurd hi (Nat.not_lt_zero i)), rfl⟩
        case round =>
          obtain ⟨a, rfl, haz, hbef, rfl⟩ := hrel
          have hz8 : z ≤ 8000 := by omega
          by_cases ha : a + 1 < z
          · have ha' : (a : Int) + 1 < (z : Int) := by omega
            obtain ⟨c, hc, hidx⟩ := HI.out a (by omega)
            by_cases hc47 : c = 47
            · have heq : ((c.toNat : Int) != 47) = false := by rw [hc47]; rfl
              have heq2 : (c.toNat : Int) = 47 := by rw [hc47]; rfl
              by_cases h100 : 100 < z - a - 1
              · have h100' : (100 : Int) < (z : Int) - (a : Int) - 1 := by omega
                have hnx := Lib.hid (show ∀ i, i < a + 1 → (L S)[i]? = some 47 → 100 < z - i - 1 from fun i hi hx => by
                  rcases Nat.lt_succ_iff_lt_or_eq.1 hi with h | h
                  · exact hbef.out i h hx
                  · rw [h]; exact h100)
                clear hc h100
                go_wp2
                go_roundw
                case rel => exact ⟨a + 1, by go_num, by omega, hnx, trivial⟩
                case measure => simp only [intOf]; omega
              · have h100' : ¬ (100 : Int) < (z : Int) - (a : Int) - 1 := by omega
                have hfin := HN.out a ha (by rw [hc, hc47]) (by omega) hbef.out
                clear hc h100 hbef
                have g0 : ¬ (z : Int) ≤ (a : Int) + 1 := by omega
                rcases hfin with h0 | h0
                · subst h0
                  have hidx0 : ∀ w, (Instr.index 9 (.string S) (.int .i64 0)).run Try.prog w = .ok (.int .u8 (c.toNat : Int)) w := hidx
                  have h100'' : ¬ (100 : Int) < (z : Int) - 1 := by omega
                  have ha2 : (1 : Int) < (z : Int) := by omega
                  clear hidx h100' ha' g0
                  have g0 : ¬ (z : Int) ≤ 1 := by omega
                  go_wp2_with fail
                  refine (haw _).mono ?_
                  rintro e w2 ⟨rfl, hb2⟩
                  go_wp2_with fail
                  go_ret
                  exact ⟨rfl, by (repeat' (first | exact Below.refl _ _ | assumption | refine gr_drew ?_ | refine gr_drewN ?_ _ | refine gr_alloc ?_ _ | refine gr_set ?_ ?_ _ | refine gr_call ?_ (by assumption)) <;> (try (simp; done)) <;> (try (simp; omega)) <;> (try omega))⟩
                · have g1 : ¬ a = 0 := by omega
                  have g2 : (155 : Int) < (a : Int) := by omega
                  go_wp2_with fail
                  refine (haw _).mono ?_
                  rintro e w2 ⟨rfl, hb2⟩
                  go_wp2_with fail
                  go_ret
                  exact ⟨rfl, by (repeat' (first | exact Below.refl _ _ | assumption | refine gr_drew ?_ | refine gr_drewN ?_ _ | refine gr_alloc ?_ _ | refine gr_set ?_ ?_ _ | refine gr_call ?_ (by assumption)) <;> (try (simp; done)) <;> (try (simp; omega)) <;> (try omega))⟩
            · have heq0 : ((c.toNat : Int) == 47) = false := toNat_ne (b := 47) hc47
              have heq : ((c.toNat : Int) != 47) = true := by rw [bne, heq0]; rfl
              have heq2 : ¬ (c.toNat : Int) = 47 := beq_eq_false_iff_ne.1 heq0
              clear heq0
              have hnx := Lib.hid (show ∀ i, i < a + 1 → (L S)[i]? = some 47 → 100 < z - i - 1 from fun i hi hx => by
                rcases Nat.lt_succ_iff_lt_or_eq.1 hi with h | h
                · exact hbef.out i h hx
                · rw [h, hc] at hx; injection hx with hx; exact absurd hx hc47)
              clear hc
              go_wp2
              go_roundw
              case rel => exact ⟨a + 1, by go_num, by omega, hnx, trivial⟩
              case measure => simp only [intOf]; omega
          · have ha' : ¬ (a : Int) + 1 < (z : Int) := by omega
            have g0 : (z : Int) ≤ (a : Int) + 1 := by omega
            go_wp2_with fail
            refine (haw _).mono ?_
            rintro e w2 ⟨rfl, hb2⟩
            go_wp2_with fail
            go_ret
            exact ⟨rfl, by (repeat' (first | exact Below.refl _ _ | assumption | refine gr_drew ?_ | refine gr_drewN ?_ _ | refine gr_alloc ?_ _ | refine gr_set ?_ ?_ _ | refine gr_call ?_ (by assumption)) <;> (try (simp; done)) <;> (try (simp; omega)) <;> (try omega))⟩
end Go.Proofs.Ytkkmhfgfkjeooaa
