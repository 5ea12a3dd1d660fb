/- The law XattrAll, walked. -/
import Derived.Test.YtobfbjfajdnhaaaXatAwake
import Derived.Test.YtobfbjfajdnhaaaXatRefFrom
import Derived.Test.YtobfbjfajdnhaaaXatRefRecs
namespace Go.Proofs.Ytobfbjfajdnhaaa
open Go.RowKit
open XatM
set_option linter.unusedVariables false

/-- The error's number. -/
def errOf (o : Option (List Xa)) : Int := match o with | some _ => 0 | none => 4
theorem from_ret {o : Option (List Xa)} {e : Ending} {w : World} (h : fromRet o e w) : ∃ v, e = .returned (.tuple #[v, .int .i64 (errOf o)]) ∧ At xatE v (o.getD []) w := by
  rcases o with _ | l
  · exact h
  · exact h
theorem from_end {B : Nat} {o : Option (List Xa)} {e : Ending} {w : World} (h : fromEnd B o e w) : ∃ p n c, e = .returned (.agg #[.slice p n c, .int .i64 (errOf o)]) ∧ At xatE (.slice p n c) (o.getD []) w := by
  rcases o with _ | l
  · exact ⟨none, 0, 0, h, At.nil _⟩
  · obtain ⟨v, h1, h2⟩ := h
    obtain ⟨p, c, rfl, _⟩ := h2.at.shape
    exact ⟨_, _, _, h1, h2.at⟩
theorem fromL_len {rs l : List Xa} (h : fromL rs = some l) : l.length ≤ 32 := by
  unfold fromL at h
  split at h
  · split at h
    · rename_i hm
      obtain rfl := Option.some.inj h
      exact (may_parts hm).1
    · cases h
  · cases h
theorem fromL_get (rs : List Xa) : ((fromL rs).getD []).length ≤ 32 := by
  rcases h : fromL rs with _ | l
  · simp
  · simpa using fromL_len h
theorem few_bounded {l : List Xa} (h : few l = true) : Bounded l := by
  obtain ⟨h1, h2⟩ := few_parts h
  exact ⟨by omega, fun x hx => by have := h2 x hx; omega⟩
attribute [local irreducible] Row At

set_option maxHeartbeats 6400000 in
set_option maxRecDepth 100000 in
theorem xattrAll_walk (a0 : Option Addr) (len0 cap0 : Nat) (z0 : List Xa) (a1 : Option Addr) (len1 cap1 : Nat) (z1 : List Xa) (a2 : Option Addr) (len2 cap2 : Nat) (z2 : List Xa) (w : World) (hA : Amb w)
    (w0 : z0.length = len0 ∧ At xatE (.slice a0 len0 cap0) z0 w) (w1 : z1.length = len1 ∧ At xatE (.slice a1 len1 cap1) z1 w) (w2 : z2.length = len2 ∧ At recE (.slice a2 len2 cap2) z2 w) :
    Calls Try.prog 3 #[.slice a0 len0 cap0, .slice a1 len1 cap1, .slice a2 len2 cap2] w fun e w' => e = .returned (.bool true) ∧ Below w.heap.size w w' := by
  have haw := Lib.hid (fun w (hA : Amb w) => awake_true w hA)
  obtain ⟨hl0, hat0⟩ := w0
  obtain ⟨hl1, hat1⟩ := w1
  obtain ⟨hl2, hat2⟩ := w2
  have hf0 := Lib.hid (few_any _ _ w hat0)
  have hf1 := Lib.hid (few_any _ _ w hat1)
  rcases hfw0 : few z0 with _ | _
  · rw [hfw0] at hf0
    clear hl0 hl1 hl2 hat0 hat1 hat2 hf1 hfw0
    go_enter Try.func3, Try.ntmps3
    go_wp2_with fail
    refine (hf0.out).mono ?_
    rintro e w ⟨rfl, rfl⟩
    go_wp2_with fail
    refine (haw.out _ hA).mono ?_
    rintro e w4 ⟨rfl, hb4⟩
    go_wp2_with fail
    go_ret
    exact ⟨rfl, hb4⟩
  rw [hfw0] at hf0
  rcases hfw1 : few z1 with _ | _
  · rw [hfw1] at hf1
    clear hl0 hl1 hl2 hat0 hat1 hat2 hfw0 hfw1
    go_enter Try.func3, Try.ntmps3
    go_wp2_with fail
    refine (hf0.out).mono ?_
    rintro e w ⟨rfl, rfl⟩
    go_wp2_with fail
    refine (hf1.out).mono ?_
    rintro e w ⟨rfl, rfl⟩
    go_wp2_with fail
    refine (haw.out _ hA).mono ?_
    rintro e w4 ⟨rfl, hb4⟩
    go_wp2_with fail
    go_ret
    exact ⟨rfl, hb4⟩
  rw [hfw1] at hf1
  by_cases h60 : 60 < len2
  · have d1 : decide ((60 : Int) < (len2 : Int)) = true := decide_eq_true (by omega)
    have d2 : decide (60 < len2) = true := decide_eq_true h60
    clear hl0 hl1 hl2 hat0 hat1 hat2 hfw0 hfw1
    go_enter Try.func3, Try.ntmps3
    go_wp2_with fail
    refine (hf0.out).mono ?_
    rintro e w ⟨rfl, rfl⟩
    go_wp2_with fail
    refine (hf1.out).mono ?_
    rintro e w ⟨rfl, rfl⟩
    go_wp2_with fail
    refine (haw.out _ hA).mono ?_
    rintro e w4 ⟨rfl, hb4⟩
    go_wp2_with fail
    go_ret
    exact ⟨rfl, hb4⟩
  have d1 : decide ((60 : Int) < (len2 : Int)) = false := decide_eq_false (by omega)
  have d2 : decide (60 < len2) = false := decide_eq_false h60
  have HB0 := Lib.hid (few_bounded hfw0)
  have HB1 := Lib.hid (few_bounded hfw1)
  have hM := Lib.hid (fun w (hA : Amb w) hat => MayX_any (.slice a0 len0 cap0) z0 w hA hat HB0.out)
  have hMr := Lib.hid (fun w hat => refMayX_any (.slice a0 len0 cap0) z0 w hat (by have := HB0.out.1; omega))
  have hRc := Lib.hid (fun w (hA : Amb w) hat => RecsX_any (.slice a0 len0 cap0) z0 w hA hat HB0.out)
  have hRr := Lib.hid (fun w hat => refRecsX_any (.slice a0 len0 cap0) z0 w hat (by have := HB0.out.1; omega))
  have hSr := Lib.hid (fun va vb w ha hb => sameRecs_any va vb (recsL z0) (recsL z0) w ha hb (by have := recs_len z0; have := HB0.out.1; omega) (by have := recs_len z0; have := HB0.out.1; omega))
  rw [decide_eq_true (rfl : recsL z0 = recsL z0)] at hSr
  have hSm := Lib.hid (fun w (hA : Amb w) ha hb => SameX_any (.slice a0 len0 cap0) (.slice a1 len1 cap1) z0 z1 w hA ha hb HB0.out.1 HB1.out.1)
  have hSs := Lib.hid (fun w ha hb => refSameX_any (.slice a0 len0 cap0) (.slice a1 len1 cap1) z0 z1 w ha hb (by have := HB0.out.1; omega) (by have := HB1.out.1; omega))
  have hEr := Lib.hid (fun w => err_any (errOf (fromL z2)) w)
  have hFm := Lib.hid (fun (hb : Bounded z2) => FromX_any (.slice a2 len2 cap2) z2 w hA hat2 hb)
  have hFr := Lib.hid (fun w hat (hb : Bounded z2) => refFrom_any (.slice a2 len2 cap2) z2 w hat hb.1 hb.2)
  have hSx := Lib.hid (fun va vb w ha hb => refSameX_any va vb ((fromL z2).getD []) ((fromL z2).getD []) w ha hb (by have := fromL_get z2; omega) (by have := fromL_get z2; omega))
  rw [decide_eq_true (rfl : (fromL z2).getD [] = (fromL z2).getD [])] at hSx
  generalize mayL z0 = bm at *
  generalize decide (z0 = z1) = bs at *
  have hbm : (bm == bm) = true := beq_self_eq_true _
  have hbs : (bs == bs) = true := beq_self_eq_true _
  obtain ⟨p2, cp2, hsh, hcap2, hcell⟩ := two_look rec_two hat2
  injection hsh with e1 e2 e3
  subst e1 e3
  clear e2
  have Hcell := Lib.hid hcell
  have Hl2 := Lib.hid hl2
  clear hl0 hl1 hl2 hfw0 hfw1 hcell hcap2 HB0 HB1
  go_enter Try.func3, Try.ntmps3
  go_wp2_with fail
  refine (hf0.out).mono ?_
  rintro e w ⟨rfl, rfl⟩
  go_wp2_with fail
  refine (hf1.out).mono ?_
  rintro e w ⟨rfl, rfl⟩
  clear hf0 hf1
  go_wp2_with fail
  go_loopw [7] (fun iv wr => ∃ i : Nat, iv = .int .i64 (i : Int) ∧ i ≤ len2 ∧ wr = w ∧ Hid (∀ j (h : j < z2.length), j < i → z2[j].1.length ≤ 500 ∧ z2[j].2.length ≤ 6000)) (fun iv _ => len2 - (intOf iv).toNat)
  case atStart => exact ⟨0, rfl, by omega, rfl, Lib.hid (fun j h1 h => by omega)⟩
  case round =>
    obtain ⟨i, rfl, hi, rfl, HR⟩ := hrel
    rename World => w
    by_cases hlt : i < len2
    · have hlt' : decide ((i : Int) < (len2 : Int)) = true := decide_eq_true (by omega)
      have hlt2 : decide (i < len2) = true := decide_eq_true hlt
      have hi' : i < z2.length := by rw [Hl2.out]; exact hlt
      obtain ⟨g, off, rfl, hg, c0, c1⟩ := Hcell.out i hi'
      obtain ⟨x, hx⟩ : ∃ x, z2[i] = x := ⟨_, rfl⟩
      rw [hx] at c0 c1
      obtain ⟨N, hN⟩ : ∃ N, strOf x.1 = N := ⟨_, rfl⟩
      obtain ⟨V, hV⟩ : ∃ V, strOf x.2 = V := ⟨_, rfl⟩
      have hNs : N.size = x.1.length := by rw [← hN, strOf_size]
      have hVs : V.size = x.2.length := by rw [← hV, strOf_size]
      rw [hN] at c0
      rw [hV] at c1
      by_cases k1 : 500 < N.size
      · have q1 : decide ((500 : Int) < (N.size : Int)) = true := decide_eq_true (by omega)
        have q2 : decide (500 < N.size) = true := decide_eq_true k1
        clear HR hN hV hNs hVs k1 hx hi' hFm hFr hSx hM hMr hRc hRr hSr hSm hSs hEr
        go_wp2_with fail
        refine (haw.out _ hA).mono ?_
        rintro e w4 ⟨rfl, hb4⟩
        go_wp2_with fail
        go_ret
        exact ⟨rfl, hb4⟩
      have q1 : decide ((500 : Int) < (N.size : Int)) = false := decide_eq_false (by omega)
      have q2 : decide (500 < N.size) = false := decide_eq_false k1
      by_cases k2 : 6000 < V.size
      · have q3 : decide ((6000 : Int) < (V.size : Int)) = true := decide_eq_true (by omega)
        have q4 : decide (6000 < V.size) = true := decide_eq_true k2
        clear HR hN hV hNs hVs k1 k2 hx hi' hFm hFr hSx hM hMr hRc hRr hSr hSm hSs hEr
        go_wp2_with fail
        refine (haw.out _ hA).mono ?_
        rintro e w4 ⟨rfl, hb4⟩
        go_wp2_with fail
        go_ret
        exact ⟨rfl, hb4⟩
      have q3 : decide ((6000 : Int) < (V.size : Int)) = false := decide_eq_false (by omega)
      have q4 : decide (6000 < V.size) = false := decide_eq_false k2
      have HN : Hid (∀ j (h : j < z2.length), j < i + 1 → z2[j].1.length ≤ 500 ∧ z2[j].2.length ≤ 6000) := Lib.hid (fun j h hj => by
        by_cases hji : j = i
        · subst hji; rw [hx]; omega
        · exact HR.out j h (by omega))
      clear HR hN hV hNs hVs k1 k2 hx hi'
      go_wp2_with fail
      go_roundw
      case rel => exact ⟨i + 1, rfl, by omega, by first | trivial | rfl, HN⟩
      case measure => simp only [intOf]; omega
    · have hlt' : decide ((i : Int) < (len2 : Int)) = false := decide_eq_false (by omega)
      have hlt2 : decide (i < len2) = false := decide_eq_false hlt
      have hbd : Bounded z2 := ⟨by rw [Hl2.out]; omega, fun x hx => by
        obtain ⟨j, hj, he⟩ := List.getElem_of_mem hx
        have := HR.out j hj (by rw [Hl2.out] at hj; omega)
        rw [he] at this
        omega⟩
      have hF := Lib.hid (hFm.out hbd)
      have hG := Lib.hid (fun w hat => hFr.out w hat hbd)
      clear HR Hcell hFm hFr hbd
      generalize fromL z2 = o at *
      go_wp2_with fail
      refine (hF.out).mono ?_
      rintro e w3 ⟨he, hb3⟩
      obtain ⟨vx, rfl, hatx⟩ := from_ret he
      clear he hF
      replace hat0 := hat0.call hb3
      replace hat1 := hat1.call hb3
      replace hat2 := hat2.call hb3
      go_wp2_with fail
      refine (hG.out _ hat2).mono ?_
      rintro e w4 ⟨he, hb4⟩
      obtain ⟨py, ny, cy, rfl, haty⟩ := from_end he
      clear he hG
      replace hat0 := hat0.call hb4
      replace hat1 := hat1.call hb4
      replace hatx := hatx.call hb4
      replace hb4 := gr_call hb3 hb4
      clear hat2 hb3
      go_wp2_with fail
      obtain ⟨vy, hvy⟩ : ∃ v, Value.slice py ny cy = v := ⟨_, rfl⟩
      rw [hvy] at haty ⊢
      obtain ⟨bY, hbY⟩ : ∃ b, w4.heap.size = b := ⟨_, rfl⟩
      obtain ⟨E, hE⟩ : ∃ E, errOf o = E := ⟨_, rfl⟩
      rw [hE] at hEr ⊢
      obtain ⟨w8, hw8⟩ : ∃ W, w4.alloc (.cells #[vy, .int .i64 E] 32) = W := ⟨_, rfl⟩
      have k0 : w8.cell? ⟨bY, 0, none⟩ = some vy := by rw [← hw8, ← hbY]; simp [go_sem]
      have k1 : w8.cell? ⟨bY, 1, none⟩ = some (.int .i64 E) := by rw [← hw8, ← hbY]; simp [go_sem]
      have hb8 : Below w.heap.size w w8 := by rw [← hw8]; exact gr_alloc hb4 _
      replace hat0 := hat0.alloc (.cells #[vy, .int .i64 E] 32)
      replace hat1 := hat1.alloc (.cells #[vy, .int .i64 E] 32)
      replace hatx := hatx.alloc (.cells #[vy, .int .i64 E] 32)
      replace haty := haty.alloc (.cells #[vy, .int .i64 E] 32)
      rw [hw8] at hat0 hat1 hatx haty ⊢
      try rw [hbY]
      clear hw8 hbY hvy hb4 hE
      replace hSx := Lib.hid (fun w ha hb => hSx.out vx vy w ha hb)
      have hEE : (E == E) = true := beq_self_eq_true _
      have hA8 := hA.on hb8
      clear hA hlt'
      refine region_lastqgL (S := fun W => Below w8.heap.size w8 W) 37
        [(fun W v => v = .slice a0 len0 cap0),
     (fun W v => v = .bool bm),
     (fun W v => v = .slice a0 len0 cap0),
     (fun W v => v = .bool bm),
     (fun W v => v = .bool true),
     (fun W v => v = .bool true),
     (fun W v => v = .slice a0 len0 cap0),
     (fun W v => At recE v (recsL z0) W),
     (fun W v => v = .slice a0 len0 cap0),
     (fun W v => At recE v (recsL z0) W),
     (fun W v => v = .bool true),
     (fun W v => v = .bool true),
     (fun W v => v = .bool true),
     (fun W v => v = vx),
     (fun W v => v = .pointer (some ⟨bY, 0, none⟩)),
     (fun W v => v = vy),
     (fun W v => v = .bool true),
     (fun W v => v = .bool true),
     (fun W v => v = .bool true),
     (fun W v => v = .int .i64 E),
     (fun W v => v = .int .i64 E),
     (fun W v => v = .pointer (some ⟨bY, 1, none⟩)),
     (fun W v => v = .int .i64 E),
     (fun W v => v = .bool true),
     (fun W v => v = .bool true),
     (fun W v => v = .bool true),
     (fun W v => v = .slice a0 len0 cap0),
     (fun W v => v = .slice a1 len1 cap1),
     (fun W v => v = .bool bs),
     (fun W v => v = .slice a0 len0 cap0),
     (fun W v => v = .slice a1 len1 cap1),
     (fun W v => v = .bool bs),
     (fun W v => v = .bool true),
     (fun W v => v = .bool true),
     (fun W v => v = .bool true),
     (fun W v => v = .bool true),
     (fun W v => v = .bool true)] (by rfl) (by kernel_rfl) (by kernel_rfl) (by kernel_rfl) (by kernel_rfl) (by rfl) (by kernel_rfl) ?hS ?hp ?hs ?he
      case hS => exact gr_drew (Below.refl _ _)
      case hp => repeat' (first | exact trivial | refine ⟨fun _ _ _ _ h => h, ?_⟩ | refine ⟨fun _ _ _ hb h => h.call hb, ?_⟩)
      case hs =>
        simp only [List.take_succ_cons, List.take_zero]
        have hA := hA8
        refine ⟨?_, ?_, ?_, ?_, ?_, ?_, ?_, ?_, ?_, ?_, ?_, ?_, ?_, ?_, ?_, ?_, ?_, ?_, ?_, ?_, ?_, ?_, ?_, ?_, ?_, ?_, ?_, ?_, ?_, ?_, ?_, ?_, ?_, ?_, ?_, ?_, ?_, trivial⟩
        · refine ⟨met_none rfl, ?_⟩
          intro a W K hS hd hf hK
          have e0 : a.tmps.getD 0 undef = .slice a0 len0 cap0 := hf 0 (by kernel_rfl)
          clear hd hf
          go_simp
          exact hK _ _ (Below.refl _ _) hS rfl
        · refine ⟨met_none rfl, ?_⟩
          intro a W K hS hd hf hK
          have e55 : a.tmps.getD 55 undef = .slice a0 len0 cap0 := hd ⟨0, .data⟩ (by simp) rfl
          clear hd hf
          go_simp
          go_at_call 11
          refine (hM.out W (hA.on hS) (hat0.call hS)).mono ?_
          rintro e w1 ⟨rfl, hb⟩
          exact hK _ _ hb (gr_call hS hb) rfl
        · refine ⟨met_none rfl, ?_⟩
          intro a W K hS hd hf hK
          have e0 : a.tmps.getD 0 undef = .slice a0 len0 cap0 := hf 0 (by kernel_rfl)
          clear hd hf
          go_simp
          exact hK _ _ (Below.refl _ _) hS rfl
        · refine ⟨met_none rfl, ?_⟩
          intro a W K hS hd hf hK
          have e57 : a.tmps.getD 57 undef = .slice a0 len0 cap0 := hd ⟨2, .data⟩ (by simp) rfl
          clear hd hf
          go_simp
          go_at_call 12
          refine (hMr.out W (hat0.call hS)).mono ?_
          rintro e w1 ⟨rfl, hb⟩
          exact hK _ _ hb (gr_call hS hb) rfl
        · refine ⟨met_none rfl, ?_⟩
          intro a W K hS hd hf hK
          have e56 : a.tmps.getD 56 undef = .bool bm := hd ⟨1, .data⟩ (by simp) rfl
          have e58 : a.tmps.getD 58 undef = .bool bm := hd ⟨3, .data⟩ (by simp) rfl
          clear hd hf
          go_simp
          exact hK _ _ (Below.refl _ _) hS rfl
        · refine ⟨met_none rfl, ?_⟩
          intro a W K hS hd hf hK
          have e59 : a.tmps.getD 59 undef = .bool true := hd ⟨4, .data⟩ (by simp) rfl
          clear hd hf
          go_simp
          exact hK _ _ (Below.refl _ _) hS rfl
        · refine ⟨met_some 5 true rfl (fun w v h => h), ?_⟩
          intro a W K hS hd hf hK
          have e0 : a.tmps.getD 0 undef = .slice a0 len0 cap0 := hf 0 (by kernel_rfl)
          clear hd hf
          go_simp
          exact hK _ _ (Below.refl _ _) hS rfl
        · refine ⟨met_some 5 true rfl (fun w v h => h), ?_⟩
          intro a W K hS hd hf hK
          have e61 : a.tmps.getD 61 undef = .slice a0 len0 cap0 := hd ⟨6, .data⟩ (by simp) rfl
          clear hd hf
          go_simp
          go_at_call 14
          refine (hRc.out W (hA.on hS) (hat0.call hS)).mono ?_
          rintro e w1 ⟨⟨v1, rfl, hR⟩, hb⟩
          exact hK _ _ hb (gr_call hS hb) hR.at
        · refine ⟨met_some 5 true rfl (fun w v h => h), ?_⟩
          intro a W K hS hd hf hK
          have e0 : a.tmps.getD 0 undef = .slice a0 len0 cap0 := hf 0 (by kernel_rfl)
          clear hd hf
          go_simp
          exact hK _ _ (Below.refl _ _) hS rfl
        · refine ⟨met_some 5 true rfl (fun w v h => h), ?_⟩
          intro a W K hS hd hf hK
          have e63 : a.tmps.getD 63 undef = .slice a0 len0 cap0 := hd ⟨8, .data⟩ (by simp) rfl
          clear hd hf
          go_simp
          go_at_call 15
          refine (hRr.out W (hat0.call hS)).mono ?_
          rintro e w1 ⟨⟨v1, rfl, hR⟩, hb⟩
          exact hK _ _ hb (gr_call hS hb) hR.at
        · refine ⟨met_some 5 true rfl (fun w v h => h), ?_⟩
          intro a W K hS hd hf hK
          have p62 : At recE (a.tmps.getD 62 undef) (recsL z0) W := hd ⟨7, .data⟩ (by simp) rfl
          obtain ⟨v62, e62⟩ : ∃ v, a.tmps.getD 62 undef = v := ⟨_, rfl⟩
          rw [e62] at p62
          have p64 : At recE (a.tmps.getD 64 undef) (recsL z0) W := hd ⟨9, .data⟩ (by simp) rfl
          obtain ⟨v64, e64⟩ : ∃ v, a.tmps.getD 64 undef = v := ⟨_, rfl⟩
          rw [e64] at p64
          clear hd hf
          go_simp
          go_at_call 13
          refine (hSr.out _ _ W p62 p64).mono ?_
          rintro e w1 ⟨rfl, hb⟩
          exact hK _ _ hb (gr_call hS hb) rfl
        · refine ⟨met_none rfl, ?_⟩
          intro a W K hS hd hf hK
          have e60 : a.tmps.getD 60 undef = .bool true := hd ⟨5, .data⟩ (by simp) rfl
          have e65 : a.tmps.getD 65 undef = .bool true := hd ⟨10, .data⟩ (by simp) rfl
          clear hd hf
          go_simp
          exact hK _ _ (Below.refl _ _) hS rfl
        · refine ⟨met_none rfl, ?_⟩
          intro a W K hS hd hf hK
          have e66 : a.tmps.getD 66 undef = .bool true := hd ⟨11, .data⟩ (by simp) rfl
          clear hd hf
          go_simp
          exact hK _ _ (Below.refl _ _) hS rfl
        · refine ⟨met_some 12 true rfl (fun w v h => h), ?_⟩
          intro a W K hS hd hf hK
          have e8 : a.tmps.getD 8 undef = vx := hf 8 (by kernel_rfl)
          clear hd hf
          go_simp
          exact hK _ _ (Below.refl _ _) hS rfl
        · refine ⟨met_some 12 true rfl (fun w v h => h), ?_⟩
          intro a W K hS hd hf hK
          have e10 : a.tmps.getD 10 undef = .pointer (some ⟨bY, 0, none⟩) := hf 10 (by kernel_rfl)
          clear hd hf
          go_simp
          exact hK _ _ (Below.refl _ _) hS rfl
        · refine ⟨met_some 12 true rfl (fun w v h => h), ?_⟩
          intro a W K hS hd hf hK
          have e69 : a.tmps.getD 69 undef = .pointer (some ⟨bY, 0, none⟩) := hd ⟨14, .data⟩ (by simp) rfl
          have c0 := cell_kept hS k0
          clear hd hf
          go_simp
          exact hK _ _ (Below.refl _ _) hS rfl
        · refine ⟨met_some 12 true rfl (fun w v h => h), ?_⟩
          intro a W K hS hd hf hK
          have e68 : a.tmps.getD 68 undef = vx := hd ⟨13, .data⟩ (by simp) rfl
          have e70 : a.tmps.getD 70 undef = vy := hd ⟨15, .data⟩ (by simp) rfl
          clear hd hf
          go_simp
          go_at_call 16
          refine (hSx.out W (hatx.call hS) (haty.call hS)).mono ?_
          rintro e w1 ⟨rfl, hb⟩
          exact hK _ _ hb (gr_call hS hb) rfl
        · refine ⟨met_none rfl, ?_⟩
          intro a W K hS hd hf hK
          have e67 : a.tmps.getD 67 undef = .bool true := hd ⟨12, .data⟩ (by simp) rfl
          have e71 : a.tmps.getD 71 undef = .bool true := hd ⟨16, .data⟩ (by simp) rfl
          clear hd hf
          go_simp
          exact hK _ _ (Below.refl _ _) hS rfl
        · refine ⟨met_none rfl, ?_⟩
          intro a W K hS hd hf hK
          have e72 : a.tmps.getD 72 undef = .bool true := hd ⟨17, .data⟩ (by simp) rfl
          clear hd hf
          go_simp
          exact hK _ _ (Below.refl _ _) hS rfl
        · refine ⟨met_some 18 true rfl (fun w v h => h), ?_⟩
          intro a W K hS hd hf hK
          have e9 : a.tmps.getD 9 undef = .int .i64 E := hf 9 (by kernel_rfl)
          clear hd hf
          go_simp
          exact hK _ _ (Below.refl _ _) hS rfl
        · refine ⟨met_some 18 true rfl (fun w v h => h), ?_⟩
          intro a W K hS hd hf hK
          have e74 : a.tmps.getD 74 undef = .int .i64 E := hd ⟨19, .data⟩ (by simp) rfl
          clear hd hf
          go_simp
          go_at_call 17
          refine (hEr.out W).mono ?_
          rintro e w1 ⟨rfl, rfl⟩
          exact hK _ _ (Below.refl _ _) hS rfl
        · refine ⟨met_some 18 true rfl (fun w v h => h), ?_⟩
          intro a W K hS hd hf hK
          have e10 : a.tmps.getD 10 undef = .pointer (some ⟨bY, 0, none⟩) := hf 10 (by kernel_rfl)
          clear hd hf
          go_simp
          exact hK _ _ (Below.refl _ _) hS rfl
        · refine ⟨met_some 18 true rfl (fun w v h => h), ?_⟩
          intro a W K hS hd hf hK
          have e76 : a.tmps.getD 76 undef = .pointer (some ⟨bY, 1, none⟩) := hd ⟨21, .data⟩ (by simp) rfl
          have c0 := cell_kept hS k1
          clear hd hf
          go_simp
          exact hK _ _ (Below.refl _ _) hS rfl
        · refine ⟨met_some 18 true rfl (fun w v h => h), ?_⟩
          intro a W K hS hd hf hK
          have e75 : a.tmps.getD 75 undef = .int .i64 E := hd ⟨20, .data⟩ (by simp) rfl
          have e77 : a.tmps.getD 77 undef = .int .i64 E := hd ⟨22, .data⟩ (by simp) rfl
          clear hd hf
          go_simp
          exact hK _ _ (Below.refl _ _) hS rfl
        · refine ⟨met_none rfl, ?_⟩
          intro a W K hS hd hf hK
          have e73 : a.tmps.getD 73 undef = .bool true := hd ⟨18, .data⟩ (by simp) rfl
          have e78 : a.tmps.getD 78 undef = .bool true := hd ⟨23, .data⟩ (by simp) rfl
          clear hd hf
          go_simp
          exact hK _ _ (Below.refl _ _) hS rfl
        · refine ⟨met_none rfl, ?_⟩
          intro a W K hS hd hf hK
          have e79 : a.tmps.getD 79 undef = .bool true := hd ⟨24, .data⟩ (by simp) rfl
          clear hd hf
          go_simp
          exact hK _ _ (Below.refl _ _) hS rfl
        · refine ⟨met_some 25 true rfl (fun w v h => h), ?_⟩
          intro a W K hS hd hf hK
          have e0 : a.tmps.getD 0 undef = .slice a0 len0 cap0 := hf 0 (by kernel_rfl)
          clear hd hf
          go_simp
          exact hK _ _ (Below.refl _ _) hS rfl
        · refine ⟨met_some 25 true rfl (fun w v h => h), ?_⟩
          intro a W K hS hd hf hK
          have e1 : a.tmps.getD 1 undef = .slice a1 len1 cap1 := hf 1 (by kernel_rfl)
          clear hd hf
          go_simp
          exact hK _ _ (Below.refl _ _) hS rfl
        · refine ⟨met_some 25 true rfl (fun w v h => h), ?_⟩
          intro a W K hS hd hf hK
          have e81 : a.tmps.getD 81 undef = .slice a0 len0 cap0 := hd ⟨26, .data⟩ (by simp) rfl
          have e82 : a.tmps.getD 82 undef = .slice a1 len1 cap1 := hd ⟨27, .data⟩ (by simp) rfl
          clear hd hf
          go_simp
          go_at_call 18
          refine (hSm.out W (hA.on hS) (hat0.call hS) (hat1.call hS)).mono ?_
          rintro e w1 ⟨rfl, hb⟩
          exact hK _ _ hb (gr_call hS hb) rfl
        · refine ⟨met_some 25 true rfl (fun w v h => h), ?_⟩
          intro a W K hS hd hf hK
          have e0 : a.tmps.getD 0 undef = .slice a0 len0 cap0 := hf 0 (by kernel_rfl)
          clear hd hf
          go_simp
          exact hK _ _ (Below.refl _ _) hS rfl
        · refine ⟨met_some 25 true rfl (fun w v h => h), ?_⟩
          intro a W K hS hd hf hK
          have e1 : a.tmps.getD 1 undef = .slice a1 len1 cap1 := hf 1 (by kernel_rfl)
          clear hd hf
          go_simp
          exact hK _ _ (Below.refl _ _) hS rfl
        · refine ⟨met_some 25 true rfl (fun w v h => h), ?_⟩
          intro a W K hS hd hf hK
          have e84 : a.tmps.getD 84 undef = .slice a0 len0 cap0 := hd ⟨29, .data⟩ (by simp) rfl
          have e85 : a.tmps.getD 85 undef = .slice a1 len1 cap1 := hd ⟨30, .data⟩ (by simp) rfl
          clear hd hf
          go_simp
          go_at_call 16
          refine (hSs.out W (hat0.call hS) (hat1.call hS)).mono ?_
          rintro e w1 ⟨rfl, hb⟩
          exact hK _ _ hb (gr_call hS hb) rfl
        · refine ⟨met_some 25 true rfl (fun w v h => h), ?_⟩
          intro a W K hS hd hf hK
          have e83 : a.tmps.getD 83 undef = .bool bs := hd ⟨28, .data⟩ (by simp) rfl
          have e86 : a.tmps.getD 86 undef = .bool bs := hd ⟨31, .data⟩ (by simp) rfl
          clear hd hf
          go_simp
          exact hK _ _ (Below.refl _ _) hS rfl
        · refine ⟨met_none rfl, ?_⟩
          intro a W K hS hd hf hK
          have e80 : a.tmps.getD 80 undef = .bool true := hd ⟨25, .data⟩ (by simp) rfl
          have e87 : a.tmps.getD 87 undef = .bool true := hd ⟨32, .data⟩ (by simp) rfl
          clear hd hf
          go_simp
          exact hK _ _ (Below.refl _ _) hS rfl
        · refine ⟨met_none rfl, ?_⟩
          intro a W K hS hd hf hK
          have e88 : a.tmps.getD 88 undef = .bool true := hd ⟨33, .data⟩ (by simp) rfl
          clear hd hf
          go_simp
          exact hK _ _ (Below.refl _ _) hS rfl
        · refine ⟨met_some 34 true rfl (fun w v h => h), ?_⟩
          intro a W K hS hd hf hK
          clear hd hf
          go_simp
          go_at_call 8
          refine (haw.out W (hA.on hS)).mono ?_
          rintro e w1 ⟨rfl, hb⟩
          exact hK _ _ hb (gr_call hS hb) rfl
        · refine ⟨met_none rfl, ?_⟩
          intro a W K hS hd hf hK
          have e89 : a.tmps.getD 89 undef = .bool true := hd ⟨34, .data⟩ (by simp) rfl
          have e90 : a.tmps.getD 90 undef = .bool true := hd ⟨35, .data⟩ (by simp) rfl
          clear hd hf
          go_simp
          exact hK _ _ (Below.refl _ _) hS rfl
      case he =>
        intro vals w9 K hS9 hV hK
        have e91 := hV 36 (by omega)
        clear hV
        simp only [List.getD_cons_succ, List.getD_cons_zero] at e91
        have hb9 := gr_call hb8 hS9
        clear hat0 hat1 hatx haty k0 k1 hS9 hb8
        refine Later.mk ?_
        simp only [List.append_eq, List.cons_append, List.nil_append, setN, Nat.reduceAdd, List.setIfInBounds_toArray, List.set_cons_succ, List.set_cons_zero]
        rw [e91]
        go_simp
        refine hK _ _ ?_
        clear hK
        go_wp2_with fail
        go_ret
        exact ⟨rfl, hb9⟩
end Go.Proofs.Ytobfbjfajdnhaaa
