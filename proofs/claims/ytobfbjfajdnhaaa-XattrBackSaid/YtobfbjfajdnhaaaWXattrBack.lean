/- The law XattrBack, walked. -/
import Derived.Test.YtobfbjfajdnhaaaWXattrLast
import Derived.Test.YtobfbjfajdnhaaaXatBackM
namespace Go.Proofs.Ytobfbjfajdnhaaa
open Go.RowKit
open XatM
set_option linter.unusedVariables false

theorem Row.grown {E : Elt Xa} {B : Nat} {v : Value} {l : List Xa} {w w1 : World} {row : Option Nat} (h : Row E B v l w) (hb : w.grownBy w1 row) (hne : ∀ k, v.ownBlock = some k → row ≠ some k) : Row E B v l w1 := by
  refine World.ownsRow.kept h hb ?_
  cases hv : v.ownBlock with
  | none => exact .inl rfl
  | some k => exact .inr (fun e => hne k hv e.symm)
theorem two_recs2 (w : World) (a b c d : ByteArray) : At recE (.slice (some ⟨w.heap.size, 0, none⟩) 2 2) [(a.data.toList, b.data.toList), (c.data.toList, d.data.toList)] (w.alloc (.cells #[.string a, .string b, .string c, .string d] 27)) :=
  (two_recs w a b c d 0 (Nat.zero_le _)).at
theorem get_at {l : List UInt8} {k : Nat} {c : UInt8} (h : l[k]? = some c) : (l.take (k + 1)).contains 61 = ((l.take k).contains 61 || decide (c = 61)) := by
  obtain ⟨hk, hc⟩ := List.getElem?_eq_some_iff.1 h
  rw [List.take_succ_eq_append_getElem hk, hc]
  rw [Bool.eq_iff_iff, Bool.or_eq_true, List.contains_iff_mem, List.contains_iff_mem, decide_eq_true_eq, List.mem_append, List.mem_singleton]
  constructor
  · rintro (h | h)
    · exact .inl h
    · exact .inr h.symm
  · rintro (h | h)
    · exact .inl h
    · exact .inr h.symm
theorem own_new {v v9 u : Value} {W : World} {B m : Nat} {l : List Xa} {k : Nat} (hne : ∀ k, u.ownBlock = some k → v.ownBlock ≠ some k) (hR : Row recE B u l W) (ho : v9.ownBlock = v.ownBlock ∨ v9.ownBlock = some m) (hm : W.heap.size ≤ m) (h : u.ownBlock = some k) : v9.ownBlock ≠ some k := by
  rcases ho with ho | ho
  · rw [ho]; exact hne k h
  · rw [ho]
    intro e
    have := (hR.lt k h).2
    injection e with e
    omega
theorem own_new2 {v u u9 : Value} {W : World} {B m : Nat} {l : List Xa} {k : Nat} (hne : ∀ k, u.ownBlock = some k → v.ownBlock ≠ some k) (hR : Row recE B v l W) (ho : u9.ownBlock = u.ownBlock ∨ u9.ownBlock = some m) (hm : W.heap.size ≤ m) (h : u9.ownBlock = some k) : v.ownBlock ≠ some k := by
  rcases ho with ho | ho
  · rw [ho] at h; exact hne k h
  · rw [ho] at h
    intro e
    have := (hR.lt k e).2
    injection h with h
    omega
attribute [local irreducible] Row At

set_option maxHeartbeats 12800000 in
set_option maxRecDepth 100000 in
theorem xattrBack_walk (a0 : Option Addr) (len0 cap0 : Nat) (z0 : List Int) (a1 : Int) (w : World) (hA : Amb w) (w0 : IsRow .u8 w a0 len0 cap0 z0) (w1 : (Lit.int .u8 a1).wf = true) :
    Calls Try.prog 4 #[.slice a0 len0 cap0, .int .u8 a1] w fun e w' => e = .returned (.bool true) ∧ Below w.heap.size w w' := by
  have haw := Lib.hid (fun w (hA : Amb w) => awake_true w hA)
  have hmk := Lib.hid (make_any a0 len0 cap0 z0 w w0 (isRow_len w0))
  have hEr := Lib.hid (fun x w => err_any x w)
  obtain ⟨CK, hCK⟩ : ∃ O : ByteArray, (⟨#[99, 111, 109, 109, 101, 110, 116]⟩ : ByteArray) = O := ⟨_, rfl⟩
  obtain ⟨CX, hCX⟩ : ∃ O : ByteArray, (⟨#[120]⟩ : ByteArray) = O := ⟨_, rfl⟩
  have HC := Lib.hid (show ((CK.data.toList, CX.data.toList) : Xa) = cm by rw [← hCK, ← hCX]; rfl)
  have hbc := build_rec2 CK CX
  clear w0 w1
  go_enter Try.func4, Try.ntmps4
  simp only [hCK, hCX]
  clear hCK hCX
  go_wp2_with fail
  refine (hmk.out).mono ?_
  rintro e u1 ⟨⟨v5, l, rfl, hR5, hg, hl6⟩, hbl⟩
  clear hmk
  obtain ⟨hbd, hrl, hrb⟩ := rec_len hg hl6
  have hmay := hg.may (show l.length ≤ 32 by omega)
  have Hnm := Lib.hid (fun x (hx : x ∈ l) => (okX_parts (hg.all x hx).1).2.2.2.2)
  have hat5 := hR5.at
  clear hR5
  have hrc := Lib.hid (RecsX_any v5 l u1 (hA.on hbl) hat5 hbd)
  go_wp2_with fail
  refine (hrc.out).mono ?_
  rintro e u2 ⟨⟨v6, rfl, hR6⟩, hb2⟩
  clear hrc
  replace hat5 := hat5.call hb2
  replace hbl := gr_call hbl hb2
  have hat6 := hR6.at
  clear hR6 hb2
  have hbr : Bounded (recsL l) := ⟨by omega, fun x hx => by have := hrb x hx; omega⟩
  have hF1 : Hid (∀ w, Amb w → At recE v6 (recsL l) w → Calls Try.prog 9 #[v6] w fun e w' => (∃ v, e = .returned (.tuple #[v, .int .i64 0]) ∧ At xatE v l w') ∧ Below w.heap.size w w') := Lib.hid (fun w hA hat => by
    have := FromX_any v6 (recsL l) w hA hat hbr
    rw [from_recs hmay] at this
    exact this)
  have hF2 : Hid (∀ v w, Amb w → At recE v (backL (recsL l) 0) w → Calls Try.prog 9 #[v] w fun e w' => (∃ v, e = .returned (.tuple #[v, .int .i64 0]) ∧ At xatE v l w') ∧ Below w.heap.size w w') := Lib.hid (fun v w hA hat => by
    have := FromX_any v (backL (recsL l) 0) w hA hat ⟨by rw [back_len]; omega, fun x hx => by
      unfold backL at hx
      obtain ⟨q, hq, hxq⟩ := List.mem_flatMap.1 hx
      rw [List.drop_zero, List.mem_reverse] at hq
      rcases List.mem_cons.1 hxq with rfl | h
      · have := hrb x hq; omega
      · obtain rfl := List.mem_singleton.1 h
        decide⟩
    rw [back_from hmay] at this
    exact this)
  have hF3 : Hid (∀ v w, Amb w → At recE v (plainL (recsL l) 0) w → Calls Try.prog 9 #[v] w fun e w' => (∃ v, e = .returned (.tuple #[v, .int .i64 0]) ∧ At xatE v l w') ∧ Below w.heap.size w w') := Lib.hid (fun v w hA hat => by
    have := FromX_any v (plainL (recsL l) 0) w hA hat ⟨by have := plain_len (recsL l) 0; omega, fun x hx => by
      unfold plainL at hx
      rw [List.mem_filter, List.drop_zero, List.mem_reverse] at hx
      have := hrb x hx.1; omega⟩
    rw [plain_from hmay] at this
    exact this)
  have hS := Lib.hid (fun va vb w (hA : Amb w) ha hb => SameX_any va vb l l w hA ha hb hbd.1 hbd.1)
  rw [decide_eq_true (rfl : l = l)] at hS
  have hM := Lib.hid (fun v w (hA : Amb w) hat => MayX_any v l w hA hat hbd)
  rw [hmay] at hM
  have Hcount := Lib.hid (recs_count hmay)
  have Hpc := Lib.hid (plain_count hmay)
  obtain ⟨R, hR⟩ : ∃ R, (recsL l).length = R := ⟨_, rfl⟩
  obtain ⟨z, hz⟩ : ∃ z, l.length = z := ⟨_, rfl⟩
  have hRz : z ≤ R := by
    have h1 := Hcount.out
    have h2 := List.length_filter_le has61 l
    omega
  have Hrb := Lib.hid hrb
  have HRl := Lib.hid hR
  have Hz := Lib.hid hz
  have Hge := Lib.hid (fun x (hx : x ∈ recsL l) => show x.1 ≠ [] from by
    unfold recsL at hx
    rw [hmay] at hx
    obtain ⟨y, _, hy⟩ := List.mem_flatMap.1 hx
    unfold recOf at hy
    rcases List.mem_append.1 hy with h | h
    · split at h
      · cases h
      · obtain rfl := List.mem_singleton.1 h
        simp [sK]
    · obtain rfl := List.mem_singleton.1 h
      simp [lK])
  generalize recsL l = rs at *
  rw [hR] at hrl
  rw [hz] at hl6
  obtain ⟨p6, c6, rfl, hc6, hcell6⟩ := two_look rec_two hat6
  obtain ⟨p5, c5, rfl, hc5, hcell5⟩ := two_look xat_two hat5
  rw [hR] at hat6 hF1 hc6 ⊢
  rw [hz] at hat5 hc5 ⊢
  clear hg hbd hrb hmay hbr hR hz hcell5 hcell6
  go_wp2_with fail
  refine (hF1.out _ (hA.on hbl) hat6).mono ?_
  rintro e u3 ⟨⟨vx, rfl, hatx⟩, hb3⟩
  replace hat5 := hat5.call hb3
  replace hat6 := hat6.call hb3
  replace hbl := gr_call hbl hb3
  clear hb3 hF1
  go_wp2_with fail
  refine (hM.out _ _ (hA.on hbl) hat5).mono ?_
  rintro e u4 ⟨rfl, hb4⟩
  replace hat5 := hat5.call hb4
  replace hat6 := hat6.call hb4
  replace hatx := hatx.call hb4
  replace hbl := gr_call hbl hb4
  clear hb4 hM
  go_wp2_with fail
  refine (hEr.out _ _).mono ?_
  rintro e u4 ⟨rfl, rfl⟩
  go_wp2_with fail
  refine (hS.out _ _ _ (hA.on hbl) hatx hat5).mono ?_
  rintro e ws ⟨rfl, hb5⟩
  replace hat5 := hat5.call hb5
  replace hat6 := hat6.call hb5
  replace hbl := gr_call hbl hb5
  clear hb5 hatx
  have g1 : decide ((R : Int) < (z : Int)) = false := decide_eq_false (by omega)
  have g2 : decide (R < z) = false := decide_eq_false (by omega)
  have wR : IntKind.i64.wrap ((R : Int) - 1) = (R : Int) - 1 := by rw [IntKind.wrap_i64]; omega
  have Hcell6 : Hid (∀ j (h : j < rs.length), ∃ g off, p6 = some ⟨g, off, none⟩ ∧ g < ws.heap.size ∧ TwoAt ws g (off + j * 2) rs[j]) := Lib.hid (by
    obtain ⟨p', cap', e1, _, h⟩ := two_look rec_two hat6
    cases e1
    exact h)
  have Hcell5 : Hid (∀ j (h : j < l.length), ∃ g off, p5 = some ⟨g, off, none⟩ ∧ g < ws.heap.size ∧ TwoAt ws g (off + j * 2) l[j]) := Lib.hid (by
    obtain ⟨p', cap', e1, _, h⟩ := two_look xat_two hat5
    cases e1
    exact h)
  clear hat6
  go_wp2_with fail
  go_loopw [9, 10, 12] (fun bv pv iv wr => ∃ (j : Nat) (x : Int), iv = .int .i64 x ∧ x = (j : Int) - 1 ∧ j ≤ R ∧ Row recE ws.heap.size bv (backL rs j) wr ∧ Row recE ws.heap.size pv (plainL rs j) wr ∧ (∀ k, pv.ownBlock = some k → bv.ownBlock ≠ some k) ∧ Below ws.heap.size ws wr) (fun _ _ iv _ => (intOf iv + 1).toNat)
  case atStart => exact ⟨R, _, rfl, rfl, by omega, by rw [← HRl.out, back_end]; exact Row.nil _ _, by rw [← HRl.out, plain_end]; exact Row.nil _ _, (fun k h => by cases h), Below.refl _ _⟩
  case round =>
    obtain ⟨j, x, rfl, hx, hj, hRb, hRp, hne, hbs⟩ := hrel
    rename World => wr
    rcases j with _ | j
    · obtain rfl : x = -1 := by omega
      have hbl2 : Below w.heap.size w wr := gr_call hbl hbs
      have Hc5 : Hid (∀ j (h : j < l.length), ∃ g off, p5 = some ⟨g, off, none⟩ ∧ TwoAt wr g (off + j * 2) l[j]) := Lib.hid (fun j h => by
        obtain ⟨g, off, e, _, t⟩ := Hcell5.out j h
        exact ⟨g, off, e, t.kept hbs⟩)
      replace hat5 := hat5.call hbs
      clear hx hj Hcell5 Hcell6 hbl hbs hne Hge Hrb
      go_wp2_with fail
      go_loopw [11, 13] (fun ev iv wq => ∃ i : Nat, iv = .int .i64 (i : Int) ∧ ev = .int .i64 (((l.take i).filter has61).length : Int) ∧ i ≤ z ∧ wq = wr) (fun _ iv _ => z - (intOf iv).toNat)
      case atStart => exact ⟨0, rfl, rfl, by omega, rfl⟩
      case round =>
        obtain ⟨i, rfl, rfl, hi, rfl⟩ := hrel
        rename World => wr
        by_cases hlt : i < z
        · have hlt' : decide ((i : Int) < (z : Int)) = true := decide_eq_true (by omega)
          have hlt2 : decide (i < z) = true := decide_eq_true hlt
          have hi' : i < l.length := by rw [Hz.out]; exact hlt
          obtain ⟨g, off, rfl, c0, c1⟩ := Hc5.out i hi'
          have hfs := filter_succ hi'
          have hcl : ((l.take i).filter has61).length ≤ 6 := by have := List.length_filter_le has61 (l.take i); rw [List.length_take] at this; omega
          obtain ⟨N, hN⟩ : ∃ N, strOf l[i].1 = N := ⟨_, rfl⟩
          rw [hN] at c0
          have hh : has61 l[i] = N.data.toList.contains 61 := by rw [← hN, strOf_list]; rfl
          rw [hh] at hfs
          have Hfs := Lib.hid hfs
          obtain ⟨ct, hct⟩ : ∃ ct, ((l.take i).filter has61).length = ct := ⟨_, rfl⟩
          rw [hct] at hcl Hfs ⊢
          obtain ⟨nz, hnz⟩ : ∃ n, N.size = n := ⟨_, rfl⟩
          have hnz8 : nz ≤ 238 := by rw [← hnz, ← hN, strOf_size]; exact Hnm.out _ (List.getElem_mem hi')
          have Hidx := Lib.hid (fun k h => idxAt (P := Try.prog) Try.underlying9 N k (by rw [hnz]; exact h))
          have Hnz := Lib.hid hnz
          have wct : IntKind.i64.wrap ((ct : Int) + 1) = ((ct + 1 : Nat) : Int) := by rw [IntKind.wrap_i64]; omega
          clear hfs hN hct hi' c1 hnz hh
          go_wp2_with fail
          go_loopw [14, 15] (fun hv kv wq => ∃ (k : Nat) (b : Bool), kv = .int .i64 (k : Int) ∧ hv = .bool b ∧ k ≤ nz ∧ wq = wr ∧ Hid ((N.data.toList.take k).contains 61 = b)) (fun _ kv _ => nz - (intOf kv).toNat)
          case atStart => exact ⟨0, false, rfl, rfl, by omega, rfl, Lib.hid (by simp)⟩
          case round =>
            obtain ⟨k, b, rfl, rfl, hk, rfl, HB⟩ := hrel
            rename World => wr
            have hNz := Hnz.out
            by_cases hkt : k < nz
            · have hkt' : decide ((k : Int) < (nz : Int)) = true := decide_eq_true (by omega)
              have hkt2 : decide (k < nz) = true := decide_eq_true hkt
              obtain ⟨ch, hch, hidx⟩ := Hidx.out k hkt
              have HT := Lib.hid (get_at hch)
              rw [HB.out] at HT
              clear HB hch
              rcases b with _ | _
              · by_cases h61 : ch = 61
                · have hs : ((ch.toNat : Int) == 61) = true := by rw [h61]; rfl
                  rw [decide_eq_true h61] at HT
                  have HN := Lib.hid HT.out
                  clear HT h61
                  go_wp2_with fail
                  go_roundw
                  case rel => exact ⟨k + 1, true, rfl, rfl, by omega, by first | trivial | rfl, HN⟩
                  case measure => simp only [intOf]; omega
                · have hs : ((ch.toNat : Int) == 61) = false := by
                    rw [beq_eq_false_iff_ne]; intro h; exact h61 (UInt8.toNat_inj.1 (by have : (61 : UInt8).toNat = 61 := rfl; omega))
                  rw [decide_eq_false h61] at HT
                  have HN := Lib.hid HT.out
                  clear HT h61
                  go_wp2_with fail
                  go_roundw
                  case rel => exact ⟨k + 1, false, rfl, rfl, by omega, by first | trivial | rfl, HN⟩
                  case measure => simp only [intOf]; omega
              · have HN : Hid ((N.data.toList.take (k + 1)).contains 61 = true) := Lib.hid (by rw [HT.out]; rfl)
                clear HT
                go_wp2_with fail
                go_roundw
                case rel => exact ⟨k + 1, true, rfl, rfl, by omega, by first | trivial | rfl, HN⟩
                case measure => simp only [intOf]; omega
            · have hkt' : decide ((k : Int) < (nz : Int)) = false := decide_eq_false (by omega)
              have hkt2 : decide (k < nz) = false := decide_eq_false hkt
              have hb : N.data.toList.contains 61 = b := by
                rw [← HB.out, List.take_of_length_le (by rw [len_list, hNz]; omega)]
              rw [hb] at Hfs
              clear HB hb Hidx
              rcases b with _ | _
              · have HN : Hid (((l.take (i + 1)).filter has61).length = ct) := Lib.hid (by rw [Hfs.out]; rfl)
                clear Hfs
                go_wp2_with fail
                go_roundw
                case rel => exact ⟨i + 1, rfl, by rw [HN.out], by omega, by first | trivial | rfl⟩
                case measure => simp only [intOf]; omega
              · have HN : Hid (((l.take (i + 1)).filter has61).length = ct + 1) := Lib.hid (by rw [Hfs.out]; rfl)
                clear Hfs
                go_wp2_with fail
                go_roundw
                case rel => exact ⟨i + 1, rfl, by rw [HN.out]; first | rfl | simp, by omega, by first | trivial | rfl⟩
                case measure => simp only [intOf]; omega
        · have hlt' : decide ((i : Int) < (z : Int)) = false := decide_eq_false (by omega)
          have hlt2 : decide (i < z) = false := decide_eq_false hlt
          obtain ⟨ct, hct⟩ : ∃ ct, ((l.take i).filter has61).length = ct := ⟨_, rfl⟩
          have hsum : R + ct = 2 * z := by
            have := Hcount.out
            rw [HRl.out, Hz.out] at this
            rw [List.take_of_length_le (by rw [Hz.out]; omega)] at hct
            omega
          rw [hct]
          have w1 : IntKind.i64.wrap (2 * (z : Int)) = 2 * (z : Int) := by rw [IntKind.wrap_i64]; omega
          have w2 : IntKind.i64.wrap (2 * (z : Int) - (ct : Int)) = (R : Int) := by rw [IntKind.wrap_i64]; omega
          have e1 : 2 * (z : Int) - (ct : Int) = (R : Int) := by omega
          have s1 : ((R : Int) == (R : Int)) = true := beq_self_eq_true _
          have s2 : ((z : Int) == (z : Int)) = true := beq_self_eq_true _
          clear hct hlt Hc5
          go_wp2_with fail
          refine (hF2.out _ _ (hA.on hbl2) hRb.at).mono ?_
          rintro e u1 ⟨⟨vy, rfl, haty⟩, d1⟩
          replace hat5 := hat5.call d1
          replace hRp := hRp.call d1
          replace hbl2 := gr_call hbl2 d1
          clear d1 hRb hF2
          go_wp2_with fail
          refine (hF3.out _ _ (hA.on hbl2) hRp.at).mono ?_
          rintro e u2 ⟨⟨vz, rfl, hatz⟩, d2⟩
          replace hat5 := hat5.call d2
          replace haty := haty.call d2
          obtain ⟨pp, cp, rfl, _⟩ := hRp.at.shape
          rw [Hpc.out, Hz.out]
          replace hbl2 := gr_call hbl2 d2
          clear d2 hRp hF3
          go_wp2_with fail
          refine (hEr.out _ _).mono ?_
          rintro e u2 ⟨rfl, rfl⟩
          go_wp2_with fail
          refine (hEr.out _ _).mono ?_
          rintro e u2 ⟨rfl, rfl⟩
          go_wp2_with fail
          refine (hS.out _ _ _ (hA.on hbl2) haty hat5).mono ?_
          rintro e u3 ⟨rfl, d3⟩
          replace hat5 := hat5.call d3
          replace hatz := hatz.call d3
          replace hbl2 := gr_call hbl2 d3
          clear d3 haty
          go_wp2_with fail
          refine (hS.out _ _ _ (hA.on hbl2) hatz hat5).mono ?_
          rintro e u4 ⟨rfl, d4⟩
          replace hbl2 := gr_call hbl2 d4
          clear d4 hatz hat5
          go_wp2_with fail
          refine (haw.out _ (hA.on hbl2)).mono ?_
          rintro e u5 ⟨rfl, d5⟩
          replace hbl2 := gr_call hbl2 d5
          go_wp2_with fail
          go_ret
          exact ⟨rfl, hbl2⟩
    · obtain rfl : x = (j : Int) := by omega
      have hj' : j < rs.length := by rw [HRl.out]; omega
      obtain ⟨g, off, rfl, hgs, t⟩ := Hcell6.out j hj'
      obtain ⟨c0, c1⟩ := t
      replace c0 := cell_below hbs (show (⟨g, off + j * 2, none⟩ : Addr).block < ws.heap.size from hgs) c0
      replace c1 := cell_below hbs (show (⟨g, off + j * 2 + 1, none⟩ : Addr).block < ws.heap.size from hgs) c1
      have hst := back_step hj'
      have hpl := plain_hit hj'
      have hpm := plain_miss hj'
      have hge := Hge.out rs[j] (List.getElem_mem hj')
      generalize rs[j] = y at *
      obtain ⟨K, hK⟩ : ∃ K, strOf y.1 = K := ⟨_, rfl⟩
      obtain ⟨V, hV⟩ : ∃ K, strOf y.2 = K := ⟨_, rfl⟩
      have hKl : K.data.toList = y.1 := by rw [← hK, strOf_list]
      have hVl : V.data.toList = y.2 := by rw [← hV, strOf_list]
      have hy : y = (K.data.toList, V.data.toList) := by rw [hKl, hVl]
      rw [hK] at c0
      rw [hV] at c1
      rw [hy, ← HC.out] at hst
      have Hst := Lib.hid hst
      have Hpl := Lib.hid hpl
      have Hpm := Lib.hid hpm
      have hsz := hbs.size
      have hKs : 0 < K.size := by rw [← len_list, hKl]; exact List.length_pos_iff.2 hge
      obtain ⟨ch, hch, hidx⟩ := idxAt (P := Try.prog) Try.underlying9 K 0 hKs
      replace hidx : ∀ W, (Instr.index 9 (.string K) (.int .i64 0)).run Try.prog W = .ok (.int .u8 (ch.toNat : Int)) W := hidx
      have hwj : IntKind.i64.wrap ((j : Int) - 1) = (j : Int) - 1 := by rw [IntKind.wrap_i64]; omega
      have hone := two_recs2 wr K V CK CX
      have hRa := hRb.alloc (.cells #[.string K, .string V, .string CK, .string CX] 27)
      have hRpa := hRp.alloc (.cells #[.string K, .string V, .string CK, .string CX] 27)
      have hla : (backL rs (j + 1)).length + [((K.data.toList, V.data.toList) : Xa), (CK.data.toList, CX.data.toList)].length ≤ 1000000 := by rw [back_len, HRl.out]; simp; omega
      have hsa : ws.heap.size ≤ (wr.alloc (.cells #[.string K, .string V, .string CK, .string CX] 27)).heap.size := by simp; omega
      have hba : Below ws.heap.size ws (wr.alloc (.cells #[.string K, .string V, .string CK, .string CX] 27)) := gr_alloc hbs _
      have hK1 : decide ((0 : Int) < (K.size : Int)) = true := decide_eq_true (by omega)
      have hK2 : decide (0 < K.size) = true := decide_eq_true hKs
      have hiL : isL y = decide (ch = 76) := by
        unfold isL
        rw [← hKl, List.head?_eq_getElem?, hch, decide_eq_decide]
        exact ⟨fun h => Option.some.inj h, fun h => by rw [h]⟩
      have hj0 : (j : Int) < (R : Int) := by omega
      clear hst hpl hpm hge hK hV hKl hVl hx hj' hRb hRp hbs hch hKs
      go_wp2_with (at_builtin; refine wp_append_at recE rfl _ _ rfl ws.heap.size _ (.slice (some ⟨wr.heap.size, 0, none⟩) 2 2) (backL rs (j + 1)) [(K.data.toList, V.data.toList), (CK.data.toList, CX.data.toList)] (wr.alloc (.cells #[.string K, .string V, .string CK, .string CX] 27)) rfl (by exact hRa) (by rfl) (by exact hone) hla hsa ?_)
      intro v9 w9 hR9 hb9 hg9 ho9
      rw [← Hst.out] at hR9
      have hne2 := fun k h => own_new (k := k) hne hRpa ho9 (by simp) h
      have hRp9 := hRpa.grown hg9 hne
      replace c0 := cell_below hb9 (show (⟨g, off + j * 2, none⟩ : Addr).block < ws.heap.size from hgs) (cell_kept (gr_alloc (Below.refl wr.heap.size wr) (.cells #[.string K, .string V, .string CK, .string CX] 27)) c0)
      replace c1 := cell_below hb9 (show (⟨g, off + j * 2 + 1, none⟩ : Addr).block < ws.heap.size from hgs) (cell_kept (gr_alloc (Below.refl wr.heap.size wr) (.cells #[.string K, .string V, .string CK, .string CX] 27)) c1)
      have hbs9 := hba.trans hb9
      have hs9 := hbs9.size
      clear hRa hRpa hla hsa hba hb9 hg9 ho9 hne hone
      by_cases hL : ch = 76
      · have hc76 : ((ch.toNat : Int) == 76) = true := by rw [hL]; rfl
        have hrow := Hpl.out (by rw [hiL, decide_eq_true hL])
        rw [hy] at hrow
        have Hrow := Lib.hid hrow
        have hone := one_bytes w9 K V
        have hRpb := hRp9.alloc (.cells #[.string K, .string V] 27)
        have hRb9 := hR9.alloc (.cells #[.string K, .string V] 27)
        have hlb : (plainL rs (j + 1)).length + [((K.data.toList, V.data.toList) : Xa)].length ≤ 1000000 := by have := plain_len rs (j + 1); rw [HRl.out] at this; simp; omega
        have hsb : ws.heap.size ≤ (w9.alloc (.cells #[.string K, .string V] 27)).heap.size := by simp; omega
        have hbb : Below ws.heap.size ws (w9.alloc (.cells #[.string K, .string V] 27)) := gr_alloc hbs9 _
        clear hrow hL hR9 hRp9 hbs9
        go_wp2_with (at_builtin; refine wp_append_at recE rfl _ _ rfl ws.heap.size _ (.slice (some ⟨w9.heap.size, 0, none⟩) 1 1) (plainL rs (j + 1)) [(K.data.toList, V.data.toList)] (w9.alloc (.cells #[.string K, .string V] 27)) rfl (by exact hRpb) (by rfl) (by exact hone) hlb hsb ?_)
        intro v10 w10 hR10 hb10 hg10 ho10
        rw [← Hrow.out] at hR10
        have hRbk := hRb9.grown hg10 (fun k h h2 => hne2 k h2 h)
        have hne3 := fun k h => own_new2 (k := k) hne2 hRb9 ho10 (by simp) h
        have hbs10 := hbb.trans hb10
        clear hRpb hRb9 hlb hsb hbb hb10 hg10 ho10 hone
        go_wp2_with fail
        go_roundw
        case rel => exact ⟨j, (j : Int) - 1, rfl, rfl, by omega, hRbk, hR10, hne3, hbs10⟩
        case measure => simp only [intOf]; omega
      · have hc76 : ((ch.toNat : Int) == 76) = false := by
          rw [beq_eq_false_iff_ne]; intro h; exact hL (UInt8.toNat_inj.1 (by have : (76 : UInt8).toNat = 76 := rfl; omega))
        have hrow := Hpm.out (by rw [hiL, decide_eq_false hL])
        rw [← hrow] at hRp9
        clear hrow hL
        go_wp2_with fail
        go_roundw
        case rel => exact ⟨j, (j : Int) - 1, rfl, rfl, by omega, hR9, hRp9, hne2, hbs9⟩
        case measure => simp only [intOf]; omega
end Go.Proofs.Ytobfbjfajdnhaaa
