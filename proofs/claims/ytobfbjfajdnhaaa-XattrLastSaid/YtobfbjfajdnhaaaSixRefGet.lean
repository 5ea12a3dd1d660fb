/- Walk over the document's answer: GetSixty. -/
import Derived.Test.YtobfbjfajdnhaaaSixRef
import Derived.BigQuiet
namespace Go.Proofs.Ytobfbjfajdnhaaa.SixW
open Go.RowKit
open SixM
set_option linter.unusedVariables false

theorem L_iff {c : UInt8} {k : Nat} (hk : k < 64) : L k = c ↔ num c = some k :=
  ⟨fun h => by rw [← h]; exact num_L k hk, fun h => (L_num h).1⟩
theorem orand (n k : Nat) (hn : n < 1048576) (hk : k < 64) : bits .and .i64 (bits .or .i64 ((n : Int) * 64) (k : Int)) 1048575 = (((n * 64 + k) % 1048576 : Nat) : Int) := by
  have h3 : n * 64 ||| k = n * 64 + k := by
    rw [Nat.mul_comm]
    exact (Nat.two_pow_add_eq_or_of_lt (i := 6) hk n).symm
  rw [show (n : Int) * 64 = ((n * 64 : Nat) : Int) by omega, or_i64 _ _ (by omega) (by omega), h3, show (1048575 : Int) = ((1048575 : Nat) : Int) from rfl, and_i64 _ _ (by omega) (by decide)]
  rw [show (1048575 : Nat) = 2 ^ 20 - 1 from rfl, Nat.and_two_pow_sub_one_eq_mod]
/-- The two numbers behind the letters up to k. -/
def inN (c : UInt8) (n k : Nat) : Nat := match num c with
  | some m => if m < k then (n * 64 + m) % 1048576 else n
  | none => n
def inH (c : UInt8) (h k : Nat) : Nat := match num c with
  | some m => if m < k then h + 6 else h
  | none => h
theorem in0 (c : UInt8) (n h : Nat) : inN c n 0 = n ∧ inH c h 0 = h := by
  unfold inN inH
  cases num c <;> simp
theorem in_hit {c : UInt8} {k : Nat} (n h : Nat) (hk : num c = some k) : inN c n k = n ∧ inH c h k = h ∧ inN c n (k + 1) = (n * 64 + k) % 1048576 ∧ inH c h (k + 1) = h + 6 := by
  unfold inN inH
  rw [hk]
  simp
theorem in_miss {c : UInt8} {k : Nat} (n h : Nat) (hk : num c ≠ some k) : inN c n (k + 1) = inN c n k ∧ inH c h (k + 1) = inH c h k := by
  unfold inN inH
  cases hc : num c with
  | none => simp
  | some m =>
    have : m ≠ k := fun e => hk (by rw [hc, e])
    simp only
    by_cases h1 : m < k
    · rw [if_pos h1, if_pos (by omega), if_pos (by omega), if_pos h1]; simp
    · rw [if_neg h1, if_neg (by omega), if_neg (by omega), if_neg h1]; simp
theorem inN_lt (c : UInt8) (n k : Nat) (hn : n < 1048576) : inN c n k < 1048576 := by
  unfold inN
  cases num c with
  | none => exact hn
  | some m =>
    simp only
    split
    · exact Nat.mod_lt _ (by decide)
    · exact hn
theorem inH_le (c : UInt8) (h k : Nat) : inH c h k ≤ h + 6 := by
  unfold inH
  cases num c with
  | none => exact Nat.le_add_right _ _
  | some m =>
    simp only
    split <;> omega
/-- What the reading lays for one letter, and how it goes on. -/
theorem rdec_step (c : UInt8) (h n : Nat) (cs : List UInt8) (hh : h < 8) : rdec h n (c :: cs) = (if 8 ≤ inH c h 64 then [UInt8.ofNat (inN c n 64 / 2 ^ (inH c h 64 - 8))] else []) ++ rdec (if 8 ≤ inH c h 64 then inH c h 64 - 8 else inH c h 64) (inN c n 64) cs := by
  unfold inN inH
  cases hc : num c with
  | none =>
    simp only [rdec, hc]
    rw [if_neg (by omega), if_neg (by omega)]
    rfl
  | some k =>
    have hk := (L_num hc).2
    simp only [rdec, hc]
    rw [if_pos hk, if_pos hk]
    by_cases h8 : 8 ≤ h + 6
    · rw [if_pos h8, if_pos h8, if_pos h8, show h + 6 - 8 = h - 2 by omega]
      rfl
    · rw [if_neg h8, if_neg h8, if_neg h8]
      rfl

/-- What GetSixty hands back. -/
def sixSaid (o : Option (List UInt8)) : Value := match o with
  | some l => .agg #[.string ⟨l.toArray⟩, .bool true]
  | none => .agg #[.string ⟨#[]⟩, .bool false]

set_option maxHeartbeats 1600000 in
theorem refGet_any (s : ByteArray) (hs : s.size ≤ 20000) (w : World) :
    Calls Try.prog 25 #[.string s] w fun e w' => e = .returned (sixSaid (SixM.get s.data.toList)) ∧ Below w.heap.size w w' := by
  obtain ⟨n, hn⟩ : ∃ n, s.size = n := ⟨_, rfl⟩
  rw [hn] at hs
  have hsl := Lib.hid (show s.data.toList.length = n by rw [← hn]; simp)
  go_enter Try.func25, Try.ntmps25
  go_wp2_with fail
  refine (letters_any _).mono ?_
  rintro e w1 ⟨rfl, rfl⟩
  have hb0 : Below w.heap.size w (w.alloc (.cells #[.string ⟨#[]⟩, .bool false] 50)) := (Below.refl _ w).alloc (Nat.le_refl _) _
  have hs0 : w.heap.size < (w.alloc (.cells #[.string ⟨#[]⟩, .bool false] 50)).heap.size := by simp
  have hc0 : (w.alloc (.cells #[.string ⟨#[]⟩, .bool false] 50)).cell? ⟨w.heap.size, 0, none⟩ = some (.string ⟨#[]⟩) := by simp [go_sem]
  have hd0 : (w.alloc (.cells #[.string ⟨#[]⟩, .bool false] 50)).cell? ⟨w.heap.size, 1, none⟩ = some (.bool false) := by simp [go_sem]
  have hf0 : (w.alloc (.cells #[.string ⟨#[]⟩, .bool false] 50)).frozen? ⟨w.heap.size, 0, none⟩ = false := by simp [go_sem]
  have hg0 : (w.alloc (.cells #[.string ⟨#[]⟩, .bool false] 50)).frozen? ⟨w.heap.size, 1, none⟩ = false := by simp [go_sem]
  go_wp2_with fail
  generalize w.alloc (.cells #[.string ⟨#[]⟩, .bool false] 50) = W0 at *
  go_loopw [4, 5, 6, 7] (fun ov nv hv iv wr => ∃ (i m h : Nat) (acc : List UInt8), nv = .int .i64 (m : Int) ∧ hv = .int .i64 (h : Int) ∧ iv = .int .i64 (i : Int) ∧ i ≤ n ∧ m < 1048576 ∧ h < 8 ∧ BRow W0.heap.size ov acc wr ∧ Below W0.heap.size W0 wr ∧ acc ++ rdec h m (s.data.toList.drop i) = rdec 0 0 s.data.toList ∧ acc.length ≤ i) (fun _ _ _ iv _ => n - (intOf iv).toNat)
  case atStart => exact ⟨0, 0, 0, [], rfl, rfl, rfl, by omega, by decide, by decide, BRow.nil _ _, Below.refl _ _, by simp, by simp⟩
  case round =>
    obtain ⟨i, m, h, acc, rfl, rfl, rfl, hi, hm, hh, hR, hbl, hacc, hal⟩ := hrel
    have Hacc := Lib.hid hacc
    clear hacc
    by_cases hlt : i < n
    · have hlt' : (i : Int) < (n : Int) := by omega
      obtain ⟨c, hc, hidx⟩ := idx_at Try.underlying9 s i (by omega)
      go_wp2_with fail
      go_loopw [5, 6, 8] (fun nv hv kv wr' => ∃ k : Nat, k ≤ 64 ∧ nv = .int .i64 (inN c m k : Int) ∧ hv = .int .i64 (inH c h k : Int) ∧ kv = .int .i64 (k : Int) ∧ BRow W0.heap.size u4 acc wr' ∧ Below W0.heap.size W0 wr') (fun _ _ kv _ => 64 - (intOf kv).toNat)
      case atStart => exact ⟨0, by omega, by rw [(in0 c m h).1], by rw [(in0 c m h).2], rfl, hR, hbl⟩
      case round =>
        clear hR hbl
        obtain ⟨k, hk, rfl, rfl, rfl, hR, hbl⟩ := hrel
        by_cases h64 : k < 64
        · have h64' : (k : Int) < 64 := by omega
          have hL := idxL k _ .i64 rfl h64
          by_cases hkc : num c = some k
          · have hLc : L k = c := (L_iff h64).2 hkc
            obtain ⟨e1, e2, e3, e4⟩ := in_hit m h hkc
            rw [e1, e2]
            have hor := orand m k hm h64
            rw [← e3] at hor
            have E4 := Lib.hid e4
            rw [hLc] at hL
            clear e1 e2 e3 e4 hLc
            go_wp2_with fail
            go_quiet (fail)
            have hR' := hR.drewN nq
            have hbl' : Below W0.heap.size W0 (wr.drewN nq) := gr_drewN hbl nq
            generalize wr.drewN nq = wr2 at *
            clear hR hbl hL
            go_wp2_with fail
            go_roundw
            case rel => exact ⟨k + 1, by omega, rfl, by rw [E4.out]; rfl, rfl, hR', hbl'⟩
            case measure => simp only [intOf]; omega
          · have hLc : L k ≠ c := fun e => hkc ((L_iff h64).1 e)
            have hLn : (((L k).toNat : Int) == (c.toNat : Int)) = false := by
              rw [beq_eq_false_iff_ne]
              intro e
              exact hLc (UInt8.toNat_inj.1 (by omega))
            obtain ⟨e1, e2⟩ := in_miss m h hkc
            rw [← e1, ← e2]
            obtain ⟨M, hM⟩ : ∃ M, M = inN c m (k + 1) := ⟨_, rfl⟩
            obtain ⟨H, hH⟩ : ∃ H, H = inH c h (k + 1) := ⟨_, rfl⟩
            rw [← hM, ← hH]
            have HM := Lib.hid hM
            have HH := Lib.hid hH
            clear e1 e2 hLc hkc hM hH
            go_wp2_with fail
            go_quiet (fail)
            have hR' := hR.drewN nq
            have hbl' : Below W0.heap.size W0 (wr.drewN nq) := gr_drewN hbl nq
            generalize wr.drewN nq = wr2 at *
            clear hR hbl hL
            go_wp2_with fail
            go_roundw
            case rel => exact ⟨k + 1, by omega, by rw [HM.out], by rw [HH.out], rfl, hR', hbl'⟩
            case measure => simp only [intOf]; omega
        · have h64' : ¬ (k : Int) < 64 := by omega
          obtain rfl : k = 64 := by omega
          have hM1 := inN_lt c m 64 hm
          have hH1 := inH_le c h 64
          have Hst := Lib.hid (rdec_step c h m (s.data.toList.drop (i + 1)) hh)
          obtain ⟨M, hM⟩ : ∃ M, M = inN c m 64 := ⟨_, rfl⟩
          obtain ⟨H, hH⟩ : ∃ H, H = inH c h 64 := ⟨_, rfl⟩
          rw [← hM] at hM1 Hst
          rw [← hH] at hH1 Hst
          rw [← hM, ← hH]
          clear hM hH
          have Hdr := Lib.hid (drop_at hc)
          by_cases h8 : 8 ≤ H
          · have h8' : (8 : Int) ≤ (H : Int) := by omega
            obtain ⟨b, hbq⟩ : ∃ b, b = UInt8.ofNat (M / 2 ^ (H - 8)) := ⟨_, rfl⟩
            have hlen : acc.length + [b].length ≤ 1000000 := by simp only [List.length_singleton]; omega
            have hszw := hbl.size
            have hbyte : ((M : Int) / 2 ^ (H - 8) % 256) = (b.toNat : Int) := by rw [hbq]; simp
            have Hbq := Lib.hid hbq
            clear hbq
            go_wp2_with (at_builtin; go_loud (refine wp_append rfl _ _ rfl W0.heap.size _ _ wr [b] _ ?harr rfl (by exact hR) rfl hlen hszw ?_))
            case harr => rfl
            intro v' w' hR' hb'
            have hbl' := hbl.trans hb'
            clear hR hbl hb'
            go_wp2_with fail
            go_roundw
            case rel =>
              refine ⟨i + 1, M, H - 8, _, rfl, by congr 1; omega, rfl, by omega, hM1, by omega, hR', hbl', ?_, by rw [List.length_append]; simp only [List.length_singleton]; omega⟩
              have h5 := Hst.out
              rw [if_pos h8, if_pos h8, ← Hdr.out, ← Hbq.out] at h5
              rw [List.append_assoc, ← h5]
              exact Hacc.out
            case measure => simp only [intOf]; omega
          · have h8' : ¬ (8 : Int) ≤ (H : Int) := by omega
            go_wp2_with fail
            go_roundw
            case rel =>
              refine ⟨i + 1, M, H, acc, rfl, rfl, rfl, by omega, hM1, by omega, hR, hbl, ?_, by omega⟩
              have h5 := Hst.out
              rw [if_neg h8, if_neg h8, ← Hdr.out, List.nil_append] at h5
              rw [← h5]
              exact Hacc.out
            case measure => simp only [intOf]; omega
    · have hlt' : ¬ (i : Int) < (n : Int) := by omega
      have hacc := Hacc.out
      rw [List.drop_eq_nil_of_le (by rw [hsl.out]; omega), rdec, List.append_nil] at hacc
      have Ha := Lib.hid hacc
      have hst := hR.str
      obtain ⟨A, hA⟩ : ∃ A : ByteArray, A = ⟨acc.toArray⟩ := ⟨_, rfl⟩
      rw [← hA] at hst
      have hAl : A.data.toList = acc := by rw [hA]
      have hAs : A.size ≤ 20000 := by
        have h3 : A.data.toList.length = A.size := by simp
        rw [hAl] at h3
        omega
      have HA := Lib.hid hA
      have HAl := Lib.hid hAl
      have H1 := Lib.hid (fun W => refSixty_any A (by omega) W)
      clear hacc hA hAl
      go_wp2_with fail
      refine (H1.out _).mono ?_
      rintro e w2 ⟨rfl, hb2⟩
      have hR2 := hR.call hb2
      have hst2 := hR2.str
      have HA2 := Lib.hid (show (⟨acc.toArray⟩ : ByteArray) = A from HA.out.symm)
      rw [HA2.out] at hst2
      have hbl2 := gr_call hbl hb2
      have hw2 := hbl2.size
      have hc2 := (hbl2.cell (p := ⟨w.heap.size, 0, none⟩) hs0).trans hc0
      have hd2 := (hbl2.cell (p := ⟨w.heap.size, 1, none⟩) hs0).trans hd0
      have hf2 := (hbl2.frozen (p := ⟨w.heap.size, 0, none⟩) hs0).trans hf0
      have hg2 := (hbl2.frozen (p := ⟨w.heap.size, 1, none⟩) hs0).trans hg0
      have hb : Below w.heap.size w w2 := hb0.trans (hbl2.mono (Nat.le_of_lt hs0))
      clear hst hR hbl hb2 H1 hc0 hd0 hf0 hg0 hR2 hbl2 hb0
      obtain ⟨R, hRR⟩ : ∃ R : ByteArray, R = ⟨(p3 A.data.toList).toArray⟩ := ⟨_, rfl⟩
      rw [← hRR]
      have hRl : R.data.toList = p3 A.data.toList := by rw [hRR]
      have HRl := Lib.hid hRl
      clear hRR hRl
      by_cases heq : p3 (rdec 0 0 s.data.toList) = s.data.toList
      · have hRs : R = s := bytes_ext (by rw [HRl.out, HAl.out, Ha.out, heq])
        subst hRs
        have Hend := Lib.hid (show SixM.get R.data.toList = some acc by rw [rget, if_pos heq, ← Ha.out])
        clear heq
        go_wp2_with fail
        refine bodyPost_ret (v := .agg #[.string A, .bool true]) (by simp [results, Try.results25, go_sem, hc2, hd2, hf2, hg2]) rfl ⟨?_, gr_set (gr_set hb (Nat.le_refl _) _) (Nat.le_refl _) _⟩
        rw [Hend.out, ← HA2.out]
        rfl
      · have hne : ¬ R.toList = s.toList := fun h3 => by
          rw [ByteArray.toList_eq, ByteArray.toList_eq, HRl.out, HAl.out, Ha.out] at h3
          exact heq h3
        have Hend := Lib.hid (show SixM.get s.data.toList = none by rw [rget, if_neg heq])
        clear heq
        have hne' : (R.toList == s.toList) = false := by rw [beq_eq_false_iff_ne]; exact hne
        clear hne
        go_wp2_with fail
        refine bodyPost_ret (v := .agg #[.string ⟨#[]⟩, .bool false]) (by simp [results, Try.results25, go_sem, hc2, hd2, hf2, hg2]) rfl ⟨?_, gr_set (gr_set hb (Nat.le_refl _) _) (Nat.le_refl _) _⟩
        rw [Hend.out]
        rfl
end Go.Proofs.Ytobfbjfajdnhaaa.SixW
