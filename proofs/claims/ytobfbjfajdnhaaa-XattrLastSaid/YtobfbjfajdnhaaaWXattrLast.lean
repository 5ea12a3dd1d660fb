/- The law XattrLast, walked. -/
import Derived.Test.YtobfbjfajdnhaaaXatAwake
import Derived.Test.YtobfbjfajdnhaaaXatMake
import Derived.Test.YtobfbjfajdnhaaaXatRefRecs
import Derived.Test.YtobfbjfajdnhaaaSixRef
namespace Go.Proofs.Ytobfbjfajdnhaaa
open Go.RowKit
open XatM
set_option linter.unusedVariables false

def userz : List UInt8 := [117, 115, 101, 114, 46, 122]
theorem esc_userz : EscM.put userz = userz := by decide +kernel
theorem ok_userz {v : List UInt8} (h : v.length ≤ 200) : okX (userz, v) = true := by
  unfold okX
  simp only
  rw [decide_eq_true (show userz ≠ [] by decide), decide_eq_true (show (EscM.put userz).length ≤ 238 by rw [esc_userz]; decide), decide_eq_true (show v.length ≤ 4096 by omega), show userz.contains 0 = false by decide]
  rfl
/-- What is told, with two more of one name. -/
def lastL (l : List Xa) (f v : List UInt8) : List Xa := putX (putX l (userz, f)) (userz, v)
theorem last_from {l : List Xa} (hg : Good l) (hl : l.length ≤ 6) (f v : List UInt8) : fromGo [] (recsL l ++ [(sK ++ userz, f), (lK ++ userz, SixM.p3 v)]) = some (lastL l f v) := by
  have hm := hg.may (show l.length ≤ 32 by omega)
  have h1 : fromGo [] (recsL l) = some l := by
    have := from_recs hm
    unfold fromL at this
    rcases h : fromGo [] (recsL l) with _ | m
    · rw [h] at this; cases this
    · rw [h] at this
      simp only at this
      split at this
      · exact this
      · cases this
  rw [from_append, h1]
  simp only [Option.bind_some]
  have h3 : recX (lK ++ userz, SixM.p3 v) = some (some (userz, v)) := by
    have := recX_put (userz, v)
    rw [esc_userz] at this
    exact this
  rw [from_cons_some (recX_s userz f), from_cons_some h3]
  rfl
theorem last_may {l : List Xa} (hg : Good l) (hl : l.length ≤ 6) {f v : List UInt8} (hf : f.length ≤ 200) (hv : v.length ≤ 200) : mayL (lastL l f v) = true := by
  have p1 := (put_len l (userz, f)).2
  have p2 := (put_len (putX l (userz, f)) (userz, v)).2
  have hpw : PW (lastL l f v) := put_pw (put_pw hg.pw)
  unfold mayL
  rw [decide_eq_true (show (lastL l f v).length ≤ 32 by unfold lastL; omega), asc_pw.2 hpw, Bool.and_true, Bool.true_and, List.all_eq_true]
  intro x hx
  rcases put_mem hx with rfl | hx
  · exact ok_userz hv
  · rcases put_mem hx with rfl | hx
    · exact ok_userz hf
    · exact (hg.all x hx).1
theorem last_len {l : List Xa} (hl : l.length ≤ 6) (f v : List UInt8) : 1 ≤ (lastL l f v).length ∧ (lastL l f v).length ≤ 8 := by
  have p1 := (put_len l (userz, f)).2
  have p2 := put_len (putX l (userz, f)) (userz, v)
  unfold lastL
  omega
theorem last_mem {l : List Xa} (hg : Good l) (f v : List UInt8) : (lastL l f v).any (fun x => decide (x.1 = userz) && decide (x.2 = v)) = true := by
  rw [List.any_eq_true]
  refine ⟨(userz, v), look_mem ?_, by simp⟩
  unfold lastL
  rw [look_put (put_pw hg.pw), if_pos rfl]
/-- One record more, that no list has. -/
theorem last_bad {l : List Xa} (hg : Good l) (hl : l.length ≤ 6) (f v : List UInt8) {b : Xa} (hb : recX b = some none ∨ recX b = some (some ([], []))) :
    fromL ((recsL l ++ [(sK ++ userz, f), (lK ++ userz, SixM.p3 v)]) ++ [b]) = none := by
  unfold fromL
  rw [from_append, last_from hg hl]
  simp only [Option.bind_some]
  rcases hb with hb | hb
  · rw [from_cons_bad hb]
  · rw [from_cons_some hb]
    show (if mayL (putX (lastL l f v) ([], [])) = true then _ else none) = none
    rw [if_neg]
    intro hm
    have hpw : PW (lastL l f v) := put_pw (put_pw hg.pw)
    have := (may_parts hm).2.1 ([], []) (look_mem (n := []) (v := []) (by rw [look_put hpw, if_pos rfl]))
    simp [okX] at this
def bads : List Xa := [(sK, []), (lK, []), (lK ++ [97, 37], []), (lK ++ [97], [89]), (lK ++ [97], [89, 82, 61, 61])]
theorem bads_all : ∀ b ∈ bads, recX b = some none ∨ recX b = some (some ([], [])) := by
  have h : bads.all (fun b => decide (recX b = some none) || decide (recX b = some (some ([], [])))) = true := by decide +kernel
  intro b hb
  have := List.all_eq_true.1 h b hb
  rw [Bool.or_eq_true, decide_eq_true_eq, decide_eq_true_eq] at this
  exact this
theorem rec_len {l : List Xa} (hg : Good l) (hl : l.length ≤ 6) : Bounded l ∧ (recsL l).length ≤ 12 ∧ ∀ x ∈ recsL l, x.1.length ≤ 300 ∧ x.2.length ≤ 300 := by
  have hb : ∀ x ∈ l, x.1.length ≤ 238 ∧ x.2.length ≤ 19 ∧ (EscM.put x.1).length ≤ 238 := fun x hx => by
    have h1 := okX_parts (hg.all x hx).1
    have h2 := (hg.all x hx).2.2
    exact ⟨h1.2.2.2.2, h2, h1.2.2.1⟩
  refine ⟨⟨by omega, fun x hx => by have := hb x hx; omega⟩, by have := recs_len l; omega, ?_⟩
  intro x hx
  unfold recsL at hx
  split at hx
  · obtain ⟨y, hy, hxy⟩ := List.mem_flatMap.1 hx
    obtain ⟨h1, h2, h3⟩ := hb y hy
    unfold recOf at hxy
    rcases List.mem_append.1 hxy with h | h
    · split at h
      · cases h
      · obtain rfl := List.mem_singleton.1 h
        simp only [List.length_append]
        have : sK.length = 13 := rfl
        omega
    · obtain rfl := List.mem_singleton.1 h
      simp only [List.length_append, SixM.p3_length]
      have : lK.length = 17 := rfl
      omega
  · cases hx
theorem build_rec2 (a b : ByteArray) (w : World) : (Instr.build 27 #[(0, .string a), (1, .string b)]).run Try.prog w = .ok (.agg #[.string a, .string b]) w :=
  run_build w _ _ _ (by kernel_rfl)
theorem build_rec1 (a : ByteArray) (w : World) : (Instr.build 27 #[(0, .string a)]).run Try.prog w = .ok (.agg #[.string a, .string ⟨#[]⟩]) w :=
  run_build w _ _ _ (by kernel_rfl)
theorem two_recs (w : World) (a b c d : ByteArray) (B : Nat) (hB : B ≤ w.heap.size) : Row recE B (.slice (some ⟨w.heap.size, 0, none⟩) 2 2) [(a.data.toList, b.data.toList), (c.data.toList, d.data.toList)] (w.alloc (.cells #[.string a, .string b, .string c, .string d] 27)) := by
  refine lit_row (E := recE) w _ _ B 2 rfl hB (by simp) ?_
  show [Value.string a, .string b, .string c, .string d] = _
  simp only [cellsE, recE, strOf_self]
  rfl
attribute [local irreducible] Row At

set_option maxHeartbeats 6400000 in
set_option maxRecDepth 100000 in
theorem xattrLast_walk (a0 : Option Addr) (len0 cap0 : Nat) (z0 : List Int) (a1 : ByteArray) (a2 : Int) (w : World) (hA : Amb w) (w0 : IsRow .u8 w a0 len0 cap0 z0) (w1 : a1.size ≤ maxLen) (w2 : (Lit.int .u8 a2).wf = true) :
    Calls Try.prog 5 #[.slice a0 len0 cap0, .string a1, .int .u8 a2] w fun e w' => e = .returned (.bool true) ∧ Below w.heap.size w w' := by
  have haw := Lib.hid (fun w (hA : Amb w) => awake_true w hA)
  have hw2 : 0 ≤ a2 ∧ a2 ≤ 255 := by simpa [Lit.wf, IntKind.min, IntKind.max, IntKind.signed, IntKind.bits] using w2
  have hmk := Lib.hid (make_any a0 len0 cap0 z0 w w0 (isRow_len w0))
  clear w0 w1 w2
  by_cases hs : 200 < a1.size
  · have d1 : decide ((200 : Int) < (a1.size : Int)) = true := decide_eq_true (by omega)
    have d2 : decide (200 < a1.size) = true := decide_eq_true hs
    clear hmk
    go_enter Try.func5, Try.ntmps5
    go_wp2_with fail
    refine (haw.out _ hA).mono ?_
    rintro e w1 ⟨rfl, hb1⟩
    go_wp2_with fail
    go_ret
    exact ⟨rfl, hb1⟩
  have d1 : decide ((200 : Int) < (a1.size : Int)) = false := decide_eq_false (by omega)
  have d2 : decide (200 < a1.size) = false := decide_eq_false hs
  obtain ⟨q, hq, hq5⟩ : ∃ n : Nat, a2 % 5 = (n : Int) ∧ n < 5 := ⟨(a2 % 5).toNat, by omega, by omega⟩
  have q0 : Int.tmod a2 5 = (q : Int) := by rw [Int.tmod_eq_emod_of_nonneg hw2.1]; exact hq
  have hq3 : (q : Int) < 5 := by omega
  have hsx := Lib.hid (fun w => SixW.refSixty_any a1 (by omega) w)
  have hEr := Lib.hid (fun x w => err_any x w)
  obtain ⟨S1, hS1e⟩ : ∃ P : ByteArray, ⟨(SixM.p3 a1.data.toList).toArray⟩ = P := ⟨_, rfl⟩
  have hS1l : S1.data.toList = SixM.p3 a1.data.toList := by rw [← hS1e]
  rw [hS1e] at hsx
  obtain ⟨K1, hK1⟩ : ∃ O : ByteArray, (⟨#[83, 67, 72, 73, 76, 89, 46, 120, 97, 116, 116, 114, 46, 117, 115, 101, 114, 46, 122]⟩ : ByteArray) = O := ⟨_, rfl⟩
  obtain ⟨FI, hFI⟩ : ∃ O : ByteArray, (⟨#[102, 105, 114, 115, 116]⟩ : ByteArray) = O := ⟨_, rfl⟩
  obtain ⟨K2, hK2⟩ : ∃ O : ByteArray, (⟨#[76, 73, 66, 65, 82, 67, 72, 73, 86, 69, 46, 120, 97, 116, 116, 114, 46, 117, 115, 101, 114, 46, 122]⟩ : ByteArray) = O := ⟨_, rfl⟩
  obtain ⟨UZ, hUZ⟩ : ∃ O : ByteArray, (⟨#[117, 115, 101, 114, 46, 122]⟩ : ByteArray) = O := ⟨_, rfl⟩
  obtain ⟨A0, hA0⟩ : ∃ O : ByteArray, (⟨#[83, 67, 72, 73, 76, 89, 46, 120, 97, 116, 116, 114, 46]⟩ : ByteArray) = O := ⟨_, rfl⟩
  obtain ⟨A1, hA1⟩ : ∃ O : ByteArray, (⟨#[76, 73, 66, 65, 82, 67, 72, 73, 86, 69, 46, 120, 97, 116, 116, 114, 46]⟩ : ByteArray) = O := ⟨_, rfl⟩
  obtain ⟨A2, hA2⟩ : ∃ O : ByteArray, (⟨#[76, 73, 66, 65, 82, 67, 72, 73, 86, 69, 46, 120, 97, 116, 116, 114, 46, 97, 37]⟩ : ByteArray) = O := ⟨_, rfl⟩
  obtain ⟨A3, hA3⟩ : ∃ O : ByteArray, (⟨#[76, 73, 66, 65, 82, 67, 72, 73, 86, 69, 46, 120, 97, 116, 116, 114, 46, 97]⟩ : ByteArray) = O := ⟨_, rfl⟩
  obtain ⟨Y1, hY1⟩ : ∃ O : ByteArray, (⟨#[89]⟩ : ByteArray) = O := ⟨_, rfl⟩
  obtain ⟨Y2, hY2⟩ : ∃ O : ByteArray, (⟨#[89, 82, 61, 61]⟩ : ByteArray) = O := ⟨_, rfl⟩
  obtain ⟨EE, hEE⟩ : ∃ O : ByteArray, (⟨#[]⟩ : ByteArray) = O := ⟨_, rfl⟩
  have hUl : UZ.data.toList = userz := by rw [← hUZ]; rfl
  have hbad : ∃ B0 B1 : ByteArray, (#[.string A0, .string ⟨#[]⟩, .string A1, .string ⟨#[]⟩, .string A2, .string EE, .string A3, .string Y1, .string A3, .string Y2] : Array Value)[q * 2]? = some (.string B0) ∧
      (#[.string A0, .string ⟨#[]⟩, .string A1, .string ⟨#[]⟩, .string A2, .string EE, .string A3, .string Y1, .string A3, .string Y2] : Array Value)[q * 2 + 1]? = some (.string B1) ∧ Hid ((B0.data.toList, B1.data.toList) ∈ bads) := by
    obtain rfl | rfl | rfl | rfl | rfl : q = 0 ∨ q = 1 ∨ q = 2 ∨ q = 3 ∨ q = 4 := by omega
    · exact ⟨A0, ⟨#[]⟩, rfl, rfl, Lib.hid (by rw [← hA0]; decide)⟩
    · exact ⟨A1, ⟨#[]⟩, rfl, rfl, Lib.hid (by rw [← hA1]; decide)⟩
    · exact ⟨A2, EE, rfl, rfl, Lib.hid (by rw [← hA2, ← hEE]; decide)⟩
    · exact ⟨A3, Y1, rfl, rfl, Lib.hid (by rw [← hA3, ← hY1]; decide)⟩
    · exact ⟨A3, Y2, rfl, rfl, Lib.hid (by rw [← hA3, ← hY2]; decide)⟩
  obtain ⟨B0, B1, hB0, hB1, HB⟩ := hbad
  have r1 : ((K1.data.toList, FI.data.toList) : Xa) = (sK ++ userz, FI.data.toList) := by rw [← hK1]; rfl
  have r2 : ((K2.data.toList, S1.data.toList) : Xa) = (lK ++ userz, SixM.p3 a1.data.toList) := by rw [← hK2, hS1l]; rfl
  have hFs : FI.data.toList.length ≤ 200 := by rw [← hFI]; decide
  have hvs : a1.data.toList.length ≤ 200 := by rw [len_list]; omega
  have Hr := Lib.hid (And.intro r1 r2)
  have Hfv := Lib.hid (And.intro hFs hvs)
  have hb1 := build_rec2 K1 FI
  have hb2 := build_rec2 K2 S1
  have hb3 := build_rec1 A0
  have hb4 := build_rec1 A1
  have hb5 := build_rec2 A2 EE
  have hb6 := build_rec2 A3 Y1
  have hb7 := build_rec2 A3 Y2
  clear r1 r2 hFs hvs hS1e hS1l hs hq
  go_enter Try.func5, Try.ntmps5
  simp only [hK1, hFI, hK2, hUZ, hA0, hA1, hA2, hA3, hY1, hY2, hEE]
  clear hK1 hFI hK2 hUZ hA0 hA1 hA2 hA3 hY1 hY2 hEE
  go_wp2_with fail
  refine (hmk.out).mono ?_
  rintro e w1 ⟨⟨v1, l, rfl, hR1, hg, hl6⟩, hbl1⟩
  obtain ⟨hbd, hrl, hrb⟩ := rec_len hg hl6
  have HG := Lib.hid (And.intro hg hl6)
  have Hrb := Lib.hid (And.intro hrl hrb)
  have hrc := Lib.hid (RecsX_any v1 l w1 (hA.on hbl1) hR1.at hbd)
  clear hmk hg hrl hrb hbd hl6 hR1
  go_wp2_with fail
  refine (hrc.out).mono ?_
  rintro e w2 ⟨⟨v2, rfl, hR2⟩, hb2'⟩
  have hsz2 := hb2'.size
  have hbl2 := gr_call hbl1 hb2'
  clear hb2' hrc
  go_wp2_with fail
  refine (hsx.out _).mono ?_
  rintro e w3 ⟨rfl, hb3'⟩
  replace hR2 := hR2.call hb3'
  have hbl3 := gr_call hbl2 hb3'
  have hsz3 : w1.heap.size ≤ w3.heap.size := Nat.le_trans hsz2 hb3'.size
  have hone := (two_recs w3 K1 FI K2 S1 0 (Nat.zero_le _)).at
  have hRa := hR2.alloc (.cells #[.string K1, .string FI, .string K2, .string S1] 27)
  have hla : (recsL l).length + [((K1.data.toList, FI.data.toList) : Xa), (K2.data.toList, S1.data.toList)].length ≤ 1000000 := by have := Hrb.out.1; simp; omega
  have hsa : w1.heap.size ≤ (w3.alloc (.cells #[.string K1, .string FI, .string K2, .string S1] 27)).heap.size := by simp; omega
  go_wp2_with (at_builtin; refine wp_append_at recE rfl _ _ rfl w1.heap.size v2 (.slice (some ⟨w3.heap.size, 0, none⟩) 2 2) (recsL l) [(K1.data.toList, FI.data.toList), (K2.data.toList, S1.data.toList)] (w3.alloc (.cells #[.string K1, .string FI, .string K2, .string S1] 27)) rfl (by exact hRa) (by rfl) (by exact hone) hla hsa ?_)
  intro v4 w4 hR4 hb4' _ _
  have hbl4 : Below w.heap.size w w4 := (gr_alloc hbl3 _).trans (hb4'.mono hbl1.size)
  have hs4 : w1.heap.size ≤ w4.heap.size := Nat.le_trans hsa hb4'.size
  obtain ⟨RS, hRS⟩ : ∃ R, recsL l ++ [((K1.data.toList, FI.data.toList) : Xa), (K2.data.toList, S1.data.toList)] = R := ⟨_, rfl⟩
  rw [hRS] at hR4
  have hRS2 : RS = recsL l ++ [(sK ++ userz, FI.data.toList), (lK ++ userz, SixM.p3 a1.data.toList)] := by rw [← hRS, Hr.out.1, Hr.out.2]
  have hRSl : RS.length ≤ 14 := by rw [hRS2, List.length_append]; have := Hrb.out.1; simp; omega
  have hRSb : ∀ x ∈ RS, x.1.length ≤ 300 ∧ x.2.length ≤ 300 := by
    intro x hx
    rw [hRS2] at hx
    rcases List.mem_append.1 hx with h | h
    · exact Hrb.out.2 x h
    · have h1 := Hfv.out.1
      have h2 := Hfv.out.2
      rcases List.mem_cons.1 h with rfl | h
      · simp only [List.length_append]
        have : sK.length = 13 := rfl
        have : userz.length = 6 := rfl
        omega
      · obtain rfl := List.mem_singleton.1 h
        simp only [List.length_append, SixM.p3_length]
        have : lK.length = 17 := rfl
        have : userz.length = 6 := rfl
        omega
  have hbd4 : Bounded RS := ⟨by omega, fun x hx => by have := hRSb x hx; omega⟩
  have hgo := last_from HG.out.1 HG.out.2 FI.data.toList a1.data.toList
  have hmy := last_may HG.out.1 HG.out.2 Hfv.out.1 Hfv.out.2
  have hln := last_len HG.out.2 FI.data.toList a1.data.toList
  have hmm := last_mem HG.out.1 FI.data.toList a1.data.toList
  have HBad := Lib.hid (fun b hb => last_bad HG.out.1 HG.out.2 FI.data.toList a1.data.toList (b := b) hb)
  rw [← hRS2] at hgo HBad
  generalize lastL l FI.data.toList a1.data.toList = M at *
  have hF := Lib.hid (FromX_any v4 RS w4 (hA.on hbl4) hR4.at hbd4)
  rw [show fromL RS = some M by unfold fromL; rw [hgo]; simp only; rw [if_pos hmy]] at hF
  have hF2 : Hid (Calls Try.prog 9 #[v4] w4 fun e w' => (∃ v, e = .returned (.tuple #[v, .int .i64 0]) ∧ At xatE v M w') ∧ Below w4.heap.size w4 w') := Lib.hid hF.out
  have Hb4 := Lib.hid (And.intro hRSl hRSb)
  have Hmm := Lib.hid hmm
  clear hRS hRS2 hgo hmy hmm hF hbd4 hb4' hRSb Hr Hfv Hrb HG hR2 hone hRa hla hsa hbl3 hsz3 hb3'
  go_wp2_with fail
  refine (hF2.out).mono ?_
  rintro e w5 ⟨⟨vx, rfl, hatx⟩, hb5⟩
  replace hR4 := hR4.call hb5
  have hbl5 := gr_call hbl4 hb5
  have hs5 : w1.heap.size ≤ w5.heap.size := Nat.le_trans hs4 hb5.size
  obtain ⟨m, hm⟩ : ∃ m, M.length = m := ⟨_, rfl⟩
  obtain ⟨px, cx, rfl, hcx, hcell⟩ := two_look xat_two hatx
  rw [hm] at hcx hln ⊢
  have Hcell := Lib.hid hcell
  have Hm := Lib.hid hm
  have l1 : decide ((m : Int) < 1) = false := decide_eq_false (by omega)
  have l2 : decide (m < 1) = false := decide_eq_false (by omega)
  clear hF2 hcell hm hatx hb5 hbl4 hs4
  go_wp2_with fail
  refine (hEr.out _ _).mono ?_
  rintro e w5 ⟨rfl, rfl⟩
  go_wp2_with fail
  go_loopw [11, 12] (fun bv iv wr => ∃ (i : Nat) (b : Bool), iv = .int .i64 (i : Int) ∧ bv = .bool b ∧ i ≤ m ∧ wr = w5 ∧ Hid ((M.take i).any (fun x => decide (x.1 = userz) && decide (x.2 = a1.data.toList)) = b)) (fun _ iv _ => m - (intOf iv).toNat)
  case atStart => exact ⟨0, false, rfl, rfl, by omega, rfl, Lib.hid (by simp)⟩
  case round =>
    obtain ⟨i, b, rfl, rfl, hi, rfl, HR⟩ := hrel
    rename World => w5
    by_cases hlt : i < m
    · have hlt' : decide ((i : Int) < (m : Int)) = true := decide_eq_true (by omega)
      have hlt2 : decide (i < m) = true := decide_eq_true hlt
      have hi' : i < M.length := by rw [Hm.out]; exact hlt
      have HT : Hid ((M.take (i + 1)).any (fun x => decide (x.1 = userz) && decide (x.2 = a1.data.toList)) = (b || (decide (M[i].1 = userz) && decide (M[i].2 = a1.data.toList)))) := Lib.hid (by
        rw [List.take_succ_eq_append_getElem hi', List.any_append, HR.out]
        simp)
      rcases b with _ | _
      · obtain ⟨g, off, rfl, hgx, c0, c1⟩ := Hcell.out i hi'
        generalize M[i] = x at *
        obtain ⟨N, hN⟩ : ∃ N, strOf x.1 = N := ⟨_, rfl⟩
        obtain ⟨V, hV⟩ : ∃ V, strOf x.2 = V := ⟨_, rfl⟩
        have e1 : (N.toList == UZ.toList) = decide (x.1 = userz) := by rw [← hN, str_beq, strOf_list, hUl]
        have e2 : (V.toList == a1.toList) = decide (x.2 = a1.data.toList) := by rw [← hV, str_beq, strOf_list]
        rw [hN] at c0
        rw [hV] at c1
        clear hN hV HR hi'
        rcases k1 : decide (x.1 = userz) with _ | _
        · rw [k1] at e1 HT
          have HN := Lib.hid HT.out
          clear HT k1 e2
          go_wp2_with fail
          go_roundw
          case rel => exact ⟨i + 1, false, rfl, rfl, by omega, by first | trivial | rfl, HN⟩
          case measure => simp only [intOf]; omega
        · rw [k1] at e1 HT
          rcases k2 : decide (x.2 = a1.data.toList) with _ | _
          · rw [k2] at e2 HT
            have HN := Lib.hid HT.out
            clear HT k1 k2
            go_wp2_with fail
            go_roundw
            case rel => exact ⟨i + 1, false, rfl, rfl, by omega, by first | trivial | rfl, HN⟩
            case measure => simp only [intOf]; omega
          · rw [k2] at e2 HT
            have HN := Lib.hid HT.out
            clear HT k1 k2
            go_wp2_with fail
            go_roundw
            case rel => exact ⟨i + 1, true, rfl, rfl, by omega, by first | trivial | rfl, HN⟩
            case measure => simp only [intOf]; omega
      · have HN : Hid ((M.take (i + 1)).any (fun x => decide (x.1 = userz) && decide (x.2 = a1.data.toList)) = true) := Lib.hid (by rw [HT.out]; rfl)
        clear HT HR hi'
        go_wp2_with fail
        go_roundw
        case rel => exact ⟨i + 1, true, rfl, rfl, by omega, by first | trivial | rfl, HN⟩
        case measure => simp only [intOf]; omega
    · have hlt' : decide ((i : Int) < (m : Int)) = false := decide_eq_false (by omega)
      have hlt2 : decide (i < m) = false := decide_eq_false hlt
      obtain rfl : b = true := by rw [← HR.out, List.take_of_length_le (by rw [Hm.out]; omega)]; exact Hmm.out
      clear HR Hcell Hmm hlt
      have hc0 := (BlkIs.made w5 27 #[.string A0, .string ⟨#[]⟩, .string A1, .string ⟨#[]⟩, .string A2, .string EE, .string A3, .string Y1, .string A3, .string Y2]).cell_some _ _ hB0
      have hc1 := (BlkIs.made w5 27 #[.string A0, .string ⟨#[]⟩, .string A1, .string ⟨#[]⟩, .string A2, .string EE, .string A3, .string Y1, .string A3, .string Y2]).cell_some _ _ hB1
      have hz7 : (w5.alloc (.cells #[.string A0, .string ⟨#[]⟩, .string A1, .string ⟨#[]⟩, .string A2, .string EE, .string A3, .string Y1, .string A3, .string Y2] 27)).heap.size = w5.heap.size + 1 := by simp
      have hR7 := (hR4.alloc (.cells #[.string A0, .string ⟨#[]⟩, .string A1, .string ⟨#[]⟩, .string A2, .string EE, .string A3, .string Y1, .string A3, .string Y2] 27)).alloc (.cells #[.string B0, .string B1] 27)
      have hone7 := one_bytes (w5.alloc (.cells #[.string A0, .string ⟨#[]⟩, .string A1, .string ⟨#[]⟩, .string A2, .string EE, .string A3, .string Y1, .string A3, .string Y2] 27)) B0 B1
      rw [hz7] at hone7
      have hl7 : RS.length + [((B0.data.toList, B1.data.toList) : Xa)].length ≤ 1000000 := by have := Hb4.out.1; simp; omega
      have hs7 : w1.heap.size ≤ ((w5.alloc (.cells #[.string A0, .string ⟨#[]⟩, .string A1, .string ⟨#[]⟩, .string A2, .string EE, .string A3, .string Y1, .string A3, .string Y2] 27)).alloc (.cells #[.string B0, .string B1] 27)).heap.size := by simp; omega
      have hbl7 : Below w.heap.size w ((w5.alloc (.cells #[.string A0, .string ⟨#[]⟩, .string A1, .string ⟨#[]⟩, .string A2, .string EE, .string A3, .string Y1, .string A3, .string Y2] 27)).alloc (.cells #[.string B0, .string B1] 27)) := gr_alloc (gr_alloc hbl5 _) _
      go_wp2_with (at_builtin; refine wp_append_at recE rfl _ _ rfl w1.heap.size v4 (.slice (some ⟨w5.heap.size + 1, 0, none⟩) 1 1) RS [(B0.data.toList, B1.data.toList)] ((w5.alloc (.cells #[.string A0, .string ⟨#[]⟩, .string A1, .string ⟨#[]⟩, .string A2, .string EE, .string A3, .string Y1, .string A3, .string Y2] 27)).alloc (.cells #[.string B0, .string B1] 27)) rfl (by exact hR7) (by rfl) (by exact hone7) hl7 hs7 ?_)
      intro v8 w8 hR8 hb8 _ _
      have hbl8 : Below w.heap.size w w8 := hbl7.trans (hb8.mono hbl1.size)
      have hbb : Bounded (RS ++ [((B0.data.toList, B1.data.toList) : Xa)]) := ⟨by have := Hb4.out.1; simp; omega, fun x hx => by
        rcases List.mem_append.1 hx with h | h
        · have := Hb4.out.2 x h; omega
        · obtain rfl := List.mem_singleton.1 h
          have hall : bads.all (fun b => decide (b.1.length ≤ 300) && decide (b.2.length ≤ 300)) = true := by decide
          have := List.all_eq_true.1 hall _ HB.out
          rw [Bool.and_eq_true, decide_eq_true_eq, decide_eq_true_eq] at this
          omega⟩
      have hF := Lib.hid (FromX_any v8 _ w8 (hA.on hbl8) hR8.at hbb)
      rw [HBad.out _ (bads_all _ HB.out)] at hF
      have hF2 : Hid (Calls Try.prog 9 #[v8] w8 fun e w' => (∃ v, e = .returned (.tuple #[v, .int .i64 4]) ∧ At xatE v [] w') ∧ Below w8.heap.size w8 w') := Lib.hid hF.out
      clear hF hbb hb8 hR7 hone7 hl7 hs7 hc0 hc1 hz7 hbl7 hR4 HB HBad
      go_wp2_with fail
      refine (hF2.out).mono ?_
      rintro e w9 ⟨⟨v9, rfl, hat9⟩, hb9⟩
      have hbl9 := gr_call hbl8 hb9
      obtain ⟨p9, c9, rfl, _⟩ := hat9.shape
      simp only [List.length_nil]
      clear hR8 hat9
      go_wp2_with fail
      refine (hEr.out _ _).mono ?_
      rintro e w9 ⟨rfl, rfl⟩
      go_wp2_with fail
      refine (haw.out _ (hA.on hbl9)).mono ?_
      rintro e w10 ⟨rfl, hb10⟩
      replace hb10 := gr_call hbl9 hb10
      go_wp2_with fail
      go_ret
      exact ⟨rfl, hb10⟩
end Go.Proofs.Ytobfbjfajdnhaaa
