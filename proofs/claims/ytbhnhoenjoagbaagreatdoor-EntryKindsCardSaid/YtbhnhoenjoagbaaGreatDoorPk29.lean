/- Bundle of 2 texts. -/
import Derived.Test.YtbhnhoenjoagbaaGreatDoorEntMake
import Derived.Test.YtbhnhoenjoagbaaGreatDoorPk28
import Derived.Test.YtbhnhoenjoagbaaGreatDoorPk26
import Derived.Test.YtbhnhoenjoagbaaGreatDoorHdPut
import Derived.Test.YtbhnhoenjoagbaaGreatDoorPk06
/- Entries by three numbers, and with one thing turned: which may be. -/
namespace Go.Proofs.YtbhnhoenjoagbaaGreatDoor
open Go.RowKit
open MetaM PathM EntM
set_option linter.unusedVariables false
namespace EntM

def KS : List Int := [1, 2, 3]
theorem ks_cap (k : Int) : CapsM.Fits (metaK KS 3 k).cap := by
  have hz : CapsM.Fits ⟨0, 0, 0, false, 0⟩ := by constructor <;> decide
  unfold metaK
  split
  · exact hz
  · unfold madeM
    split
    · exact hz
    · unfold capK
      rw [if_neg (by rintro ⟨_, _, h⟩; omega)]
      exact hz
theorem ks_sec (k : Int) : (metaK KS 3 k).sec ≠ 99 := by
  unfold metaK
  split
  · decide
  · unfold madeM
    split <;> (show (numK KS 3 4 * 1000 - 50000 : Int) ≠ 99; decide)
theorem may_parts {e : En} (h : mayE e = true) : pathOk e.path.data.toList = true ∧ targetOk e = true ∧ metaOk e = true ∧ dataB e = true ∧ devB e = true ∧ recsOk (recsE e) = true := by
  rw [mayE_eq] at h
  simp only [Bool.and_eq_true] at h
  exact ⟨h.1.1.1.1.1, h.1.1.1.1.2, h.1.1.1.2, h.1.1.2, h.1.2, h.2⟩
structure TurnK (E F : En) (b : Bool) : Prop where
  may : mayE F = b
  same : sameE E F = false
  fits : CapsM.Fits F.m.cap
  short : pathOk F.path.data.toList = true → targetOk F = true → metaOk F = true → ShortR (recsE F)
  psz : F.path.size ≤ 100000
  tsz : F.target.size ≤ 100000
variable {E : En} {P : ByteArray} {k : Int}
theorem base (hM : MadeE E P k (metaK KS 3 k)) (hG : GoodK KS 3 k) (hP : pathOk P.data.toList = true) (hPs : P.size ≤ 1000) (hk : 1 ≤ k ∧ k ≤ 7) : mayE E = true := hM.may hP hPs hk hG.may hG.short
theorem base_short (hM : MadeE E P k (metaK KS 3 k)) (hG : GoodK KS 3 k) (hPs : P.size ≤ 1000) : ShortR (recsE E) := by
  have h := recs_short (e := E) (by rw [hM.met]; exact hG.short) (by rw [hM.path]; exact hPs) hM.target.2
  exact ⟨h.1, h.2⟩
theorem size_ne {A B : ByteArray} (h : A.size ≠ B.size) : A ≠ B := fun e => h (by rw [e])
theorem turn0 (hM : MadeE E P k (metaK KS 3 k)) (hX : MoreE E k 1) (hG : GoodK KS 3 k) (hP : pathOk P.data.toList = true) (hPs : P.size ≤ 1000) (hk : 1 ≤ k ∧ k ≤ 7) : TurnK E { E with data := ⟨#[120]⟩ } (k == 1) := by
  obtain ⟨h1, h2, h3, h4, h5, h6⟩ := may_parts (base hM hG hP hPs hk)
  have hs := base_short hM hG hPs
  refine ⟨?_, ?_, by show CapsM.Fits E.m.cap; rw [hM.met]; exact ks_cap k, fun _ _ _ => hs, by show E.path.size ≤ _; rw [hM.path]; omega, by show E.target.size ≤ _; have := hM.target.2; omega⟩
  · rw [mayE_eq]
    show (pathOk E.path.data.toList && targetOk E && metaOk E && (decide ((1 : Nat) = 0) || (decide (E.kind = 1) && decide ((1 : Nat) ≤ 65536))) && devB E && recsOk (recsE E)) = _
    rw [h1, h2, h3, h5, h6, hM.kind, ← int_dec]
    simp
  · have hd : E.data ≠ ⟨#[120]⟩ := by
      refine size_ne ?_
      show E.data.size ≠ 1
      by_cases h : k = 1
      · have := hX.data h; omega
      · have := hM.data.2 h; omega
    unfold sameE
    show (_ && decide (E.data = ⟨#[120]⟩) && _ && _ && _) = false
    rw [decide_eq_false hd]
    simp
theorem turn1 (hM : MadeE E P k (metaK KS 3 k)) (hX : MoreE E k 1) (hG : GoodK KS 3 k) (hP : pathOk P.data.toList = true) (hPs : P.size ≤ 1000) (hk : 1 ≤ k ∧ k ≤ 7) : TurnK E { E with target := ⟨#[116]⟩ } ((k == 2) || (k == 3)) := by
  obtain ⟨h1, h2, h3, h4, h5, h6⟩ := may_parts (base hM hG hP hPs hk)
  have hs := recs_short (e := { E with target := ⟨#[116]⟩ }) (by show Short E.m; rw [hM.met]; exact hG.short) (by show E.path.size ≤ 1000; rw [hM.path]; exact hPs) (by show (1 : Nat) ≤ 1000; omega)
  have hr := recs_ok (e := { E with target := ⟨#[116]⟩ }) (by show Short E.m; rw [hM.met]; exact hG.short) (by show E.path.size ≤ 1000; rw [hM.path]; exact hPs) (by show (1 : Nat) ≤ 1000; omega)
  refine ⟨?_, ?_, by show CapsM.Fits E.m.cap; rw [hM.met]; exact ks_cap k, fun _ _ _ => ⟨hs.1, hs.2⟩, by show E.path.size ≤ _; rw [hM.path]; omega, by show (1 : Nat) ≤ _; omega⟩
  · rw [mayE_eq, hr]
    show (pathOk E.path.data.toList && targetOk { E with target := ⟨#[116]⟩ } && metaOk E && dataB E && devB E && true) = _
    rw [h1, h3, h4, h5]
    have ht : targetOk { E with target := ⟨#[116]⟩ } = ((k == 2) || (k == 3)) := by
      unfold targetOk
      show (if E.kind = 2 then pathOk [116] else if E.kind = 3 then (decide (1 ≤ 1) && decide (1 ≤ 4096) && decide ((0 : UInt8) ∉ ([116] : List UInt8))) else decide ((1 : Nat) = 0)) = _
      rw [hM.kind]
      by_cases h2 : k = 2
      · rw [if_pos h2, h2]; decide
      · rw [if_neg h2]
        by_cases h3 : k = 3
        · rw [if_pos h3, h3]; rfl
        · rw [if_neg h3, beq_eq_false_iff_ne.2 h2, beq_eq_false_iff_ne.2 h3]; rfl
    rw [ht]
    simp
  · have hd : E.target ≠ ⟨#[116]⟩ := by
      by_cases h2 : k = 2
      · intro e
        have := hX.hard h2
        rw [e] at this
        exact absurd this (by decide)
      · refine size_ne ?_
        show E.target.size ≠ 1
        by_cases h3 : k = 3
        · have := hX.sym h3; omega
        · have := hX.other h2 h3; omega
    unfold sameE
    show (_ && decide (E.target = ⟨#[116]⟩) && _ && _) = false
    rw [decide_eq_false hd]
    simp
theorem turn2 (hM : MadeE E P k (metaK KS 3 k)) (hX : MoreE E k 1) (hG : GoodK KS 3 k) (hP : pathOk P.data.toList = true) (hPs : P.size ≤ 1000) (hk : 1 ≤ k ∧ k ≤ 7) : TurnK E { E with major := 7 } ((k == 4) || (k == 5)) := by
  obtain ⟨h1, h2, h3, h4, h5, h6⟩ := may_parts (base hM hG hP hPs hk)
  have hs := base_short hM hG hPs
  refine ⟨?_, ?_, by show CapsM.Fits E.m.cap; rw [hM.met]; exact ks_cap k, fun _ _ _ => hs, by show E.path.size ≤ _; rw [hM.path]; omega, by show E.target.size ≤ _; have := hM.target.2; omega⟩
  · rw [mayE_eq]
    show (pathOk E.path.data.toList && targetOk E && metaOk E && dataB E && (if dev E.kind then numOk 7 && numOk E.minor else decide ((7 : Int) = 0) && decide (E.minor = 0)) && recsOk (recsE E)) = _
    rw [h1, h2, h3, h4, h6, hM.kind, hM.minor.1]
    have hd : dev k = ((k == 4) || (k == 5)) := by unfold dev; rw [int_dec, int_dec]
    rw [← hd]
    cases dev k <;> rfl
  · have hd : E.major ≠ 7 := by
      cases hv : dev k with
      | true => rw [hX.major hv]; decide
      | false => rw [hM.major.2 hv]; decide
    unfold sameE
    show (_ && decide (E.major = 7) && _) = false
    rw [decide_eq_false hd]
    simp
theorem turn3 (hM : MadeE E P k (metaK KS 3 k)) (hX : MoreE E k 1) (hG : GoodK KS 3 k) (hP : pathOk P.data.toList = true) (hPs : P.size ≤ 1000) (hk : 1 ≤ k ∧ k ≤ 7) : TurnK E { E with m := { E.m with sec := 99 } } (k != 2) := by
  obtain ⟨h1, h2, h3, h4, h5, h6⟩ := may_parts (base hM hG hP hPs hk)
  have hne : E.m.sec ≠ 99 := by rw [hM.met]; exact ks_sec k
  have hsm : ∀ n : Mt, (decide (E.m.sec = 99)) = false := fun _ => decide_eq_false hne
  have hmm : k ≠ 2 → mayM { E.m with sec := 99 } k = true := by
    intro h2
    have hg := hG.may
    rw [if_neg h2, ← hM.met] at hg
    unfold mayM at hg ⊢
    simp only [Bool.and_eq_true] at hg ⊢
    obtain ⟨⟨⟨⟨⟨⟨⟨⟨⟨⟨a1, a2⟩, a3⟩, a4⟩, a5⟩, a6⟩, a7⟩, a8⟩, a9⟩, a10⟩, a11⟩ := hg
    refine ⟨⟨⟨⟨⟨⟨⟨⟨⟨⟨a1, a2⟩, a3⟩, a4⟩, ?_⟩, a6⟩, a7⟩, a8⟩, a9⟩, a10⟩, a11⟩
    unfold stampOk at a5 ⊢
    simp only [Bool.and_eq_true, decide_eq_true_eq] at a5 ⊢
    exact ⟨⟨⟨by decide, by decide⟩, a5.1.2⟩, a5.2⟩
  have hmo : metaOk { E with m := { E.m with sec := 99 } } = (k != 2) := by
    unfold metaOk
    show (if E.kind = 2 then sameM { E.m with sec := 99 } zeroM else mayM { E.m with sec := 99 } E.kind) = _
    rw [hM.kind]
    by_cases h2 : k = 2
    · rw [if_pos h2, h2]
      refine Bool.eq_false_iff.2 (fun h => ?_)
      have h := congrArg Mt.sec (same_eq h)
      exact absurd h (show ¬ (99 : Int) = 0 by decide)
    · rw [if_neg h2, hmm h2]; exact (bne_iff_ne.2 h2).symm
  have hsh : k ≠ 2 → Short { E.m with sec := 99 } := fun h2 => by
    have h := hG.short
    rw [← hM.met] at h
    exact short_of (hmm h2) h.xlen h.xval
  refine ⟨?_, ?_, by show CapsM.Fits E.m.cap; rw [hM.met]; exact ks_cap k, fun _ _ h => ?_, by show E.path.size ≤ _; rw [hM.path]; omega, by show E.target.size ≤ _; have := hM.target.2; omega⟩
  · rw [mayE_eq, hmo]
    show (pathOk E.path.data.toList && targetOk E && (k != 2) && dataB E && devB E && _) = _
    rw [h1, h2, h4, h5]
    by_cases h2 : k = 2
    · rw [h2]; simp
    · rw [recs_ok (e := { E with m := { E.m with sec := 99 } }) (hsh h2) (by show E.path.size ≤ 1000; rw [hM.path]; exact hPs) hM.target.2]
      simp
  · refine Bool.eq_false_iff.2 (fun h => hne ?_)
    unfold sameE at h
    simp only [Bool.and_eq_true] at h
    exact congrArg Mt.sec (same_eq h.1.1.1.1.2)
  · rw [hmo] at h
    have hs := recs_short (e := { E with m := { E.m with sec := 99 } }) (hsh (bne_iff_ne.1 h)) (by show E.path.size ≤ 1000; rw [hM.path]; exact hPs) hM.target.2
    exact ⟨hs.1, hs.2⟩
theorem turn4 (hM : MadeE E P k (metaK KS 3 k)) (hX : MoreE E k 1) (hG : GoodK KS 3 k) (hP : pathOk P.data.toList = true) (hPs : P.size ≤ 1000) (hk : 1 ≤ k ∧ k ≤ 7) : TurnK E { E with kind := 8 } false := by
  have hs := base_short hM hG hPs
  refine ⟨?_, ?_, by show CapsM.Fits E.m.cap; rw [hM.met]; exact ks_cap k, fun _ _ _ => hs, by show E.path.size ≤ _; rw [hM.path]; omega, by show E.target.size ≤ _; have := hM.target.2; omega⟩
  · unfold mayE
    show (_ && (decide ((1 : Int) ≤ 8) && decide ((8 : Int) ≤ 7)) && _ && _ && _ && _) = false
    simp
  · unfold sameE
    show (_ && decide (E.kind = 8) && _ && _ && _ && _ && _) = false
    rw [decide_eq_false (show ¬ E.kind = 8 by rw [hM.kind]; omega)]
    simp
end EntM
end Go.Proofs.YtbhnhoenjoagbaaGreatDoor

/- Walks over package entry: the records' own block. -/
namespace Go.Proofs.YtbhnhoenjoagbaaGreatDoor
open Go.RowKit
open MetaM PathM EntM XatW
set_option linter.unusedVariables false

def EntM.xHd (n : Nat) : HeadM.Hd where
  name := ⟨#[80, 97, 120, 72, 101, 97, 100, 101, 114, 115]⟩
  mode := 420
  uid := 0
  gid := 0
  size := (n : Int)
  mtime := 0
  typ := 120
  link := ⟨#[]⟩
  uname := ⟨#[]⟩
  gname := ⟨#[]⟩
  major := 0
  minor := 0
  pre := ⟨#[]⟩
def EntM.putRecsF (l : List Rc) : List UInt8 := if l = [] then [] else HeadM.putH (xHd (RecW.RecM.joinF l).length) ++ PadW.PadM.padL (RecW.RecM.joinF l)
theorem x_build (n : Int) (W : World) : (Instr.build 23 #[(0, .string ⟨#[80, 97, 120, 72, 101, 97, 100, 101, 114, 115]⟩), (1, .int .i64 420), (6, .int .u8 120), (4, .int .i64 n)]).run Tryz.prog W = .ok (.agg #[.string ⟨#[80, 97, 120, 72, 101, 97, 100, 101, 114, 115]⟩, .int .i64 420, .int .i64 0, .int .i64 0, .int .i64 n, .int .i64 0, .int .u8 120, .string ⟨#[]⟩, .string ⟨#[]⟩, .string ⟨#[]⟩, .int .i64 0, .int .i64 0, .string ⟨#[]⟩]) W :=
  run_build W _ _ _ (by kernel_rfl)
theorem put_size (h : HeadM.Hd) : (HeadM.putH h).length ≤ 512 := by
  unfold HeadM.putH
  split
  · rename_i H; rw [HeadM.put_length H]; exact Nat.le_refl _
  · simp
attribute [local irreducible] Row At

set_option maxHeartbeats 1600000 in
set_option maxRecDepth 100000 in
theorem putRecs_any (B : Nat) (v : Value) (l : List Rc) (w : World) (hA : AmbB w) (hrow : Row recE B v l w) (hs : ShortR l) (hj : (RecW.RecM.joinF l).length ≤ 65536) :
    Calls Tryz.prog 86 #[v] w fun e w' => e = .returned (.string (strOf (putRecsF l))) ∧ Below w.heap.size w w' := by
  have HJ := Lib.hid (show Calls Tryz.prog 120 #[v] w fun e w' => e = .returned (.string (strOf (RecW.RecM.joinF l))) ∧ Below w.heap.size w w' from RecW.join_any v l w hA (row_rec hrow).at hs.each hs.few)
  obtain ⟨p, cap, rfl, hcap⟩ := hrow.at.shape
  obtain ⟨z, hz⟩ : ∃ z, l.length = z := ⟨_, rfl⟩
  rw [hz] at HJ ⊢
  by_cases h0 : z = 0
  · have hl : l = [] := List.eq_nil_of_length_eq_zero (by omega)
    have y0 : ((z : Int) == 0) = true := by rw [h0]; rfl
    have HE := Lib.hid (show putRecsF l = [] by rw [hl]; rfl)
    clear h0 hl hz HJ hrow
    go_enter Tryz.func86, Tryz.ntmps86
    go_wp2_with fail
    go_ret
    exact ⟨by rw [HE.out]; rfl, Below.refl _ _⟩
  · have hl : l ≠ [] := by intro h; rw [h] at hz; simp at hz; omega
    have y0 : ((z : Int) == 0) = false := by rw [beq_eq_false_iff_ne]; omega
    have HE := Lib.hid (show putRecsF l = HeadM.putH (xHd (RecW.RecM.joinF l).length) ++ PadW.PadM.padL (RecW.RecM.joinF l) from if_neg hl)
    obtain ⟨J, hJ⟩ : ∃ S, strOf (RecW.RecM.joinF l) = S := ⟨_, rfl⟩
    have hJs : J.size ≤ 65536 := by rw [← hJ, strOf_size]; exact hj
    have hJl : RecW.RecM.joinF l = J.data.toList := by rw [← hJ, strOf_list]
    rw [hJ] at HJ
    rw [hJl, list_sizeE] at HE
    obtain ⟨n, hn⟩ : ∃ n, J.size = n := ⟨_, rfl⟩
    have HH := Lib.hid (fun W => HeadW.put_any (xHd n) W)
    unfold xHd at HH
    simp only at HH
    have HP := Lib.hid (fun W => PadW.put_any J (by omega) W)
    obtain ⟨A, hA1⟩ : ∃ S, strOf (HeadM.putH (xHd n)) = S := ⟨_, rfl⟩
    obtain ⟨C, hC1⟩ : ∃ S, strOf (PadW.PadM.padL J.data.toList) = S := ⟨_, rfl⟩
    have hAs : A.size ≤ 512 := by rw [← hA1, strOf_size]; exact put_size _
    have hCs : C.size ≤ 70000 := by rw [← hC1, strOf_size, PadW.PadM.padL_length]; have := (PadW.PadM.more_in (n := J.data.toList.length) (by rw [list_sizeE]; omega)).2.1; rw [list_sizeE] at this ⊢; omega
    have HQ := Lib.hid (show strOf (putRecsF l) = A ++ C by
      rw [HE.out, ← hA1, ← hC1, hn]
      exact (bytes_ext (by rw [bytes_list]; simp [strOf])))
    have HH2 := Lib.hid (fun W => show Calls Tryz.prog 87 #[.agg #[.string ⟨#[80, 97, 120, 72, 101, 97, 100, 101, 114, 115]⟩, .int .i64 420, .int .i64 0, .int .i64 0, .int .i64 (n : Int), .int .i64 0, .int .u8 120, .string ⟨#[]⟩, .string ⟨#[]⟩, .string ⟨#[]⟩, .int .i64 0, .int .i64 0, .string ⟨#[]⟩]] W fun e w' => e = .returned (.string A) ∧ Below W.heap.size W w' from hA1 ▸ HH.out W)
    have HP2 := Lib.hid (fun W => show Calls Tryz.prog 88 #[.string J] W fun e w' => e = .returned (.string C) ∧ Below W.heap.size W w' from hC1 ▸ HP.out W)
    have HBD := x_build (n : Int)
    have hwrap : (J.size : Int) = (n : Int) := by rw [hn]
    clear HH HP hA1 hC1 hJ hJl hj HE hrow hz h0 hl hs hJs
    go_enter Tryz.func86, Tryz.ntmps86
    go_wp2_with fail
    refine (HJ.out).mono ?_
    rintro e w1 ⟨rfl, hb1⟩
    clear HJ
    go_wp2_with (with_reducible (show wpList _ _ _ (Oper.mk _ (Op.store 23 _ _) _ _ _ _ :: _) _ _); refine wpList_storeN rfl 23 (.tmp 4) (.tmp 12) rfl #[.string ⟨#[]⟩, .int .i64 0, .int .i64 0, .int .i64 0, .int .i64 0, .int .i64 0, .int .u8 0, .string ⟨#[]⟩, .string ⟨#[]⟩, .string ⟨#[]⟩, .int .i64 0, .int .i64 0, .string ⟨#[]⟩] #[.string ⟨#[80, 97, 120, 72, 101, 97, 100, 101, 114, 115]⟩, .int .i64 420, .int .i64 0, .int .i64 0, .int .i64 (n : Int), .int .i64 0, .int .u8 120, .string ⟨#[]⟩, .string ⟨#[]⟩, .string ⟨#[]⟩, .int .i64 0, .int .i64 0, .string ⟨#[]⟩] (by simp [Act.eval, go_sem]) (by simp [Act.eval, go_sem]) (by kernel_rfl) rfl (by rfl) ?_)
    refine (HH2.out _).mono ?_
    rintro e w2 ⟨rfl, hb2⟩
    have hbl := gr_call (gr_alloc hb1 _) hb2
    clear hb2 HH2
    go_wp2_with fail
    refine (HP2.out _).mono ?_
    rintro e w3 ⟨rfl, hb3⟩
    replace hbl := gr_call hbl hb3
    clear hb3 HP2
    go_wp2_with fail
    go_ret
    exact ⟨by rw [HQ.out]; rfl, hbl⟩
end Go.Proofs.YtbhnhoenjoagbaaGreatDoor
