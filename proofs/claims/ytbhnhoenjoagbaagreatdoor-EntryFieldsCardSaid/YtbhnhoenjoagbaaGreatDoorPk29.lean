/- Bundle of 3 texts. -/
import Derived.Test.YtbhnhoenjoagbaaGreatDoorPk28
import Derived.Test.YtbhnhoenjoagbaaGreatDoorPk09
/- Entries with a long name, great numbers, a time: their records, their header, how many bytes. -/
namespace Go.Proofs.YtbhnhoenjoagbaaGreatDoor
open Go.RowKit
open MetaM PathM EntM
set_option linter.unusedVariables false
namespace EntM

theorem sg_n (r : List UInt8) : TextW.TextM.sg (110 :: r) = 1 := by
  rw [TextW.TextM.sg_cons]
  have h : TextW.TextM.lenOf 110 = 1 := by decide
  rw [h, if_neg (by decide)]
  rfl
theorem valid_n : ∀ n : Nat, validU (List.replicate n 110) = true
  | 0 => by unfold validU; rw [List.replicate_zero, TextW.TextM.rd_nil]
  | n + 1 => by
    have h := valid_n n
    unfold validU at h ⊢
    rw [List.replicate_succ, TextW.TextM.rd_step (by rw [sg_n]; decide), sg_n]
    exact h
theorem has_small {n v : Int} (hv : NumM.isW v = true) (h : -72057594037927936 ≤ n ∧ n < 72057594037927936) : HeadM.hasF n v = true := by
  unfold HeadM.hasF
  rcases hf : NumM.fieldO n v with _ | l
  · have := HeadW.fieldO_none hv hf; omega
  · rfl
theorem split_n (n : Nat) : HeadM.splitL (List.replicate n 110) = if n ≤ 100 then some ([], List.replicate n 110) else none := by
  unfold HeadM.splitL
  rw [List.length_replicate]
  by_cases h : n ≤ 100
  · rw [if_pos h, if_pos h]
  · rw [if_neg h, if_neg h, if_pos]
    unfold HeadM.slashAt
    rw [XatW.index_neg]
    simp
def FE (n : Nat) (U G S T : Int) : En := ⟨strOf (List.replicate n 110), 7, ⟨0, U, G, S, T, [], [], [], ⟨0, 0, 0, false, 0⟩, 0⟩, ⟨#[]⟩, ⟨#[]⟩, 0, 0⟩
def bN (b : Bool) : Nat := if b then 1 else 0
theorem one_n (b : Bool) (k v : List UInt8) : (one b k v).length = bN b := by cases b <;> rfl
theorem fields_long (n : Nat) (U G S T : Int) : longP (FE n U G S T) = decide (100 < n) := by
  unfold longP FE
  simp only [strOf_list]
  rw [split_n]
  by_cases h : n ≤ 100
  · rw [if_pos h, decide_eq_false (by omega)]; rfl
  · rw [if_neg h, decide_eq_true (by omega)]; rfl
theorem fields_recs (n : Nat) (U G S T : Int) : (recsE (FE n U G S T)).length = bN (decide (100 < n)) + (bN (decide (2097151 < U)) + (bN (decide (2097151 < G)) + bN (longS S T))) := by
  have hl := fields_long n U G S T
  have ht : longT (FE n U G S T) = false := rfl
  unfold recsE
  rw [hl, ht]
  have hv : validU (FE n U G S T).path.data.toList = true := by unfold FE; simp only [strOf_list]; exact valid_n n
  rw [hv]
  simp only [List.length_append, one_n]
  have e1 : bN ((decide (100 < n) && !true) || (false && !validU (FE n U G S T).target.data.toList)) = 0 := by simp [bN]
  have e2 : bN (decide ((FE n U G S T).m.acl ≠ [])) = 0 := rfl
  have e3 : bN (decide ((FE n U G S T).m.dfl ≠ [])) = 0 := rfl
  have e4 : bN (decide ((FE n U G S T).m.flags ≠ 0)) = 0 := rfl
  have e5 : bN (decide ((FE n U G S T).m.cap.v ≠ 0)) = 0 := rfl
  have e6 : (XatM.recsL (FE n U G S T).m.xat).length = 0 := rfl
  rw [e1, e2, e3, e4, e5, e6]
  show 0 + (bN (decide (100 < n)) + (bN false + (bN (decide (2097151 < U)) + (bN (decide (2097151 < G)) + (bN (longS S T) + (0 + (0 + (0 + (0 + 0))))))))) = _
  simp [bN]
structure FR (n : Nat) (U G S T : Int) : Prop where
  n : 1 ≤ n ∧ n ≤ 256
  u : 0 ≤ U ∧ U ≤ 2147483647
  g : 0 ≤ G ∧ G ≤ 2147483647
  s : -1099511627776 ≤ S ∧ S ≤ 1099511627776
  t : 0 ≤ T ∧ T ≤ 5
variable {n : Nat} {U G S T : Int}
theorem n_mem {x : UInt8} (hx : x ≠ 110) (n : Nat) : x ∉ List.replicate n 110 := by
  intro h
  exact hx (List.eq_of_mem_replicate h)
theorem n_ne {n : Nat} (c : UInt8) (r : List UInt8) (hc : c ≠ 110) : List.replicate n 110 ≠ c :: r := by
  intro h
  exact n_mem hc n (by rw [h]; simp)
theorem n_path (h : 1 ≤ n ∧ n ≤ 256) : pathOk (List.replicate n 110) = decide (n ≤ 255) := by
  unfold pathOk
  rw [AclM.cutAt_none (n_mem (by decide) n), decide_eq_true (n_mem (x := 0) (by decide) n), List.length_replicate, decide_eq_true (show n ≤ 4096 by omega), List.all_cons, List.all_nil]
  unfold nameOk
  rw [decide_eq_true (n_ne 46 [] (by decide)), decide_eq_true (n_ne 46 [46] (by decide)), List.length_replicate, decide_eq_true (show n ≠ 0 by omega)]
  simp
theorem fe_path : (FE n U G S T).path.data.toList = List.replicate n 110 := by unfold FE; simp only [strOf_list]
theorem fe_psz : (FE n U G S T).path.size = n := by rw [← list_sizeE, fe_path, List.length_replicate]
theorem fe_meta (h : FR n U G S T) : mayM (FE n U G S T).m 7 = true := by
  unfold mayM FE
  simp only
  have h1 := h.u
  have h2 := h.g
  have h3 := h.s
  have h4 := h.t
  rw [show kindIn 7 = true by rfl, show modeOk 0 = true by rfl, show idOk U = true by unfold idOk; simp only [Bool.and_eq_true, decide_eq_true_eq]; omega, show idOk G = true by unfold idOk; simp only [Bool.and_eq_true, decide_eq_true_eq]; omega,
    show stampOk S T = true by unfold stampOk; simp only [Bool.and_eq_true, decide_eq_true_eq]; omega, show flagsOk 0 = true by rfl,
    show dflOk [] 7 = true by rfl, show capOk ⟨0, 0, 0, false, 0⟩ 7 = true by rfl, show XatM.mayL [] = true by rfl, show aclOk [] 0 = true by rfl]
  unfold symOk
  simp
theorem fe_short (h : FR n U G S T) : Short (FE n U G S T).m := by
  have h1 := h.u
  have h2 := h.g
  have h3 := h.s
  have h4 := h.t
  unfold FE
  refine ⟨by simp only; omega, by simp only; omega, fun _ => ?_, fun hn => absurd rfl hn, fun hn => absurd rfl hn, ?_, rfl, by simp, by simp⟩
  case refine_2 => show (FlagsW.FlagsM.textI 0).length ≤ 1000; decide +kernel
  have := (StampW.StampM.text_len S T (by unfold StampW.StampM.mayF; simp only [Bool.and_eq_true, decide_eq_true_eq]; omega)).2
  simp only
  omega
theorem fe_shortR (h : FR n U G S T) : ShortR (recsE (FE n U G S T)) := by
  have hp : (FE n U G S T).path.size ≤ 1000 := by rw [fe_psz]; have := h.n; omega
  have hs := recs_short (e := FE n U G S T) (fe_short h) hp (by show (0 : Nat) ≤ 1000; omega)
  exact ⟨hs.1, hs.2⟩
theorem fe_recs (h : FR n U G S T) : recsOk (recsE (FE n U G S T)) = true := recs_ok (fe_short h) (by rw [fe_psz]; have := h.n; omega) (by show (0 : Nat) ≤ 1000; omega)
theorem fe_may (h : FR n U G S T) : mayE (FE n U G S T) = decide (n ≤ 255) := by
  rw [mayE_eq, fe_recs h, fe_path, n_path h.n]
  have h1 : targetOk (FE n U G S T) = true := rfl
  have h2 : metaOk (FE n U G S T) = true := by
    unfold metaOk
    rw [if_neg (show ¬ (FE n U G S T).kind = 2 from (by decide : ¬ (7 : Int) = 2))]
    exact fe_meta h
  have h3 : dataB (FE n U G S T) = true := rfl
  have h4 : devB (FE n U G S T) = true := rfl
  rw [h1, h2, h3, h4]
  simp
theorem fe_fits : CapsM.Fits (FE n U G S T).m.cap := by
  show CapsM.Fits ⟨0, 0, 0, false, 0⟩
  constructor <;> decide
theorem fe_time (h : FR n U G S T) (hl : longS S T = false) : 0 ≤ S ∧ S < 8589934592 := by
  unfold longS at hl
  simp only [Bool.or_eq_false_iff, decide_eq_false_iff_not] at hl
  omega
theorem fe_head (h : FR n U G S T) : HeadM.mayH (headE (FE n U G S T)) = true := by
  have h1 := h.u
  have h2 := h.g
  have h3 := h.n
  unfold HeadM.mayH HeadM.mayTs HeadM.mayNs HeadM.mayN
  have hu : (headE (FE n U G S T)).uid = if 2097151 < U then 0 else U := rfl
  have hg : (headE (FE n U G S T)).gid = if 2097151 < G then 0 else G := rfl
  have hm : (headE (FE n U G S T)).mtime = if longS S T then 0 else S := rfl
  have ha : (headE (FE n U G S T)).major = 0 := rfl
  have hi : (headE (FE n U G S T)).minor = 0 := rfl
  have hz : (headE (FE n U G S T)).size = 0 := rfl
  have ho : (headE (FE n U G S T)).mode = 0 := rfl
  have hl : (headE (FE n U G S T)).link = ⟨#[]⟩ := rfl
  have hun : (headE (FE n U G S T)).uname = ⟨#[]⟩ := rfl
  have hgn : (headE (FE n U G S T)).gname = ⟨#[]⟩ := rfl
  have hnp : HeadM.mayT (HeadM.L (headE (FE n U G S T)).name) 100 = true ∧ HeadM.mayT (HeadM.L (headE (FE n U G S T)).pre) 155 = true := by
    unfold headE
    simp only
    rw [fe_path, split_n]
    have hc : ∀ k, (List.replicate k (110 : UInt8)).contains 0 = false := fun k => by
      rw [Bool.eq_false_iff]; intro hh; exact n_mem (x := 0) (by decide) k (by simp at hh)
    by_cases hn : n ≤ 100
    · rw [if_pos hn]
      refine ⟨?_, rfl⟩
      unfold HeadM.mayT
      show (decide ((strOf (List.replicate n 110)).data.toList.length ≤ 100) && !((strOf (List.replicate n 110)).data.toList.contains 0)) = true
      rw [strOf_list, List.length_replicate, hc, decide_eq_true hn]; rfl
    · rw [if_neg hn]
      refine ⟨?_, rfl⟩
      unfold HeadM.mayT firstB
      rw [fe_path]
      show (decide ((strOf ((List.replicate n 110).take 100)).data.toList.length ≤ 100) && !((strOf ((List.replicate n 110).take 100)).data.toList.contains 0)) = true
      rw [strOf_list, List.take_replicate, List.length_replicate, hc, decide_eq_true (by omega)]; rfl
  rw [hnp.1, hnp.2, hu, hg, hm, ha, hi, hz, ho, hl, hun, hgn]
  have w8 : NumM.isW 8 = true := by rfl
  have w12 : NumM.isW 12 = true := by rfl
  have k1 : ∀ x : Int, 0 ≤ x → x ≤ 8589934592 → (decide (0 ≤ x) && HeadM.hasF x 8) = true := fun x a b => by rw [decide_eq_true a, has_small w8 (by omega)]; rfl
  have k2 : ∀ x : Int, 0 ≤ x → x ≤ 8589934592 → HeadM.hasF x 12 = true := fun x a b => has_small w12 (by omega)
  have k3 : HeadM.hasF (if longS S T = true then 0 else S) 12 = true := by
    rcases hl : longS S T with _ | _
    · have := fe_time h hl
      exact k2 _ (by simp; omega) (by simp; omega)
    · exact k2 _ (by simp) (by simp)
  have ku : 0 ≤ (if 2097151 < U then 0 else U) ∧ (if 2097151 < U then 0 else U) ≤ 8589934592 := by split <;> omega
  have kg : 0 ≤ (if 2097151 < G then 0 else G) ∧ (if 2097151 < G then 0 else G) ≤ 8589934592 := by split <;> omega
  rw [k1 0 (by omega) (by omega), k1 _ ku.1 ku.2, k1 _ kg.1 kg.2, k2 0 (by omega) (by omega), k3]
  rfl
theorem x_may {j : Nat} (h : j ≤ 65536) : HeadM.mayH (xHd j) = true := by
  unfold HeadM.mayH HeadM.mayTs HeadM.mayNs HeadM.mayN
  have ha : (xHd j).major = 0 := rfl
  have hi : (xHd j).minor = 0 := rfl
  have hu : (xHd j).uid = 0 := rfl
  have hg : (xHd j).gid = 0 := rfl
  have hm : (xHd j).mtime = 0 := rfl
  have ho : (xHd j).mode = 420 := rfl
  have hz : (xHd j).size = (j : Int) := rfl
  have h1 : HeadM.mayT (HeadM.L (xHd j).name) 100 = true := by show HeadM.mayT (HeadM.L ⟨#[80, 97, 120, 72, 101, 97, 100, 101, 114, 115]⟩) 100 = true; decide
  have h2 : HeadM.mayT (HeadM.L (xHd j).link) 100 = true := rfl
  have h3 : HeadM.mayT (HeadM.L (xHd j).uname) 32 = true := rfl
  have h4 : HeadM.mayT (HeadM.L (xHd j).gname) 32 = true := rfl
  have h5 : HeadM.mayT (HeadM.L (xHd j).pre) 155 = true := rfl
  have w8 : NumM.isW 8 = true := by rfl
  have w12 : NumM.isW 12 = true := by rfl
  rw [h1, h2, h3, h4, h5, ha, hi, hu, hg, hm, ho, hz, has_small w8 (show (-72057594037927936 : Int) ≤ 420 ∧ (420 : Int) < 72057594037927936 by omega), has_small w8 (show (-72057594037927936 : Int) ≤ 0 ∧ (0 : Int) < 72057594037927936 by omega), has_small w12 (show (-72057594037927936 : Int) ≤ 0 ∧ (0 : Int) < 72057594037927936 by omega), has_small w12 (show (-72057594037927936 : Int) ≤ (j : Int) ∧ (j : Int) < 72057594037927936 by omega), decide_eq_true (show (0 : Int) ≤ (j : Int) by omega)]
  rfl
theorem pad_up {j : Nat} (h : j ≤ 65536) : j + PadW.PadM.more j = 512 * ((j + 511) / 512) := by
  have := PadW.PadM.more_in (n := j) (by omega)
  omega
theorem fe_put (h : FR n U G S T) (hn : n ≤ 255) : (putEF (FE n U G S T)).length = 512 + (if (recsE (FE n U G S T)).length = 0 then 0 else 512 + 512 * (((RecW.RecM.joinF (recsE (FE n U G S T))).length + 511) / 512)) := by
  have hj : (RecW.RecM.joinF (recsE (FE n U G S T))).length ≤ 65536 := by
    have := fe_recs h
    unfold recsOk at this
    simp only [Bool.and_eq_true, decide_eq_true_eq] at this
    exact this.2
  unfold putEF
  rw [fe_may h, decide_eq_true hn, if_pos rfl, List.length_append, List.length_append]
  have h1 : (HeadM.putH (headE (FE n U G S T))).length = 512 := by rw [HeadM.put_may (fe_head h), HeadM.put_length (fe_head h)]
  have h2 : (PadW.PadM.padL (FE n U G S T).data.data.toList).length = 0 := by show (PadW.PadM.padL ([] : List UInt8)).length = 0; decide +kernel
  rw [h1, h2]
  by_cases hl : recsE (FE n U G S T) = []
  · rw [hl]; rfl
  · have hl0 : (recsE (FE n U G S T)).length ≠ 0 := fun e => hl (List.eq_nil_of_length_eq_zero e)
    unfold putRecsF
    rw [if_neg hl, if_neg hl0, List.length_append, HeadM.put_may (x_may hj), HeadM.put_length (x_may hj), PadW.PadM.padL_length, pad_up hj]
    omega
end EntM
end Go.Proofs.YtbhnhoenjoagbaaGreatDoor

/- The document's own join of records. -/
namespace Go.Proofs.YtbhnhoenjoagbaaGreatDoor.RecW
open Go.RowKit
open RecM
set_option linter.unusedVariables false

set_option maxHeartbeats 1600000 in
theorem refJoin_any (v : Value) (l : List (List UInt8 × List UInt8)) (w : World) (hat : RecAt v l w) (hs : ∀ r ∈ l, r.1.length + r.2.length ≤ 9000) (hl : l.length ≤ 100) :
    Calls Tryz.prog 31 #[v] w fun e w' => e = .returned (.string (strOf (joinF l))) ∧ Below w.heap.size w w' := by
  obtain ⟨p, cap, rfl⟩ := hat.shape
  obtain ⟨n, hn⟩ : ∃ n, l.length = n := ⟨_, rfl⟩
  have HN := Lib.hid hn
  have HS := Lib.hid hs
  have Hat := Lib.hid hat
  rw [hn] at hl ⊢
  clear hs hat hn
  go_enter Tryz.func31, Tryz.ntmps31
  go_wp2_with fail
  go_loopw [3, 4] (fun sv iv wr => ∃ i : Nat, iv = .int .i64 (i : Int) ∧ i ≤ n ∧ sv = .string (strOf (joinF (l.take i))) ∧ Below w.heap.size w wr) (fun sv iv _ => n - (intOf iv).toNat)
  case atStart => exact ⟨0, rfl, by omega, rfl, by (repeat' (first | exact Below.refl _ _ | assumption | refine gr_drew ?_ | refine gr_drewN ?_ _ | refine gr_alloc ?_ _ | refine gr_set ?_ ?_ _ | refine gr_call ?_ (by assumption)) <;> (try (simp; done)) <;> (try (simp; omega)) <;> (try omega))⟩
  case round =>
    obtain ⟨i, rfl, hi, rfl, hbl⟩ := hrel
    rename_i wr
    by_cases hlt : i < n
    · have hlt' : decide ((i : Int) < (n : Int)) = true := decide_eq_true (by omega)
      have hlt2 : decide (i < n) = true := decide_eq_true hlt
      have hil : i < l.length := by rw [HN.out]; exact hlt
      obtain ⟨g, cap', ev, hc, hg, hj⟩ := Hat.out.open (by intro e; rw [e] at hil; simp at hil)
      simp only [Value.slice.injEq] at ev
      obtain ⟨rfl, _, rfl⟩ := ev
      have c0 := cell_kept hbl (hj i hil).1
      have c1 := cell_kept hbl (hj i hil).2
      rw [Nat.mul_comm 2 i] at c0 c1
      have hsz := HS.out l[i] (List.getElem_mem hil)
      have Hsucc := Lib.hid (join_succ l i hil)
      have hjl := join_len (l.take (i + 1)) (fun r hr => HS.out r (List.mem_of_mem_take hr))
      rw [Hsucc.out, List.length_append, List.length_take] at hjl
      obtain ⟨r, hr⟩ : ∃ r, l[i] = r := ⟨_, rfl⟩
      rw [hr] at c0 c1 hsz Hsucc hjl
      obtain ⟨k, u⟩ := r
      dsimp only at c0 c1 hsz Hsucc hjl
      have hp := Lib.hid (fun W => refPut_any (strOf k) (strOf u) (by rw [strOf_size, strOf_size]; omega) W)
      rw [strOf_list, strOf_list] at hp
      have HP := Lib.hid (show strOf (joinF (l.take i)) ++ strOf (putF k u) = strOf (joinF (l.take i) ++ putF k u) from HeadW.strOf_app _ _)
      have hsum : (strOf (joinF (l.take i))).size + (strOf (putF k u)).size ≤ 1000000 := by rw [strOf_size, strOf_size]; omega
      rw [← Hsucc.out] at HP
      have i1 : (i : Int) < (n : Int) := by omega
      have i0 : (0 : Int) ≤ (i : Int) := by omega
      generalize strOf (joinF (l.take i)) = A at *
      generalize strOf (putF k u) = P at *
      clear hj hr hsz hjl hlt
      go_wp2_with fail
      refine (hp.out _).mono ?_
      rintro e w1 ⟨rfl, hb1⟩
      have hbl1 : Below w.heap.size w w1 := by (repeat' (first | exact Below.refl _ _ | assumption | refine gr_drew ?_ | refine gr_drewN ?_ _ | refine gr_alloc ?_ _ | refine gr_set ?_ ?_ _ | refine gr_call ?_ (by assumption)) <;> (try (simp; done)) <;> (try (simp; omega)) <;> (try omega))
      clear hb1
      go_wp2_with fail
      go_roundw
      case rel => exact ⟨i + 1, by go_num, by omega, by rw [HP.out], hbl1⟩
      case measure => simp only [intOf]; omega
    · have hlt' : decide ((i : Int) < (n : Int)) = false := decide_eq_false (by omega)
      have hlt2 : decide (i < n) = false := decide_eq_false hlt
      have ht : l.take i = l := List.take_of_length_le (by rw [HN.out]; omega)
      rw [ht]
      clear hlt ht
      go_wp2_with fail
      go_ret
      exact ⟨rfl, hbl⟩
end Go.Proofs.YtbhnhoenjoagbaaGreatDoor.RecW

/- What the laws of stage 15 ask beside: one small entry. -/
namespace Go.Proofs.YtbhnhoenjoagbaaGreatDoor
open Go.RowKit
open MetaM PathM EntM XatW
set_option linter.unusedVariables false

def EntM.tiny : En := ⟨⟨#[97]⟩, 1, zeroM, ⟨#[120]⟩, ⟨#[]⟩, 0, 0⟩
theorem tiny_recs : recsE tiny = [] := by rfl
theorem tiny_may : mayE tiny = true := by
  unfold mayE
  rw [tiny_recs]
  decide +kernel
theorem tiny_head : HeadM.mayH (headE tiny) = true := by decide +kernel
theorem tiny_len : (putEF tiny).length = 1024 := by
  unfold putEF
  rw [if_pos tiny_may, tiny_recs]
  have h1 : putRecsF [] = [] := rfl
  have h2 : HeadM.putH (headE tiny) = HeadM.putL (headE tiny) := if_pos tiny_head
  have h3 : (PadW.PadM.padL tiny.data.data.toList).length = 512 := by decide +kernel
  rw [h1, h2, List.length_append, List.length_append, HeadM.put_length tiny_head, h3]
  rfl
theorem tiny_build (W : World) : (Instr.build 39 #[(0, .string ⟨#[97]⟩), (1, .int .i64 1), (3, .string ⟨#[120]⟩)]).run Tryz.prog W = .ok (.agg #[.string ⟨#[97]⟩, .int .i64 1, .int .i64 0, .int .i64 0, .int .i64 0, .int .i64 0, .int .i64 0, .slice none 0 0, .slice none 0 0, .slice none 0 0, .int .i64 0, .int .u64 0, .int .u64 0, .bool false, .int .i64 0, .int .i64 0, .string ⟨#[120]⟩, .string ⟨#[]⟩, .int .i64 0, .int .i64 0]) W :=
  run_build W _ _ _ (by kernel_rfl)
attribute [local irreducible] Row At

set_option maxHeartbeats 3200000 in
set_option maxRecDepth 100000 in
theorem awake15_any (w : World) (hA : Amb w) : Calls Tryz.prog 11 #[] w fun e w' => e = .returned (.bool true) ∧ Below w.heap.size w w' := by
  have HP := Lib.hid (fun W (h : Below w.heap.size w W) => PathE_any ⟨#[97, 47, 46, 46, 47, 98]⟩ (by decide) W (hA.on h))
  rw [show pathOk (⟨#[97, 47, 46, 46, 47, 98]⟩ : ByteArray).data.toList = false by decide] at HP
  have hz : ∀ W, MetaAt tiny.m nilV nilV nilV W := fun W => zero_at W
  have HM := Lib.hid (fun W (h : Below w.heap.size w W) => MayE_any tiny nilV nilV nilV W (hA.on h) (hz W) (by decide) (by decide) (by constructor <;> decide) (fun _ _ _ => by rw [tiny_recs]; exact ⟨by simp, by simp⟩))
  rw [tiny_may] at HM
  have HT := Lib.hid (fun W (h : Below w.heap.size w W) => PutE_any tiny nilV nilV nilV W (hA.on h) (hz W) tiny_may (by constructor <;> decide) (by rw [tiny_recs]; exact ⟨by simp, by simp⟩))
  obtain ⟨S, hS⟩ : ∃ S, strOf (putEF tiny) = S := ⟨_, rfl⟩
  have hSs : (S.size : Int) = 1024 := by rw [← hS, strOf_size, tiny_len]; rfl
  rw [hS] at HT
  have he : entC tiny nilV nilV nilV = #[.string ⟨#[97]⟩, .int .i64 1, .int .i64 0, .int .i64 0, .int .i64 0, .int .i64 0, .int .i64 0, .slice none 0 0, .slice none 0 0, .slice none 0 0, .int .i64 0, .int .u64 0, .int .u64 0, .bool false, .int .i64 0, .int .i64 0, .string ⟨#[120]⟩, .string ⟨#[]⟩, .int .i64 0, .int .i64 0] := rfl
  rw [he] at HM HT
  have hbd := tiny_build
  clear hS he hz
  go_enter Tryz.func11, Tryz.ntmps11
  go_wp2_with (with_reducible (show wpList _ _ _ (Oper.mk _ (Op.store 39 _ _) _ _ _ _ :: _) _ _); refine wpList_storeN rfl 39 (.tmp 1) (.tmp 2) rfl #[.string ⟨#[]⟩, .int .i64 0, .int .i64 0, .int .i64 0, .int .i64 0, .int .i64 0, .int .i64 0, .slice none 0 0, .slice none 0 0, .slice none 0 0, .int .i64 0, .int .u64 0, .int .u64 0, .bool false, .int .i64 0, .int .i64 0, .string ⟨#[]⟩, .string ⟨#[]⟩, .int .i64 0, .int .i64 0] #[.string ⟨#[97]⟩, .int .i64 1, .int .i64 0, .int .i64 0, .int .i64 0, .int .i64 0, .int .i64 0, .slice none 0 0, .slice none 0 0, .slice none 0 0, .int .i64 0, .int .u64 0, .int .u64 0, .bool false, .int .i64 0, .int .i64 0, .string ⟨#[120]⟩, .string ⟨#[]⟩, .int .i64 0, .int .i64 0] (by simp [Act.eval, go_sem]) (by simp [Act.eval, go_sem]) (by kernel_rfl) rfl (by kernel_rfl) ?_)
  have hbl : Below w.heap.size w (w.alloc (.cells #[.string ⟨#[97]⟩, .int .i64 1, .int .i64 0, .int .i64 0, .int .i64 0, .int .i64 0, .int .i64 0, .slice none 0 0, .slice none 0 0, .slice none 0 0, .int .i64 0, .int .u64 0, .int .u64 0, .bool false, .int .i64 0, .int .i64 0, .string ⟨#[120]⟩, .string ⟨#[]⟩, .int .i64 0, .int .i64 0] 39)) := gr_alloc (Below.refl _ _) _
  have hq : BlkIs (w.alloc (.cells #[.string ⟨#[97]⟩, .int .i64 1, .int .i64 0, .int .i64 0, .int .i64 0, .int .i64 0, .int .i64 0, .slice none 0 0, .slice none 0 0, .slice none 0 0, .int .i64 0, .int .u64 0, .int .u64 0, .bool false, .int .i64 0, .int .i64 0, .string ⟨#[120]⟩, .string ⟨#[]⟩, .int .i64 0, .int .i64 0] 39)) w.heap.size 39 #[.string ⟨#[97]⟩, .int .i64 1, .int .i64 0, .int .i64 0, .int .i64 0, .int .i64 0, .int .i64 0, .slice none 0 0, .slice none 0 0, .slice none 0 0, .int .i64 0, .int .u64 0, .int .u64 0, .bool false, .int .i64 0, .int .i64 0, .string ⟨#[120]⟩, .string ⟨#[]⟩, .int .i64 0, .int .i64 0] := BlkIs.made _ _ _
  refine (HP.out _ hbl).mono ?_
  rintro e w1 ⟨rfl, hb1⟩
  replace hbl := gr_call hbl hb1
  replace hq := hq.kept hb1 hq.size
  clear hb1 HP hbd
  go_wp2_with (with_reducible (show wpList _ _ _ (Oper.mk _ (Op.load 39 _) _ _ _ _ :: _) _ _); refine wpList_loadB (by simp [Region.wanted, yielded, go_sem]) 39 (.tmp 1) rfl w.heap.size (by simp [Act.eval, go_sem]) 39 _ hq (by kernel_rfl) (by kernel_rfl) ?_)
  refine (HM.out _ hbl).mono ?_
  rintro e w2 ⟨rfl, hb2⟩
  replace hbl := gr_call hbl hb2
  replace hq := hq.kept hb2 hq.size
  clear hb2 HM
  go_wp2_with (with_reducible (show wpList _ _ _ (Oper.mk _ (Op.load 39 _) _ _ _ _ :: _) _ _); refine wpList_loadB (by simp [Region.wanted, yielded, go_sem]) 39 (.tmp 1) rfl w.heap.size (by simp [Act.eval, go_sem]) 39 _ hq (by kernel_rfl) (by kernel_rfl) ?_)
  refine (HT.out _ hbl).mono ?_
  rintro e w3 ⟨rfl, hb3⟩
  replace hbl := gr_call hbl hb3
  clear hb3 HT hq
  go_wp2_with fail
  go_ret
  exact ⟨rfl, hbl⟩
end Go.Proofs.YtbhnhoenjoagbaaGreatDoor
