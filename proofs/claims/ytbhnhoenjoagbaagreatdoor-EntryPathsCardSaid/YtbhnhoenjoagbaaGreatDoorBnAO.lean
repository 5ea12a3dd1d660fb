/- Bundle of 4 texts. -/
import Derived.Test.YtbhnhoenjoagbaaGreatDoorBnAN
import Derived.Test.YtbhnhoenjoagbaaGreatDoorKit
import Derived.Lib.ConvBytes
import Derived.Test.YtbhnhoenjoagbaaGreatDoorBnAN
import Derived.Test.YtbhnhoenjoagbaaGreatDoorBnAH
import Derived.Test.YtbhnhoenjoagbaaGreatDoorShelf
import Derived.Lib.LaidTab
import Derived.Lib.AppendIntMem
import Derived.Lib.ItoaMem
import Derived.Lib.SplitLaws
/- Walks over package acl: May, Mode, From, Same. -/
namespace Go.Proofs.YtbhnhoenjoagbaaGreatDoor.AclW
open Go.RowKit
open AclM
set_option linter.unusedVariables false

theorem may_any (v : Value) (l : List Ace) (w : World) (hat : At aceE v l w) (hl : l.length ≤ 1000000) :
    Calls Tryz.prog 133 #[v] w fun e w' => e = .returned (.bool (may l)) ∧ Below w.heap.size w w' := by
  have q1 := Lib.hid (mayParts_any v l w hat hl)
  have q2 := Lib.hid (fun w' (hb : Below w.heap.size w w') => mayOrder_any v l w' (hat.call hb) hl)
  have q3 := Lib.hid (fun w' (hb : Below w.heap.size w w') => mayTags_any v l w' (hat.call hb) hl)
  unfold may
  obtain ⟨p, cap, rfl, hcap⟩ := hat.shape
  obtain ⟨z, hz⟩ : ∃ z, l.length = z := ⟨_, rfl⟩
  rw [hz] at q1 q2 q3 hl ⊢
  generalize l.all okPart = b1 at *
  generalize order l = b2 at *
  generalize tags l = b3 at *
  clear hat hcap hz
  have hbl := Below.refl w.heap.size w
  by_cases h32 : z ≤ 32
  · have f1 : decide ((z : Int) ≤ 32) = true := decide_eq_true (by omega)
    have f2 : decide (z ≤ 32) = true := decide_eq_true h32
    rw [f2]
    rcases b1 with _ | _
    · go_enter Tryz.func133, Tryz.ntmps133
      go_wp2_with fail
      refine (q1.out).mono ?_
      rintro e w1 ⟨rfl, hb1⟩
      go_wp2_with fail
      go_ret
      exact ⟨rfl, hb1⟩
    · rcases b2 with _ | _
      · go_enter Tryz.func133, Tryz.ntmps133
        go_wp2_with fail
        refine (q1.out).mono ?_
        rintro e w1 ⟨rfl, hb1⟩
        go_wp2_with fail
        refine (q2.out _ hb1).mono ?_
        rintro e w2 ⟨rfl, hb2⟩
        go_wp2_with fail
        go_ret
        exact ⟨rfl, gr_call hb1 hb2⟩
      · go_enter Tryz.func133, Tryz.ntmps133
        go_wp2_with fail
        refine (q1.out).mono ?_
        rintro e w1 ⟨rfl, hb1⟩
        go_wp2_with fail
        refine (q2.out _ hb1).mono ?_
        rintro e w2 ⟨rfl, hb2⟩
        replace hb2 := gr_call hb1 hb2
        clear hb1
        go_wp2_with fail
        refine (q3.out _ hb2).mono ?_
        rintro e w3 ⟨rfl, hb3⟩
        replace hb3 := gr_call hb2 hb3
        clear hb2
        go_wp2_with fail
        go_ret
        exact ⟨rfl, hb3⟩
  · have f1 : decide ((z : Int) ≤ 32) = false := decide_eq_false (by omega)
    have f2 : decide (z ≤ 32) = false := decide_eq_false h32
    rw [f2]
    go_enter Tryz.func133, Tryz.ntmps133
    go_wp2_with fail
    go_ret
    exact ⟨rfl, Below.refl _ _⟩

/-! ### Mode -/
def permN (l : List Ace) (t : Int) : Int := if findN t l 0 < 0 then 0 else (l.getD (findN t l 0).toNat (0, 0, 0)).2.2
theorem findN_in (t : Int) : ∀ (l : List Ace) (i : Nat), findN t l i = -1 ∨ ∃ k, k < l.length ∧ findN t l i = ((i + k : Nat) : Int)
  | [], i => .inl rfl
  | a :: l, i => by
    unfold findN
    by_cases h : a.1 = t
    · rw [if_pos h]; exact .inr ⟨0, by simp, by simp⟩
    · rw [if_neg h]
      rcases findN_in t l (i + 1) with h1 | ⟨k, h1, h2⟩
      · exact .inl h1
      · exact .inr ⟨k + 1, by simpa using h1, by rw [h2]; congr 1; omega⟩
def modeL (l : List Ace) : Int := 64 * permN l 1 + 8 * permN l (if has l 5 = true then 5 else 3) + permN l 6
theorem permN_in {l : List Ace} (h : ∀ a ∈ l, okPart a = true) (t : Int) : 0 ≤ permN l t ∧ permN l t ≤ 7 := by
  unfold permN
  rcases findN_in t l 0 with h1 | ⟨k, h1, h2⟩
  · rw [h1, if_pos (by decide)]; decide
  · rw [h2, if_neg (by omega)]
    have := okPart_iff (h l[k] (List.getElem_mem h1))
    simp only [Nat.zero_add, Int.toNat_natCast, List.getD, List.getElem?_eq_getElem h1, Option.getD_some]
    omega
set_option maxHeartbeats 800000 in
theorem permOf_any (v : Value) (l : List Ace) (t : Int) (w : World) (hat : At aceE v l w) (hl : l.length ≤ 1000000) :
    Calls Tryz.prog 316 #[v, .int .i64 t] w fun e w' => e = .returned (.int .i64 (permN l t)) ∧ Below w.heap.size w w' := by
  have hf := Lib.hid (find_any v l t w hat hl)
  unfold permN
  rcases findN_in t l 0 with h1 | ⟨k, h1, h2⟩
  · rw [h1] at hf ⊢
    clear h1
    rw [if_pos (by decide)]
    go_enter Tryz.func316, Tryz.ntmps316
    go_wp2_with fail
    refine (hf.out).mono ?_
    rintro e w1 ⟨rfl, hb1⟩
    go_wp2_with fail
    go_ret
    exact ⟨rfl, hb1⟩
  · rw [h2] at hf ⊢
    rw [Nat.zero_add] at hf ⊢
    rw [if_neg (by omega), Int.toNat_natCast]
    obtain ⟨p, cap, rfl, hcap, hcell⟩ := ace_look hat
    obtain ⟨g, off, rfl, hg, c0, c1, c2⟩ := hcell k h1
    have e1 : (l.getD k (0, 0, 0)).2.2 = l[k].2.2 := by simp [List.getD, h1]
    rw [e1]
    generalize l[k].2.2 = q at *
    have hk : decide ((k : Int) < 0) = false := decide_eq_false (by omega)
    have hlt : decide (k < l.length) = true := decide_eq_true h1
    clear hcell c0 c1 hat h2 e1
    generalize l.length = z at *
    have hlt' : decide ((k : Int) < (z : Int)) = true := decide_eq_true (by omega)
    go_enter Tryz.func316, Tryz.ntmps316
    go_wp2_with fail
    refine (hf.out).mono ?_
    rintro e w1 ⟨rfl, hb1⟩
    have c3 := cell_kept hb1 c2
    go_wp2_with fail
    go_ret
    exact ⟨rfl, hb1⟩
theorem mode_any (v : Value) (l : List Ace) (w : World) (hat : At aceE v l w) (hl : l.length ≤ 1000000) (hok : ∀ a ∈ l, okPart a = true) :
    Calls Tryz.prog 279 #[v] w fun e w' => e = .returned (.int .i64 (modeL l)) ∧ Below w.heap.size w w' := by
  have q0 := Lib.hid (has_any v l 5 w hat hl)
  have q := Lib.hid (fun t w' (hb : Below w.heap.size w w') => permOf_any v l t w' (hat.call hb) hl)
  unfold modeL
  have r1 := permN_in hok 1
  have r6 := permN_in hok 6
  have q1 := Lib.hid (q.out 1)
  have q6 := Lib.hid (q.out 6)
  obtain ⟨t, ht⟩ : ∃ t : Int, (if has l 5 = true then (5 : Int) else 3) = t := ⟨_, rfl⟩
  rw [ht]
  have r2 := permN_in hok t
  have q2 := Lib.hid (q.out t)
  generalize permN l 1 = p1 at *
  generalize permN l 6 = p6 at *
  generalize permN l t = p2 at *
  clear q
  rcases hb : has l 5 with _ | _ <;> rw [hb] at q0 ht
  all_goals
    simp at ht
    subst ht
    clear hb hok
    go_enter Tryz.func279, Tryz.ntmps279
    go_wp2_with fail
    refine (q0.out).mono ?_
    rintro e w1 ⟨rfl, hb1⟩
    go_wp2_with fail
    refine (q1.out _ hb1).mono ?_
    rintro e w2 ⟨rfl, hb2⟩
    replace hb2 := gr_call hb1 hb2
    clear hb1
    go_wp2_with fail
    refine (q2.out _ hb2).mono ?_
    rintro e w3 ⟨rfl, hb3⟩
    replace hb3 := gr_call hb2 hb3
    clear hb2
    go_wp2_with fail
    refine (q6.out _ hb3).mono ?_
    rintro e w4 ⟨rfl, hb4⟩
    replace hb4 := gr_call hb3 hb4
    clear hb3
    go_wp2_with fail
    go_ret
    exact ⟨rfl, hb4⟩
theorem and7 (n : Int) : bits .and .i64 n 7 = n % 8 := by
  have key : (BitVec.ofInt 64 n &&& BitVec.ofInt 64 7).toNat = (n % ((2 ^ 64 : Nat) : Int)).toNat % 2 ^ 3 := by
    rw [BitVec.toNat_and, BitVec.toNat_ofInt, show (BitVec.ofInt 64 7).toNat = 2 ^ 3 - 1 by decide, Nat.and_two_pow_sub_one_eq_mod]
  show IntKind.i64.wrap ((BitVec.ofInt 64 n &&& BitVec.ofInt 64 7).toNat : Int) = _
  rw [key, IntKind.wrap_i64]
  omega
end Go.Proofs.YtbhnhoenjoagbaaGreatDoor.AclW

/- []byte(s): a block whose first cells are the bytes; its mark lies behind them. -/
namespace Go.Proofs.YtbhnhoenjoagbaaGreatDoor
open Go.RowKit

/-- Block g begins with the bytes l (more may stand behind); none of these is frozen. -/
def RowIs (w : World) (g : Nat) (t : TypeId) (l : List UInt8) : Prop :=
  ∃ (cs : Array Value) (fr : Nat × Nat), w.heap[g]? = some (.cells cs t fr) ∧ (fr = (0, 0) ∨ l.length ≤ fr.1) ∧ ∀ i (h : i < l.length), cs[i]? = some (.int .u8 (l[i].toNat : Int))

theorem RowIs.cell {w : World} {g : Nat} {t : TypeId} {l : List UInt8} (h : RowIs w g t l) (i : Nat) (hi : i < l.length) : w.cell? ⟨g, i, none⟩ = some (.int .u8 (l[i].toNat : Int)) := by
  obtain ⟨cs, fr, h1, _, h3⟩ := h
  rw [cell_of_row w g i cs t fr h1, h3 i hi]
theorem RowIs.free {w : World} {g : Nat} {t : TypeId} {l : List UInt8} (h : RowIs w g t l) (i : Nat) (hi : i < l.length) : w.frozen? ⟨g, i, none⟩ = false := by
  obtain ⟨cs, fr, h1, h2, h3⟩ := h
  simp [World.frozen?, h1]
  rcases h2 with rfl | h2
  · simp
  · omega
theorem RowIs.put {w : World} {g : Nat} {t : TypeId} {l : List UInt8} (h : RowIs w g t l) (i : Nat) (b : UInt8) : RowIs (w.setCell ⟨g, i, none⟩ (.int .u8 (b.toNat : Int))) g t (l.set i b) := by
  obtain ⟨cs, fr, h1, h2, h3⟩ := h
  refine ⟨cs.setIfInBounds i (.int .u8 (b.toNat : Int)), fr, by simp [World.setCell, Array.getElem?_modify, h1], by simpa using h2, ?_⟩
  intro j hj
  have hj' : j < l.length := by simpa using hj
  have h4 := h3 j hj'
  have hjc : j < cs.size := (Array.getElem?_eq_some_iff.1 h4).1
  rw [List.getElem_set]
  by_cases e : i = j
  · subst e
    simp [hjc]
  · rw [if_neg e, Array.getElem?_setIfInBounds_ne e]
    exact h4
theorem RowIs.size {w : World} {g : Nat} {t : TypeId} {l : List UInt8} (h : RowIs w g t l) : g < w.heap.size := by
  obtain ⟨cs, fr, h1, _⟩ := h
  exact (Array.getElem?_eq_some_iff.1 h1).1
theorem RowIs.kept {w w' : World} {g : Nat} {t : TypeId} {l : List UInt8} {B : Nat} (h : RowIs w g t l) (hb : Below B w w') (hg : g < B) : RowIs w' g t l := by
  obtain ⟨cs, fr, h1, h2, h3⟩ := h
  exact ⟨cs, fr, (hb.block g hg).trans h1, h2, h3⟩
theorem RowIs.alloc {w : World} {g : Nat} {t : TypeId} {l : List UInt8} (h : RowIs w g t l) (o : Obj) : RowIs (w.alloc o) g t l := by
  have hs := h.size
  obtain ⟨cs, fr, h1, h2, h3⟩ := h
  exact ⟨cs, fr, (Below.heap_alloc w o g hs).trans h1, h2, h3⟩
theorem RowIs.of (w : World) (t : TypeId) (s : ByteArray) : RowIs (Lib.bytesWorld w t s) w.heap.size t s.data.toList := by
  refine ⟨_, _, Lib.bytesWorld_at_new w t s, .inr ?_, ?_⟩
  · simp [Lib.bytesCells]
  · intro i hi
    have hi' : i < s.size := by simpa using hi
    have h := Lib.bytesWorld_cell w t s i hi'
    rw [World.cell?] at h
    simp [Lib.bytesWorld_at_new] at h
    rw [h]
    simp [hi']
theorem RowIs.back {P : Program} {w : World} {g : Nat} {t src dst : TypeId} {l : List UInt8} (cap : Nat) (h : RowIs w g t l) (hs : P.underlying src = some (.slice t)) (he : P.underlying t = some (.int .u8)) (hd : P.underlying dst = some .string) :
    (convert src dst (.slice (some ⟨g, 0, none⟩) l.length cap)).run P w = .ok (.string ⟨l.toArray⟩) w :=
  run_convert_bytes_back w src dst t ⟨g, 0, none⟩ cap l hs he hd (fun j hj => by rw [addr_zero_add]; exact h.cell j hj)
theorem below_bytesWorld {B : Nat} {a w : World} (h : Below B a w) (hB : B ≤ w.heap.size) (t : TypeId) (s : ByteArray) : Below B a (Lib.bytesWorld w t s) :=
  h.trans ⟨rfl, rfl, rfl, by rw [Lib.bytesWorld_size]; omega, fun k hk => Lib.bytesWorld_at_old w t s k (by omega)⟩
end Go.Proofs.YtbhnhoenjoagbaaGreatDoor

/- A list of strings in memory. -/
namespace Go.Proofs.YtbhnhoenjoagbaaGreatDoor.AclW
open Go.RowKit
open AclM
set_option linter.unusedVariables false

def strE : Elt (List UInt8) where
  t := 9
  st := 58
  k := 1
  z := .string ⟨#[]⟩
  bytes := 16
  enc l := [.string (strOf l)]
  len _ := rfl
  one _ u h := by simp at h; subst h; rfl
  pos := by decide
  und := Tryz.underlying58
  inf := by kernel_rfl
  zk := rfl
  small := by decide
theorem str_open {v : Value} {l : List (List UInt8)} {w : World} (h : At strE v l w) (hl : l ≠ []) :
    ∃ g off cap, v = .slice (some ⟨g, off, none⟩) l.length cap ∧ l.length ≤ cap ∧ g < w.heap.size ∧ ∀ j (h : j < l.length), w.cell? ⟨g, off + j, none⟩ = some (.string (strOf l[j])) := by
  obtain ⟨g, off, cap, h1, h2, h3, h4⟩ := h.open hl
  refine ⟨g, off, cap, h1, h2, h3, fun j hj => ?_⟩
  have e : off + (j * strE.k + 0) = off + j := by show off + (j * 1 + 0) = _; omega
  have a0 := h4 j hj 0 _ rfl
  rw [e] at a0
  exact a0
end Go.Proofs.YtbhnhoenjoagbaaGreatDoor.AclW

/- What the walks over access lists lean on in memory: four of the library's variables; they stay as they are whatever a call makes. -/
namespace Go.Proofs.YtbhnhoenjoagbaaGreatDoor.AclW
open Go.RowKit
open AclM
set_option linter.unusedVariables false

theorem below_drewN {B : Nat} {a w : World} (h : Below B a w) (n : Nat) : Below B a (w.drewN n) := ⟨h.os, h.tape, h.output, h.size, h.block⟩
theorem below_grown {B : Nat} {a w : World} (h : Below B a w) (hB : B ≤ w.heap.size) (k : Nat) (os : Array Obj) : Below B a (Go.Sort.grow (w.drewN k) os) := h.trans (Lib.below_grow B w hB k os)
/-- The library's calls, up to what they make. -/
theorem itoa_any (n : Int) (w : World) (hA : AmbB w) (h0 : -9223372036854775808 ≤ n) (h1 : n ≤ 9223372036854775807) :
    Calls Tryz.prog 65 #[.int .i64 n] w fun e w' => e = .returned (.string (strOf (Lib.itoa n))) ∧ Below w.heap.size w w' :=
  (Tryz.strconv_Itoa n h0 h1 w hA.tab).mono fun _ _ ⟨he, k, os, hw⟩ => ⟨by rw [he]; rfl, by rw [hw]; exact below_grown (Below.refl _ _) (Nat.le_refl _) k os⟩
theorem cut_any (s : ByteArray) (w : World) (hA : AmbB w) (hs : s.size < 4294967281) :
    Calls Tryz.prog 269 #[.string s, .string ⟨#[58]⟩] w fun e w' => (∃ b, e = .returned (.tuple #[.string (strOf (cutA 58 s.data.toList).1), .string (strOf (cutA 58 s.data.toList).2), .bool b])) ∧ Below w.heap.size w w' := by
  obtain ⟨m, hm⟩ := hA.len
  exact (Tryz.strings_Cut s ⟨#[58]⟩ m w hs hm).mono fun _ _ ⟨he, n, hw⟩ => ⟨⟨_, he⟩, by rw [hw]; exact below_drewN (Below.refl _ _) n⟩
theorem below_bytesWorld0 (w : World) (t : TypeId) (s : ByteArray) : Below w.heap.size w (Lib.bytesWorld w t s) :=
  ⟨rfl, rfl, rfl, by rw [Lib.bytesWorld_size]; omega, fun k hk => Lib.bytesWorld_at_old w t s k (by omega)⟩
/-- How Atoi ends. -/
def atoiEnd (l : List UInt8) (e : Ending) : Prop := match Lib.atoiAll l with
  | .ok n => e = .returned (.tuple #[.int .i64 n, .nilIface])
  | _ => ∃ m N, e = .returned (.tuple #[.int .i64 m, .iface 257 (.pointer (some ⟨N, 0, none⟩))])
theorem atoi_any (s : ByteArray) (hl : s.size ≤ 281474976710656) (w : World) (hA : AmbF w) :
    Calls Tryz.prog 214 #[.string s] w fun e w' => atoiEnd s.data.toList e ∧ Below w.heap.size w w' := by
  unfold atoiEnd
  rcases h : Lib.atoiAll s.data.toList with n | _ | _
  · refine (Tryz.strconv_Atoi_ok s (by omega) n h w).mono fun _ _ ⟨he, hw⟩ => ⟨he, ?_⟩
    rcases hw with rfl | ⟨t, rfl⟩
    · exact Below.refl _ _
    · exact below_bytesWorld0 _ _ _
  · obtain ⟨ev, hv, hev⟩ := hA.err
    exact (Tryz.strconv_Atoi_syntax s hl h ev w hv hev).mono fun _ _ ⟨N, he, _, _, hb⟩ => ⟨⟨_, N, he⟩, hb⟩
  · obtain ⟨ev, hv, hev⟩ := hA.rng
    exact (Tryz.strconv_Atoi_range s hl h ev w hv hev).mono fun _ _ ⟨N, he, _, _, hb⟩ => ⟨⟨_, N, he⟩, hb⟩
theorem split_any (s : ByteArray) (w : World) (hA : AmbB w) (hs : s.size < 4294967281) :
    Calls Tryz.prog 93 #[.string s, .string ⟨#[44]⟩] w fun e w' => (∃ v, e = .returned v ∧ At strE v (cutAt 44 s.data.toList) w') ∧ Below w.heap.size w w' := by
  obtain ⟨m, hm⟩ := hA.len
  refine (Tryz.strings_Split s ⟨#[44]⟩ m w hs hm (by decide)).mono fun _ _ ⟨he, hw⟩ => ?_
  have hd := Lib.splitB_data ⟨#[44]⟩ 0 (Lib.countB s ⟨#[44]⟩) s
  have hc : Lib.countB s ⟨#[44]⟩ = Lib.count s.data.toList [44] := rfl
  have hsp := lib_split 44 _ s.data.toList (Nat.le_refl _)
  rw [hc] at hd
  have hd2 : (Lib.splitB ⟨#[44]⟩ 0 (Lib.countB s ⟨#[44]⟩) s).map (·.data.toList) = cutAt 44 s.data.toList := by rw [hc, hd]; exact hsp
  have hlen := Lib.splitB_all ⟨#[44]⟩ (by decide) 0 _ s rfl
  generalize Lib.splitB ⟨#[44]⟩ 0 (Lib.countB s ⟨#[44]⟩) s = ps at hd2 hw hlen
  rw [← hlen] at he
  subst he hw
  refine ⟨⟨_, rfl, .inr ⟨w.heap.size, 0, ps.length, ?_, ?_, ?_, ?_⟩⟩, gr_alloc (Below.refl _ _) _⟩
  · rw [← hd2, List.length_map]
  · rw [← hd2, List.length_map]; exact Nat.le_refl _
  · simp
  · intro j hj i u hu
    have hi : i < 1 := (List.getElem?_eq_some_iff.1 hu).1
    obtain rfl : i = 0 := by omega
    cases hu
    have hj' : j < ps.length := by rw [← hd2, List.length_map] at hj; exact hj
    rw [show 0 + (j * strE.k + 0) = j by show 0 + (j * 1 + 0) = j; omega, World.cell?_alloc_new]
    have e : (cutAt 44 s.data.toList)[j] = ps[j].data.toList := by
      have := congrArg (fun q : List (List UInt8) => q[j]?) hd2
      simp only [List.getElem?_map, List.getElem?_eq_getElem hj', List.getElem?_eq_getElem hj, Option.map_some, Option.some.injEq] at this
      exact this.symm
    rw [e, strOf_self]
    simp [hj']
end Go.Proofs.YtbhnhoenjoagbaaGreatDoor.AclW
