/- Bundle of 2 texts. -/
import Derived.Test.YtbhnhoenjoagbaaGreatDoorHdPut
import Derived.Laws.Tables
import Derived.Test.YtbhnhoenjoagbaaGreatDoorPk02
/- Walks over package head: Split, Join; a path that is split, as plain mathematics. -/
namespace Go.Proofs.YtbhnhoenjoagbaaGreatDoor.HeadW
open Go.RowKit
open HeadM NumM
set_option linter.unusedVariables false

theorem empty_L (A : ByteArray) : A.toList.isEmpty = decide (L A = []) := by
  have e : A.toList = L A := Lib.toList_data A
  rw [e]
  cases L A <;> rfl
def _root_.Go.Proofs.YtbhnhoenjoagbaaGreatDoor.HeadM.slashAt (l : List UInt8) : Int := Lib.indexByte (l.drop (l.length - 101)) 47
def _root_.Go.Proofs.YtbhnhoenjoagbaaGreatDoor.HeadM.splitL (l : List UInt8) : Option (List UInt8 × List UInt8) :=
  if l.length ≤ 100 then some ([], l)
  else if slashAt l < 0 then none
  else
    let k := l.length - 101 + (slashAt l).toNat
    if k + 1 = l.length ∨ k = 0 ∨ 155 < k then none else some (l.take k, l.drop (k + 1))
def _root_.Go.Proofs.YtbhnhoenjoagbaaGreatDoor.HeadM.splitV (l : List UInt8) : Value := match splitL l with
  | some (p, n) => .tuple #[.string (strOf p), .string (strOf n), .bool true]
  | none => .tuple #[.string ⟨#[]⟩, .string ⟨#[]⟩, .bool false]

theorem split_short (S : ByteArray) (h : S.size ≤ 100) (w : World) :
    Calls Tryz.prog 83 #[.string S] w fun e w' => e = .returned (.tuple #[.string ⟨#[]⟩, .string S, .bool true]) ∧ Below w.heap.size w w' := by
  have h1 : (S.size : Int) ≤ 100 := by omega
  go_enter Tryz.func83, Tryz.ntmps83
  go_wp2_with fail
  exact bodyPost_ret (v := .tuple #[.string ⟨#[]⟩, .string S, .bool true]) (by simp [results, Tryz.results83, go_sem, *]) rfl ⟨rfl, by (repeat' (first | exact Below.refl _ _ | assumption | refine gr_drew ?_ | refine gr_drewN ?_ _ | refine gr_alloc ?_ _ | refine gr_set ?_ ?_ _ | refine gr_call ?_ (by assumption)) <;> (try (simp; done)) <;> (try (simp; omega)) <;> (try omega))⟩

set_option maxHeartbeats 1000000 in
theorem split_long (S : ByteArray) (h : 100 < S.size) (hl : S.size ≤ 8000) (w : World) :
    Calls Tryz.prog 83 #[.string S] w fun e w' => e = .returned (splitV (L S)) ∧ Below w.heap.size w w' := by
  obtain ⟨n, hn⟩ : ∃ n, S.size = n := ⟨_, rfl⟩
  obtain ⟨m, hm⟩ : ∃ m, n = m + 101 := ⟨n - 101, by omega⟩
  have hm2 : (n : Int) - 100 - 1 = (m : Int) := by omega
  have hm3 : 0 ≤ (m : Int) := by omega
  have hm4 : (m : Int) ≤ (n : Int) := by omega
  have hmn : m ≤ n := by omega
  have hT : L (S.extract m n) = (L S).drop m := by
    show (S.extract m n).data.toList = _
    rw [Lib.extract_data]
    have : S.data.toList = L S := rfl
    rw [this, List.take_of_length_le (by rw [List.length_drop, size_L]; omega)]
  have hi := fun w => indexByte_any (S.extract m n) 47 47 rfl w
  rw [hT] at hi
  have hsl : slashAt (L S) = Lib.indexByte ((L S).drop m) 47 := by
    unfold slashAt
    rw [size_L, hn, hm, Nat.add_sub_cancel]
  rw [← hsl] at hi
  have hV : splitV (L S) = splitV (L S) := rfl
  by_cases hneg : slashAt (L S) < 0
  · have hv : splitV (L S) = .tuple #[.string ⟨#[]⟩, .string ⟨#[]⟩, .bool false] := by
      unfold splitV splitL
      rw [size_L, if_neg (by omega), if_pos hneg]
    rw [hv]
    obtain ⟨j, hj⟩ : ∃ j, slashAt (L S) = j := ⟨_, rfl⟩
    rw [hj] at hi hneg
    replace hi := Lib.hid hi
    have h1 : ¬ (n : Int) ≤ 100 := by omega
    clear hT hsl hV hv hj hm
    have hn' : S.size = n := hn
    go_enter Tryz.func83, Tryz.ntmps83
    go_wp2_with fail
    refine (hi.out _).mono ?_
    rintro e w' ⟨rfl, rfl⟩
    go_wp2_with fail
    exact bodyPost_ret (v := .tuple #[.string ⟨#[]⟩, .string ⟨#[]⟩, .bool false]) (by simp [results, Tryz.results83, go_sem, *]) rfl ⟨rfl, by (repeat' (first | exact Below.refl _ _ | assumption | refine gr_drew ?_ | refine gr_drewN ?_ _ | refine gr_alloc ?_ _ | refine gr_set ?_ ?_ _ | refine gr_call ?_ (by assumption)) <;> (try (simp; done)) <;> (try (simp; omega)) <;> (try omega))⟩
  · obtain ⟨j, hj⟩ : ∃ j : Nat, slashAt (L S) = (j : Int) := ⟨(slashAt (L S)).toNat, by omega⟩
    have hat := (Lib.indexByte_some (hsl ▸ hj)).1
    have hjl : j < 101 := by
      have := (List.getElem?_eq_some_iff.1 hat).1
      rw [List.length_drop, size_L] at this
      omega
    obtain ⟨k, hk⟩ : ∃ k, m + j = k := ⟨_, rfl⟩
    have e1 : S.extract 0 k = strOf ((L S).take k) := by
      apply str_L
      show (S.extract 0 k).data.toList = _
      rw [Lib.extract_data]
      simp [L]
    have e2 : S.extract (k + 1) n = strOf ((L S).drop (k + 1)) := by
      apply str_L
      show (S.extract (k + 1) n).data.toList = _
      rw [Lib.extract_data]
      have : S.data.toList = L S := rfl
      rw [this, List.take_of_length_le (by rw [List.length_drop, size_L]; omega)]
    have hv : splitV (L S) = if k + 1 = n ∨ k = 0 ∨ 155 < k then .tuple #[.string ⟨#[]⟩, .string ⟨#[]⟩, .bool false] else .tuple #[.string (S.extract 0 k), .string (S.extract (k + 1) n), .bool true] := by
      unfold splitV splitL
      rw [size_L, if_neg (by omega), if_neg hneg, hj, e1, e2]
      have ek : n - 101 + ((j : Int)).toNat = k := by rw [hm, Nat.add_sub_cancel]; simpa using hk
      simp only [hn, ek]
      by_cases hc : k + 1 = n ∨ k = 0 ∨ 155 < k
      · rw [if_pos hc, if_pos hc]
      · rw [if_neg hc, if_neg hc]
    have hz1 : (S.extract 0 k).size = k := by rw [e1, strOf_sz, List.length_take, size_L]; omega
    have hz2 : (S.extract (k + 1) n).size = n - (k + 1) := by rw [e2, strOf_sz, List.length_drop, size_L, hn]
    clear e1 e2
    rw [hj] at hi
    replace hi := Lib.hid hi
    have hv := Lib.hid hv
    have h1 : ¬ (n : Int) ≤ 100 := by omega
    have hsum : (m : Int) + (j : Int) = (k : Int) := by omega
    have hk0 : 0 ≤ (k : Int) := by omega
    have hk1 : (k : Int) ≤ (n : Int) := by omega
    have hk2 : (k : Int) + 1 ≤ (n : Int) := by omega
    have hj0 : ¬ (j : Int) < 0 := by omega
    have hN1 : k ≤ n := by omega
    have hN2 : k + 1 ≤ n := by omega
    have p1 : (S.extract (k + 1) n).toList.isEmpty = decide (k + 1 = n) := by
      rw [empty_L]
      apply decide_eq_decide.2
      constructor
      · intro h2
        have h3 := congrArg List.length h2
        rw [size_L, hz2] at h3
        have : ([] : List UInt8).length = 0 := rfl
        omega
      · intro h2
        apply List.eq_nil_of_length_eq_zero
        rw [size_L, hz2]; omega
    have p2 : (S.extract 0 k).toList.isEmpty = decide (k = 0) := by
      rw [empty_L]
      apply decide_eq_decide.2
      constructor
      · intro h2
        have h3 := congrArg List.length h2
        rw [size_L, hz1] at h3
        exact h3
      · intro h2
        apply List.eq_nil_of_length_eq_zero
        rw [size_L, hz1, h2]
    clear hT hsl hV hat hm hneg hk hj
    have hcase : (k + 1 = n ∨ k = 0 ∨ 155 < k) ∨ (¬ k + 1 = n ∧ ¬ k = 0 ∧ ¬ 155 < k) := by omega
    have hfin : ∀ (c : Bool), decide (k + 1 = n ∨ k = 0 ∨ 155 < k) = c → splitV (L S) = if c = true then .tuple #[.string ⟨#[]⟩, .string ⟨#[]⟩, .bool false] else .tuple #[.string (S.extract 0 k), .string (S.extract (k + 1) n), .bool true] := by
      intro c hc
      rw [hv.out, ← hc]
      by_cases h5 : k + 1 = n ∨ k = 0 ∨ 155 < k
      · rw [if_pos h5, decide_eq_true h5]; rfl
      · rw [if_neg h5, decide_eq_false h5]; rfl
    by_cases c1 : k + 1 = n
    · have hf := Lib.hid (hfin true (decide_eq_true (Or.inl c1)))
      rw [decide_eq_true c1] at p1
      clear hv hfin hcase c1 p2
      go_enter Tryz.func83, Tryz.ntmps83
      go_wp2_with fail
      refine (hi.out _).mono ?_
      rintro e w' ⟨rfl, rfl⟩
      go_wp2_with fail
      go_quiet (fail)
      go_wp2_with fail
      rw [hf.out]
      exact bodyPost_ret (v := .tuple #[.string ⟨#[]⟩, .string ⟨#[]⟩, .bool false]) (by simp [results, Tryz.results83, go_sem, *]) rfl ⟨rfl, by (repeat' (first | exact Below.refl _ _ | assumption | refine gr_drew ?_ | refine gr_drewN ?_ _ | refine gr_alloc ?_ _ | refine gr_set ?_ ?_ _ | refine gr_call ?_ (by assumption)) <;> (try (simp; done)) <;> (try (simp; omega)) <;> (try omega))⟩
    rw [decide_eq_false c1] at p1
    by_cases c2 : k = 0
    · have hf := Lib.hid (hfin true (decide_eq_true (Or.inr (Or.inl c2))))
      rw [decide_eq_true c2] at p2
      clear hv hfin hcase c1 c2
      go_enter Tryz.func83, Tryz.ntmps83
      go_wp2_with fail
      refine (hi.out _).mono ?_
      rintro e w' ⟨rfl, rfl⟩
      go_wp2_with fail
      go_quiet (fail)
      go_wp2_with fail
      rw [hf.out]
      exact bodyPost_ret (v := .tuple #[.string ⟨#[]⟩, .string ⟨#[]⟩, .bool false]) (by simp [results, Tryz.results83, go_sem, *]) rfl ⟨rfl, by (repeat' (first | exact Below.refl _ _ | assumption | refine gr_drew ?_ | refine gr_drewN ?_ _ | refine gr_alloc ?_ _ | refine gr_set ?_ ?_ _ | refine gr_call ?_ (by assumption)) <;> (try (simp; done)) <;> (try (simp; omega)) <;> (try omega))⟩
    rw [decide_eq_false c2] at p2
    by_cases c3 : 155 < k
    · have hf := Lib.hid (hfin true (decide_eq_true (Or.inr (Or.inr c3))))
      have c3' : (155 : Int) < (k : Int) := by omega
      clear hv hfin hcase c1 c2 c3
      go_enter Tryz.func83, Tryz.ntmps83
      go_wp2_with fail
      refine (hi.out _).mono ?_
      rintro e w' ⟨rfl, rfl⟩
      go_wp2_with fail
      go_quiet (fail)
      go_wp2_with fail
      rw [hf.out]
      exact bodyPost_ret (v := .tuple #[.string ⟨#[]⟩, .string ⟨#[]⟩, .bool false]) (by simp [results, Tryz.results83, go_sem, *]) rfl ⟨rfl, by (repeat' (first | exact Below.refl _ _ | assumption | refine gr_drew ?_ | refine gr_drewN ?_ _ | refine gr_alloc ?_ _ | refine gr_set ?_ ?_ _ | refine gr_call ?_ (by assumption)) <;> (try (simp; done)) <;> (try (simp; omega)) <;> (try omega))⟩
    · have hf := Lib.hid (hfin false (decide_eq_false (by omega)))
      have c3' : ¬ (155 : Int) < (k : Int) := by omega
      clear hv hfin hcase c1 c2 c3
      go_enter Tryz.func83, Tryz.ntmps83
      go_wp2_with fail
      refine (hi.out _).mono ?_
      rintro e w' ⟨rfl, rfl⟩
      go_wp2_with fail
      go_quiet (fail)
      go_wp2_with fail
      rw [hf.out]
      exact bodyPost_ret (v := .tuple #[.string (S.extract 0 k), .string (S.extract (k + 1) n), .bool true]) (by simp [results, Tryz.results83, go_sem, *]) rfl ⟨rfl, by (repeat' (first | exact Below.refl _ _ | assumption | refine gr_drew ?_ | refine gr_drewN ?_ _ | refine gr_alloc ?_ _ | refine gr_set ?_ ?_ _ | refine gr_call ?_ (by assumption)) <;> (try (simp; done)) <;> (try (simp; omega)) <;> (try omega))⟩
theorem split_any (S : ByteArray) (hl : S.size ≤ 8000) (w : World) :
    Calls Tryz.prog 83 #[.string S] w fun e w' => e = .returned (splitV (L S)) ∧ Below w.heap.size w w' := by
  by_cases h : S.size ≤ 100
  · have hv : splitV (L S) = .tuple #[.string ⟨#[]⟩, .string S, .bool true] := by
      unfold splitV splitL
      rw [size_L, if_pos h]
      show Value.tuple #[.string (strOf []), .string (strOf (L S)), .bool true] = _
      rw [strOf_L]
      rfl
    rw [hv]
    exact split_short S h w
  · exact split_long S (by omega) hl w

theorem join_any (h : Hd) (w : World) (h1 : h.name.size ≤ 1000000) (h2 : h.pre.size ≤ 1000000) :
    Calls Tryz.prog 162 #[.agg #[.string h.name, .int .i64 h.mode, .int .i64 h.uid, .int .i64 h.gid, .int .i64 h.size, .int .i64 h.mtime, .int .u8 (h.typ.toNat : Int), .string h.link, .string h.uname, .string h.gname, .int .i64 h.major, .int .i64 h.minor, .string h.pre]] w fun e w' => e = .returned (.string (strOf (if L h.pre = [] then L h.name else L h.pre ++ (47 :: L h.name)))) ∧ Below w.heap.size w w' := by
  have hp : h.pre.toList.isEmpty = decide (L h.pre = []) := empty_L _
  have hz : (⟨#[47]⟩ : ByteArray).size = 1 := rfl
  by_cases hc : L h.pre = []
  · rw [decide_eq_true hc] at hp
    rw [if_pos hc, strOf_L]
    clear hc
    go_enter Tryz.func162, Tryz.ntmps162
    go_wp2_with fail
    go_ret
    exact ⟨rfl, by (repeat' (first | exact Below.refl _ _ | assumption | refine gr_drew ?_ | refine gr_drewN ?_ _ | refine gr_alloc ?_ _ | refine gr_set ?_ ?_ _ | refine gr_call ?_ (by assumption)) <;> (try (simp; done)) <;> (try (simp; omega)) <;> (try omega))⟩
  · rw [decide_eq_false hc] at hp
    rw [if_neg hc]
    have HE := Lib.hid (show h.pre ++ ⟨#[47]⟩ ++ h.name = strOf (L h.pre ++ (47 :: L h.name)) from by
      apply str_L
      rw [L_app, L_app]
      have : L (ByteArray.mk #[47]) = [47] := rfl
      rw [this]
      simp)
    have q1 : ¬ 9223372036854775807 < h.pre.size + 1 := by omega
    have q2 : ¬ 9223372036854775807 < h.pre.size + 1 + h.name.size := by omega
    clear hc
    go_enter Tryz.func162, Tryz.ntmps162
    go_wp2_with fail
    go_ret
    exact ⟨ret_str HE.out, by (repeat' (first | exact Below.refl _ _ | assumption | refine gr_drew ?_ | refine gr_drewN ?_ _ | refine gr_alloc ?_ _ | refine gr_set ?_ ?_ _ | refine gr_call ?_ (by assumption)) <;> (try (simp; done)) <;> (try (simp; omega)) <;> (try omega))⟩
end Go.Proofs.YtbhnhoenjoagbaaGreatDoor.HeadW

/- Walks over the document's answer for package num. -/
namespace Go.Proofs.YtbhnhoenjoagbaaGreatDoor.HeadW
open Go.RowKit
open NumM

theorem digs_more (j n : Nat) : (⟨#[UInt8.ofNat (48 + n / 8 ^ j % 8)]⟩ : ByteArray) ++ ⟨(digs j n).toArray⟩ = ⟨(digs (j + 1) n).toArray⟩ := by
  rw [digs_cons, ByteArray.mk_append_mk]
  simp
def saidOf (o : Option (List UInt8)) : Value := .agg #[.string (bstr o), .bool o.isSome]
def strLen : Value → Nat | .string s => s.size | _ => 0

structure OctAt (n d : Nat) (S : ByteArray) : Prop where
  dig : S = ⟨(digs S.size n).toArray⟩
  far : d < S.size → 0 < n / 8 ^ (S.size - 1)
  few : S.size ≤ 22
theorem OctAt.start (n d : Nat) : OctAt n d ByteArray.empty := ⟨rfl, fun h => by simp at h, by simp⟩
theorem OctAt.next {n d : Nat} {S : ByteArray} (h : OctAt n d S) (hn : n < 9223372036854775808) (hd : d ≤ 20) (hgo : 0 < n / 8 ^ S.size ∨ S.size < d) :
    OctAt n d ((⟨#[UInt8.ofNat (48 + n / 8 ^ S.size % 8)]⟩ : ByteArray) ++ S) ∧ ((⟨#[UInt8.ofNat (48 + n / 8 ^ S.size % 8)]⟩ : ByteArray) ++ S).size = S.size + 1 := by
  have hsz : ((⟨#[UInt8.ofNat (48 + n / 8 ^ S.size % 8)]⟩ : ByteArray) ++ S).size = S.size + 1 := by
    rw [ByteArray.size_append]; show 1 + S.size = _; omega
  refine ⟨⟨?_, ?_, ?_⟩, hsz⟩
  · rw [hsz, ← digs_more]
    congr 1
    exact h.dig
  · rw [hsz]
    intro hlt
    rcases hgo with hgo | hgo
    · exact hgo
    · omega
  · rw [hsz]
    rcases hgo with hgo | hgo
    · have h1 : 8 ^ S.size ≤ n := by
        rcases Nat.lt_or_ge n (8 ^ S.size) with h | h
        · rw [Nat.div_eq_of_lt h] at hgo; omega
        · exact h
      have h2 : S.size < 22 := by
        rcases Nat.lt_or_ge S.size 22 with h | h
        · exact h
        · have h3 := Nat.pow_le_pow_right (n := 8) (by decide) h
          have h4 : 8 ^ 22 = 73786976294838206464 := by decide
          omega
      omega
    · omega
theorem OctAt.done_small {n d : Nat} {S : ByteArray} (h : OctAt n d S) (hn : n < 8 ^ d) (h0 : d ≤ S.size) : S.size = d ∧ S ++ ⟨#[0]⟩ = ⟨(digs d n ++ [0]).toArray⟩ := by
  have he : S.size = d := by
    rcases Nat.lt_or_ge d S.size with hlt | hge
    · have h1 := h.far hlt
      have h2 : 8 ^ d ≤ 8 ^ (S.size - 1) := Nat.pow_le_pow_right (by decide) (by omega)
      rw [Nat.div_eq_of_lt (by omega)] at h1
      omega
    · omega
  refine ⟨he, ?_⟩
  rw [h.dig, he, ByteArray.mk_append_mk]
theorem OctAt.done_big {n d : Nat} {S : ByteArray} (_h : OctAt n d S) (hn : 8 ^ d ≤ n) (hz : n / 8 ^ S.size = 0) : d < S.size := by
  rcases Nat.lt_or_ge d S.size with hlt | hge
  · exact hlt
  · have h1 : 8 ^ S.size ≤ 8 ^ d := Nat.pow_le_pow_right (by decide) hge
    have h2 : 0 < n / 8 ^ S.size := Nat.div_pos (by omega) (Nat.pow_pos (by decide))
    omega

theorem refOct8_any (n : Nat) (w : World) (hn : n < 9223372036854775808) :
    Calls Tryz.prog 96 #[.int .i64 n, .int .i64 8] w fun e w' => e = .returned (saidOf (octO n 8)) ∧ Below w.heap.size w w' := by
  have h3 : decide ((n : Int) < 0) = false := by simp
  have hn' : (n : Int) ≤ 9223372036854775807 := by omega
  have Hn := Lib.hid hn; clear hn
  go_enter Tryz.func96, Tryz.ntmps96
  go_wp2_with fail
  go_loopw [0, 5] (fun nv sv wr => ∃ S : ByteArray, sv = .string S ∧ nv = .int .i64 ((n / 8 ^ S.size : Nat) : Int) ∧ OctAt n 7 S ∧ BlkIs wr w.heap.size 72 #[.string { data := #[] }, .bool false] ∧ Below w.heap.size w wr) (fun nv sv _ => (intOf nv).toNat + (7 - strLen sv))
  case atStart => exact ⟨ByteArray.empty, rfl, by simp, OctAt.start _ _, BlkIs.made _ _ _, (Below.refl _ _).alloc (Nat.le_refl _) _⟩
  case round =>
    obtain ⟨S, rfl, hnv, hS, hb, hbl⟩ := hrel
    have hfew := hS.few
    by_cases hgo : 0 < n / 8 ^ S.size ∨ S.size < 7
    · have hx := hS.next Hn.out (by decide) hgo
      have hm : n / 8 ^ S.size ≤ n := Nat.div_le_self _ _
      have Hnx := Lib.hid (show n / 8 ^ (S.size + 1) = n / 8 ^ S.size / 8 by rw [Nat.div_div_eq_div_mul, Nat.pow_succ])
      have hu : (48 + ((n / 8 ^ S.size : Nat) : Int) % 8) = ((UInt8.ofNat (48 + n / 8 ^ S.size % 8)).toNat : Int) := by simp; omega
      generalize UInt8.ofNat (48 + n / 8 ^ S.size % 8) = u at *
      have hcv := fun W => conv_one (P := Tryz.prog) (src := 49) (dst := 9) Tryz.underlying49 Tryz.underlying5 Tryz.underlying9 u (48 + ((n / 8 ^ S.size : Nat) : Int) % 8) hu W
      have hbs := hb.size
      have Hx := Lib.hid hx
      clear hS hx hu
      generalize n / 8 ^ S.size = m at *
      subst hnv
      have Hb := hb.alloc (.cells #[.int .u8 (48 + (m : Int) % 8)] 5)
      have Hbl := hbl.alloc (Nat.le_of_lt hbs) (.cells #[.int .u8 (48 + (m : Int) % 8)] 5)
      by_cases hpos : 0 < m
      · clear hgo
        go_wp2
        all_goals
          go_roundw
          case rel => exact ⟨_, rfl, by rw [Hx.out.2, Hnx.out]; go_num, Hx.out.1, Hb, Hbl⟩
          case measure => have := Hx.out.2; simp [intOf, strLen, this]; omega
      · obtain rfl : m = 0 := by omega
        have hlt : (S.size : Int) < 7 := by omega
        simp only [show (48 + ((0 : Nat) : Int) % 8) = 48 from rfl] at hcv Hb Hbl
        go_wp2
        all_goals
          go_roundw
          case rel => exact ⟨_, rfl, by rw [Hx.out.2, Hnx.out]; rfl, Hx.out.1, Hb, Hbl⟩
          case measure => have := Hx.out.2; simp [intOf, strLen, this]; omega
    · have hm0 : n / 8 ^ S.size = 0 := Nat.eq_zero_of_not_pos fun h => hgo (.inl h)
      have hge : 7 ≤ S.size := by omega
      rw [hm0] at hnv
      subst hnv
      have h1 : decide ((S.size : Int) < 7) = false := decide_eq_false (by omega)
      have hc0 := hb.cell_some 0 (.string { data := #[] }) rfl
      have hc1 := hb.cell_some 1 (.bool false) rfl
      have hf0 := hb.free 0
      have hf1 := hb.free 1
      by_cases hbig : 8 ^ 7 ≤ n
      · have hS1 := hS.done_big hbig hm0
        have h2 : decide ((8 : Int) ≤ S.size) = true := decide_eq_true (by omega)
        clear hS1
        have hbi : (8 : Int) ^ 7 ≤ n := by exact_mod_cast hbig
        have Ho := Lib.hid (show octO n 8 = none from octO_big _ _ hbi)
        clear hbi
        clear hgo hm0 hS hb hbig hge
        go_wp2
        refine bodyPost_ret (v := .agg #[.string { data := #[] }, .bool false]) (by simp [results, Tryz.results96, go_sem, hc0, hc1]) rfl ⟨?_, ?_⟩
        · rw [saidOf, Ho.out]; rfl
        · exact (hbl.setCell (Nat.le_refl _) _).setCell (Nat.le_refl _) _
      · have hS1 := hS.done_small (by omega) hge
        have h2 : decide ((8 : Int) ≤ S.size) = false := decide_eq_false (by omega)
        have Ho := Lib.hid (show octO n 8 = some (digs 7 n ++ [0]) by
          have : (n : Int) < 8 ^ 7 := by exact_mod_cast (show n < 8 ^ 7 by omega)
          simp [octO, isW]; exact this)
        have Hd := Lib.hid hS1.2
        clear hgo hm0 hS hb hbig hS1 hge
        go_wp2
        refine bodyPost_ret (v := .agg #[.string (S ++ { data := #[0] }), .bool true]) (by simp [results, Tryz.results96, go_sem, hc0, hc1]) rfl ⟨?_, ?_⟩
        · rw [saidOf, Ho.out, Hd.out]; rfl
        · exact (hbl.setCell (Nat.le_refl _) _).setCell (Nat.le_refl _) _

theorem refOct12_any (n : Nat) (w : World) (hn : n < 9223372036854775808) :
    Calls Tryz.prog 96 #[.int .i64 n, .int .i64 12] w fun e w' => e = .returned (saidOf (octO n 12)) ∧ Below w.heap.size w w' := by
  have h3 : decide ((n : Int) < 0) = false := by simp
  have hn' : (n : Int) ≤ 9223372036854775807 := by omega
  have Hn := Lib.hid hn; clear hn
  go_enter Tryz.func96, Tryz.ntmps96
  go_wp2_with fail
  go_loopw [0, 5] (fun nv sv wr => ∃ S : ByteArray, sv = .string S ∧ nv = .int .i64 ((n / 8 ^ S.size : Nat) : Int) ∧ OctAt n 11 S ∧ BlkIs wr w.heap.size 72 #[.string { data := #[] }, .bool false] ∧ Below w.heap.size w wr) (fun nv sv _ => (intOf nv).toNat + (11 - strLen sv))
  case atStart => exact ⟨ByteArray.empty, rfl, by simp, OctAt.start _ _, BlkIs.made _ _ _, (Below.refl _ _).alloc (Nat.le_refl _) _⟩
  case round =>
    obtain ⟨S, rfl, hnv, hS, hb, hbl⟩ := hrel
    have hfew := hS.few
    by_cases hgo : 0 < n / 8 ^ S.size ∨ S.size < 11
    · have hx := hS.next Hn.out (by decide) hgo
      have hm : n / 8 ^ S.size ≤ n := Nat.div_le_self _ _
      have Hnx := Lib.hid (show n / 8 ^ (S.size + 1) = n / 8 ^ S.size / 8 by rw [Nat.div_div_eq_div_mul, Nat.pow_succ])
      have hu : (48 + ((n / 8 ^ S.size : Nat) : Int) % 8) = ((UInt8.ofNat (48 + n / 8 ^ S.size % 8)).toNat : Int) := by simp; omega
      generalize UInt8.ofNat (48 + n / 8 ^ S.size % 8) = u at *
      have hcv := fun W => conv_one (P := Tryz.prog) (src := 49) (dst := 9) Tryz.underlying49 Tryz.underlying5 Tryz.underlying9 u (48 + ((n / 8 ^ S.size : Nat) : Int) % 8) hu W
      have hbs := hb.size
      have Hx := Lib.hid hx
      clear hS hx hu
      generalize n / 8 ^ S.size = m at *
      subst hnv
      have Hb := hb.alloc (.cells #[.int .u8 (48 + (m : Int) % 8)] 5)
      have Hbl := hbl.alloc (Nat.le_of_lt hbs) (.cells #[.int .u8 (48 + (m : Int) % 8)] 5)
      by_cases hpos : 0 < m
      · clear hgo
        go_wp2
        all_goals
          go_roundw
          case rel => exact ⟨_, rfl, by rw [Hx.out.2, Hnx.out]; go_num, Hx.out.1, Hb, Hbl⟩
          case measure => have := Hx.out.2; simp [intOf, strLen, this]; omega
      · obtain rfl : m = 0 := by omega
        have hlt : (S.size : Int) < 11 := by omega
        simp only [show (48 + ((0 : Nat) : Int) % 8) = 48 from rfl] at hcv Hb Hbl
        go_wp2
        all_goals
          go_roundw
          case rel => exact ⟨_, rfl, by rw [Hx.out.2, Hnx.out]; rfl, Hx.out.1, Hb, Hbl⟩
          case measure => have := Hx.out.2; simp [intOf, strLen, this]; omega
    · have hm0 : n / 8 ^ S.size = 0 := Nat.eq_zero_of_not_pos fun h => hgo (.inl h)
      have hge : 11 ≤ S.size := by omega
      rw [hm0] at hnv
      subst hnv
      have h1 : decide ((S.size : Int) < 11) = false := decide_eq_false (by omega)
      have hc0 := hb.cell_some 0 (.string { data := #[] }) rfl
      have hc1 := hb.cell_some 1 (.bool false) rfl
      have hf0 := hb.free 0
      have hf1 := hb.free 1
      by_cases hbig : 8 ^ 11 ≤ n
      · have hS1 := hS.done_big hbig hm0
        have h2 : decide ((12 : Int) ≤ S.size) = true := decide_eq_true (by omega)
        clear hS1
        have hbi : (8 : Int) ^ 11 ≤ n := by exact_mod_cast hbig
        have Ho := Lib.hid (show octO n 12 = none from octO_big _ _ hbi)
        clear hbi
        clear hgo hm0 hS hb hbig hge
        go_wp2
        refine bodyPost_ret (v := .agg #[.string { data := #[] }, .bool false]) (by simp [results, Tryz.results96, go_sem, hc0, hc1]) rfl ⟨?_, ?_⟩
        · rw [saidOf, Ho.out]; rfl
        · exact (hbl.setCell (Nat.le_refl _) _).setCell (Nat.le_refl _) _
      · have hS1 := hS.done_small (by omega) hge
        have h2 : decide ((12 : Int) ≤ S.size) = false := decide_eq_false (by omega)
        have Ho := Lib.hid (show octO n 12 = some (digs 11 n ++ [0]) by
          have : (n : Int) < 8 ^ 11 := by exact_mod_cast (show n < 8 ^ 11 by omega)
          simp [octO, isW]; exact this)
        have Hd := Lib.hid hS1.2
        clear hgo hm0 hS hb hbig hS1 hge
        go_wp2
        refine bodyPost_ret (v := .agg #[.string (S ++ { data := #[0] }), .bool true]) (by simp [results, Tryz.results96, go_sem, hc0, hc1]) rfl ⟨?_, ?_⟩
        · rw [saidOf, Ho.out, Hd.out]; rfl
        · exact (hbl.setCell (Nat.le_refl _) _).setCell (Nat.le_refl _) _

theorem refOct_bad (n v : Int) (hv : isW v = false ∨ n < 0) (w : World) :
    Calls Tryz.prog 96 #[.int .i64 n, .int .i64 v] w fun e w' => e = .returned (saidOf (octO n v)) ∧ Below w.heap.size w w' := by
  have Ho := Lib.hid (show octO n v = none from hv.elim (octO_bad n v) (octO_neg n v))
  rcases hw : isW v with _ | _
  · have h : v ≠ 8 ∧ v ≠ 12 := by simpa [isW] using hw
    have h1 : (v != 8) = true := by simpa using h.1
    have h2 : (v != 12) = true := by simpa using h.2
    clear h hv hw
    go_enter Tryz.func96, Tryz.ntmps96
    go_wp2
    refine bodyPost_ret (v := .agg #[.string { data := #[] }, .bool false]) (by simp [results, Tryz.results96, go_sem]) rfl ⟨?_, ?_⟩
    · rw [saidOf, Ho.out]; rfl
    · exact (Below.refl _ _).alloc (Nat.le_refl _) _
  · have h3 : decide (n < 0) = true := by
      rcases hv with h | h
      · rw [hw] at h; cases h
      · simpa using h
    have h : v = 8 ∨ v = 12 := by simpa [isW] using hw
    clear hv hw
    rcases h with rfl | rfl
    all_goals
      go_enter Tryz.func96, Tryz.ntmps96
      go_wp2
      refine bodyPost_ret (v := .agg #[.string { data := #[] }, .bool false]) (by simp [results, Tryz.results96, go_sem]) rfl ⟨?_, ?_⟩
      · rw [saidOf, Ho.out]; rfl
      · exact (Below.refl _ _).alloc (Nat.le_refl _) _

theorem refOctal_any (n v : Int) (hn : n ≤ 9223372036854775807) (w : World) :
    Calls Tryz.prog 96 #[.int .i64 n, .int .i64 v] w fun e w' => e = .returned (saidOf (octO n v)) ∧ Below w.heap.size w w' := by
  by_cases hb : isW v = false ∨ n < 0
  · exact refOct_bad n v hb w
  · have hv : isW v = true := by
      rcases h : isW v with _ | _
      · exact (hb (.inl h)).elim
      · rfl
    obtain ⟨m, rfl⟩ := Int.eq_ofNat_of_zero_le (show 0 ≤ n by
      rcases Int.lt_or_le n 0 with h | h
      · exact (hb (.inr h)).elim
      · exact h)
    have h : v = 8 ∨ v = 12 := by simpa [isW] using hv
    rcases h with rfl | rfl
    · exact refOct8_any m w (by omega)
    · exact refOct12_any m w (by omega)
end Go.Proofs.YtbhnhoenjoagbaaGreatDoor.HeadW
