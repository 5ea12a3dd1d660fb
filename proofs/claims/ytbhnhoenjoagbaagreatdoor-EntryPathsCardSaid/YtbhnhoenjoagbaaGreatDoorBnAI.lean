/- Bundle of 3 texts. -/
import Derived.Test.YtbhnhoenjoagbaaGreatDoorBnAH
import Derived.Test.YtbhnhoenjoagbaaGreatDoorBnAH
import Derived.OwnWalk
import Derived.Deep.AppendLies
import Derived.Test.YtbhnhoenjoagbaaGreatDoorBnAG
/- Walks over package rec: a key, a record's length, whether it may be, its bytes. -/
namespace Go.Proofs.YtbhnhoenjoagbaaGreatDoor.RecW
open Go.RowKit
open RecM
open Go.Lib (decDigits)
set_option linter.unusedVariables false

theorem index_neg (l : List UInt8) (c : UInt8) : decide (Lib.indexByte l c < 0) = !l.contains c := by
  by_cases h : c ∈ l
  · rw [decide_eq_false (fun e => (index_iff l c).1 e h)]; simp [h]
  · rw [decide_eq_true ((index_iff l c).2 h)]; simp [h]
theorem mayKey_any (K : ByteArray) (w : World) :
    Calls Tryz.prog 185 #[.string K] w fun e w' => e = .returned (.bool (keyB K.data.toList)) ∧ w = w' := by
  have h0 := Lib.hid (indexByte_any K 0 0 rfl)
  have h61 := Lib.hid (indexByte_any K 61 61 rfl)
  have n0 := index_neg K.data.toList 0
  have n61 := index_neg K.data.toList 61
  unfold keyB
  rw [len_list]
  generalize Lib.indexByte K.data.toList 0 = i0 at *
  generalize Lib.indexByte K.data.toList 61 = i61 at *
  rw [← n0, ← n61]
  clear n0 n61
  by_cases h1 : K.size < 1
  · have h1' : decide ((K.size : Int) < 1) = true := by simp; omega
    have hr := Lib.hid (show (decide (1 ≤ K.size) && decide (K.size ≤ 255) && decide (i0 < 0) && decide (i61 < 0)) = false by rw [decide_eq_false (by omega)]; rfl)
    generalize (decide (1 ≤ K.size) && decide (K.size ≤ 255) && decide (i0 < 0) && decide (i61 < 0)) = b at *
    clear h1
    go_enter Tryz.func185, Tryz.ntmps185
    go_wp2_with fail
    go_ret
    exact ⟨ret_bool hr.out.symm, rfl⟩
  · have h1' : decide ((K.size : Int) < 1) = false := by simp; omega
    by_cases h2 : 255 < K.size
    · have h2' : decide (255 < (K.size : Int)) = true := by simp; omega
      have hr := Lib.hid (show (decide (1 ≤ K.size) && decide (K.size ≤ 255) && decide (i0 < 0) && decide (i61 < 0)) = false by rw [decide_eq_false (p := K.size ≤ 255) (by omega)]; simp)
      generalize (decide (1 ≤ K.size) && decide (K.size ≤ 255) && decide (i0 < 0) && decide (i61 < 0)) = b at *
      clear h1 h2
      go_enter Tryz.func185, Tryz.ntmps185
      go_wp2_with fail
      go_ret
      exact ⟨ret_bool hr.out.symm, rfl⟩
    · have h2' : decide (255 < (K.size : Int)) = false := by simp; omega
      have hr := Lib.hid (show (decide (1 ≤ K.size) && decide (K.size ≤ 255) && decide (i0 < 0) && decide (i61 < 0)) = (decide (i0 < 0) && decide (i61 < 0)) by rw [decide_eq_true (p := K.size ≤ 255) (by omega), decide_eq_true (p := 1 ≤ K.size) (by omega)]; simp)
      generalize (decide (1 ≤ K.size) && decide (K.size ≤ 255) && decide (i0 < 0) && decide (i61 < 0)) = b at *
      clear h1 h2
      by_cases h3 : i0 < 0
      · have h3' : decide (i0 < 0) = true := by simpa using h3
        rw [h3'] at hr
        clear h3
        go_enter Tryz.func185, Tryz.ntmps185
        go_wp2_with fail
        refine (h0.out _).mono ?_
        rintro e w' ⟨rfl, rfl⟩
        go_wp2_with fail
        refine (h61.out _).mono ?_
        rintro e w' ⟨rfl, rfl⟩
        go_wp2_with fail
        go_ret
        exact ⟨ret_bool (by rw [hr.out]; simp), rfl⟩
      · have h3' : decide (i0 < 0) = false := by simpa using h3
        rw [h3'] at hr
        clear h3
        go_enter Tryz.func185, Tryz.ntmps185
        go_wp2_with fail
        refine (h0.out _).mono ?_
        rintro e w' ⟨rfl, rfl⟩
        go_wp2_with fail
        go_ret
        exact ⟨ret_bool (by rw [hr.out]; simp), rfl⟩

theorem length_any (K V : ByteArray) (hs : K.size + V.size ≤ 100000) (w : World) (hA : AmbB w) :
    Calls Tryz.prog 186 #[.agg #[.string K, .string V]] w fun e w' => e = .returned (.int .i64 (lenF (3 + K.size + V.size) : Int)) ∧ Below w.heap.size w w' := by
  obtain ⟨r, hr⟩ : ∃ r, 3 + K.size + V.size = r := ⟨_, rfl⟩
  rw [hr]
  have hr2 : (3 : Int) + (K.size : Int) + (V.size : Int) = (r : Int) := by omega
  have hr1 : r ≤ 100003 := by omega
  have hb := lenF_bounds r
  have ht := Lib.hid (lenF_true r (by omega))
  have hl := Lib.hid (lenF_least r)
  go_enter Tryz.func186, Tryz.ntmps186
  go_wp2_with fail
  go_loopw [4] (fun nv wr => ∃ n : Nat, nv = .int .i64 (n : Int) ∧ r + 1 ≤ n ∧ n ≤ lenF r ∧ Below w.heap.size w wr) (fun nv _ => lenF r - (intOf nv).toNat)
  case atStart => exact ⟨r + 1, by congr 1, by omega, by omega, by (repeat' (first | exact Below.refl _ _ | assumption | refine gr_drew ?_ | refine gr_drewN ?_ _ | refine gr_alloc ?_ _ | refine gr_set ?_ ?_ _ | refine gr_call ?_ (by assumption)) <;> (try (simp; done)) <;> (try (simp; omega)) <;> (try omega))⟩
  case round =>
    obtain ⟨n, rfl, hn1, hn2, hbl⟩ := hrel
    have hd6 := digN_bounds n
    have hd1 := hd6.1
    have hd2 := hd6.2
    have hcall := Lib.hid (fun W (h : AmbB W) => digits_any n W h (by omega))
    by_cases hlt : n < lenF r
    · have hne := hl.out n (by omega) hlt
      have htest : ((r : Int) + (digN n : Int) != (n : Int)) = true := by
        rw [bne_iff_ne]; omega
      have hlt2 : n + 1 ≤ lenF r := hlt
      clear hne hlt hd6
      go_wp2_with fail
      refine (hcall.out _ (hA.on hbl)).mono ?_
      rintro e w1 ⟨rfl, hb1⟩
      have hbl1 := gr_call hbl hb1
      go_wp2_with fail
      go_roundw
      case rel => exact ⟨n + 1, by go_num, by omega, by omega, hbl1⟩
      case measure => simp only [intOf]; omega
    · obtain rfl : n = lenF r := by omega
      have htest : ((r : Int) + (digN (lenF r) : Int) != ((lenF r : Nat) : Int)) = false := by
        have := ht.out
        rw [bne_eq_false_iff_eq]; omega
      clear hlt hd6
      go_wp2_with fail
      refine (hcall.out _ (hA.on hbl)).mono ?_
      rintro e w1 ⟨rfl, hb1⟩
      have hbl1 := gr_call hbl hb1
      go_wp2_with fail
      go_ret
      exact ⟨rfl, hbl1⟩

theorem may_any (K V : ByteArray) (hs : K.size + V.size ≤ 100000) (w : World) (hA : AmbB w) :
    Calls Tryz.prog 119 #[.agg #[.string K, .string V]] w fun e w' => e = .returned (.bool (mayB K.data.toList V.data.toList)) ∧ Below w.heap.size w w' := by
  have hk := Lib.hid (mayKey_any K)
  have hl := Lib.hid (length_any K V hs)
  unfold mayB
  rw [len_list, len_list]
  have hm := (lenF_bounds (3 + K.size + V.size)).2
  have hm2 : (lenF (3 + K.size + V.size)) ≤ 200000 := by omega
  generalize keyB K.data.toList = b at *
  generalize lenF (3 + K.size + V.size) = m at *
  clear hm
  cases b
  · go_enter Tryz.func119, Tryz.ntmps119
    go_wp2_with fail
    refine (hk.out _).mono ?_
    rintro e w' ⟨rfl, rfl⟩
    go_wp2_with fail
    go_ret
    exact ⟨rfl, by (repeat' (first | exact Below.refl _ _ | assumption | refine gr_drew ?_ | refine gr_drewN ?_ _ | refine gr_alloc ?_ _ | refine gr_set ?_ ?_ _ | refine gr_call ?_ (by assumption)) <;> (try (simp; done)) <;> (try (simp; omega)) <;> (try omega))⟩
  · have hd : decide ((m : Int) ≤ 65536) = decide (m ≤ 65536) := by
      by_cases h : m ≤ 65536
      · rw [decide_eq_true h]; exact decide_eq_true (by omega)
      · rw [decide_eq_false h]; exact decide_eq_false (by omega)
    rw [Bool.true_and]
    have Hd := Lib.hid hd
    clear hd
    go_enter Tryz.func119, Tryz.ntmps119
    go_wp2_with fail
    refine (hk.out _).mono ?_
    rintro e w' ⟨rfl, rfl⟩
    go_wp2_with fail
    refine (hl.out _ (hA.on (by (repeat' (first | exact Below.refl _ _ | assumption | refine gr_drew ?_ | refine gr_drewN ?_ _ | refine gr_alloc ?_ _ | refine gr_set ?_ ?_ _ | refine gr_call ?_ (by assumption)) <;> (try (simp; done)) <;> (try (simp; omega)) <;> (try omega))))).mono ?_
    rintro e w1 ⟨rfl, hbw1⟩
    have hzw1 := hbw1.size
    try simp at hzw1
    go_wp2_with fail
    go_ret
    exact ⟨ret_bool Hd.out, by (repeat' (first | exact Below.refl _ _ | assumption | refine gr_drew ?_ | refine gr_drewN ?_ _ | refine gr_alloc ?_ _ | refine gr_set ?_ ?_ _ | refine gr_call ?_ (by assumption)) <;> (try (simp; done)) <;> (try (simp; omega)) <;> (try omega))⟩

theorem put_any (K V : ByteArray) (hs : K.size + V.size ≤ 100000) (w : World) (hA : AmbB w) :
    Calls Tryz.prog 187 #[.agg #[.string K, .string V]] w fun e w' => e = .returned (.string (strOf (putF K.data.toList V.data.toList))) ∧ Below w.heap.size w w' := by
  have hmay := Lib.hid (may_any K V hs)
  have hlen := Lib.hid (length_any K V hs)
  unfold putF
  obtain ⟨m, hm⟩ : ∃ m, lenF (3 + K.size + V.size) = m := ⟨_, rfl⟩
  have hmb := lenF_bounds (3 + K.size + V.size)
  rw [hm] at hlen hmb
  have hm9 : m ≤ 9000000000 := by omega
  obtain ⟨E, hE⟩ : ∃ E, encF K.data.toList V.data.toList = E := ⟨_, rfl⟩
  obtain ⟨D, hD⟩ : ∃ D : ByteArray, strOf (decDigits m) = D := ⟨_, rfl⟩
  have hDs : D.size ≤ 6 := by
    rw [← hD, strOf_size, dec_digN m (by omega)]; exact (digN_bounds m).2
  have HE := Lib.hid (show D ++ ⟨#[32]⟩ ++ K ++ ⟨#[61]⟩ ++ V ++ ⟨#[10]⟩ = strOf E by
    apply str_eq
    rw [← hE]
    unfold encF
    rw [len_list, len_list, hm, ← hD]
    simp only [bytes_list, strOf_list]
    simp)
  have hi := Lib.hid (fun W (h : AmbB W) => itoa_any m W h hm9)
  rw [hD] at hi
  rw [hE]
  generalize mayB K.data.toList V.data.toList = b at *
  clear hE hD hm
  have q1 : ¬ 9223372036854775807 < D.size + 1 := by omega
  have q2 : ¬ 9223372036854775807 < D.size + 1 + K.size := by omega
  have q3 : ¬ 9223372036854775807 < D.size + 1 + K.size + 1 := by omega
  have q4 : ¬ 9223372036854775807 < D.size + 1 + K.size + 1 + V.size := by omega
  have q5 : ¬ 9223372036854775807 < D.size + 1 + K.size + 1 + V.size + 1 := by omega
  cases b
  · go_enter Tryz.func187, Tryz.ntmps187
    go_wp2_with fail
    refine (hmay.out _ (hA.on (by (repeat' (first | exact Below.refl _ _ | assumption | refine gr_drew ?_ | refine gr_drewN ?_ _ | refine gr_alloc ?_ _ | refine gr_set ?_ ?_ _ | refine gr_call ?_ (by assumption)) <;> (try (simp; done)) <;> (try (simp; omega)) <;> (try omega))))).mono ?_
    rintro e w1 ⟨rfl, hbw1⟩
    have hzw1 := hbw1.size
    try simp at hzw1
    go_wp2_with fail
    go_ret
    exact ⟨rfl, by (repeat' (first | exact Below.refl _ _ | assumption | refine gr_drew ?_ | refine gr_drewN ?_ _ | refine gr_alloc ?_ _ | refine gr_set ?_ ?_ _ | refine gr_call ?_ (by assumption)) <;> (try (simp; done)) <;> (try (simp; omega)) <;> (try omega))⟩
  · go_enter Tryz.func187, Tryz.ntmps187
    go_wp2_with fail
    refine (hmay.out _ (hA.on (by (repeat' (first | exact Below.refl _ _ | assumption | refine gr_drew ?_ | refine gr_drewN ?_ _ | refine gr_alloc ?_ _ | refine gr_set ?_ ?_ _ | refine gr_call ?_ (by assumption)) <;> (try (simp; done)) <;> (try (simp; omega)) <;> (try omega))))).mono ?_
    rintro e w1 ⟨rfl, hbw1⟩
    have hzw1 := hbw1.size
    try simp at hzw1
    have : w.heap.size < w1.heap.size := by omega
    have : w.heap.size ≤ w1.heap.size := by omega
    have : w1.cell? ⟨w.heap.size, 0, none⟩ = some (.string K) := cell_kept hbw1 (by simp [go_sem, *])
    have : w1.frozen? ⟨w.heap.size, 0, none⟩ = false := free_kept hbw1 (v := .string K) (by simp [go_sem, *]) (by simp [go_sem, *])
    have : w.heap.size < w1.heap.size := by omega
    have : w.heap.size ≤ w1.heap.size := by omega
    have : w1.cell? ⟨w.heap.size, 1, none⟩ = some (.string V) := cell_kept hbw1 (by simp [go_sem, *])
    have : w1.frozen? ⟨w.heap.size, 1, none⟩ = false := free_kept hbw1 (v := .string V) (by simp [go_sem, *]) (by simp [go_sem, *])
    have hB1 : Below w.heap.size w w1 := by (repeat' (first | exact Below.refl _ _ | assumption | refine gr_drew ?_ | refine gr_drewN ?_ _ | refine gr_alloc ?_ _ | refine gr_set ?_ ?_ _ | refine gr_call ?_ (by assumption)) <;> (try (simp; done)) <;> (try (simp; omega)) <;> (try omega))
    have hA1 := hA.on (gr_drew hB1)
    go_wp2_with fail
    go_region_held3 (fun w' => AmbB w' ∧ Below w.heap.size w w' ∧ w'.cell? ⟨w.heap.size, 0, none⟩ = some (.string K) ∧ w'.cell? ⟨w.heap.size, 1, none⟩ = some (.string V))
      (first | (go_keep; done) | (go_split_ands; (repeat' apply And.intro) <;> (first | assumption | exact Amb.on (by assumption) hb1 | exact AmbB.on (by assumption) hb1 | exact gr_call (by assumption) hb1 | exact cell_kept hb1 (by assumption) | (show Below _ _ _; (repeat' (first | exact Below.refl _ _ | assumption | refine gr_drew ?_ | refine gr_drewN ?_ _ | refine gr_alloc ?_ _ | refine gr_set ?_ ?_ _ | refine gr_call ?_ (by assumption)) <;> (try (simp; done)) <;> (try (simp; omega)) <;> (try omega)); done) | (go_keep; done) | (simp [go_sem, *]; done))))
      (first
        | (go_at_call 65; go_split_ands; refine (hi.out _ (by assumption)).mono ?_; rintro e w1 ⟨rfl, hb1⟩)
        | (go_at_call 186; go_split_ands; refine (hlen.out _ (by assumption)).mono ?_; rintro e w1 ⟨rfl, hb1⟩))
    all_goals
      go_wp2_with fail
      go_ret
      go_split_ands
      exact ⟨ret_str HE.out, by (repeat' (first | exact Below.refl _ _ | assumption | refine gr_drew ?_ | refine gr_drewN ?_ _ | refine gr_alloc ?_ _ | refine gr_set ?_ ?_ _ | refine gr_call ?_ (by assumption)) <;> (try (simp; done)) <;> (try (simp; omega)) <;> (try omega))⟩
end Go.Proofs.YtbhnhoenjoagbaaGreatDoor.RecW

/- Slices of records: one that a call makes by appending; one that can be read. -/
namespace Go.Proofs.YtbhnhoenjoagbaaGreatDoor.RecW
open Go.RowKit
set_option linter.unusedVariables false

/-- Records as cells, two each. -/
def recCells : List (List UInt8 × List UInt8) → List Value
  | [] => []
  | r :: l => .string (strOf r.1) :: .string (strOf r.2) :: recCells l
theorem recCells_append (a b : List (List UInt8 × List UInt8)) : recCells (a ++ b) = recCells a ++ recCells b := by
  induction a with
  | nil => rfl
  | cons r a ih => simp [recCells, ih]
theorem recCells_length (l : List (List UInt8 × List UInt8)) : (recCells l).length = l.length * 2 := by
  induction l with
  | nil => rfl
  | cons r l ih => simp only [recCells, List.length_cons, ih]; omega
theorem recCells_at (l : List (List UInt8 × List UInt8)) : ∀ (j : Nat) (h : j < l.length), (recCells l)[2 * j]? = some (.string (strOf l[j].1)) ∧ (recCells l)[2 * j + 1]? = some (.string (strOf l[j].2)) := by
  induction l with
  | nil => intro j h; simp at h
  | cons r l ih =>
    intro j h
    cases j with
    | zero => exact ⟨rfl, rfl⟩
    | succ j =>
      have := ih j (by simpa using h)
      simp only [recCells, show 2 * (j + 1) = 2 * j + 1 + 1 by omega, List.getElem?_cons_succ, List.getElem_cons_succ]
      exact this

/-- v is a slice of the call's own (its block lies from B on), or nil, that holds the records l. -/
def RecRow (B : Nat) (v : Value) (l : List (List UInt8 × List UInt8)) (w : World) : Prop := w.ownsRow B 28 2 v l.length (recCells l)
theorem RecRow.nil (w : World) (B : Nat) : RecRow B (.slice none 0 0) [] w := World.ownsRow_nil w B _ _
theorem RecRow.drew {B : Nat} {v : Value} {l : List (List UInt8 × List UInt8)} {w : World} (h : RecRow B v l w) : RecRow B v l w.drew := World.ownsRow.drew h
theorem RecRow.alloc {B : Nat} {v : Value} {l : List (List UInt8 × List UInt8)} {w : World} (h : RecRow B v l w) (o : Obj) : RecRow B v l (w.alloc o) := World.ownsRow.alloc h o
theorem RecRow.call {B : Nat} {v : Value} {l : List (List UInt8 × List UInt8)} {w w1 : World} (h : RecRow B v l w) (hb : Below w.heap.size w w1) : RecRow B v l w1 := by
  refine World.ownsRow.kept h (row := none) ⟨hb.os, hb.tape, hb.output, hb.size, fun k hk _ => hb.block k hk⟩ ?_
  cases hv : v.ownBlock with
  | none => exact Or.inl rfl
  | some k => exact Or.inr (by simp)
theorem RecRow.lt {B : Nat} {v : Value} {l : List (List UInt8 × List UInt8)} {w : World} (h : RecRow B v l w) : ∀ k, v.ownBlock = some k → k < w.heap.size := fun k hk => (World.ownsRow.lt h k hk).2

/-- v is a slice that reads as the records l. -/
def RecAt (v : Value) (l : List (List UInt8 × List UInt8)) (w : World) : Prop :=
  (l = [] ∧ ∃ p cap, v = .slice p 0 cap) ∨
  ∃ g cap, v = .slice (some ⟨g, 0, none⟩) l.length cap ∧ l.length ≤ cap ∧ g < w.heap.size ∧ ∀ j (h : j < l.length), w.cell? ⟨g, 2 * j, none⟩ = some (.string (strOf l[j].1)) ∧ w.cell? ⟨g, 2 * j + 1, none⟩ = some (.string (strOf l[j].2))
theorem RecRow.at {B : Nat} {v : Value} {l : List (List UInt8 × List UInt8)} {w : World} (h : RecRow B v l w) : RecAt v l w := by
  have h' := h
  rcases h.2 with ⟨hv, h0⟩ | ⟨g, cap, cur, hv, hB, hg, hc1, hc2, hcs, ht⟩
  · exact .inl ⟨List.eq_nil_of_length_eq_zero h0, none, 0, hv⟩
  · subst hv
    refine .inr ⟨g, cap, rfl, hc1, (Array.getElem?_eq_some_iff.1 hg).1, fun j hj => ?_⟩
    have h2 := recCells_at l j hj
    have e1 := World.ownsRow.cells h' rfl _ _ h2.1
    have e2 := World.ownsRow.cells h' rfl _ _ h2.2
    rw [addr_zero_add] at e1 e2
    exact ⟨e1, e2⟩
theorem RecAt.call {v : Value} {l : List (List UInt8 × List UInt8)} {w w1 : World} (h : RecAt v l w) (hb : Below w.heap.size w w1) : RecAt v l w1 := by
  rcases h with h | ⟨g, cap, hv, hc, hg, hj⟩
  · exact .inl h
  · exact .inr ⟨g, cap, hv, hc, Nat.lt_of_lt_of_le hg hb.size, fun j h => ⟨cell_kept hb (hj j h).1, cell_kept hb (hj j h).2⟩⟩
theorem RecAt.shape {v : Value} {l : List (List UInt8 × List UInt8)} {w : World} (h : RecAt v l w) : ∃ p cap, v = .slice p l.length cap := by
  rcases h with ⟨rfl, p, cap, hv⟩ | ⟨g, cap, hv, _⟩
  · exact ⟨p, cap, hv⟩
  · exact ⟨_, _, hv⟩
/-- Where it holds something: its cells, at every place. -/
theorem RecAt.open {v : Value} {l : List (List UInt8 × List UInt8)} {w : World} (h : RecAt v l w) (hl : l ≠ []) :
    ∃ g cap, v = .slice (some ⟨g, 0, none⟩) l.length cap ∧ l.length ≤ cap ∧ g < w.heap.size ∧ ∀ j (h : j < l.length), w.cell? ⟨g, 2 * j, none⟩ = some (.string (strOf l[j].1)) ∧ w.cell? ⟨g, 2 * j + 1, none⟩ = some (.string (strOf l[j].2)) := by
  rcases h with ⟨h, _⟩ | h
  · exact absurd h hl
  · exact h

/-- append(v, r), r just laid in a block of its own. -/
theorem wp_append_rec {ops : Array Oper} {rest : List Oper} {o : Oper} {a : Act} {Q : Exit → Act → World → Prop} (hgd : o.guard = none) (s x : Operand)
    (ho : o.op = .call { callee := .builtin .append, args := #[s, x], argTypes := #[24, 24] })
    (B : Nat) (v : Value) (l : List (List UInt8 × List UInt8)) (w : World) (r : List UInt8 × List UInt8)
    (hs : a.eval s = v) (hrow : RecRow B v l w) (hx : a.eval x = .slice (some ⟨w.heap.size, 0, none⟩) 1 1)
    (hlen : l.length + 1 ≤ 1000000) (hB : B ≤ w.heap.size)
    (h : ∀ v' w', RecRow B v' (l ++ [r]) w' → Below B w w' → (∀ p : Addr, p.block < w.heap.size → some p.block ≠ v.ownBlock → w'.cell? p = w.cell? p) → wpList Tryz.prog ops Q rest (a.put o.dst v') w') :
    wpList Tryz.prog ops Q (o :: rest) a (w.alloc (.cells #[.string (strOf r.1), .string (strOf r.2)] 28)) := by
  obtain ⟨i0, hi, hz0, hz1, hz2⟩ := info_parts (show (Tryz.prog.info? 28).map (fun i => (i.zero, i.size, i.bytes)) = some (some (.agg #[.string ⟨#[]⟩, .string ⟨#[]⟩]), 2, 32) by kernel_rfl)
  refine wpList_append_own _ hgd s x 24 ho B 28 i0 (.agg #[.string ⟨#[]⟩, .string ⟨#[]⟩]) 2 32 Tryz.underlying24 hi hz0 hz1 hz2 rfl (by decide) v l.length (recCells l) hs (World.ownsRow.alloc hrow _) ⟨w.heap.size, 0, none⟩ 1 1 (recCells [r]) hx (by rw [recCells_length]; rfl) ?_ ?_ (by unfold maxLen; omega) (by omega) (by simp; omega) ?_
  · intro j u hj
    rw [addr_zero_add, World.cell?_alloc_new]
    simpa [recCells] using hj
  · intro u hu
    simp [recCells] at hu
    rcases hu with rfl | rfl <;> rfl
  · intro v' w' h1 h2 _
    refine h v' w' ?_ ?_ ?_
    · unfold RecRow
      rw [recCells_append, List.length_append]
      exact h1
    · exact ((Below.refl B w).alloc hB _).grown h2 (by simp; omega) (fun k hk => (World.ownsRow.lt hrow k hk).1)
    · intro p hp hne
      rw [World.grownBy.cell_far h2 p (by simp; omega) hne]
      exact World.cell?_alloc_lt _ _ _ hp
end Go.Proofs.YtbhnhoenjoagbaaGreatDoor.RecW

/- Walks over package rec: Join. -/
namespace Go.Proofs.YtbhnhoenjoagbaaGreatDoor.RecW
open Go.RowKit
open RecM
set_option linter.unusedVariables false

theorem _root_.Go.Proofs.YtbhnhoenjoagbaaGreatDoor.Bld.alloc {b : Nat} {l : List UInt8} {w : World} (h : Bld b l w) (o : Obj) : Bld b l (w.alloc o) := h.keep (gr_alloc (Below.refl _ w) o)
theorem join_succ (l : List (List UInt8 × List UInt8)) (i : Nat) (h : i < l.length) : joinF (l.take (i + 1)) = joinF (l.take i) ++ putF l[i].1 l[i].2 := by
  rw [List.take_succ_eq_append_getElem h]
  unfold joinF
  rw [List.map_append, List.flatten_append, List.map_cons, List.map_nil, List.flatten_cons, List.flatten_nil, List.append_nil]
theorem put_len (k v : List UInt8) (h : k.length + v.length ≤ 1000) : (putF k v).length ≤ 1009 := by
  unfold putF
  split
  · have h1 := enc_length k v (by omega)
    have h2 := (lenF_bounds (3 + k.length + v.length)).2
    omega
  · simp
theorem join_len (l : List (List UInt8 × List UInt8)) (h : ∀ r ∈ l, r.1.length + r.2.length ≤ 1000) : (joinF l).length ≤ l.length * 1009 := by
  induction l with
  | nil => simp [joinF]
  | cons r l ih =>
    have h1 := put_len r.1 r.2 (h r (List.mem_cons_self ..))
    have h2 := ih (fun y hy => h y (List.mem_cons_of_mem _ hy))
    have e : joinF (r :: l) = putF r.1 r.2 ++ joinF l := by unfold joinF; rw [List.map_cons, List.flatten_cons]
    rw [e, List.length_append, List.length_cons]
    omega

set_option maxHeartbeats 1600000 in
theorem join_any (v : Value) (l : List (List UInt8 × List UInt8)) (w : World) (hA : AmbB w) (hat : RecAt v l w) (hs : ∀ r ∈ l, r.1.length + r.2.length ≤ 1000) (hl : l.length ≤ 100) :
    Calls Tryz.prog 120 #[v] w fun e w' => e = .returned (.string (strOf (joinF l))) ∧ Below w.heap.size w w' := by
  obtain ⟨p, cap, rfl⟩ := hat.shape
  obtain ⟨n, hn⟩ : ∃ n, l.length = n := ⟨_, rfl⟩
  have HN := Lib.hid hn
  have HS := Lib.hid hs
  have Hat := Lib.hid hat
  rw [hn] at hl ⊢
  clear hs hat hn
  go_enter Tryz.func120, Tryz.ntmps120
  go_wp2_with fail
  go_loopw [8] (fun iv wr => ∃ i : Nat, iv = .int .i64 (i : Int) ∧ i ≤ n ∧ Bld w.heap.size (joinF (l.take i)) wr ∧ Below w.heap.size w wr) (fun iv _ => n - (intOf iv).toNat)
  case atStart => exact ⟨0, rfl, by omega, newBld w, by (repeat' (first | exact Below.refl _ _ | assumption | refine gr_drew ?_ | refine gr_drewN ?_ _ | refine gr_alloc ?_ _ | refine gr_set ?_ ?_ _ | refine gr_call ?_ (by assumption)) <;> (try (simp; done)) <;> (try (simp; omega)) <;> (try omega))⟩
  case round =>
    obtain ⟨i, rfl, hi, hB, hbl⟩ := hrel
    rename_i wr
    by_cases hlt : i < n
    · have hlt' : decide ((i : Int) < (n : Int)) = true := decide_eq_true (by omega)
      have hlt2 : decide (i < n) = true := decide_eq_true hlt
      have hil : i < l.length := by rw [HN.out]; exact hlt
      obtain ⟨g, cap', ev, hc, hg, hj⟩ := Hat.out.open (by intro e; rw [e] at hil; simp at hil)
      simp only [Value.slice.injEq] at ev
      obtain ⟨rfl, _, rfl⟩ := ev
      have c0 := cell_kept hbl (hj i hil).1
      have c1 := cell_kept hbl (hj i hil).2
      rw [Nat.mul_comm 2 i] at c0 c1
      have hsz := HS.out l[i] (List.getElem_mem hil)
      have Hsucc := Lib.hid (join_succ l i hil)
      have hjl := join_len (l.take (i + 1)) (fun r hr => HS.out r (List.mem_of_mem_take hr))
      rw [Hsucc.out, List.length_append, List.length_take] at hjl
      obtain ⟨r, hr⟩ : ∃ r, l[i] = r := ⟨_, rfl⟩
      rw [hr] at c0 c1 hsz Hsucc hjl
      obtain ⟨k, u⟩ := r
      dsimp only at c0 c1 hsz Hsucc hjl
      have hp := Lib.hid (fun W h => put_any (strOf k) (strOf u) (by rw [strOf_size, strOf_size]; omega) W h)
      rw [strOf_list, strOf_list] at hp
      have hw1 : (joinF (l.take i)).length + (strOf (putF k u)).size ≤ 1000000 := by rw [strOf_size]; omega
      have HP := Lib.hid (strOf_list (putF k u))
      have i1 : (i : Int) < (n : Int) := by omega
      have i0 : (0 : Int) ≤ (i : Int) := by omega
      generalize putF k u = P at *
      have hB2 := hB.alloc (.cells #[.string (strOf k), .string (strOf u)] 28)
      clear hj hr hsz hjl hlt hB
      go_wp2_with fail
      refine (hp.out _ (hA.on (by (repeat' (first | exact Below.refl _ _ | assumption | refine gr_drew ?_ | refine gr_drewN ?_ _ | refine gr_alloc ?_ _ | refine gr_set ?_ ?_ _ | refine gr_call ?_ (by assumption)) <;> (try (simp; done)) <;> (try (simp; omega)) <;> (try omega))))).mono ?_
      rintro e w1 ⟨rfl, hb1⟩
      have hB3 := hB2.keep hb1
      have hbl1 : Below w.heap.size w w1 := by (repeat' (first | exact Below.refl _ _ | assumption | refine gr_drew ?_ | refine gr_drewN ?_ _ | refine gr_alloc ?_ _ | refine gr_set ?_ ?_ _ | refine gr_call ?_ (by assumption)) <;> (try (simp; done)) <;> (try (simp; omega)) <;> (try omega))
      clear hB2 hb1
      go_wp2_with fail
      refine (writeStr_b w.heap.size _ (strOf P) w1 hB3 hw1 (bld_lt hB3)).mono ?_
      rintro e w2 ⟨rfl, hB4, hb2⟩
      rw [HP.out, ← Hsucc.out] at hB4
      have hbl2 : Below w.heap.size w w2 := hbl1.trans hb2
      clear hB3 hb2
      go_wp2_with fail
      go_roundw
      case rel => exact ⟨i + 1, by go_num, by omega, hB4, hbl2⟩
      case measure => simp only [intOf]; omega
    · have hlt' : decide ((i : Int) < (n : Int)) = false := decide_eq_false (by omega)
      have hlt2 : decide (i < n) = false := decide_eq_false hlt
      rw [List.take_of_length_le (by rw [HN.out]; omega)] at hB
      clear hlt
      go_wp2_with fail
      refine (string_b _ _ _ hB).mono ?_
      rintro e w2 ⟨rfl, hb2⟩
      go_wp2_with fail
      go_ret
      exact ⟨rfl, hbl.trans hb2⟩
end Go.Proofs.YtbhnhoenjoagbaaGreatDoor.RecW
