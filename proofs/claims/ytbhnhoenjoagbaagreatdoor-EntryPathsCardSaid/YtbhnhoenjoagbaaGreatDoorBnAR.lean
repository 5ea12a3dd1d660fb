/- Bundle of 4 texts. -/
import Derived.Test.YtbhnhoenjoagbaaGreatDoorBnAQ
import Derived.Test.YtbhnhoenjoagbaaGreatDoorBnAG
import Derived.Test.YtbhnhoenjoagbaaGreatDoorBnAL
import Derived.Test.YtbhnhoenjoagbaaGreatDoorBnAJ
import Derived.Below
import Derived.Test.YtbhnhoenjoagbaaGreatDoorChecked
import Derived.Deep.QuietTactic
import Derived.BigQuiet
import Derived.Outline
import Derived.Recover
/- Walks over package acl: parse, Parse. -/
namespace Go.Proofs.YtbhnhoenjoagbaaGreatDoor.AclW
open Go.RowKit
open AclM DecM
set_option linter.unusedVariables false

/-- How the parsing ends. -/
def parseEnd (B : Nat) (o : Option (List Ace)) (e : Ending) (w' : World) : Prop := match o with
  | some l => ∃ v, e = .returned v ∧ Row aceE B v l w'
  | none => e = .panicked notList
theorem parts_step {ps : List (List UInt8)} {acc : List Ace} {i : Nat} {a : Ace} (hi : i < ps.length) (h : partsOf ps = (partsOf (ps.drop i)).map (acc ++ ·)) (ha : partOf ps[i] = some a) :
    partsOf ps = (partsOf (ps.drop (i + 1))).map ((acc ++ [a]) ++ ·) := by
  rw [h, drop_cons hi]
  show Option.map _ (match partOf ps[i] with | none => none | some a => (partsOf (ps.drop (i + 1))).map (a :: ·)) = _
  rw [ha]
  simp only [Option.map_map]
  congr 1
  funext x
  simp
theorem parts_bad {ps : List (List UInt8)} {acc : List Ace} {i : Nat} (hi : i < ps.length) (h : partsOf ps = (partsOf (ps.drop i)).map (acc ++ ·)) (ha : partOf ps[i] = none) : partsOf ps = none := by
  rw [h, drop_cons hi]
  show Option.map _ (match partOf ps[i] with | none => none | some a => (partsOf (ps.drop (i + 1))).map (a :: ·)) = _
  rw [ha]
  rfl
theorem parts_end {ps : List (List UInt8)} {acc : List Ace} {i : Nat} (hi : ps.length ≤ i) (h : partsOf ps = (partsOf (ps.drop i)).map (acc ++ ·)) : partsOf ps = some acc := by
  rw [h, List.drop_eq_nil_of_le hi]
  show Option.map _ (some []) = _
  simp
theorem cutAt_sum (c : UInt8) : ∀ (s : List UInt8), (cutAt c s).length ≤ s.length + 1 ∧ ∀ p ∈ cutAt c s, p.length ≤ s.length
  | [] => by simp [cutAt]
  | x :: r => by
    obtain ⟨h1, h2⟩ := cutAt_sum c r
    rw [cutAt_cons]
    by_cases hx : x = c
    · rw [if_pos hx]
      refine ⟨by simp only [List.length_cons]; omega, fun p hp => ?_⟩
      rcases List.mem_cons.1 hp with rfl | hp
      · simp
      · have := h2 p hp; simp only [List.length_cons]; omega
    · rw [if_neg hx]
      rcases hc : cutAt c r with _ | ⟨q, ps⟩
      · exact absurd hc (cutAt_ne _ _)
      · rw [hc] at h1 h2
        refine ⟨by simp only [List.length_cons] at h1 ⊢; omega, fun p hp => ?_⟩
        rcases List.mem_cons.1 hp with rfl | hp
        · have := h2 q (by simp); simp only [List.length_cons]; omega
        · have := h2 p (by simp [hp]); simp only [List.length_cons]; omega

set_option maxHeartbeats 1600000 in
set_option maxRecDepth 100000 in
theorem parse_any (S : ByteArray) (hS : S.size ≤ 900000) (w : World) (hA : AmbF w) :
    Calls Tryz.prog 219 #[.string S] w fun e w' => parseEnd w.heap.size (getL S.data.toList) e w' ∧ Below w.heap.size w w' := by
  have hsp := Lib.hid (split_any S w hA (by omega))
  obtain ⟨hk1, hk2⟩ := cutAt_sum 44 S.data.toList
  rw [len_list] at hk1 hk2
  obtain ⟨o, ho⟩ : ∃ o, getL S.data.toList = o := ⟨_, rfl⟩
  rw [ho]
  unfold getL at ho
  generalize cutAt 44 S.data.toList = ps at *
  have hpart := Lib.hid (fun (j : Nat) (h : j < ps.length) w' (hA' : AmbF w') => parsePart_any (strOf ps[j]) (by rw [strOf_size]; have := hk2 ps[j] (List.getElem_mem h); omega) w' hA')
  obtain ⟨z, hz⟩ : ∃ z, ps.length = z := ⟨_, rfl⟩
  have Hz := Lib.hid hz
  rw [hz] at hk1
  have Ho := Lib.hid ho
  clear hk2 ho
  go_enter Tryz.func219, Tryz.ntmps219
  go_wp2_with fail
  refine (hsp.out).mono ?_
  rintro e w1 ⟨⟨v, rfl, hat⟩, hb1⟩
  have hlk : ∃ p cap, v = .slice p z cap ∧ z ≤ cap ∧ ∀ j (h : j < ps.length), ∃ g off, p = some ⟨g, off, none⟩ ∧ g < w1.heap.size ∧ w1.cell? ⟨g, off + j, none⟩ = some (.string (strOf ps[j])) := by
    by_cases hl : ps = []
    · obtain ⟨p, cap, h1, h2⟩ := hat.shape
      rw [hz] at h1 h2
      exact ⟨p, cap, h1, h2, fun j hj => by subst hl; simp at hj⟩
    · obtain ⟨g, off, cap, h1, h2, h3, h4⟩ := str_open hat hl
      rw [hz] at h1 h2
      exact ⟨_, cap, h1, h2, fun j hj => ⟨g, off, rfl, h3, h4 j hj⟩⟩
  obtain ⟨p, cap, rfl, hcap, hcell⟩ := hlk
  have Hcell := Lib.hid hcell
  clear hcell hat hz hsp
  go_wp2_with fail
  go_loopw [3, 9] (fun lv iv wr => ∃ (i : Nat) (acc : List Ace), iv = .int .i64 (i : Int) ∧ i ≤ z ∧ Row aceE w1.heap.size lv acc wr ∧ Below w1.heap.size w1 wr ∧ acc.length ≤ i ∧ Hid (partsOf ps = (partsOf (ps.drop i)).map (acc ++ ·))) (fun _ iv _ => z - (intOf iv).toNat)
  case atStart => exact ⟨0, [], rfl, by omega, Row.nil _ _, Below.refl _ _, by simp, Lib.hid (by simp only [List.drop_zero, List.nil_append]; cases partsOf ps <;> rfl)⟩
  case round =>
    obtain ⟨i, acc, rfl, hi, hR, hbm, hacc, HR⟩ := hrel
    rename_i wr
    have hbl := gr_call hb1 hbm
    by_cases hlt : i < z
    · have hlt' : decide ((i : Int) < (z : Int)) = true := decide_eq_true (by omega)
      have hlt2 : decide (i < z) = true := decide_eq_true hlt
      have hi' : i < ps.length := by rw [Hz.out]; exact hlt
      obtain ⟨g, off, rfl, hg, c0⟩ := Hcell.out i hi'
      replace c0 := cell_kept hbm c0
      have hp := Lib.hid (hpart.out i hi' wr (hA.on hbl))
      rw [strOf_list] at hp
      obtain ⟨X, hX⟩ : ∃ X, strOf ps[i] = X := ⟨_, rfl⟩
      rw [hX] at c0 hp
      have HB := Lib.hid (fun h => parts_bad hi' HR.out h)
      have HS := Lib.hid (fun a h => parts_step (a := a) hi' HR.out h)
      generalize partOf ps[i] = op at *
      clear HR hX
      go_wp2_with fail
      refine (hp.out).mono ?_
      rintro e w2 ⟨he, hb2⟩
      have hR2 := hR.call hb2
      have hbl2 := gr_call hbl hb2
      have hbm2 := gr_call hbm hb2
      clear hp
      rcases op with _ | a
      · obtain rfl : e = .panicked notList := he
        have HE := Lib.hid (HB.out rfl)
        clear HB HS
        go_wp2_with fail
        exact ⟨rfl, by rw [← Ho.out, HE.out]; rfl, hbl2⟩
      · obtain rfl : e = .returned (aceV a) := he
        have HE := Lib.hid (HS.out a rfl)
        clear HB HS
        obtain ⟨t, d, q⟩ := a
        have hs2 := hbm2.size
        have hR3 := hR2.alloc (.cells #[.int .i64 t, .int .i64 d, .int .i64 q] 115)
        have hone := (one_ace w2 (t, d, q) w1.heap.size hs2).at
        simp only at hone
        unfold aceV
        simp only
        have hl1 : acc.length + [((t, d, q) : Ace)].length ≤ 1000000 := by simp; omega
        have hsz : w1.heap.size ≤ (w2.alloc (.cells #[.int .i64 t, .int .i64 d, .int .i64 q] 115)).heap.size := by simp; omega
        go_wp2_with (at_builtin; refine wp_append_at aceE rfl _ _ rfl w1.heap.size _ (.slice (some ⟨w2.heap.size, 0, none⟩) 1 1) acc [(t, d, q)] (w2.alloc (.cells #[.int .i64 t, .int .i64 d, .int .i64 q] 115)) rfl (by exact hR3) (by rfl) (by exact hone) hl1 hsz ?_)
        intro v' w3 hR' hb' hgr _
        have hbm3 : Below w1.heap.size w1 w3 := (gr_alloc hbm2 _).trans hb'
        clear hR hR2 hR3 hone hb' hb2 hbl hbl2 hbm hbm2 hgr
        go_wp2_with fail
        go_roundw
        case rel => exact ⟨i + 1, _, rfl, by omega, hR', hbm3, by rw [List.length_append]; simp only [List.length_cons, List.length_nil]; omega, HE⟩
        case measure => simp only [intOf]; omega
    · have hlt' : decide ((i : Int) < (z : Int)) = false := decide_eq_false (by omega)
      have hlt2 : decide (i < z) = false := decide_eq_false hlt
      have HE := Lib.hid (parts_end (by rw [Hz.out]; omega) HR.out)
      have hmay := Lib.hid (may_any _ acc _ hR.at (by omega))
      clear HR
      rcases hm : may acc with _ | _
      · rw [hm] at hmay
        have HO : Hid (o = none) := Lib.hid (by rw [← Ho.out, HE.out]; simp [hm])
        clear HE Ho
        go_wp2_with fail
        refine (hmay.out).mono ?_
        rintro e w2 ⟨rfl, hb2⟩
        go_wp2_with fail
        exact ⟨rfl, by rw [HO.out]; rfl, gr_call hbl hb2⟩
      · rw [hm] at hmay
        have HO : Hid (o = some acc) := Lib.hid (by rw [← Ho.out, HE.out]; simp [hm])
        clear HE Ho
        go_wp2_with fail
        refine (hmay.out).mono ?_
        rintro e w2 ⟨rfl, hb2⟩
        have hR2 := hR.call hb2
        go_wp2_with fail
        go_ret
        exact ⟨by rw [HO.out]; exact ⟨_, rfl, hR2.mono hb1.size⟩, gr_call hbl hb2⟩
end Go.Proofs.YtbhnhoenjoagbaaGreatDoor.AclW

/- Flags as text: the names of the bits with commas between; what a text says. -/
namespace Go.Proofs.YtbhnhoenjoagbaaGreatDoor.FlagsW
namespace FlagsM

/-- The name of a bit. -/
def nm : Nat → List UInt8
  | 0 => [117, 99, 104, 103]
  | 1 => [117, 97, 112, 112, 110, 100]
  | 2 => [110, 111, 100, 117, 109, 112]
  | 3 => [111, 112, 97, 113, 117, 101]
  | _ => []
/-- Is a bit set? -/
def isBit (n i : Nat) : Bool := decide (n / 2 ^ i % 2 = 1)
/-- One more name. -/
def addN (l : List UInt8) (i : Nat) : List UInt8 := if l = [] then nm i else l ++ 44 :: nm i
/-- The names of the first bits. -/
def upTo (n : Nat) : Nat → List UInt8
  | 0 => []
  | i + 1 => if isBit n i then addN (upTo n i) i else upTo n i
def textL (n : Nat) : List UInt8 := upTo n 4
/-- The text of any integer. -/
def textI (n : Int) : List UInt8 := if 0 ≤ n ∧ n ≤ 15 then textL n.toNat else []
def mayI (n : Int) : Bool := decide (0 ≤ n) && decide (n ≤ 15)
/-- The place of a name. -/
def place (s : List UInt8) : Option Nat := if s = nm 0 then some 0 else if s = nm 1 then some 1 else if s = nm 2 then some 2 else if s = nm 3 then some 3 else none
/-- What stands ahead of the first comma, what stands behind it, is there one? -/
def cutC : List UInt8 → List UInt8 × List UInt8 × Bool
  | [] => ([], [], false)
  | x :: r => if x = 44 then ([], r, true) else (x :: (cutC r).1, (cutC r).2.1, (cutC r).2.2)
/-- What stands between the commas. -/
def pieces : List UInt8 → List (List UInt8)
  | [] => [[]]
  | x :: r => if x = 44 then [] :: pieces r else match pieces r with
    | p :: ps => (x :: p) :: ps
    | [] => [[x]]
/-- What names say, beyond what others said. -/
def saysP (n : Nat) : List (List UInt8) → Option Nat
  | [] => some n
  | p :: ps => match place p with
    | none => none
    | some i => if 2 ^ i ≤ n then none else saysP (n ||| 2 ^ i) ps
def getL (s : List UInt8) : Option Nat := if s = [] then some 0 else saysP 0 (pieces s)

theorem pieces_cons (x : UInt8) (r : List UInt8) : pieces (x :: r) = if x = 44 then [] :: pieces r else match pieces r with
    | p :: ps => (x :: p) :: ps
    | [] => [[x]] := rfl
theorem pieces_ne : ∀ s, pieces s ≠ []
  | [] => by simp [pieces]
  | x :: r => by
    unfold pieces
    split
    · simp
    · split <;> simp
theorem pieces_cut : ∀ s, pieces s = (cutC s).1 :: (if (cutC s).2.2 then pieces (cutC s).2.1 else [])
  | [] => rfl
  | x :: r => by
    rw [pieces_cons]
    by_cases hx : x = 44
    · rw [if_pos hx, show cutC (x :: r) = ([], r, true) from if_pos hx]
      rfl
    · rw [if_neg hx, show cutC (x :: r) = (x :: (cutC r).1, (cutC r).2.1, (cutC r).2.2) from if_neg hx, pieces_cut r]
theorem cut_less : ∀ s, (cutC s).2.2 = true → (cutC s).2.1.length < s.length
  | [] => by simp [cutC]
  | x :: r => by
    unfold cutC
    by_cases hx : x = 44
    · simp [hx]
    · rw [if_neg hx]
      intro h
      have := cut_less r h
      simp only [List.length_cons]
      omega
theorem cut_le : ∀ s, (cutC s).1.length ≤ s.length
  | [] => by simp [cutC]
  | x :: r => by
    unfold cutC
    by_cases hx : x = 44
    · simp [hx]
    · rw [if_neg hx]
      have := cut_le r
      simp only [List.length_cons]
      omega
/-- All of it with its commas again. -/
def joinP : List (List UInt8) → List UInt8
  | [] => []
  | [p] => p
  | p :: ps => p ++ 44 :: joinP ps
theorem join_pieces : ∀ s, joinP (pieces s) = s
  | [] => rfl
  | x :: r => by
    have ih := join_pieces r
    rw [pieces_cons]
    by_cases hx : x = 44
    · rw [if_pos hx]
      rcases hp : pieces r with _ | ⟨q, qs⟩
      · exact absurd hp (pieces_ne r)
      · rw [hp] at ih
        show [] ++ 44 :: joinP (q :: qs) = _
        rw [ih, hx]; rfl
    · rw [if_neg hx]
      rcases hp : pieces r with _ | ⟨q, qs⟩
      · exact absurd hp (pieces_ne r)
      · rw [hp] at ih
        rcases qs with _ | ⟨y, ys⟩
        · show x :: q = _
          rw [← ih]; rfl
        · show x :: q ++ 44 :: joinP (y :: ys) = _
          rw [← ih]; rfl

theorem place_nm {s : List UInt8} {i : Nat} (h : place s = some i) : i < 4 ∧ s = nm i := by
  unfold place at h
  split at h
  · obtain rfl := Option.some.inj h; exact ⟨by decide, by assumption⟩
  · split at h
    · obtain rfl := Option.some.inj h; exact ⟨by decide, by assumption⟩
    · split at h
      · obtain rfl := Option.some.inj h; exact ⟨by decide, by assumption⟩
      · split at h
        · obtain rfl := Option.some.inj h; exact ⟨by decide, by assumption⟩
        · cases h
/-- How many bits a number under 16 has. -/
def top (n : Nat) : Nat := if n = 0 then 0 else if n < 2 then 1 else if n < 4 then 2 else if n < 8 then 3 else 4
/-- The names of the bits from one on. -/
def fromP (i n : Nat) : List (List UInt8) := ((List.range 4).filter fun j => decide (i ≤ j) && isBit n j).map nm
theorem step_tab : ∀ (a : Fin 16) (i : Fin 4) (n : Fin 16), ¬ 2 ^ i.val ≤ a.val → n.val % 2 ^ top (a.val ||| 2 ^ i.val) = a.val ||| 2 ^ i.val →
    nm i.val :: fromP (top (a.val ||| 2 ^ i.val)) n.val = fromP (top a.val) n.val ∧ n.val % 2 ^ top a.val = a.val := by decide +kernel
theorem end_tab : ∀ a : Fin 16, fromP (top a.val) a.val = [] ∧ a.val % 2 ^ top a.val = a.val := by decide +kernel
theorem or_16 {a i : Nat} (ha : a < 16) (hi : i < 4) : a ||| 2 ^ i < 16 := Nat.or_lt_two_pow (n := 4) ha (Nat.pow_lt_pow_right (by decide) hi)
theorem says_from : ∀ (ps : List (List UInt8)) (a n : Nat), a < 16 → saysP a ps = some n → n < 16 ∧ ps = fromP (top a) n ∧ n % 2 ^ top a = a
  | [], a, n, ha, h => by
    obtain rfl := Option.some.inj h
    have := end_tab ⟨a, ha⟩
    exact ⟨ha, this.1.symm, this.2⟩
  | p :: ps, a, n, ha, h => by
    unfold saysP at h
    rcases hp : place p with _ | i
    · rw [hp] at h; cases h
    · rw [hp] at h
      simp only at h
      split at h
      · cases h
      · rename_i hlt
        obtain ⟨hi, rfl⟩ := place_nm hp
        obtain ⟨hn, h1, h2⟩ := says_from ps _ n (or_16 ha hi) h
        obtain ⟨h3, h4⟩ := step_tab ⟨a, ha⟩ ⟨i, hi⟩ ⟨n, hn⟩ hlt h2
        simp only at h3 h4
        exact ⟨hn, by rw [h1, h3], h4⟩
theorem join_tab : ∀ n : Fin 16, joinP (fromP 0 n.val) = textL n.val := by decide +kernel
theorem text_tab : ∀ n : Fin 16, getL (textL n.val) = some n.val := by decide +kernel
theorem get_iff (s : List UInt8) (n : Nat) : getL s = some n ↔ n < 16 ∧ textL n = s := by
  constructor
  · intro h
    unfold getL at h
    split at h
    · rename_i hs
      obtain rfl := Option.some.inj h
      exact ⟨by decide, by rw [hs]; rfl⟩
    · obtain ⟨hn, h1, _⟩ := says_from _ 0 n (by decide) h
      refine ⟨hn, ?_⟩
      rw [← join_tab ⟨n, hn⟩, ← join_pieces s, h1]
      rfl
  · rintro ⟨hn, rfl⟩
    exact text_tab ⟨n, hn⟩
theorem get_lt {s : List UInt8} {n : Nat} (h : getL s = some n) : n < 16 := ((get_iff s n).1 h).1
theorem text_inj {n m : Nat} (hn : n < 16) (hm : m < 16) (h : textL n = textL m) : n = m := by
  have h1 := (get_iff (textL n) n).2 ⟨hn, rfl⟩
  rw [h] at h1
  have h2 := (get_iff (textL m) m).2 ⟨hm, rfl⟩
  exact Option.some.inj (h1.symm.trans h2)
theorem text_tab2 : ∀ n : Fin 16, (textL n.val).length ≤ 25 := by decide +kernel
theorem text_len {n : Nat} (h : n < 16) : (textL n).length ≤ 25 := text_tab2 ⟨n, h⟩
theorem up_tab : ∀ (n : Fin 16) (i : Fin 5), (upTo n.val i.val).length ≤ 25 := by decide +kernel
theorem up_len {n i : Nat} (h : n < 16) (hi : i ≤ 4) : (upTo n i).length ≤ 25 := up_tab ⟨n, h⟩ ⟨i, by omega⟩
end FlagsM
end Go.Proofs.YtbhnhoenjoagbaaGreatDoor.FlagsW

/- What the walks of this seat lean on in memory: package flags' table of names; it stays as it is whatever a call makes. -/
namespace Go.Proofs.YtbhnhoenjoagbaaGreatDoor.FlagsW
open Go.RowKit
open FlagsM

/-- The table of names, cell for cell. -/
def nameCells : List Value := [.string ⟨#[117, 99, 104, 103]⟩, .string ⟨#[117, 97, 112, 112, 110, 100]⟩, .string ⟨#[110, 111, 100, 117, 109, 112]⟩, .string ⟨#[111, 112, 97, 113, 117, 101]⟩]
/-- The table of names reads as the program's text lays it. -/
def Amb (w : World) : Prop := ∀ (i : Nat) v, nameCells[i]? = some v → w.cell? ⟨0, i, none⟩ = some v
theorem Amb.on {w w' : World} (h : Amb w) (hb : Below w.heap.size w w') : Amb w' := fun i v hv => cell_kept hb (h i v hv)
theorem Amb.cells {w : World} (h : Amb w) :
    w.cell? ⟨0, 0, none⟩ = some (.string ⟨#[117, 99, 104, 103]⟩) ∧ w.cell? ⟨0, 1, none⟩ = some (.string ⟨#[117, 97, 112, 112, 110, 100]⟩) ∧
    w.cell? ⟨0, 2, none⟩ = some (.string ⟨#[110, 111, 100, 117, 109, 112]⟩) ∧ w.cell? ⟨0, 3, none⟩ = some (.string ⟨#[111, 112, 97, 113, 117, 101]⟩) :=
  ⟨h 0 _ rfl, h 1 _ rfl, h 2 _ rfl, h 3 _ rfl⟩
end Go.Proofs.YtbhnhoenjoagbaaGreatDoor.FlagsW

/- Walks over package flags: May, bitOf. -/
namespace Go.Proofs.YtbhnhoenjoagbaaGreatDoor.FlagsW
open Go.RowKit
open FlagsM
set_option linter.unusedVariables false

/-- What the parsing ends with where it meets what no text has. -/
def noFlags : List PanicEntry := [{ v := .iface 233 (.agg #[]), recovered := false }]
/-- How it ends. -/
def natEnd (o : Option Nat) (e : Ending) : Prop := match o with
  | some n => e = .returned (.int .i64 (n : Int))
  | none => e = .panicked noFlags

theorem may_any (n : Int) (w : World) : Calls Tryz.prog 138 #[.int .i64 n] w fun e w' => e = .returned (.bool (mayI n)) ∧ w' = w := by
  have Hd := Lib.hid (show mayI n = (decide (0 ≤ n) && decide (n ≤ 15)) from rfl)
  by_cases h1 : 0 ≤ n
  · go_enter Tryz.func138, Tryz.ntmps138
    go_wp2_with fail
    go_ret
    exact ⟨ret_bool (by rw [Hd.out, decide_eq_true h1]; rfl), rfl⟩
  · go_enter Tryz.func138, Tryz.ntmps138
    go_wp2_with fail
    go_ret
    exact ⟨ret_bool (by rw [Hd.out, decide_eq_false (by omega)]; rfl), rfl⟩
theorem refMay_any (n : Int) (w : World) : Calls Tryz.prog 124 #[.int .i64 n] w fun e w' => e = .returned (.bool (mayI n)) ∧ w' = w := by
  have Hd := Lib.hid (show mayI n = (decide (0 ≤ n) && decide (n ≤ 15)) from rfl)
  by_cases h1 : 0 ≤ n
  · go_enter Tryz.func124, Tryz.ntmps124
    go_wp2_with fail
    go_ret
    exact ⟨ret_bool (by rw [Hd.out, decide_eq_true h1]; rfl), rfl⟩
  · go_enter Tryz.func124, Tryz.ntmps124
    go_wp2_with fail
    go_ret
    exact ⟨ret_bool (by rw [Hd.out, decide_eq_false (by omega)]; rfl), rfl⟩

/-- The names in the table, each by its letters. -/
theorem Amb.named {w : World} (h : Amb w) : ∃ N0 N1 N2 N3 : ByteArray, (w.cell? ⟨0, 0, none⟩ = some (.string N0) ∧ w.cell? ⟨0, 1, none⟩ = some (.string N1) ∧
    w.cell? ⟨0, 2, none⟩ = some (.string N2) ∧ w.cell? ⟨0, 3, none⟩ = some (.string N3)) ∧ Hid (N0 = strOf (nm 0) ∧ N1 = strOf (nm 1) ∧ N2 = strOf (nm 2) ∧ N3 = strOf (nm 3)) :=
  ⟨_, _, _, _, h.cells, Lib.hid ⟨rfl, rfl, rfl, rfl⟩⟩
theorem place_yes {s : List UInt8} {i : Nat} (hi : i < 4) (h : s = nm i) : place s = some i := by
  subst h
  obtain rfl | rfl | rfl | rfl : i = 0 ∨ i = 1 ∨ i = 2 ∨ i = 3 := by omega
  all_goals rfl
theorem place_no {s : List UInt8} (h : ∀ i, i < 4 → s ≠ nm i) : place s = none := by
  unfold place
  rw [if_neg (h 0 (by decide)), if_neg (h 1 (by decide)), if_neg (h 2 (by decide)), if_neg (h 3 (by decide))]
theorem beq_strOf (A : ByteArray) (l : List UInt8) : (A.toList == (strOf l).toList) = decide (A.data.toList = l) := by rw [str_beq, strOf_list]

set_option maxHeartbeats 1600000 in
theorem bitOf_any (p : ByteArray) (w : World) (hA : Amb w) :
    Calls Tryz.prog 273 #[.string p] w fun e w' => natEnd ((place p.data.toList).map (2 ^ ·)) e ∧ w' = w := by
  obtain ⟨N0, N1, N2, N3, ⟨c0, c1, c2, c3⟩, HN⟩ := hA.named
  have b0 : (p.toList == N0.toList) = decide (p.data.toList = nm 0) := by rw [HN.out.1, beq_strOf]
  have b1 : (p.toList == N1.toList) = decide (p.data.toList = nm 1) := by rw [HN.out.2.1, beq_strOf]
  have b2 : (p.toList == N2.toList) = decide (p.data.toList = nm 2) := by rw [HN.out.2.2.1, beq_strOf]
  have b3 : (p.toList == N3.toList) = decide (p.data.toList = nm 3) := by rw [HN.out.2.2.2, beq_strOf]
  have HY := Lib.hid (fun i (hi : i < 4) (h : p.data.toList = nm i) => place_yes hi h)
  have HZ := Lib.hid (fun (h : ∀ i, i < 4 → p.data.toList ≠ nm i) => place_no h)
  have B0 := Lib.hid b0
  have B1 := Lib.hid b1
  have B2 := Lib.hid b2
  have B3 := Lib.hid b3
  clear b0 b1 b2 b3 HN
  go_enter Tryz.func273, Tryz.ntmps273
  go_wp2_with fail
  go_loopw [6] (fun iv wr => ∃ i : Nat, iv = .int .i64 (i : Int) ∧ i ≤ 4 ∧ wr = w ∧ Hid (∀ j, j < i → p.data.toList ≠ nm j)) (fun iv _ => 4 - (intOf iv).toNat)
  case atStart => exact ⟨0, rfl, by omega, rfl, Lib.hid (fun j h => by omega)⟩
  case round =>
    obtain ⟨i, rfl, hi, rfl, HR⟩ := hrel
    obtain rfl | rfl | rfl | rfl | rfl : i = 0 ∨ i = 1 ∨ i = 2 ∨ i = 3 ∨ i = 4 := by omega
    · have hx : ∀ W, (Instr.index 149 (.agg #[.string N0, .string N1, .string N2, .string N3]) (.int .i64 0)).run Tryz.prog W = .ok (.string N0) W := fun W => by kernel_rfl
      by_cases hq : p.data.toList = nm 0
      · have hb := B0.out
        rw [decide_eq_true hq] at hb
        have HE := Lib.hid (HY.out 0 (by decide) hq)
        clear HR HY HZ hq
        go_wp2_with fail
        go_ret
        exact ⟨by rw [HE.out]; rfl, rfl⟩
      · have hb := B0.out
        rw [decide_eq_false hq] at hb
        have HR2 : Hid (∀ j, j < 1 → p.data.toList ≠ nm j) := Lib.hid (fun j hj => by
          by_cases hji : j = 0
          · subst hji; exact hq
          · exact HR.out j (by omega))
        clear HR HY HZ hq
        go_wp2_with fail
        go_roundw
        case rel => exact ⟨1, rfl, by omega, by first | trivial | rfl, HR2⟩
        case measure => simp only [intOf]; omega
    · have hx : ∀ W, (Instr.index 149 (.agg #[.string N0, .string N1, .string N2, .string N3]) (.int .i64 1)).run Tryz.prog W = .ok (.string N1) W := fun W => by kernel_rfl
      by_cases hq : p.data.toList = nm 1
      · have hb := B1.out
        rw [decide_eq_true hq] at hb
        have HE := Lib.hid (HY.out 1 (by decide) hq)
        clear HR HY HZ hq
        go_wp2_with fail
        go_ret
        exact ⟨by rw [HE.out]; rfl, rfl⟩
      · have hb := B1.out
        rw [decide_eq_false hq] at hb
        have HR2 : Hid (∀ j, j < 2 → p.data.toList ≠ nm j) := Lib.hid (fun j hj => by
          by_cases hji : j = 1
          · subst hji; exact hq
          · exact HR.out j (by omega))
        clear HR HY HZ hq
        go_wp2_with fail
        go_roundw
        case rel => exact ⟨2, rfl, by omega, by first | trivial | rfl, HR2⟩
        case measure => simp only [intOf]; omega
    · have hx : ∀ W, (Instr.index 149 (.agg #[.string N0, .string N1, .string N2, .string N3]) (.int .i64 2)).run Tryz.prog W = .ok (.string N2) W := fun W => by kernel_rfl
      by_cases hq : p.data.toList = nm 2
      · have hb := B2.out
        rw [decide_eq_true hq] at hb
        have HE := Lib.hid (HY.out 2 (by decide) hq)
        clear HR HY HZ hq
        go_wp2_with fail
        go_ret
        exact ⟨by rw [HE.out]; rfl, rfl⟩
      · have hb := B2.out
        rw [decide_eq_false hq] at hb
        have HR2 : Hid (∀ j, j < 3 → p.data.toList ≠ nm j) := Lib.hid (fun j hj => by
          by_cases hji : j = 2
          · subst hji; exact hq
          · exact HR.out j (by omega))
        clear HR HY HZ hq
        go_wp2_with fail
        go_roundw
        case rel => exact ⟨3, rfl, by omega, by first | trivial | rfl, HR2⟩
        case measure => simp only [intOf]; omega
    · have hx : ∀ W, (Instr.index 149 (.agg #[.string N0, .string N1, .string N2, .string N3]) (.int .i64 3)).run Tryz.prog W = .ok (.string N3) W := fun W => by kernel_rfl
      by_cases hq : p.data.toList = nm 3
      · have hb := B3.out
        rw [decide_eq_true hq] at hb
        have HE := Lib.hid (HY.out 3 (by decide) hq)
        clear HR HY HZ hq
        go_wp2_with fail
        go_ret
        exact ⟨by rw [HE.out]; rfl, rfl⟩
      · have hb := B3.out
        rw [decide_eq_false hq] at hb
        have HR2 : Hid (∀ j, j < 4 → p.data.toList ≠ nm j) := Lib.hid (fun j hj => by
          by_cases hji : j = 3
          · subst hji; exact hq
          · exact HR.out j (by omega))
        clear HR HY HZ hq
        go_wp2_with fail
        go_roundw
        case rel => exact ⟨4, rfl, by omega, by first | trivial | rfl, HR2⟩
        case measure => simp only [intOf]; omega
    · have HE := Lib.hid (HZ.out HR.out)
      clear HR HZ HY
      go_wp2_with fail
      exact ⟨rfl, by rw [HE.out]; rfl, rfl⟩
end Go.Proofs.YtbhnhoenjoagbaaGreatDoor.FlagsW
