/- Bundle of 9 texts. -/
import Derived.Test.YtpfidbcnefnhcaaAwAdd
import Derived.Test.YtpfidbcnefnhcaaPk03
import Derived.Test.YtpfidbcnefnhcaaPk01
import Derived.Test.YtpfidbcnefnhcaaPk02
import Derived.Test.YtpfidbcnefnhcaaChecked
import Derived.Deep.QuietTactic
import Derived.BigQuiet
import Derived.Outline
import Derived.Test.YtpfidbcnefnhcaaRows
import Derived.Test.YtpfidbcnefnhcaaShelf
import Derived.Test.YtpfidbcnefnhcaaKit
import Derived.Shelf.RegionOpenPlain
import Derived.Lib.AppendStr
import Derived.Laws.Externs
import Derived.OwnWalk
import Derived.Lib.Strings
import Derived.Lib.Builder
import Derived.Deep.RegionHeld3
import Derived.Deep.AppendLies
import Derived.StillTailTactics
import Derived.Sort.Walk0
/- Lists by numbers: Make, walked. -/
namespace Go.Proofs.Ytpfidbcnefnhcaa.AclW
open Go.RowKit
open AclM
set_option linter.unusedVariables false

theorem xor_i64 (a b : Nat) (ha : a < 8) (hb : b < 8) : 0 ≤ bits .xor .i64 (a : Int) (b : Int) ∧ bits .xor .i64 (a : Int) (b : Int) ≤ 7 := by
  have hx : a ^^^ b < 2 ^ 3 := Nat.xor_lt_two_pow (by omega) (by omega)
  have : bits .xor .i64 (a : Int) (b : Int) = ((a ^^^ b : Nat) : Int) := by
    show IntKind.i64.wrap ((BitVec.ofInt 64 (a : Int) ^^^ BitVec.ofInt 64 (b : Int)).toNat : Int) = _
    rw [BitVec.toNat_xor, ofInt64_nat a (by omega), ofInt64_nat b (by omega), IntKind.wrap_i64]
    omega
  rw [this]
  omega
theorem two_at (w : World) (a b : Ace) (g : Nat) (hg : w.heap.size = g) : At aceE (.slice (some ⟨g, 0, none⟩) 2 2) [a, b] (w.alloc (.cells #[.int .i64 a.1, .int .i64 a.2.1, .int .i64 a.2.2, .int .i64 b.1, .int .i64 b.2.1, .int .i64 b.2.2] 51)) := by
  subst hg
  exact (lit_row (E := aceE) w [a, b] _ 0 2 rfl (Nat.zero_le _) (by simp) rfl).at
attribute [local irreducible] Row At

end Go.Proofs.Ytpfidbcnefnhcaa.AclW

/- Lists by numbers: Make, walked once more, its list as a function of the numbers. -/
namespace Go.Proofs.Ytpfidbcnefnhcaa.AclW
open Go.RowKit
open AclM
set_option linter.unusedVariables false

def pairsL (zs : List Int) : Nat → List Ace × List Ace
  | 0 => ([], [])
  | j + 1 => if zs.getD (2 * j) 0 % 2 = 0 then (addL (pairsL zs j).1 (2, zs.getD (2 * j) 0 / 2, zs.getD (2 * j + 1) 0 % 8), (pairsL zs j).2)
    else ((pairsL zs j).1, addL (pairsL zs j).2 (4, zs.getD (2 * j) 0 / 2, zs.getD (2 * j + 1) 0 % 8))
def madeL (zs : List Int) (len : Nat) (n : Int) : List Ace :=
  makeL (pairsL zs (min 6 (len / 2))).1 (pairsL zs (min 6 (len / 2))).2 (bits .and .i64 (n / 64) 7) (bits .and .i64 (n / 8) 7) (bits .and .i64 n 7)
    (if (pairsL zs (min 6 (len / 2))).1.length + (pairsL zs (min 6 (len / 2))).2.length = 0 then 0 else bits .xor .i64 (bits .and .i64 (n / 8) 7) (zs.getD 0 0 % 8))
theorem pairs_even {zs : List Int} {j : Nat} {us gs : List Ace} (h : (us, gs) = pairsL zs j) (he : zs.getD (2 * j) 0 % 2 = 0) : (addL us (2, zs.getD (2 * j) 0 / 2, zs.getD (2 * j + 1) 0 % 8), gs) = pairsL zs (j + 1) := by
  rw [pairsL, if_pos he, ← h]
theorem pairs_odd {zs : List Int} {j : Nat} {us gs : List Ace} (h : (us, gs) = pairsL zs j) (he : ¬ zs.getD (2 * j) 0 % 2 = 0) : (us, addL gs (4, zs.getD (2 * j) 0 / 2, zs.getD (2 * j + 1) 0 % 8)) = pairsL zs (j + 1) := by
  rw [pairsL, if_neg he, ← h]
theorem made_nil {zs : List Int} {len j : Nat} {us gs : List Ace} {n : Int} (h : (us, gs) = pairsL zs j) (hj : j = min 6 (len / 2)) (h0 : us.length + gs.length = 0) :
    makeL us gs (bits .and .i64 (n / 64) 7) (bits .and .i64 (n / 8) 7) (bits .and .i64 n 7) 0 = madeL zs len n := by
  unfold madeL
  rw [← hj, ← h]
  simp only
  rw [if_pos h0]
theorem made_some {zs : List Int} {len j : Nat} {us gs : List Ace} {n : Int} (h : (us, gs) = pairsL zs j) (hj : j = min 6 (len / 2)) (h0 : ¬ us.length + gs.length = 0) :
    makeL us gs (bits .and .i64 (n / 64) 7) (bits .and .i64 (n / 8) 7) (bits .and .i64 n 7) (bits .xor .i64 (bits .and .i64 (n / 8) 7) (zs.getD 0 0 % 8)) = madeL zs len n := by
  unfold madeL
  rw [← hj, ← h]
  simp only
  rw [if_neg h0]
attribute [local irreducible] Row At

set_option maxHeartbeats 3200000 in
set_option maxRecDepth 100000 in
theorem make_fn (a : Option Addr) (len cap : Nat) (zs : List Int) (n : Int) (w : World) (hr : IsRow .u8 w a len cap zs) (hn0 : 0 ≤ n) (hn1 : n < 512) (hlen : len ≤ 9223372036854775807) :
    Calls Try.prog 35 #[.slice a len cap, .int .i64 n] w fun e w' => (∃ v, e = .returned v ∧ Row aceE w.heap.size v (madeL zs len n) w' ∧ may (madeL zs len n) = true ∧ modeL (madeL zs len n) = n) ∧ Below w.heap.size w w' := by
  obtain ⟨O, hO⟩ : ∃ O, bits .and .i64 (n / 64) 7 = O := ⟨_, rfl⟩
  obtain ⟨G, hG⟩ : ∃ G, bits .and .i64 (n / 8) 7 = G := ⟨_, rfl⟩
  obtain ⟨P, hP⟩ : ∃ P, bits .and .i64 n 7 = P := ⟨_, rfl⟩
  have hO1 : O = n / 64 % 8 := by rw [← hO, and7]
  have hG1 : G = n / 8 % 8 := by rw [← hG, and7]
  have hP1 : P = n % 8 := by rw [← hP, and7]
  have hsum : 64 * O + 8 * G + P = n := by omega
  have hOr : 0 ≤ O ∧ O ≤ 7 := by omega
  have hGr : 0 ≤ G ∧ G ≤ 7 := by omega
  have hPr : 0 ≤ P ∧ P ≤ 7 := by omega
  have HF0 := Lib.hid (fun (j : Nat) (us gs : List Ace) (h : (us, gs) = pairsL zs j) (hj : j = min 6 (len / 2)) (h0 : us.length + gs.length = 0) => made_nil (n := n) h hj h0)
  have HF1 := Lib.hid (fun (j : Nat) (us gs : List Ace) (h : (us, gs) = pairsL zs j) (hj : j = min 6 (len / 2)) (h0 : ¬ us.length + gs.length = 0) => made_some (n := n) h hj h0)
  have HE := Lib.hid (fun (j : Nat) (us gs : List Ace) (h : (us, gs) = pairsL zs j) => pairs_even h)
  have HD := Lib.hid (fun (j : Nat) (us gs : List Ace) (h : (us, gs) = pairsL zs j) => pairs_odd h)
  rw [hO, hG, hP] at HF0 HF1
  obtain ⟨PL, hPL⟩ : ∃ q, pairsL zs = q := ⟨_, rfl⟩
  rw [hPL] at HF0 HF1 HE HD
  have HPL := Lib.hid hPL
  clear hPL
  obtain ⟨ML, hML⟩ : ∃ q, madeL zs len n = q := ⟨_, rfl⟩
  rw [hML] at HF0 HF1 ⊢
  clear hML
  clear hO1 hG1 hP1
  have Hadd := Lib.hid add_any
  have Hopen := Lib.hid (fun h => IsRow.open hr h)
  clear hr
  go_enter Try.func35, Try.ntmps35
  go_wp2_with fail
  go_loopw [8, 9, 10] (fun uv gv iv wr => ∃ (j : Nat) (us gs : List Ace), iv = .int .i64 ((2 * j : Nat) : Int) ∧ j ≤ 6 ∧ us.length ≤ j ∧ gs.length ≤ j ∧ Below w.heap.size w wr ∧ At aceE uv us wr ∧ At aceE gv gs wr ∧ Hid (Grp 2 us ∧ Grp 4 gs ∧ (j = 0 → us.length + gs.length = 0) ∧ (0 < j → 2 ≤ len) ∧ (us, gs) = PL j ∧ (0 < j → 2 * j ≤ len ∧ j ≤ 6))) (fun _ _ iv _ => 12 - (intOf iv).toNat)
  case atStart => exact ⟨0, [], [], rfl, by omega, by simp, by simp, by (repeat' (first | exact Below.refl _ _ | assumption | refine gr_drew ?_ | refine gr_drewN ?_ _ | refine gr_alloc ?_ _ | refine gr_set ?_ ?_ _ | refine gr_call ?_ (by assumption)) <;> (try (simp; done)) <;> (try (simp; omega)) <;> (try omega)), At.nil _, At.nil _, Lib.hid ⟨Grp.nil 2, Grp.nil 4, fun _ => rfl, fun h => absurd h (by omega), by rw [← HPL.out]; rfl, fun h => absurd h (by omega)⟩⟩
  case round =>
    obtain ⟨j, us, gs, rfl, hj, hul, hgl, hbl, hu, hg, HG⟩ := hrel
    rename_i wr
    obtain ⟨i, hi⟩ : ∃ i : Nat, 2 * j = i := ⟨_, rfl⟩
    rw [hi]
    by_cases hc : i + 1 < len ∧ i < 12
    · have e1 : decide ((i : Int) + 1 < (len : Int)) = true := decide_eq_true (by omega)
      have e2 : decide ((i : Int) < 12) = true := decide_eq_true (by omega)
      have e1' : (i : Int) + 1 < (len : Int) := by omega
      have e3 : (i : Int) < (len : Int) := by omega
      have e3' : i < len := by omega
      have e4 : i + 1 < len := by omega
      obtain ⟨b, off, rfl, hb, hlc, hcells⟩ := Hopen.out (by omega)
      obtain ⟨c0, wf0⟩ := hcells i (by omega)
      obtain ⟨c1, wf1⟩ := hcells (i + 1) (by omega)
      replace c0 := cell_kept hbl c0
      replace c1 := cell_kept hbl c1
      have HEj := Lib.hid (HE.out j us gs HG.out.2.2.2.2.1)
      have HDj := Lib.hid (HD.out j us gs HG.out.2.2.2.2.1)
      rw [hi] at HEj HDj
      generalize zs.getD i 0 = x1 at *
      generalize zs.getD (i + 1) 0 = x2 at *
      have hx1 : 0 ≤ x1 ∧ x1 ≤ 255 := by simpa [Lit.wf, IntKind.min, IntKind.max, IntKind.signed, IntKind.bits] using wf0
      have hx2 : 0 ≤ x2 ∧ x2 ≤ 255 := by simpa [Lit.wf, IntKind.min, IntKind.max, IntKind.signed, IntKind.bits] using wf1
      clear hcells wf0 wf1
      have hwr : IntKind.i64.wrap ((i : Int) + 1) = (i : Int) + 1 := by rw [IntKind.wrap_i64]; omega
      go_wp2_with fail
      go_quiet (fail)
      rename_i nq
      have hqb : Below wr.heap.size wr (wr.drewN nq) := gr_drewN (Below.refl _ _) nq
      replace hu := hu.call hqb
      replace hg := hg.call hqb
      replace c0 := cell_kept hqb c0
      replace c1 := cell_kept hqb c1
      replace hbl := gr_call hbl hqb
      generalize wr.drewN nq = W at *
      clear hqb
      by_cases hev : x1 % 2 = 0
      · have f : (x1 % 2 == 0) = true := by rw [hev]; rfl
        have ha := Lib.hid (fun (sv : Value) W (hh : At aceE sv us W) => Hadd.out sv us (2, x1 / 2, x2 % 8) W hh (by omega))
        have HN := Lib.hid (HG.out.1.add (a := (2, x1 / 2, x2 % 8)) rfl (show 0 ≤ x1 / 2 by omega) (show x1 / 2 ≤ 127 by omega) (show 0 ≤ x2 % 8 by omega) (show x2 % 8 ≤ 7 by omega))
        have hal := addL_len us (2, x1 / 2, x2 % 8)
        go_wp2_with fail
        refine (ha.out _ _ hu).mono ?_
        rintro e w2 ⟨⟨v2, rfl, hR⟩, hb2⟩
        have hat2 := hR.at
        replace hg := hg.call hb2
        have hbl2 := gr_call hbl hb2
        clear ha hR hb2 hbl c0 c1
        have HP2 := Lib.hid (HEj.out hev)
        generalize addL us (2, x1 / 2, x2 % 8) = NL at *
        go_wp2_with fail
        go_roundw
        case rel => exact ⟨j + 1, NL, gs, by congr 1; omega, by omega, by omega, by omega, hbl2, hat2, hg, Lib.hid ⟨HN.out, HG.out.2.1, fun h => by omega, fun _ => by omega, HP2.out, fun _ => by omega⟩⟩
        case measure => simp only [intOf]; omega
      · have f : (x1 % 2 == 0) = false := beq_eq_false_iff_ne.2 hev
        have ha := Lib.hid (fun (sv : Value) W (hh : At aceE sv gs W) => Hadd.out sv gs (4, x1 / 2, x2 % 8) W hh (by omega))
        have HN := Lib.hid (HG.out.2.1.add (a := (4, x1 / 2, x2 % 8)) rfl (show 0 ≤ x1 / 2 by omega) (show x1 / 2 ≤ 127 by omega) (show 0 ≤ x2 % 8 by omega) (show x2 % 8 ≤ 7 by omega))
        have hal := addL_len gs (4, x1 / 2, x2 % 8)
        go_wp2_with fail
        refine (ha.out _ _ hg).mono ?_
        rintro e w2 ⟨⟨v2, rfl, hR⟩, hb2⟩
        have hat2 := hR.at
        replace hu := hu.call hb2
        have hbl2 := gr_call hbl hb2
        clear ha hR hb2 hbl c0 c1
        have HP2 := Lib.hid (HDj.out hev)
        generalize addL gs (4, x1 / 2, x2 % 8) = NL at *
        go_wp2_with fail
        go_roundw
        case rel => exact ⟨j + 1, us, NL, by congr 1; omega, by omega, by omega, by omega, hbl2, hu, hat2, Lib.hid ⟨HG.out.1, HN.out, fun h => by omega, fun _ => by omega, HP2.out, fun _ => by omega⟩⟩
        case measure => simp only [intOf]; omega
    · have hcond : (decide ((i : Int) + 1 < (len : Int)) = false) ∨ (decide ((i : Int) + 1 < (len : Int)) = true ∧ decide ((i : Int) < 12) = false) := by
        by_cases h1 : i + 1 < len
        · exact .inr ⟨decide_eq_true (by omega), decide_eq_false (by omega)⟩
        · exact .inl (decide_eq_false (by omega))
      have hwr : IntKind.i64.wrap ((i : Int) + 1) = (i : Int) + 1 := by rw [IntKind.wrap_i64]; omega
      obtain ⟨pu, cu, rfl, _⟩ := hu.shape
      obtain ⟨pg, cg, rfl, _⟩ := hg.shape
      have HM := Lib.hid (fun (q : Int) (hq : 0 ≤ q ∧ q ≤ 7) => make_good (o := O) (g := G) (p := P) (q := q) HG.out.1 HG.out.2.1 (by omega) (by omega) hOr hGr hPr hq)
      have hn2 : us.length + gs.length ≠ 0 → 0 < len := by
        intro h
        have h3 := HG.out.2.2.1
        have h4 := HG.out.2.2.2.1
        by_cases hj0 : j = 0
        · exact absurd (h3 hj0) h
        · have := h4 (by omega); omega
      have hrow0 := one_ace wr (1, 0, O) wr.heap.size (Nat.le_refl _)
      have hu1 := hu.alloc (.cells #[.int .i64 1, .int .i64 0, .int .i64 O] 51)
      have hl1 : ([(1, 0, O)] : List Ace).length + us.length ≤ 1000000 := by simp; omega
      have hs1 : wr.heap.size ≤ (wr.alloc (.cells #[.int .i64 1, .int .i64 0, .int .i64 O] 51)).heap.size := by simp
      simp only at hrow0
      have hjm : j = min 6 (len / 2) := by
        have h5 := HG.out.2.2.2.2.2
        by_cases hj0 : j = 0
        · omega
        · have := h5 (by omega); omega
      have HM0 := Lib.hid (HF0.out j us gs HG.out.2.2.2.2.1 hjm)
      have HM1 := Lib.hid (HF1.out j us gs HG.out.2.2.2.2.1 hjm)
      clear hjm
      clear hc HG
      rcases hcond with hcond | ⟨hcond, hcond2⟩
      all_goals
        go_wp2_with (at_builtin; refine wp_append_at aceE rfl _ _ rfl wr.heap.size (.slice (some ⟨wr.heap.size, 0, none⟩) 1 1) _ [(1, 0, O)] us (wr.alloc (.cells #[.int .i64 1, .int .i64 0, .int .i64 O] 51)) rfl (by exact hrow0) (by rfl) (by exact hu1) hl1 hs1 ?_)
        intro v1 w1 hR1 hb1 _ _
        have hB1 : Below wr.heap.size wr w1 := (gr_alloc (Below.refl _ _) _).trans hb1
        have hsz1 := hB1.size
        clear hrow0 hu1 hb1
        by_cases h0 : us.length + gs.length = 0
        · have f0 : ((us.length : Int) + (gs.length : Int) == 0) = true := by rw [show (us.length : Int) + (gs.length : Int) = 0 by omega]; rfl
          have htwo := two_at w1 (3, 0, G) (6, 0, P) w1.heap.size rfl
          have hR1' := hR1.alloc (.cells #[.int .i64 3, .int .i64 0, .int .i64 G, .int .i64 6, .int .i64 0, .int .i64 P] 51)
          have hl2 : ([(1, 0, O)] ++ us : List Ace).length + ([(3, 0, G), (6, 0, P)] : List Ace).length ≤ 1000000 := by simp; omega
          have hs2 : wr.heap.size ≤ (w1.alloc (.cells #[.int .i64 3, .int .i64 0, .int .i64 G, .int .i64 6, .int .i64 0, .int .i64 P] 51)).heap.size := by simp; omega
          simp only at htwo
          clear hn2
          go_wp2_with (at_builtin; refine wp_append_at aceE rfl _ _ rfl wr.heap.size _ (.slice (some ⟨w1.heap.size, 0, none⟩) 2 2) ([(1, 0, O)] ++ us) [(3, 0, G), (6, 0, P)] (w1.alloc (.cells #[.int .i64 3, .int .i64 0, .int .i64 G, .int .i64 6, .int .i64 0, .int .i64 P] 51)) rfl (by exact hR1') (by rfl) (by exact htwo) hl2 hs2 ?_)
          intro v2 w2 hR2 hb2 _ _
          have hB2 : Below wr.heap.size wr w2 := (hB1.alloc hsz1 _).trans hb2
          clear hR1 hR1' htwo hb2
          go_wp2_with fail
          go_ret
          rw [← HM0.out h0]
          refine ⟨⟨v2, rfl, ?_, (HM.out 0 (by omega)).1, by rw [(HM.out 0 (by omega)).2]; exact hsum⟩, gr_call hbl hB2⟩
          unfold makeL
          rw [if_pos h0]
          exact hR2.mono hbl.size
        · have f0 : ((us.length : Int) + (gs.length : Int) == 0) = false := beq_eq_false_iff_ne.2 (by omega)
          obtain ⟨b, off, rfl, hbb, hlc, hcells⟩ := Hopen.out (hn2 h0)
          obtain ⟨c0, wf0⟩ := hcells 0 (hn2 h0)
          have hlen0 : decide (0 < len) = true := decide_eq_true (hn2 h0)
          have hlen1 : decide ((0 : Int) < (len : Int)) = true := decide_eq_true (by have := hn2 h0; omega)
          have hlen2 : 0 < len := hn2 h0
          rw [Nat.add_zero] at c0
          replace c0 := cell_kept (gr_call hbl hB1) c0
          have HM1 := Lib.hid (HM1.out h0)
          generalize zs.getD 0 0 = x0 at *
          have hx0 : 0 ≤ x0 ∧ x0 ≤ 255 := by simpa [Lit.wf, IntKind.min, IntKind.max, IntKind.signed, IntKind.bits] using wf0
          have HM2 := Lib.hid HM1.out
          obtain ⟨Q, hQ⟩ : ∃ Q, bits .xor .i64 G (x0 % 8) = Q := ⟨_, rfl⟩
          rw [hQ] at HM2
          have hQr : 0 ≤ Q ∧ Q ≤ 7 := by
            rw [← hQ]
            have h := xor_i64 G.toNat (x0 % 8).toNat (by omega) (by omega)
            rw [show ((G.toNat : Nat) : Int) = G by omega, show (((x0 % 8).toNat : Nat) : Int) = x0 % 8 by omega] at h
            exact h
          have hR1' := hR1.alloc (.cells #[.int .i64 3, .int .i64 0, .int .i64 Q] 51)
          have hone := (one_ace w1 (3, 0, Q) 0 (Nat.zero_le _)).at
          have hl2 : ([(1, 0, O)] ++ us : List Ace).length + ([(3, 0, Q)] : List Ace).length ≤ 1000000 := by simp; omega
          have hs2 : wr.heap.size ≤ (w1.alloc (.cells #[.int .i64 3, .int .i64 0, .int .i64 Q] 51)).heap.size := by simp; omega
          simp only at hone
          clear hn2 hcells wf0 Hopen
          go_wp2_with (at_builtin; refine wp_append_at aceE rfl _ _ rfl wr.heap.size _ (.slice (some ⟨w1.heap.size, 0, none⟩) 1 1) ([(1, 0, O)] ++ us) [(3, 0, Q)] (w1.alloc (.cells #[.int .i64 3, .int .i64 0, .int .i64 Q] 51)) rfl (by exact hR1') (by rfl) (by exact hone) hl2 hs2 ?_)
          intro v2 w2 hR2 hb2 _ _
          have hB2 : Below wr.heap.size wr w2 := (hB1.alloc hsz1 _).trans hb2
          have hsz2 := hB2.size
          have hg2 := hg.call hB2
          have hl3 : ([(1, 0, O)] ++ us ++ [(3, 0, Q)] : List Ace).length + gs.length ≤ 1000000 := by simp; omega
          clear hR1 hR1' hone hb2 hl2 hs2 c0
          go_wp2_with (at_builtin; refine wp_append_at aceE rfl _ _ rfl wr.heap.size v2 (.slice pg gs.length cg) ([(1, 0, O)] ++ us ++ [(3, 0, Q)]) gs w2 (by rfl) (by exact hR2) (by rfl) (by exact hg2) hl3 hsz2 ?_)
          intro v3 w3 hR3 hb3 _ _
          have hB3 : Below wr.heap.size wr w3 := hB2.trans hb3
          have hsz3 := hB3.size
          have htwo := two_at w3 (5, 0, G) (6, 0, P) w3.heap.size rfl
          have hR3a : Row aceE wr.heap.size v3 ([(1, 0, O)] ++ us ++ [(3, 0, Q)] ++ gs) w3 := by simpa using hR3
          have hR3' := hR3a.alloc (.cells #[.int .i64 5, .int .i64 0, .int .i64 G, .int .i64 6, .int .i64 0, .int .i64 P] 51)
          have hl4 : ([(1, 0, O)] ++ us ++ [(3, 0, Q)] ++ gs : List Ace).length + ([(5, 0, G), (6, 0, P)] : List Ace).length ≤ 1000000 := by simp; omega
          have hs4 : wr.heap.size ≤ (w3.alloc (.cells #[.int .i64 5, .int .i64 0, .int .i64 G, .int .i64 6, .int .i64 0, .int .i64 P] 51)).heap.size := by simp; omega
          simp only at htwo
          clear hR2 hb3 hg2 hl3 hR3
          go_wp2_with (at_builtin; refine wp_append_at aceE rfl _ _ rfl wr.heap.size v3 (.slice (some ⟨w3.heap.size, 0, none⟩) 2 2) ([(1, 0, O)] ++ us ++ [(3, 0, Q)] ++ gs) [(5, 0, G), (6, 0, P)] (w3.alloc (.cells #[.int .i64 5, .int .i64 0, .int .i64 G, .int .i64 6, .int .i64 0, .int .i64 P] 51)) ?_ ?_ ?_ ?_ ?_ ?_ ?_)
          · rfl
          · exact hR3'
          · rfl
          · exact htwo
          · exact hl4
          · exact hs4
          intro v4 w4 hR4 hb4 _ _
          have hB4 : Below wr.heap.size wr w4 := (hB3.alloc hsz3 _).trans hb4
          clear hR3a hR3' htwo hb4
          go_wp2_with fail
          go_ret
          rw [← HM2.out]
          refine ⟨⟨v4, rfl, ?_, (HM.out Q hQr).1, by rw [(HM.out Q hQr).2]; exact hsum⟩, gr_call hbl hB4⟩
          unfold makeL
          rw [if_neg h0]
          simpa using hR4.mono hbl.size
end Go.Proofs.Ytpfidbcnefnhcaa.AclW

/- The document's answer: has a text any of some signs? -/
namespace Go.Proofs.Ytpfidbcnefnhcaa.XatW
open Go.RowKit
open XatM
set_option linter.unusedVariables false

end Go.Proofs.Ytpfidbcnefnhcaa.XatW

/- strings.Builder in this program (its copy check ends in a refusal where the shelf's has a panic): copyCheck, WriteByte, WriteString of one letter, at a builder of the call's own. -/
namespace Go.Proofs.Ytpfidbcnefnhcaa
open Go.RowKit
set_option linter.unusedVariables false


end Go.Proofs.Ytpfidbcnefnhcaa

/- A strings.Builder of a call's own by the bytes that it holds (Bld): one byte more, its length, its string, a fresh one grown; the letter at a place. -/
namespace Go.Proofs.Ytpfidbcnefnhcaa
open Go.RowKit
set_option linter.unusedVariables false

def bldLen (b : Nat) (w : World) : Nat := match w.cell? ⟨b, 1, none⟩ with
  | some (.slice _ n _) => n
  | _ => 0
end Go.Proofs.Ytpfidbcnefnhcaa

/- Walks over package escape: plain, Put. -/
namespace Go.Proofs.Ytpfidbcnefnhcaa.EscW
open Go.RowKit
open EscM
set_option linter.unusedVariables false

end Go.Proofs.Ytpfidbcnefnhcaa.EscW

/- A []byte that a call makes by appending, one or more bytes at a time: what it holds, and its string. -/
namespace Go.Proofs.Ytpfidbcnefnhcaa
open Go.RowKit
set_option linter.unusedVariables false

def BRow (B : Nat) (v : Value) (l : List UInt8) (w : World) : Prop := w.ownsRow B 5 1 v l.length (Lib.byteCells l)

theorem BRow.nil (w : World) (B : Nat) : BRow B (.slice none 0 0) [] w := World.ownsRow_nil w B _ _
theorem BRow.drew {B : Nat} {v : Value} {l : List UInt8} {w : World} (h : BRow B v l w) : BRow B v l w.drew := World.ownsRow.drew h
theorem BRow.drewN {B : Nat} {v : Value} {l : List UInt8} {w : World} (h : BRow B v l w) (n : Nat) : BRow B v l (w.drewN n) := h
theorem BRow.alloc {B : Nat} {v : Value} {l : List UInt8} {w : World} (h : BRow B v l w) (o : Obj) : BRow B v l (w.alloc o) := World.ownsRow.alloc h o
theorem BRow.call {B : Nat} {v : Value} {l : List UInt8} {w w1 : World} (h : BRow B v l w) (hb : Below w.heap.size w w1) : BRow B v l w1 := by
  refine World.ownsRow.kept h (row := none) ⟨hb.os, hb.tape, hb.output, hb.size, fun k hk _ => hb.block k hk⟩ ?_
  cases hv : v.ownBlock with
  | none => exact Or.inl rfl
  | some k => exact Or.inr (by simp)
theorem BRow.shape {B : Nat} {v : Value} {l : List UInt8} {w : World} (h : BRow B v l w) : ∃ p cap, v = .slice p l.length cap := by
  rcases h.2 with ⟨hv, h0⟩ | ⟨g, cap, cur, hv, _⟩
  · exact ⟨none, 0, by rw [hv, h0]⟩
  · exact ⟨_, _, hv⟩
theorem BRow.str {B : Nat} {v : Value} {l : List UInt8} {w : World} (h : BRow B v l w) : (convert 41 9 v).run Try.prog w = .ok (.string ⟨l.toArray⟩) w := by
  have h' := h
  rcases h.2 with ⟨hv, h0⟩ | ⟨g, cap, cur, hv, hB, hg, hc1, hc2, hcs, ht⟩
  · obtain rfl : l = [] := List.eq_nil_of_length_eq_zero h0
    subst hv
    simp [go_sem, convert, Try.underlying41, Try.underlying9, Try.underlying5]
    rfl
  · subst hv
    refine run_convert_bytes_back w 41 9 5 ⟨g, 0, none⟩ cap l Try.underlying41 Try.underlying5 Try.underlying9 (fun j hj => ?_)
    refine World.ownsRow.cells h' rfl j _ ?_
    simp [Lib.byteCells, List.getElem?_eq_getElem hj]

end Go.Proofs.Ytpfidbcnefnhcaa

/- Walks over the document's answer: Escape, nibble, GetEscape. -/
namespace Go.Proofs.Ytpfidbcnefnhcaa.EscW
open Go.RowKit
open EscM
set_option linter.unusedVariables false

end Go.Proofs.Ytpfidbcnefnhcaa.EscW

/- The document's answer: whether a list of names with values may be. -/
namespace Go.Proofs.Ytpfidbcnefnhcaa.XatW
open Go.RowKit
open XatM
set_option linter.unusedVariables false

theorem less_str (A B : ByteArray) : Op.bytesLess A.toList B.toList = decide (A.data.toList < B.data.toList) := by
  rw [Lib.toList_data, Lib.toList_data, bytesLess_eq]
attribute [local irreducible] Row At

end Go.Proofs.Ytpfidbcnefnhcaa.XatW
