/- Bundle of 9 texts. -/
import Derived.Test.YtpfidbcnefnhcaaKit
import Derived.Lib.ConvBytes
import Derived.Test.YtpfidbcnefnhcaaPk06
import Derived.Laws.MakeOwn
import Derived.Test.YtpfidbcnefnhcaaPk02
import Derived.Test.YtpfidbcnefnhcaaPk03
import Derived.Test.YtpfidbcnefnhcaaPk01
import Derived.Deep.RegionHeld3
import Derived.Deep.AppendLies
import Derived.Laws.ResultCell
import Derived.Deep.CutBlock
/- []byte(s): a block whose first cells are the bytes; its mark lies behind them. -/
namespace Go.Proofs.Ytpfidbcnefnhcaa
open Go.RowKit

def RowIs (w : World) (g : Nat) (t : TypeId) (l : List UInt8) : Prop :=
  ∃ (cs : Array Value) (fr : Nat × Nat), w.heap[g]? = some (.cells cs t fr) ∧ (fr = (0, 0) ∨ l.length ≤ fr.1) ∧ ∀ i (h : i < l.length), cs[i]? = some (.int .u8 (l[i].toNat : Int))

theorem RowIs.cell {w : World} {g : Nat} {t : TypeId} {l : List UInt8} (h : RowIs w g t l) (i : Nat) (hi : i < l.length) : w.cell? ⟨g, i, none⟩ = some (.int .u8 (l[i].toNat : Int)) := by
  obtain ⟨cs, fr, h1, _, h3⟩ := h
  rw [cell_of_row w g i cs t fr h1, h3 i hi]
theorem RowIs.free {w : World} {g : Nat} {t : TypeId} {l : List UInt8} (h : RowIs w g t l) (i : Nat) (hi : i < l.length) : w.frozen? ⟨g, i, none⟩ = false := by
  obtain ⟨cs, fr, h1, h2, h3⟩ := h
  simp [World.frozen?, h1]
  rcases h2 with rfl | h2
  · simp
  · omega
theorem RowIs.put {w : World} {g : Nat} {t : TypeId} {l : List UInt8} (h : RowIs w g t l) (i : Nat) (b : UInt8) : RowIs (w.setCell ⟨g, i, none⟩ (.int .u8 (b.toNat : Int))) g t (l.set i b) := by
  obtain ⟨cs, fr, h1, h2, h3⟩ := h
  refine ⟨cs.setIfInBounds i (.int .u8 (b.toNat : Int)), fr, by simp [World.setCell, Array.getElem?_modify, h1], by simpa using h2, ?_⟩
  intro j hj
  have hj' : j < l.length := by simpa using hj
  have h4 := h3 j hj'
  have hjc : j < cs.size := (Array.getElem?_eq_some_iff.1 h4).1
  rw [List.getElem_set]
  by_cases e : i = j
  · subst e
    simp [hjc]
  · rw [if_neg e, Array.getElem?_setIfInBounds_ne e]
    exact h4
theorem RowIs.size {w : World} {g : Nat} {t : TypeId} {l : List UInt8} (h : RowIs w g t l) : g < w.heap.size := by
  obtain ⟨cs, fr, h1, _⟩ := h
  exact (Array.getElem?_eq_some_iff.1 h1).1
theorem RowIs.kept {w w' : World} {g : Nat} {t : TypeId} {l : List UInt8} {B : Nat} (h : RowIs w g t l) (hb : Below B w w') (hg : g < B) : RowIs w' g t l := by
  obtain ⟨cs, fr, h1, h2, h3⟩ := h
  exact ⟨cs, fr, (hb.block g hg).trans h1, h2, h3⟩
theorem RowIs.alloc {w : World} {g : Nat} {t : TypeId} {l : List UInt8} (h : RowIs w g t l) (o : Obj) : RowIs (w.alloc o) g t l := by
  have hs := h.size
  obtain ⟨cs, fr, h1, h2, h3⟩ := h
  exact ⟨cs, fr, (Below.heap_alloc w o g hs).trans h1, h2, h3⟩
theorem RowIs.of (w : World) (t : TypeId) (s : ByteArray) : RowIs (Lib.bytesWorld w t s) w.heap.size t s.data.toList := by
  refine ⟨_, _, Lib.bytesWorld_at_new w t s, .inr ?_, ?_⟩
  · simp [Lib.bytesCells]
  · intro i hi
    have hi' : i < s.size := by simpa using hi
    have h := Lib.bytesWorld_cell w t s i hi'
    rw [World.cell?] at h
    simp [Lib.bytesWorld_at_new] at h
    rw [h]
    simp [hi']
end Go.Proofs.Ytpfidbcnefnhcaa

/- make([]byte, n): n noughts, and their string. -/
namespace Go.Proofs.Ytpfidbcnefnhcaa
open Go.RowKit
set_option linter.unusedVariables false

end Go.Proofs.Ytpfidbcnefnhcaa

/- Lists by numbers: Make, walked. -/
namespace Go.Proofs.Ytpfidbcnefnhcaa.XatW
open Go.RowKit
open XatM
set_option linter.unusedVariables false

structure Good (l : List Xa) : Prop where
  pw : PW l
  all : ∀ x ∈ l, okX x = true ∧ x.1.length ≠ 6 ∧ x.2.length ≤ 19
theorem Good.nil : Good [] := ⟨List.Pairwise.nil, by simp⟩
theorem Good.put {l : List Xa} {a : Xa} (h : Good l) (h1 : okX a = true) (h2 : a.1.length ≠ 6) (h3 : a.2.length ≤ 19) : Good (putX l a) :=
  ⟨put_pw h.pw, fun x hx => (put_mem hx).elim (fun e => by rw [e]; exact ⟨h1, h2, h3⟩) (fun hx => h.all x hx)⟩
theorem Good.may {l : List Xa} (h : Good l) (hl : l.length ≤ 32) : mayL l = true := by
  unfold mayL
  rw [decide_eq_true hl, asc_pw.2 h.pw, Bool.and_true, Bool.true_and, List.all_eq_true]
  exact fun x hx => (h.all x hx).1
attribute [local irreducible] Row At BRow

end Go.Proofs.Ytpfidbcnefnhcaa.XatW

/- Lists by numbers: Make, walked once more, its list as a function of the numbers. -/
namespace Go.Proofs.Ytpfidbcnefnhcaa.XatW
open Go.RowKit
open XatM
set_option linter.unusedVariables false

def u8of (z : Int) : UInt8 := UInt8.ofNat (z % 256).toNat
def pfxL : Nat → List UInt8
  | 0 => [117, 115, 101, 114, 46]
  | 1 => [116, 114, 117, 115, 116, 101, 100, 46]
  | 2 => [115, 101, 99, 117, 114, 105, 116, 121, 46]
  | 3 => [120, 61]
  | _ => [255]
def nameX (x1 x2 : Int) : List UInt8 := pfxL (x1 % 5).toNat ++ [u8of (97 + x1 / 5 % 20), u8of (1 + x2 % 255)]
def valX (x1 x2 : Int) : List UInt8 := (List.range (x2 % 20).toNat).map fun (k : Nat) => u8of (x1 * ((k : Int) + 1))
def goX (zs : List Int) (len : Nat) : Nat → Nat → List Xa → List Xa
  | 0, _, acc => acc
  | f + 1, m, acc => if 2 * m + 1 < len ∧ acc.length < 6 then goX zs len f (m + 1) (putX acc (nameX (zs.getD (2 * m) 0) (zs.getD (2 * m + 1) 0), valX (zs.getD (2 * m) 0) (zs.getD (2 * m + 1) 0))) else acc
def madeX (zs : List Int) (len : Nat) : List Xa := goX zs len len 0 []
attribute [local irreducible] Row At BRow

end Go.Proofs.Ytpfidbcnefnhcaa.XatW

/- How the laws make capabilities by numbers. -/
namespace Go.Proofs.Ytpfidbcnefnhcaa
open Go.RowKit
open CapsM
set_option linter.unusedVariables false

def mkC (p i x r : Nat) : Cap := ⟨(2 + x % 2 : Nat), p, i, decide (128 ≤ x), ((if x % 2 = 1 then r / 2 else 0 : Nat) : Int)⟩
end Go.Proofs.Ytpfidbcnefnhcaa

/- Which kinds bear what: the five nodes of the law MetaKinds. -/
namespace Go.Proofs.Ytpfidbcnefnhcaa
open MetaM
namespace MetaM
def kAny (k : Int) : Prop := k = 1 ∨ k = 3 ∨ k = 4 ∨ k = 5 ∨ k = 6 ∨ k = 7
def withDfl (n : Int) (l : List AclM.Ace) : Mt := ⟨n, 1, 2, 0, 0, [], l, [], ⟨0, 0, 0, false, 0⟩, 0⟩
def withCap (n : Int) : Mt := ⟨n, 1, 2, 0, 0, [], [], [], ⟨2, 0, 0, false, 0⟩, 0⟩
def withAcl (n : Int) (l : List AclM.Ace) : Mt := ⟨n, 1, 2, 0, 0, l, [], [], ⟨0, 0, 0, false, 0⟩, 0⟩
def withFlags (n : Int) : Mt := ⟨n, 1, 2, 0, 0, [], [], [], ⟨0, 0, 0, false, 0⟩, 1⟩
end MetaM
end Go.Proofs.Ytpfidbcnefnhcaa

/- Metadata by numbers, as a function of the numbers. -/
namespace Go.Proofs.Ytpfidbcnefnhcaa
open Go.RowKit
open MetaM
set_option linter.unusedVariables false
namespace MetaM
def numK (zs : List Int) (len : Nat) (i : Nat) : Int := if i < len then zs.getD i 0 else 0
def xatK (zs : List Int) (len : Nat) : List XatM.Xa := if 12 < len then XatW.madeX (zs.drop 12) (len - 12) else []
def modeK (zs : List Int) (len : Nat) : Int := numK zs len 0 * 16 + numK zs len 1 % 16
def capK (zs : List Int) (len : Nat) (k : Int) : CapsM.Cap :=
  if k = 1 ∧ numK zs len 10 % 3 = 0 ∧ 10 < len then mkC (numK zs len 8).toNat (numK zs len 9 * 1099511627776).toNat (zs.getD 10 0).toNat (numK zs len 11).toNat else ⟨0, 0, 0, false, 0⟩
def aclK (zs : List Int) (len : Nat) (n : Int) : List AclM.Ace := if numK zs len 7 % 2 = 1 then AclW.madeL (zs.drop 8) (len - 8) (n % 512) else []
def dflK (zs : List Int) (len : Nat) (k : Int) : List AclM.Ace := if k = 6 ∧ 2 ≤ numK zs len 7 % 4 then AclW.madeL (zs.drop (min len 9)) (len - min len 9) (numK zs len 9) else []
def madeM (zs : List Int) (len : Nat) (k : Int) : Mt :=
  if k = 3 then ⟨511, numK zs len 2 % 6, numK zs len 3 % 6, numK zs len 4 * 1000 - 50000, numK zs len 5 % 2 * 500000000, [], [], xatK zs len, ⟨0, 0, 0, false, 0⟩, 0⟩
  else ⟨modeK zs len, numK zs len 2 % 6, numK zs len 3 % 6, numK zs len 4 * 1000 - 50000, numK zs len 5 % 2 * 500000000, aclK zs len (modeK zs len), dflK zs len k, xatK zs len, capK zs len k, numK zs len 6 % 16⟩
end MetaM
end Go.Proofs.Ytpfidbcnefnhcaa

/- Who asks, by numbers: made by the laws. -/
namespace Go.Proofs.Ytpfidbcnefnhcaa
open Go.RowKit
open MetaM RightM
set_option linter.unusedVariables false
theorem BlkIs.grown {w w' : World} {h : Nat} {t : TypeId} {cs : Array Value} {row : Option Nat} (hb : BlkIs w h t cs) (hg : w.grownBy w' row) (hn : row ≠ some h) : BlkIs w' h t cs := (hg.block h hb.size (Ne.symm hn)).trans hb
theorem one_int (w : World) (x : Int) (B : Nat) (hB : B ≤ w.heap.size) : Row intE B (.slice (some ⟨w.heap.size, 0, none⟩) 1 1) [x] (w.alloc (.cells #[.int .i64 x] 3)) :=
  lit_row (E := intE) w [x] _ B 1 rfl hB (by simp) rfl
structure CrSt (w : World) (R C : Nat) (u g : Int) (gv : Value) (W : World) : Prop where
  below : Below w.heap.size w W
  r : BlkIs W R 33 #[.int .i64 0, .int .i64 0, .slice none 0 0, .int .i64 0]
  c : BlkIs W C 33 #[.int .i64 u, .int .i64 g, gv, .int .i64 0]
  ne : R < C
  ge : w.heap.size ≤ R
theorem CrSt.put0 {w : World} {R C : Nat} {u g : Int} {gv : Value} {W : World} (h : CrSt w R C u g gv W) (x : Int) : CrSt w R C x g gv (W.setCell ⟨C, 0, none⟩ (.int .i64 x)) :=
  ⟨gr_set h.below (by have := h.ne; have := h.ge; show w.heap.size ≤ C; omega) _, h.r.other (show R ≠ C by have := h.ne; omega) _, h.c.put 0 _, h.ne, h.ge⟩
theorem CrSt.put1 {w : World} {R C : Nat} {u g : Int} {gv : Value} {W : World} (h : CrSt w R C u g gv W) (x : Int) : CrSt w R C u x gv (W.setCell ⟨C, 1, none⟩ (.int .i64 x)) :=
  ⟨gr_set h.below (by have := h.ne; have := h.ge; show w.heap.size ≤ C; omega) _, h.r.other (show R ≠ C by have := h.ne; omega) _, h.c.put 1 _, h.ne, h.ge⟩
theorem CrSt.put2 {w : World} {R C : Nat} {u g : Int} {gv : Value} {W : World} (h : CrSt w R C u g gv W) (v : Value) : CrSt w R C u g v (W.setCell ⟨C, 2, none⟩ v) :=
  ⟨gr_set h.below (by have := h.ne; have := h.ge; show w.heap.size ≤ C; omega) _, h.r.other (show R ≠ C by have := h.ne; omega) _, h.c.put 2 _, h.ne, h.ge⟩
theorem int_new (x : Int) (g : Nat) (X : World) (hg : X.heap.size = g) : At intE (.slice (some ⟨g, 0, none⟩) 1 1) [x] (X.alloc (.cells #[.int .i64 x] 3)) := by
  subst hg
  exact (one_int X x 0 (Nat.zero_le _)).at
attribute [local irreducible] Row At
set_option maxHeartbeats 3200000 in
set_option maxRecDepth 100000 in
theorem cred_few (a : Option Addr) (len cap : Nat) (zs : List Int) (w : World) (hr : IsRow .u8 w a len cap zs) (hlen : len ≤ 9223372036854775807) :
    Calls Try.prog 21 #[.slice a len cap] w fun e w' => (∃ c gv, e = .returned (.agg (credC c gv)) ∧ CredAt c gv w' ∧ c.powers = 0 ∧ c.groups.length ≤ 6) ∧ Below w.heap.size w w' := by
  obtain ⟨R, hR⟩ : ∃ g, w.heap.size = g := ⟨_, rfl⟩
  have Hopen := Lib.hid (fun hp => hr.open hp)
  clear hr
  go_enter Try.func21, Try.ntmps21
  go_upto_if 8 with fail
  obtain ⟨C, hC⟩ : ∃ g, R + 1 = g := ⟨_, rfl⟩
  obtain ⟨W0, hW0⟩ : ∃ W, (w.alloc (.cells #[.int .i64 0, .int .i64 0, .slice none 0 0, .int .i64 0] 33)).alloc (.cells #[.int .i64 0, .int .i64 0, .slice none 0 0, .int .i64 0] 33) = W := ⟨_, rfl⟩
  have hst : CrSt w R C 0 0 (.slice none 0 0) W0 := by
    rw [← hW0, ← hC, ← hR]
    exact ⟨by (repeat' (first | exact Below.refl _ _ | assumption | refine gr_drew ?_ | refine gr_drewN ?_ _ | refine gr_alloc ?_ _ | refine gr_set ?_ ?_ _ | refine gr_call ?_ (by assumption)) <;> (try (simp; done)) <;> (try (simp; omega)) <;> (try omega)), (BlkIs.made _ _ _).alloc _, blk_next w _ _ _, by omega, Nat.le_refl _⟩
  try simp only [hR, hC]
  rw [hW0]
  clear hW0
  go_cut [8] from 9 to 14 (fun _ wx => ∃ u, CrSt w R C u 0 (.slice none 0 0) wx)
  case first =>
    by_cases h0 : 0 < len
    · obtain ⟨b, off, rfl, hb, _, hz⟩ := Hopen.out h0
      obtain ⟨z0, hwf⟩ := hz 0 h0
      generalize zs.getD 0 0 = x at *
      have hx : 0 ≤ x ∧ x ≤ 255 := by have h := hwf; simp only [Lit.wf, Bool.and_eq_true, decide_eq_true_eq] at h; exact h
      replace z0 := cell_kept hst.below z0
      rw [Nat.add_zero] at z0
      have e1 : decide ((0 : Int) < (len : Int)) = true := decide_eq_true (by omega)
      have e2 : decide (0 < len) = true := decide_eq_true h0
      have k0 := hst.c.cell_some 0 _ rfl
      have f0 := hst.c.free 0
      have hcz := hst.c.size
      clear hz hwf
      go_wp2_with fail
      go_meet
      exact ⟨_, hst.put0 _⟩
    · have e1 : decide ((0 : Int) < (len : Int)) = false := decide_eq_false (by omega)
      have e2 : decide (0 < len) = false := decide_eq_false h0
      go_wp2_with fail
      go_meet
      exact ⟨_, hst⟩
  case rest =>
    clear hst
    obtain ⟨u, hst⟩ := hcut
    rename World => W1
    go_upto_if 17 with fail
    go_cut [17] from 18 to 23 (fun _ wx => ∃ g, CrSt w R C u g (.slice none 0 0) wx)
    case first =>
      by_cases h1 : 1 < len
      · obtain ⟨b, off, rfl, hb, _, hz⟩ := Hopen.out (by omega)
        obtain ⟨z0, hwf⟩ := hz 1 h1
        generalize zs.getD 1 0 = x at *
        have hx : 0 ≤ x ∧ x ≤ 255 := by have h := hwf; simp only [Lit.wf, Bool.and_eq_true, decide_eq_true_eq] at h; exact h
        replace z0 := cell_kept hst.below z0
        have e1 : decide ((1 : Int) < (len : Int)) = true := decide_eq_true (by omega)
        have e2 : decide (1 < len) = true := decide_eq_true h1
        have k1 := hst.c.cell_some 1 _ rfl
        have f1 := hst.c.free 1
        have hcz := hst.c.size
        clear hz hwf
        go_wp2_with fail
        go_meet
        exact ⟨_, hst.put1 _⟩
      · have e1 : decide ((1 : Int) < (len : Int)) = false := decide_eq_false (by omega)
        have e2 : decide (1 < len) = false := decide_eq_false h1
        go_wp2_with fail
        go_meet
        exact ⟨_, hst⟩
    case rest =>
      clear hst
      obtain ⟨g, hst⟩ := hcut
      rename World => W2
      clear W0 W1
      go_wp2_with fail
      go_loopw [4] (fun iv wr => ∃ (k : Nat) (gv : Value) (gs : List Int), iv = .int .i64 (k : Int) ∧ 2 ≤ k ∧ k ≤ 6 ∧ gs.length ≤ k ∧ CrSt w R C u g gv wr ∧ Row intE w.heap.size gv gs wr ∧ (∀ q, gv.ownBlock = some q → C < q)) (fun iv _ => 6 - (intOf iv).toNat)
      case atStart => exact ⟨2, _, [], rfl, by omega, by omega, by simp, hst, Row.nil _ _, by simp [Value.ownBlock]⟩
      case round =>
        clear hst
        obtain ⟨k, gv, gs, rfl, hk2, hk6, hgs, hst, hrow, hown⟩ := hrel
        rename World => wr
        by_cases hlt : k < len ∧ k < 6
        · obtain ⟨b, off, rfl, hb, hlc, hz⟩ := Hopen.out (by omega)
          obtain ⟨z0, hwf⟩ := hz k hlt.1
          generalize zs.getD k 0 = x at *
          have hx : 0 ≤ x ∧ x ≤ 255 := by have h := hwf; simp only [Lit.wf, Bool.and_eq_true, decide_eq_true_eq] at h; exact h
          have l1 : decide ((k : Int) < (len : Int)) = true := decide_eq_true (by omega)
          have l2 : decide (k < len) = true := decide_eq_true hlt.1
          have l3 : decide ((k : Int) < 6) = true := decide_eq_true (by omega)
          have l4 : decide (k < 6) = true := decide_eq_true hlt.2
          have zw := z0
          have hbl := hst.below
          replace z0 := cell_kept hst.below z0
          have k2 := hst.c.cell_some 2 _ rfl
          have f2 := hst.c.free 2
          have hcz := hst.c.size
          clear hz hwf
          go_upto_region 9 with fail
          have hwr : w.heap.size ≤ wr.heap.size := hst.below.size
          have hnC : gv.ownBlock ≠ some C := fun e => absurd (hown _ e) (Nat.lt_irrefl _)
          have Hst := Lib.hid hst
          clear hst
          have wx : IntKind.i64.wrap x = x := by rw [IntKind.wrap_i64]; omega
          go_region_law (first
              | (refine step_append_at intE rfl _ _ rfl w.heap.size gv (.slice (some ⟨wr.heap.size, 0, none⟩) 1 1) gs [x.tmod 16] ?_ ?_ ?_ ?_ (by simp; omega) ?_ ?_
                 · rfl
                 · repeat' (first | exact hrow | refine Row.drew ?_ | refine Row.alloc ?_ _)
                 · rfl
                 · repeat' (first | (refine int_new _ _ _ ?_; simp; done) | refine At.drew ?_)
                 · (try simp) <;> (try omega)
                 intro v9 w9 hR9 hb9 hg9 ho9
                 obtain ⟨p9, cap9, rfl, _⟩ := hR9.at.shape
                 have hC9 : BlkIs w9 C 33 #[.int .i64 u, .int .i64 g, gv, .int .i64 0] := ((Hst.out.c.kept (show Below wr.heap.size wr _ by (repeat' (first | exact Below.refl _ _ | assumption | refine gr_drew ?_ | refine gr_drewN ?_ _ | refine gr_alloc ?_ _ | refine gr_set ?_ ?_ _ | refine gr_call ?_ (by assumption)) <;> (try (simp; done)) <;> (try (simp; omega)) <;> (try omega))) Hst.out.c.size)).grown hg9 hnC
                 have c9 := hC9.cell_some 2 _ rfl
                 have f9 := hC9.free 2
                 have s9 := hC9.size
                 have hbw9 : Below w.heap.size w w9 := Below.trans (by (repeat' (first | exact Below.refl _ _ | assumption | refine gr_drew ?_ | refine gr_drewN ?_ _ | refine gr_alloc ?_ _ | refine gr_set ?_ ?_ _ | refine gr_call ?_ (by assumption)) <;> (try (simp; done)) <;> (try (simp; omega)) <;> (try omega))) hb9
                 have z9 := cell_kept hbw9 zw))
          all_goals
            have hgs9 := hg9.size
            simp at hgs9
            have hst9 : CrSt w R C u g gv w9 := ⟨hbw9, (Hst.out.r.kept (show Below wr.heap.size wr _ by (repeat' (first | exact Below.refl _ _ | assumption | refine gr_drew ?_ | refine gr_drewN ?_ _ | refine gr_alloc ?_ _ | refine gr_set ?_ ?_ _ | refine gr_call ?_ (by assumption)) <;> (try (simp; done)) <;> (try (simp; omega)) <;> (try omega))) Hst.out.r.size).grown hg9 (fun e => by have := hown _ e; have := Hst.out.ne; omega), hC9, Hst.out.ne, Hst.out.ge⟩
            have hown9 : ∀ q, (Value.slice p9 (gs ++ [x.tmod 16]).length cap9).ownBlock = some q → C < q := by
              intro q e
              rcases ho9 with h | h
              · rw [h] at e; exact hown q e
              · rw [h] at e; injection e with e; subst e; simp; omega
            have hR10 := Row.other hR9 (a := ⟨C, 2, none⟩) (fun e => absurd (hown9 _ e) (Nat.lt_irrefl _)) (.slice p9 (gs ++ [x.tmod 16]).length cap9)
            have hst10 := hst9.put2 (.slice p9 (gs ++ [x.tmod 16]).length cap9)
            clear hR9 hC9 c9 f9 s9 hb9 hg9 ho9 hst9 hbw9 z9 Hst
            simp only [List.length_append, List.length_cons, List.length_nil, Nat.zero_add] at hst10 hR10 hown9
            obtain ⟨W9, hW9⟩ : ∃ W, w9.setCell ⟨C, 2, none⟩ (.slice p9 (gs.length + 1) cap9) = W := ⟨_, rfl⟩
            rw [hW9] at hst10 hR10 ⊢
            clear hW9
            go_wp2_with fail
            go_roundw
            case rel => exact ⟨k + 1, _, gs ++ [x.tmod 16], rfl, by omega, by omega, by simp; omega, hst10, by simpa using hR10, hown9⟩
            case measure => simp only [intOf]; omega
        · have Hst := Lib.hid hst
          obtain ⟨p9, cap9, rfl, _⟩ := hrow.at.shape
          have c0 := hst.c.cell_some 0 _ rfl
          have c1 := hst.c.cell_some 1 _ rfl
          have c2 := hst.c.cell_some 2 _ rfl
          have c3 := hst.c.cell_some 3 _ rfl
          have r0 := hst.r.cell_some 0 _ rfl
          have r1 := hst.r.cell_some 1 _ rfl
          have r2 := hst.r.cell_some 2 _ rfl
          have r3 := hst.r.cell_some 3 _ rfl
          have f0 := hst.r.free 0
          have f1 := hst.r.free 1
          have f2 := hst.r.free 2
          have f3 := hst.r.free 3
          have sc := hst.c.size
          have sr := hst.r.size
          have hRn : (Value.slice p9 gs.length cap9).ownBlock ≠ some R := fun e => by have := hown _ e; have := hst.ne; omega
          have HQ := Lib.hid (((((hst.r.put 0 (.int .i64 u)).put 1 (.int .i64 g)).put 2 (.slice p9 gs.length cap9)).put 3 (.int .i64 0)))
          have HRow := Lib.hid (Row.other (Row.other (Row.other (Row.other hrow (a := ⟨R, 0, none⟩) hRn (.int .i64 u)) (a := ⟨R, 1, none⟩) hRn (.int .i64 g)) (a := ⟨R, 2, none⟩) hRn (.slice p9 gs.length cap9)) (a := ⟨R, 3, none⟩) hRn (.int .i64 0))
          have hge := hst.ge
          have HB := Lib.hid (gr_set (gr_set (gr_set (gr_set hst.below (show w.heap.size ≤ (⟨R, 0, none⟩ : Addr).block from hge) (.int .i64 u)) (show w.heap.size ≤ (⟨R, 1, none⟩ : Addr).block from hge) (.int .i64 g)) (show w.heap.size ≤ (⟨R, 2, none⟩ : Addr).block from hge) (.slice p9 gs.length cap9)) (show w.heap.size ≤ (⟨R, 3, none⟩ : Addr).block from hge) (.int .i64 0))
          have hgl : gs.length ≤ 6 := by omega
          clear hst hrow hown Hopen
          by_cases hk : k < len
          · have l1 : decide ((k : Int) < (len : Int)) = true := decide_eq_true (by omega)
            have l2 : decide (k < len) = true := decide_eq_true hk
            have l3 : decide ((k : Int) < 6) = false := decide_eq_false (by omega)
            have l4 : decide (k < 6) = false := decide_eq_false (by omega)
            clear hlt
            go_wp2_with fail
            obtain ⟨W8, hW8⟩ : ∃ W, ((((wr.setCell ⟨R, 0, none⟩ (.int .i64 u)).setCell ⟨R, 1, none⟩ (.int .i64 g)).setCell ⟨R, 2, none⟩ (.slice p9 gs.length cap9)).setCell ⟨R, 3, none⟩ (.int .i64 0)) = W := ⟨_, rfl⟩
            have hQ := HQ.out
            have hrw := HRow.out
            have hbw := HB.out
            rw [hW8] at hQ hrw hbw
            rw [hW8]
            clear hW8 HQ HRow HB c0 c1 c2 c3 r0 r1 r2 r3 f0 f1 f2 f3 sc sr
            have n0 : W8.cell? ⟨R, 0, none⟩ = some (.int .i64 u) := hQ.cell_some 0 _ rfl
            have n1 : W8.cell? ⟨R, 1, none⟩ = some (.int .i64 g) := hQ.cell_some 1 _ rfl
            have n2 : W8.cell? ⟨R, 2, none⟩ = some (.slice p9 gs.length cap9) := hQ.cell_some 2 _ rfl
            have n3 : W8.cell? ⟨R, 3, none⟩ = some (.int .i64 0) := hQ.cell_some 3 _ rfl
            refine bodyPost_ret (v := .agg #[.int .i64 u, .int .i64 g, .slice p9 gs.length cap9, .int .i64 0]) (by simp [results, Try.results21, go_sem, *]) rfl ?_
            exact ⟨⟨⟨u, g, gs, 0⟩, _, rfl, ⟨hrw.at, by show gs.length ≤ 1000000; omega⟩, rfl, hgl⟩, hbw⟩
          · have l1 : decide ((k : Int) < (len : Int)) = false := decide_eq_false (by omega)
            have l2 : decide (k < len) = false := decide_eq_false hk
            clear hlt
            go_wp2_with fail
            obtain ⟨W8, hW8⟩ : ∃ W, ((((wr.setCell ⟨R, 0, none⟩ (.int .i64 u)).setCell ⟨R, 1, none⟩ (.int .i64 g)).setCell ⟨R, 2, none⟩ (.slice p9 gs.length cap9)).setCell ⟨R, 3, none⟩ (.int .i64 0)) = W := ⟨_, rfl⟩
            have hQ := HQ.out
            have hrw := HRow.out
            have hbw := HB.out
            rw [hW8] at hQ hrw hbw
            rw [hW8]
            clear hW8 HQ HRow HB c0 c1 c2 c3 r0 r1 r2 r3 f0 f1 f2 f3 sc sr
            have n0 : W8.cell? ⟨R, 0, none⟩ = some (.int .i64 u) := hQ.cell_some 0 _ rfl
            have n1 : W8.cell? ⟨R, 1, none⟩ = some (.int .i64 g) := hQ.cell_some 1 _ rfl
            have n2 : W8.cell? ⟨R, 2, none⟩ = some (.slice p9 gs.length cap9) := hQ.cell_some 2 _ rfl
            have n3 : W8.cell? ⟨R, 3, none⟩ = some (.int .i64 0) := hQ.cell_some 3 _ rfl
            refine bodyPost_ret (v := .agg #[.int .i64 u, .int .i64 g, .slice p9 gs.length cap9, .int .i64 0]) (by simp [results, Try.results21, go_sem, *]) rfl ?_
            exact ⟨⟨⟨u, g, gs, 0⟩, _, rfl, ⟨hrw.at, by show gs.length ≤ 1000000; omega⟩, rfl, hgl⟩, hbw⟩
theorem cred_any (a : Option Addr) (len cap : Nat) (zs : List Int) (w : World) (hr : IsRow .u8 w a len cap zs) (hlen : len ≤ 9223372036854775807) :
    Calls Try.prog 21 #[.slice a len cap] w fun e w' => (∃ c gv, e = .returned (.agg (credC c gv)) ∧ CredAt c gv w' ∧ c.powers = 0) ∧ Below w.heap.size w w' :=
  (cred_few a len cap zs w hr hlen).mono fun _ _ ⟨⟨c, gv, h1, h2, h3, _⟩, h4⟩ => ⟨⟨c, gv, h1, h2, h3⟩, h4⟩
end Go.Proofs.Ytpfidbcnefnhcaa

/- Where a law stands that asks who may what: metadata in one block, who asks in another. -/
namespace Go.Proofs.Ytpfidbcnefnhcaa
open Go.RowKit
open MetaM RightM AclM
set_option linter.unusedVariables false
structure LawSt (w : World) (bm bc : Nat) (m : Mt) (va vd vx : Value) (c : Cr) (gv : Value) (W : World) : Prop where
  below : Below w.heap.size w W
  mb : BlkIs W bm 30 #[.int .i64 m.mode, .int .i64 m.uid, .int .i64 m.gid, .int .i64 m.sec, .int .i64 m.nano, va, vd, vx, .int .i64 m.cap.v, .int .u64 (m.cap.p : Int), .int .u64 (m.cap.i : Int), .bool m.cap.e, .int .i64 m.cap.r, .int .i64 m.flags]
  cb : BlkIs W bc 33 #[.int .i64 c.uid, .int .i64 c.gid, gv, .int .i64 c.powers]
  ra : RightAt m va vd vx W
  ca : CredAt c gv W
theorem LawSt.call {w : World} {bm bc : Nat} {m : Mt} {va vd vx : Value} {c : Cr} {gv : Value} {W W' : World} (h : LawSt w bm bc m va vd vx c gv W) (hb : Below W.heap.size W W') : LawSt w bm bc m va vd vx c gv W' :=
  ⟨gr_call h.below hb, h.mb.kept hb h.mb.size, h.cb.kept hb h.cb.size, h.ra.call hb, h.ca.call hb⟩
theorem blk_of {w : World} {b : Nat} (hb : w.heap.size = b) (t : TypeId) (cs : Array Value) : BlkIs (w.alloc (.cells cs t)) b t cs := by subst hb; exact BlkIs.made _ _ _
theorem can_at {w : World} {bm bc : Nat} {m : Mt} {va vd vx : Value} {c : Cr} {gv : Value} {W : World} (h : LawSt w bm bc m va vd vx c gv W) (x : Int) :
    Calls Try.prog 14 #[.agg #[.int .i64 m.mode, .int .i64 m.uid, .int .i64 m.gid, .int .i64 m.sec, .int .i64 m.nano, va, vd, vx, .int .i64 m.cap.v, .int .u64 (m.cap.p : Int), .int .u64 (m.cap.i : Int), .bool m.cap.e, .int .i64 m.cap.r, .int .i64 m.flags], .agg #[.int .i64 c.uid, .int .i64 c.gid, gv, .int .i64 c.powers], .int .i64 x] W fun e w' => e = .returned (.bool (canM m c x)) ∧ Below W.heap.size W w' := can_any m va vd vx c gv x W h.ra h.ca
theorem owner_at {w : World} {bm bc : Nat} {m : Mt} {va vd vx : Value} {c : Cr} {gv : Value} {W : World} (h : LawSt w bm bc m va vd vx c gv W) :
    Calls Try.prog 16 #[.agg #[.int .i64 m.mode, .int .i64 m.uid, .int .i64 m.gid, .int .i64 m.sec, .int .i64 m.nano, va, vd, vx, .int .i64 m.cap.v, .int .u64 (m.cap.p : Int), .int .u64 (m.cap.i : Int), .bool m.cap.e, .int .i64 m.cap.r, .int .i64 m.flags], .agg #[.int .i64 c.uid, .int .i64 c.gid, gv, .int .i64 c.powers]] W fun e w' => e = .returned (.bool (ownM m c)) ∧ Below W.heap.size W w' := owner_any m va vd vx c gv W
theorem in_at {w : World} {bm bc : Nat} {m : Mt} {va vd vx : Value} {c : Cr} {gv : Value} {W : World} (h : LawSt w bm bc m va vd vx c gv W) (x : Int) :
    Calls Try.prog 12 #[.agg #[.int .i64 c.uid, .int .i64 c.gid, gv, .int .i64 c.powers], .int .i64 x] W fun e w' => e = .returned (.bool (inM c x)) ∧ Below W.heap.size W w' := in_any c gv x W h.ca
end Go.Proofs.Ytpfidbcnefnhcaa
