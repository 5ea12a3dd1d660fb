/- Bundle of 24 texts. -/
import Derived.Test.YtpfidbcnefnhcaaPk07
import Derived.Test.YtpfidbcnefnhcaaPk01
import Derived.Test.YtpfidbcnefnhcaaPk02
import Derived.Deep.RegionHeld3
import Derived.Test.YtpfidbcnefnhcaaPk03
import Derived.Test.YtpfidbcnefnhcaaChecked
import Derived.Deep.QuietTactic
import Derived.BigQuiet
import Derived.Outline
import Derived.Test.YtpfidbcnefnhcaaRows
import Derived.Test.YtpfidbcnefnhcaaShelf
import Derived.Test.YtpfidbcnefnhcaaKit
import Derived.Shelf.RegionOpenPlain
import Derived.Lib.AppendStr
import Derived.Laws.Externs
import Derived.OwnWalk
import Derived.Lib.Strings
import Derived.Lib.Builder
import Derived.Deep.AppendLies
import Derived.StillTailTactics
import Derived.Sort.Walk0
import Derived.Laws.Tables
import Derived.Lib.ConvBytes
import Derived.Laws.MakeOwn
import Derived.Laws.ResultCell
import Derived.Deep.CutBlock
/- The document's example of who may what. -/
namespace Go.Proofs.Ytpfidbcnefnhcaa
open Go.RowKit
open MetaM RightM AclM
set_option linter.unusedVariables false
attribute [local irreducible] Row At
theorem plain_call (a b c : Int) (w : World) : Calls Try.prog 22 #[.int .i64 a, .int .i64 b, .int .i64 c] w fun e w' => e = .returned (.agg (metaC (plainM a b c) nilV nilV nilV)) ∧ Below w.heap.size w w' := by
  have hb := plain_build a b c
  go_enter Try.func22, Try.ntmps22
  go_wp2_with fail
  refine bodyPost_ret (v := .agg (metaC (plainM a b c) nilV nilV nilV)) (by simp [results, Try.results22, go_sem, metaC, plainM, nilV]) rfl ⟨rfl, by (repeat' (first | exact Below.refl _ _ | assumption | refine gr_drew ?_ | refine gr_drewN ?_ _ | refine gr_alloc ?_ _ | refine gr_set ?_ ?_ _ | refine gr_call ?_ (by assumption)) <;> (try (simp; done)) <;> (try (simp; omega)) <;> (try omega))⟩
theorem plain_right (a b c : Int) (h : InRange a) (w : World) : RightAt (plainM a b c) nilV nilV nilV w := ⟨At.nil _, by simp [plainM], .inl rfl, h⟩
theorem cred_none (u g p : Int) (w : World) : CredAt ⟨u, g, [], p⟩ nilV w := ⟨At.nil _, by simp⟩
set_option maxHeartbeats 3200000 in
set_option maxRecDepth 100000 in
theorem awake18 (w : World) : Calls Try.prog 11 #[] w fun e w' => e = .returned (.bool true) ∧ Below w.heap.size w w' := by
  have HPl := Lib.hid (fun W => plain_call 256 5 5 W)
  have H1 := Lib.hid (fun W => can_any (plainM 256 5 5) nilV nilV nilV ⟨5, 0, [], 0⟩ nilV 4 W (plain_right 256 5 5 (by unfold InRange; omega) W) (cred_none 5 0 0 W))
  have H2 := Lib.hid (fun W => can_any (plainM 256 5 5) nilV nilV nilV ⟨5, 0, [], 0⟩ nilV 2 W (plain_right 256 5 5 (by unfold InRange; omega) W) (cred_none 5 0 0 W))
  have H3 := Lib.hid (fun W => can_any (plainM 256 5 5) nilV nilV nilV ⟨6, 0, [], 0⟩ nilV 4 W (plain_right 256 5 5 (by unfold InRange; omega) W) (cred_none 6 0 0 W))
  rw [show canM (plainM 256 5 5) ⟨5, 0, [], 0⟩ 4 = true by decide +kernel] at H1
  rw [show canM (plainM 256 5 5) ⟨5, 0, [], 0⟩ 2 = false by decide +kernel] at H2
  rw [show canM (plainM 256 5 5) ⟨6, 0, [], 0⟩ 4 = false by decide +kernel] at H3
  unfold metaC credC plainM nilV at H1 H2 H3
  unfold metaC plainM nilV at HPl
  simp only at HPl H1 H2 H3
  have s0 := True.intro
  go_enter Try.func11, Try.ntmps11
  go_wp2_with (first
    | (go_at_call 22; refine (HPl.out _).mono ?_; rintro e w1 ⟨rfl, hb1⟩)
    | (go_at_call 14; have s9 := s0; clear s9 s0; refine (H1.out _).mono ?_; rintro e w2 ⟨rfl, hb2⟩; have hblk := (BlkIs.made w1 30 #[.int .i64 256, .int .i64 5, .int .i64 5, .int .i64 0, .int .i64 0, .slice none 0 0, .slice none 0 0, .slice none 0 0, .int .i64 0, .int .u64 0, .int .u64 0, .bool false, .int .i64 0, .int .i64 0]).kept hb2 (by simp); have hbl := gr_call (gr_alloc hb1 _) hb2; clear hb1 hb2; have s1 := True.intro; have k0 := hblk.cell_some 0 _ rfl; have k1 := hblk.cell_some 1 _ rfl; have k2 := hblk.cell_some 2 _ rfl; have k3 := hblk.cell_some 3 _ rfl; have k4 := hblk.cell_some 4 _ rfl; have k5 := hblk.cell_some 5 _ rfl; have k6 := hblk.cell_some 6 _ rfl; have k7 := hblk.cell_some 7 _ rfl; have k8 := hblk.cell_some 8 _ rfl; have k9 := hblk.cell_some 9 _ rfl; have k10 := hblk.cell_some 10 _ rfl; have k11 := hblk.cell_some 11 _ rfl; have k12 := hblk.cell_some 12 _ rfl; have k13 := hblk.cell_some 13 _ rfl)
    | (go_at_call 14; have s9 := s1; clear s9 s1; refine (H2.out _).mono ?_; rintro e w3 ⟨rfl, hb2⟩; replace hblk := hblk.kept hb2 hblk.size; replace hbl := gr_call hbl hb2; clear hb2 k0 k1 k2 k3 k4 k5 k6 k7 k8 k9 k10 k11 k12 k13; have k0 := hblk.cell_some 0 _ rfl; have k1 := hblk.cell_some 1 _ rfl; have k2 := hblk.cell_some 2 _ rfl; have k3 := hblk.cell_some 3 _ rfl; have k4 := hblk.cell_some 4 _ rfl; have k5 := hblk.cell_some 5 _ rfl; have k6 := hblk.cell_some 6 _ rfl; have k7 := hblk.cell_some 7 _ rfl; have k8 := hblk.cell_some 8 _ rfl; have k9 := hblk.cell_some 9 _ rfl; have k10 := hblk.cell_some 10 _ rfl; have k11 := hblk.cell_some 11 _ rfl; have k12 := hblk.cell_some 12 _ rfl; have k13 := hblk.cell_some 13 _ rfl)
    | (go_at_call 14; refine (H3.out _).mono ?_; rintro e w4 ⟨rfl, hb2⟩; replace hbl := gr_call hbl hb2; clear hb2))
  go_ret
  exact ⟨by rfl, hbl⟩
end Go.Proofs.Ytpfidbcnefnhcaa

/- Slices of access lists: from a place on, up to a place. -/
namespace Go.Proofs.Ytpfidbcnefnhcaa.AclW
open Go.RowKit
open AclM
set_option linter.unusedVariables false

end Go.Proofs.Ytpfidbcnefnhcaa.AclW

/- Lists by numbers: add, walked. -/
namespace Go.Proofs.Ytpfidbcnefnhcaa.AclW
open Go.RowKit
open AclM
set_option linter.unusedVariables false

attribute [local irreducible] Row At

end Go.Proofs.Ytpfidbcnefnhcaa.AclW

/- Lists by numbers: Make, walked. -/
namespace Go.Proofs.Ytpfidbcnefnhcaa.AclW
open Go.RowKit
open AclM
set_option linter.unusedVariables false

theorem two_at (w : World) (a b : Ace) (g : Nat) (hg : w.heap.size = g) : At aceE (.slice (some ⟨g, 0, none⟩) 2 2) [a, b] (w.alloc (.cells #[.int .i64 a.1, .int .i64 a.2.1, .int .i64 a.2.2, .int .i64 b.1, .int .i64 b.2.1, .int .i64 b.2.2] 51)) := by
  subst hg
  exact (lit_row (E := aceE) w [a, b] _ 0 2 rfl (Nat.zero_le _) (by simp) rfl).at
attribute [local irreducible] Row At

end Go.Proofs.Ytpfidbcnefnhcaa.AclW

/- Lists by numbers: Make, walked once more, its list as a function of the numbers. -/
namespace Go.Proofs.Ytpfidbcnefnhcaa.AclW
open Go.RowKit
open AclM
set_option linter.unusedVariables false

def pairsL (zs : List Int) : Nat → List Ace × List Ace
  | 0 => ([], [])
  | j + 1 => if zs.getD (2 * j) 0 % 2 = 0 then (addL (pairsL zs j).1 (2, zs.getD (2 * j) 0 / 2, zs.getD (2 * j + 1) 0 % 8), (pairsL zs j).2)
    else ((pairsL zs j).1, addL (pairsL zs j).2 (4, zs.getD (2 * j) 0 / 2, zs.getD (2 * j + 1) 0 % 8))
def madeL (zs : List Int) (len : Nat) (n : Int) : List Ace :=
  makeL (pairsL zs (min 6 (len / 2))).1 (pairsL zs (min 6 (len / 2))).2 (bits .and .i64 (n / 64) 7) (bits .and .i64 (n / 8) 7) (bits .and .i64 n 7)
    (if (pairsL zs (min 6 (len / 2))).1.length + (pairsL zs (min 6 (len / 2))).2.length = 0 then 0 else bits .xor .i64 (bits .and .i64 (n / 8) 7) (zs.getD 0 0 % 8))
attribute [local irreducible] Row At

end Go.Proofs.Ytpfidbcnefnhcaa.AclW

/- The document's answer: has a text any of some signs? -/
namespace Go.Proofs.Ytpfidbcnefnhcaa.XatW
open Go.RowKit
open XatM
set_option linter.unusedVariables false

end Go.Proofs.Ytpfidbcnefnhcaa.XatW

/- strings.Builder in this program (its copy check ends in a refusal where the shelf's has a panic): copyCheck, WriteByte, WriteString of one letter, at a builder of the call's own. -/
namespace Go.Proofs.Ytpfidbcnefnhcaa
open Go.RowKit
set_option linter.unusedVariables false


end Go.Proofs.Ytpfidbcnefnhcaa

/- A strings.Builder of a call's own by the bytes that it holds (Bld): one byte more, its length, its string, a fresh one grown; the letter at a place. -/
namespace Go.Proofs.Ytpfidbcnefnhcaa
open Go.RowKit
set_option linter.unusedVariables false

def bldLen (b : Nat) (w : World) : Nat := match w.cell? ⟨b, 1, none⟩ with
  | some (.slice _ n _) => n
  | _ => 0
end Go.Proofs.Ytpfidbcnefnhcaa

/- Walks over package escape: plain, Put. -/
namespace Go.Proofs.Ytpfidbcnefnhcaa.EscW
open Go.RowKit
open EscM
set_option linter.unusedVariables false

end Go.Proofs.Ytpfidbcnefnhcaa.EscW

/- A []byte that a call makes by appending, one or more bytes at a time: what it holds, and its string. -/
namespace Go.Proofs.Ytpfidbcnefnhcaa
open Go.RowKit
set_option linter.unusedVariables false

def BRow (B : Nat) (v : Value) (l : List UInt8) (w : World) : Prop := w.ownsRow B 5 1 v l.length (Lib.byteCells l)

theorem BRow.nil (w : World) (B : Nat) : BRow B (.slice none 0 0) [] w := World.ownsRow_nil w B _ _
theorem BRow.drew {B : Nat} {v : Value} {l : List UInt8} {w : World} (h : BRow B v l w) : BRow B v l w.drew := World.ownsRow.drew h
theorem BRow.drewN {B : Nat} {v : Value} {l : List UInt8} {w : World} (h : BRow B v l w) (n : Nat) : BRow B v l (w.drewN n) := h
theorem BRow.alloc {B : Nat} {v : Value} {l : List UInt8} {w : World} (h : BRow B v l w) (o : Obj) : BRow B v l (w.alloc o) := World.ownsRow.alloc h o
theorem BRow.call {B : Nat} {v : Value} {l : List UInt8} {w w1 : World} (h : BRow B v l w) (hb : Below w.heap.size w w1) : BRow B v l w1 := by
  refine World.ownsRow.kept h (row := none) ⟨hb.os, hb.tape, hb.output, hb.size, fun k hk _ => hb.block k hk⟩ ?_
  cases hv : v.ownBlock with
  | none => exact Or.inl rfl
  | some k => exact Or.inr (by simp)
theorem BRow.shape {B : Nat} {v : Value} {l : List UInt8} {w : World} (h : BRow B v l w) : ∃ p cap, v = .slice p l.length cap := by
  rcases h.2 with ⟨hv, h0⟩ | ⟨g, cap, cur, hv, _⟩
  · exact ⟨none, 0, by rw [hv, h0]⟩
  · exact ⟨_, _, hv⟩
end Go.Proofs.Ytpfidbcnefnhcaa

/- Walks over the document's answer: Escape, nibble, GetEscape. -/
namespace Go.Proofs.Ytpfidbcnefnhcaa.EscW
open Go.RowKit
open EscM
set_option linter.unusedVariables false

end Go.Proofs.Ytpfidbcnefnhcaa.EscW

/- The document's answer: whether a list of names with values may be. -/
namespace Go.Proofs.Ytpfidbcnefnhcaa.XatW
open Go.RowKit
open XatM
set_option linter.unusedVariables false

attribute [local irreducible] Row At

end Go.Proofs.Ytpfidbcnefnhcaa.XatW

/- Lists by numbers: add, walked. -/
namespace Go.Proofs.Ytpfidbcnefnhcaa.XatW
open Go.RowKit
open XatM
set_option linter.unusedVariables false

attribute [local irreducible] Row At

end Go.Proofs.Ytpfidbcnefnhcaa.XatW

/- A cell below a bound stays. -/
namespace Go.Proofs.Ytpfidbcnefnhcaa
open Go.RowKit
end Go.Proofs.Ytpfidbcnefnhcaa

/- A name with a value, built. -/
namespace Go.Proofs.Ytpfidbcnefnhcaa.XatW
open Go.RowKit
open XatM
end Go.Proofs.Ytpfidbcnefnhcaa.XatW

/- []byte(s): a block whose first cells are the bytes; its mark lies behind them. -/
namespace Go.Proofs.Ytpfidbcnefnhcaa
open Go.RowKit

def RowIs (w : World) (g : Nat) (t : TypeId) (l : List UInt8) : Prop :=
  ∃ (cs : Array Value) (fr : Nat × Nat), w.heap[g]? = some (.cells cs t fr) ∧ (fr = (0, 0) ∨ l.length ≤ fr.1) ∧ ∀ i (h : i < l.length), cs[i]? = some (.int .u8 (l[i].toNat : Int))

theorem RowIs.cell {w : World} {g : Nat} {t : TypeId} {l : List UInt8} (h : RowIs w g t l) (i : Nat) (hi : i < l.length) : w.cell? ⟨g, i, none⟩ = some (.int .u8 (l[i].toNat : Int)) := by
  obtain ⟨cs, fr, h1, _, h3⟩ := h
  rw [cell_of_row w g i cs t fr h1, h3 i hi]
theorem RowIs.free {w : World} {g : Nat} {t : TypeId} {l : List UInt8} (h : RowIs w g t l) (i : Nat) (hi : i < l.length) : w.frozen? ⟨g, i, none⟩ = false := by
  obtain ⟨cs, fr, h1, h2, h3⟩ := h
  simp [World.frozen?, h1]
  rcases h2 with rfl | h2
  · simp
  · omega
theorem RowIs.put {w : World} {g : Nat} {t : TypeId} {l : List UInt8} (h : RowIs w g t l) (i : Nat) (b : UInt8) : RowIs (w.setCell ⟨g, i, none⟩ (.int .u8 (b.toNat : Int))) g t (l.set i b) := by
  obtain ⟨cs, fr, h1, h2, h3⟩ := h
  refine ⟨cs.setIfInBounds i (.int .u8 (b.toNat : Int)), fr, by simp [World.setCell, Array.getElem?_modify, h1], by simpa using h2, ?_⟩
  intro j hj
  have hj' : j < l.length := by simpa using hj
  have h4 := h3 j hj'
  have hjc : j < cs.size := (Array.getElem?_eq_some_iff.1 h4).1
  rw [List.getElem_set]
  by_cases e : i = j
  · subst e
    simp [hjc]
  · rw [if_neg e, Array.getElem?_setIfInBounds_ne e]
    exact h4
theorem RowIs.size {w : World} {g : Nat} {t : TypeId} {l : List UInt8} (h : RowIs w g t l) : g < w.heap.size := by
  obtain ⟨cs, fr, h1, _⟩ := h
  exact (Array.getElem?_eq_some_iff.1 h1).1
theorem RowIs.kept {w w' : World} {g : Nat} {t : TypeId} {l : List UInt8} {B : Nat} (h : RowIs w g t l) (hb : Below B w w') (hg : g < B) : RowIs w' g t l := by
  obtain ⟨cs, fr, h1, h2, h3⟩ := h
  exact ⟨cs, fr, (hb.block g hg).trans h1, h2, h3⟩
theorem RowIs.alloc {w : World} {g : Nat} {t : TypeId} {l : List UInt8} (h : RowIs w g t l) (o : Obj) : RowIs (w.alloc o) g t l := by
  have hs := h.size
  obtain ⟨cs, fr, h1, h2, h3⟩ := h
  exact ⟨cs, fr, (Below.heap_alloc w o g hs).trans h1, h2, h3⟩
theorem RowIs.of (w : World) (t : TypeId) (s : ByteArray) : RowIs (Lib.bytesWorld w t s) w.heap.size t s.data.toList := by
  refine ⟨_, _, Lib.bytesWorld_at_new w t s, .inr ?_, ?_⟩
  · simp [Lib.bytesCells]
  · intro i hi
    have hi' : i < s.size := by simpa using hi
    have h := Lib.bytesWorld_cell w t s i hi'
    rw [World.cell?] at h
    simp [Lib.bytesWorld_at_new] at h
    rw [h]
    simp [hi']
end Go.Proofs.Ytpfidbcnefnhcaa

/- make([]byte, n): n noughts, and their string. -/
namespace Go.Proofs.Ytpfidbcnefnhcaa
open Go.RowKit
set_option linter.unusedVariables false

end Go.Proofs.Ytpfidbcnefnhcaa

/- Lists by numbers: Make, walked. -/
namespace Go.Proofs.Ytpfidbcnefnhcaa.XatW
open Go.RowKit
open XatM
set_option linter.unusedVariables false

structure Good (l : List Xa) : Prop where
  pw : PW l
  all : ∀ x ∈ l, okX x = true ∧ x.1.length ≠ 6 ∧ x.2.length ≤ 19
theorem Good.nil : Good [] := ⟨List.Pairwise.nil, by simp⟩
theorem Good.put {l : List Xa} {a : Xa} (h : Good l) (h1 : okX a = true) (h2 : a.1.length ≠ 6) (h3 : a.2.length ≤ 19) : Good (putX l a) :=
  ⟨put_pw h.pw, fun x hx => (put_mem hx).elim (fun e => by rw [e]; exact ⟨h1, h2, h3⟩) (fun hx => h.all x hx)⟩
theorem Good.may {l : List Xa} (h : Good l) (hl : l.length ≤ 32) : mayL l = true := by
  unfold mayL
  rw [decide_eq_true hl, asc_pw.2 h.pw, Bool.and_true, Bool.true_and, List.all_eq_true]
  exact fun x hx => (h.all x hx).1
attribute [local irreducible] Row At BRow

end Go.Proofs.Ytpfidbcnefnhcaa.XatW

/- Lists by numbers: Make, walked once more, its list as a function of the numbers. -/
namespace Go.Proofs.Ytpfidbcnefnhcaa.XatW
open Go.RowKit
open XatM
set_option linter.unusedVariables false

def u8of (z : Int) : UInt8 := UInt8.ofNat (z % 256).toNat
def pfxL : Nat → List UInt8
  | 0 => [117, 115, 101, 114, 46]
  | 1 => [116, 114, 117, 115, 116, 101, 100, 46]
  | 2 => [115, 101, 99, 117, 114, 105, 116, 121, 46]
  | 3 => [120, 61]
  | _ => [255]
def nameX (x1 x2 : Int) : List UInt8 := pfxL (x1 % 5).toNat ++ [u8of (97 + x1 / 5 % 20), u8of (1 + x2 % 255)]
def valX (x1 x2 : Int) : List UInt8 := (List.range (x2 % 20).toNat).map fun (k : Nat) => u8of (x1 * ((k : Int) + 1))
def goX (zs : List Int) (len : Nat) : Nat → Nat → List Xa → List Xa
  | 0, _, acc => acc
  | f + 1, m, acc => if 2 * m + 1 < len ∧ acc.length < 6 then goX zs len f (m + 1) (putX acc (nameX (zs.getD (2 * m) 0) (zs.getD (2 * m + 1) 0), valX (zs.getD (2 * m) 0) (zs.getD (2 * m + 1) 0))) else acc
def madeX (zs : List Int) (len : Nat) : List Xa := goX zs len len 0 []
attribute [local irreducible] Row At BRow

end Go.Proofs.Ytpfidbcnefnhcaa.XatW

/- How the laws make capabilities by numbers. -/
namespace Go.Proofs.Ytpfidbcnefnhcaa
open Go.RowKit
open CapsM
set_option linter.unusedVariables false

def mkC (p i x r : Nat) : Cap := ⟨(2 + x % 2 : Nat), p, i, decide (128 ≤ x), ((if x % 2 = 1 then r / 2 else 0 : Nat) : Int)⟩
end Go.Proofs.Ytpfidbcnefnhcaa

/- Which kinds bear what: the five nodes of the law MetaKinds. -/
namespace Go.Proofs.Ytpfidbcnefnhcaa
open MetaM
namespace MetaM
def kAny (k : Int) : Prop := k = 1 ∨ k = 3 ∨ k = 4 ∨ k = 5 ∨ k = 6 ∨ k = 7
def withDfl (n : Int) (l : List AclM.Ace) : Mt := ⟨n, 1, 2, 0, 0, [], l, [], ⟨0, 0, 0, false, 0⟩, 0⟩
def withCap (n : Int) : Mt := ⟨n, 1, 2, 0, 0, [], [], [], ⟨2, 0, 0, false, 0⟩, 0⟩
def withAcl (n : Int) (l : List AclM.Ace) : Mt := ⟨n, 1, 2, 0, 0, l, [], [], ⟨0, 0, 0, false, 0⟩, 0⟩
def withFlags (n : Int) : Mt := ⟨n, 1, 2, 0, 0, [], [], [], ⟨0, 0, 0, false, 0⟩, 1⟩
end MetaM
end Go.Proofs.Ytpfidbcnefnhcaa

/- Metadata by numbers, as a function of the numbers. -/
namespace Go.Proofs.Ytpfidbcnefnhcaa
open Go.RowKit
open MetaM
set_option linter.unusedVariables false
namespace MetaM
def numK (zs : List Int) (len : Nat) (i : Nat) : Int := if i < len then zs.getD i 0 else 0
def xatK (zs : List Int) (len : Nat) : List XatM.Xa := if 12 < len then XatW.madeX (zs.drop 12) (len - 12) else []
def modeK (zs : List Int) (len : Nat) : Int := numK zs len 0 * 16 + numK zs len 1 % 16
def capK (zs : List Int) (len : Nat) (k : Int) : CapsM.Cap :=
  if k = 1 ∧ numK zs len 10 % 3 = 0 ∧ 10 < len then mkC (numK zs len 8).toNat (numK zs len 9 * 1099511627776).toNat (zs.getD 10 0).toNat (numK zs len 11).toNat else ⟨0, 0, 0, false, 0⟩
def aclK (zs : List Int) (len : Nat) (n : Int) : List AclM.Ace := if numK zs len 7 % 2 = 1 then AclW.madeL (zs.drop 8) (len - 8) (n % 512) else []
def dflK (zs : List Int) (len : Nat) (k : Int) : List AclM.Ace := if k = 6 ∧ 2 ≤ numK zs len 7 % 4 then AclW.madeL (zs.drop (min len 9)) (len - min len 9) (numK zs len 9) else []
def madeM (zs : List Int) (len : Nat) (k : Int) : Mt :=
  if k = 3 then ⟨511, numK zs len 2 % 6, numK zs len 3 % 6, numK zs len 4 * 1000 - 50000, numK zs len 5 % 2 * 500000000, [], [], xatK zs len, ⟨0, 0, 0, false, 0⟩, 0⟩
  else ⟨modeK zs len, numK zs len 2 % 6, numK zs len 3 % 6, numK zs len 4 * 1000 - 50000, numK zs len 5 % 2 * 500000000, aclK zs len (modeK zs len), dflK zs len k, xatK zs len, capK zs len k, numK zs len 6 % 16⟩
end MetaM
end Go.Proofs.Ytpfidbcnefnhcaa

/- Who asks, by numbers: made by the laws. -/
namespace Go.Proofs.Ytpfidbcnefnhcaa
open Go.RowKit
open MetaM RightM
set_option linter.unusedVariables false
theorem BlkIs.grown {w w' : World} {h : Nat} {t : TypeId} {cs : Array Value} {row : Option Nat} (hb : BlkIs w h t cs) (hg : w.grownBy w' row) (hn : row ≠ some h) : BlkIs w' h t cs := (hg.block h hb.size (Ne.symm hn)).trans hb
structure CrSt (w : World) (R C : Nat) (u g : Int) (gv : Value) (W : World) : Prop where
  below : Below w.heap.size w W
  r : BlkIs W R 33 #[.int .i64 0, .int .i64 0, .slice none 0 0, .int .i64 0]
  c : BlkIs W C 33 #[.int .i64 u, .int .i64 g, gv, .int .i64 0]
  ne : R < C
  ge : w.heap.size ≤ R
attribute [local irreducible] Row At
end Go.Proofs.Ytpfidbcnefnhcaa

/- Where a law stands that asks who may what: metadata in one block, who asks in another. -/
namespace Go.Proofs.Ytpfidbcnefnhcaa
open Go.RowKit
open MetaM RightM AclM
set_option linter.unusedVariables false
structure LawSt (w : World) (bm bc : Nat) (m : Mt) (va vd vx : Value) (c : Cr) (gv : Value) (W : World) : Prop where
  below : Below w.heap.size w W
  mb : BlkIs W bm 30 #[.int .i64 m.mode, .int .i64 m.uid, .int .i64 m.gid, .int .i64 m.sec, .int .i64 m.nano, va, vd, vx, .int .i64 m.cap.v, .int .u64 (m.cap.p : Int), .int .u64 (m.cap.i : Int), .bool m.cap.e, .int .i64 m.cap.r, .int .i64 m.flags]
  cb : BlkIs W bc 33 #[.int .i64 c.uid, .int .i64 c.gid, gv, .int .i64 c.powers]
  ra : RightAt m va vd vx W
  ca : CredAt c gv W
theorem LawSt.call {w : World} {bm bc : Nat} {m : Mt} {va vd vx : Value} {c : Cr} {gv : Value} {W W' : World} (h : LawSt w bm bc m va vd vx c gv W) (hb : Below W.heap.size W W') : LawSt w bm bc m va vd vx c gv W' :=
  ⟨gr_call h.below hb, h.mb.kept hb h.mb.size, h.cb.kept hb h.cb.size, h.ra.call hb, h.ca.call hb⟩
theorem blk_of {w : World} {b : Nat} (hb : w.heap.size = b) (t : TypeId) (cs : Array Value) : BlkIs (w.alloc (.cells cs t)) b t cs := by subst hb; exact BlkIs.made _ _ _
theorem can_at {w : World} {bm bc : Nat} {m : Mt} {va vd vx : Value} {c : Cr} {gv : Value} {W : World} (h : LawSt w bm bc m va vd vx c gv W) (x : Int) :
    Calls Try.prog 14 #[.agg #[.int .i64 m.mode, .int .i64 m.uid, .int .i64 m.gid, .int .i64 m.sec, .int .i64 m.nano, va, vd, vx, .int .i64 m.cap.v, .int .u64 (m.cap.p : Int), .int .u64 (m.cap.i : Int), .bool m.cap.e, .int .i64 m.cap.r, .int .i64 m.flags], .agg #[.int .i64 c.uid, .int .i64 c.gid, gv, .int .i64 c.powers], .int .i64 x] W fun e w' => e = .returned (.bool (canM m c x)) ∧ Below W.heap.size W w' := can_any m va vd vx c gv x W h.ra h.ca
theorem owner_at {w : World} {bm bc : Nat} {m : Mt} {va vd vx : Value} {c : Cr} {gv : Value} {W : World} (h : LawSt w bm bc m va vd vx c gv W) :
    Calls Try.prog 16 #[.agg #[.int .i64 m.mode, .int .i64 m.uid, .int .i64 m.gid, .int .i64 m.sec, .int .i64 m.nano, va, vd, vx, .int .i64 m.cap.v, .int .u64 (m.cap.p : Int), .int .u64 (m.cap.i : Int), .bool m.cap.e, .int .i64 m.cap.r, .int .i64 m.flags], .agg #[.int .i64 c.uid, .int .i64 c.gid, gv, .int .i64 c.powers]] W fun e w' => e = .returned (.bool (ownM m c)) ∧ Below W.heap.size W w' := owner_any m va vd vx c gv W
theorem less_at {w : World} {bm bc : Nat} {m : Mt} {va vd vx : Value} {c : Cr} {gv : Value} {W : World} (h : LawSt w bm bc m va vd vx c gv W) :
    Calls Try.prog 18 #[.agg #[.int .i64 m.mode, .int .i64 m.uid, .int .i64 m.gid, .int .i64 m.sec, .int .i64 m.nano, va, vd, vx, .int .i64 m.cap.v, .int .u64 (m.cap.p : Int), .int .u64 (m.cap.i : Int), .bool m.cap.e, .int .i64 m.cap.r, .int .i64 m.flags]] W fun e w' => e = .returned (.int .i64 (lessM m : Int)) ∧ Below W.heap.size W w' := less_any m va vd vx W h.ra
theorem in_at {w : World} {bm bc : Nat} {m : Mt} {va vd vx : Value} {c : Cr} {gv : Value} {W : World} (h : LawSt w bm bc m va vd vx c gv W) (x : Int) :
    Calls Try.prog 12 #[.agg #[.int .i64 c.uid, .int .i64 c.gid, gv, .int .i64 c.powers], .int .i64 x] W fun e w' => e = .returned (.bool (inM c x)) ∧ Below W.heap.size W w' := in_any c gv x W h.ca
end Go.Proofs.Ytpfidbcnefnhcaa
