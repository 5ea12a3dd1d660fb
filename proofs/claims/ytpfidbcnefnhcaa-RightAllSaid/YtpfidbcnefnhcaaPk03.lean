/- Bundle of 8 texts. -/
import Derived.Test.YtpfidbcnefnhcaaKit
import Derived.OpenShut
import Derived.Test.YtpfidbcnefnhcaaPk02
import Derived.Test.YtpfidbcnefnhcaaAwRefMay
import Derived.RegionTactic
import Derived.Below
import Derived.WalkKit
/- A slice of integers that came in: what it reads as, at every place, and in every later world. -/
namespace Go.Proofs.Ytpfidbcnefnhcaa
open Go.RowKit

def IsRow (k : IntKind) (w : World) (a : Option Addr) (len cap : Nat) (zs : List Int) : Prop :=
  (a = none ∧ len = 0 ∧ cap = 0 ∧ zs = []) ∨
  ∃ x, a = some x ∧ len ≤ cap ∧ cap ≤ maxLen ∧ zs.length = cap ∧ (∀ i, i < zs.length → w.cell? (x.add i) = some (.int k (zs.getD i 0))) ∧ (∀ n ∈ zs, (Lit.int k n).wf = true)
theorem IsRow.open {k : IntKind} {w : World} {a : Option Addr} {len cap : Nat} {zs : List Int} (h : IsRow k w a len cap zs) (hp : 0 < len) :
    ∃ b off, a = some ⟨b, off, none⟩ ∧ b < w.heap.size ∧ len ≤ cap ∧ (∀ j, j < len → w.cell? ⟨b, off + j, none⟩ = some (.int k (zs.getD j 0)) ∧ (Lit.int k (zs.getD j 0)).wf = true) := by
  rcases h with ⟨_, h, _⟩ | ⟨x, rfl, hl, hm, hz, hc, hw⟩
  · omega
  · obtain ⟨b, off, rfl, hat⟩ := ints_at hc (by omega)
    refine ⟨b, off, rfl, block_lt (hat 0 (by omega)), hl, fun j hj => ⟨hat j (by omega), hw _ ?_⟩⟩
    have : j < zs.length := by omega
    simp [List.getD, List.getElem?_eq_getElem this]
end Go.Proofs.Ytpfidbcnefnhcaa

/- Small facts of metadata and of rows that came in. -/
namespace Go.Proofs.Ytpfidbcnefnhcaa
open Go.RowKit
open MetaM
set_option linter.unusedVariables false

end Go.Proofs.Ytpfidbcnefnhcaa

/- The document's answer to who may what: groups, powers, owners. -/
namespace Go.Proofs.Ytpfidbcnefnhcaa
open Go.RowKit
open MetaM RightM
set_option linter.unusedVariables false

def intE : Elt Int where
  t := 3
  st := 31
  k := 1
  z := .int .i64 0
  bytes := 8
  enc a := [.int .i64 a]
  len _ := rfl
  one _ u h := by simp at h; subst h; rfl
  pos := by decide
  und := Try.underlying31
  inf := by kernel_rfl
  zk := rfl
  small := by decide
theorem int_look {v : Value} {l : List Int} {w : World} (h : At intE v l w) :
    ∃ p cap, v = .slice p l.length cap ∧ l.length ≤ cap ∧ ∀ j (h : j < l.length), ∃ g off, p = some ⟨g, off, none⟩ ∧ g < w.heap.size ∧ w.cell? ⟨g, off + j, none⟩ = some (.int .i64 l[j]) := by
  by_cases hl : l = []
  · obtain ⟨p, cap, h1, h2⟩ := h.shape
    exact ⟨p, cap, h1, h2, fun j hj => by subst hl; simp at hj⟩
  · obtain ⟨g, off, cap, h1, h2, h3, h4⟩ := h.open hl
    refine ⟨_, cap, h1, h2, fun j hj => ⟨g, off, rfl, h3, ?_⟩⟩
    have a0 := h4 j hj 0 _ rfl
    rw [show off + (j * intE.k + 0) = off + j by show off + (j * 1 + 0) = _; omega] at a0
    exact a0
def credC (c : Cr) (gv : Value) : Array Value := #[.int .i64 c.uid, .int .i64 c.gid, gv, .int .i64 c.powers]
structure CredAt (c : Cr) (gv : Value) (w : World) : Prop where
  groups : At intE gv c.groups w
  len : c.groups.length ≤ 1000000
theorem CredAt.call {c : Cr} {gv : Value} {w w1 : World} (h : CredAt c gv w) (hb : Below w.heap.size w w1) : CredAt c gv w1 := ⟨h.groups.call hb, h.len⟩
theorem any_drop {l : List Int} {g : Int} {k : Nat} (h : k < l.length) : (l.drop k).any (fun x => decide (x = g)) = (decide (l[k] = g) || (l.drop (k + 1)).any fun x => decide (x = g)) := by
  rw [List.drop_eq_getElem_cons h, List.any_cons]
theorem any_end {l : List Int} {g : Int} {k : Nat} (h : l.length ≤ k) : (l.drop k).any (fun x => decide (x = g)) = false := by
  rw [List.drop_eq_nil_of_le h]; rfl
theorem int_beq (a b : Int) : decide (a = b) = (a == b) := by by_cases h : a = b <;> simp [h]
theorem nat_and2 (x : Nat) : x &&& 2 = x / 2 % 2 * 2 := by
  have h : ∀ y : Fin 4, y.val &&& 2 = y.val / 2 % 2 * 2 := by decide
  have e : x &&& 2 = (x % 4) &&& 2 := by
    have h1 : x % 4 = x &&& 3 := (Nat.and_two_pow_sub_one_eq_mod x 2).symm
    have h2 : (3 : Nat) &&& 2 = 2 := by decide
    rw [h1, Nat.and_assoc, h2]
  have := h ⟨x % 4, Nat.mod_lt _ (by decide)⟩
  simp only at this
  omega
theorem nat_and4 (x : Nat) : x &&& 4 = x / 4 % 2 * 4 := by
  have h : ∀ y : Fin 8, y.val &&& 4 = y.val / 4 % 2 * 4 := by decide
  have e : x &&& 4 = (x % 8) &&& 4 := by
    have h1 : x % 8 = x &&& 7 := (Nat.and_two_pow_sub_one_eq_mod x 3).symm
    have h2 : (7 : Nat) &&& 4 = 4 := by decide
    rw [h1, Nat.and_assoc, h2]
  have := h ⟨x % 8, Nat.mod_lt _ (by decide)⟩
  simp only at this
  omega
theorem and2 (n : Int) : bits .and .i64 n 2 = n / 2 % 2 * 2 := by
  have key : (BitVec.ofInt 64 n &&& BitVec.ofInt 64 2).toNat = (n % ((2 ^ 64 : Nat) : Int)).toNat / 2 % 2 * 2 := by
    rw [BitVec.toNat_and, BitVec.toNat_ofInt, show (BitVec.ofInt 64 2).toNat = 2 by decide, nat_and2]
  show IntKind.i64.wrap ((BitVec.ofInt 64 n &&& BitVec.ofInt 64 2).toNat : Int) = _
  rw [key, IntKind.wrap_i64]
  omega
theorem and4 (n : Int) : bits .and .i64 n 4 = n / 4 % 2 * 4 := by
  have key : (BitVec.ofInt 64 n &&& BitVec.ofInt 64 4).toNat = (n % ((2 ^ 64 : Nat) : Int)).toNat / 4 % 2 * 4 := by
    rw [BitVec.toNat_and, BitVec.toNat_ofInt, show (BitVec.ofInt 64 4).toNat = 4 by decide, nat_and4]
  show IntKind.i64.wrap ((BitVec.ofInt 64 n &&& BitVec.ofInt 64 4).toNat : Int) = _
  rw [key, IntKind.wrap_i64]
  omega
theorem has_all (c : Cr) : (bits .and .i64 c.powers 2 != 0) = hasAll c := by
  rw [and2]
  unfold hasAll
  rcases (by omega : c.powers / 2 % 2 = 0 ∨ c.powers / 2 % 2 = 1) with h | h <;> rw [h] <;> rfl
theorem has_own (c : Cr) : (bits .and .i64 c.powers 4 != 0) = hasOwn c := by
  rw [and4]
  unfold hasOwn
  rcases (by omega : c.powers / 4 % 2 = 0 ∨ c.powers / 4 % 2 = 1) with h | h <;> rw [h] <;> rfl
attribute [local irreducible] Row At

set_option maxHeartbeats 1600000 in
theorem refHas_any (c : Cr) (gv : Value) (k : Int) (w : World) :
    Calls Try.prog 28 #[.agg (credC c gv), .int .i64 k] w fun e w' => e = .returned (.bool (bits .and .i64 c.powers k != 0)) ∧ Below w.heap.size w w' := by
  obtain ⟨uid, gid, gs, pw⟩ := c
  unfold credC
  simp only
  go_enter Try.func28, Try.ntmps28
  go_wp2_with fail
  go_ret
  exact ⟨by rfl, by (repeat' (first | exact Below.refl _ _ | assumption | refine gr_drew ?_ | refine gr_drewN ?_ _ | refine gr_alloc ?_ _ | refine gr_set ?_ ?_ _ | refine gr_call ?_ (by assumption)) <;> (try (simp; done)) <;> (try (simp; omega)) <;> (try omega))⟩

set_option maxHeartbeats 1600000 in
theorem refIn_any (c : Cr) (gv : Value) (g : Int) (w : World) (hat : CredAt c gv w) :
    Calls Try.prog 13 #[.agg (credC c gv), .int .i64 g] w fun e w' => e = .returned (.bool (inM c g)) ∧ Below w.heap.size w w' := by
  obtain ⟨uid, gid, gs, pw⟩ := c
  unfold credC
  obtain ⟨r, hr⟩ : ∃ r, inM ⟨uid, gid, gs, pw⟩ g = r := ⟨_, rfl⟩
  rw [hr]
  unfold inM at hr
  simp only at hr ⊢
  have hl := hat.len
  have hgs := hat.groups
  simp only at hl hgs
  obtain ⟨z, hz⟩ : ∃ z, gs.length = z := ⟨_, rfl⟩
  obtain ⟨p, cap, rfl, hcap, hcell⟩ := int_look hgs
  rw [hz] at hl hcap ⊢
  have Hcell := Lib.hid hcell
  have Hz := Lib.hid hz
  have H0 := Lib.hid (show r = ((gid == g) || (gs.drop 0).any fun x => decide (x = g)) by rw [← hr, List.drop_zero, int_beq])
  generalize hd : (gid == g) = d at H0 ⊢
  clear hcell hz hr hat hgs
  obtain ⟨bx, hbx⟩ : ∃ b, w.heap.size = b := ⟨_, rfl⟩
  have hx0 : Below w.heap.size w (w.alloc (.cells #[.int .i64 uid, .int .i64 gid, .slice p z cap, .int .i64 pw] 33)) := by (repeat' (first | exact Below.refl _ _ | assumption | refine gr_drew ?_ | refine gr_drewN ?_ _ | refine gr_alloc ?_ _ | refine gr_set ?_ ?_ _ | refine gr_call ?_ (by assumption)) <;> (try (simp; done)) <;> (try (simp; omega)) <;> (try omega))
  have b2 : (w.alloc (.cells #[.int .i64 uid, .int .i64 gid, .slice p z cap, .int .i64 pw] 33)).cell? ⟨bx, 2, none⟩ = some (.slice p z cap) := by simp [go_sem, ← hbx]
  go_enter Try.func13, Try.ntmps13
  go_wp2_with fail
  try simp only [hbx]
  go_loopw [5, 6] (fun bv iv wr => ∃ (k : Nat) (b : Bool), bv = .bool b ∧ iv = .int .i64 (k : Int) ∧ k ≤ z ∧ Below w.heap.size w wr ∧ wr.cell? ⟨bx, 2, none⟩ = some (.slice p z cap) ∧ Hid (r = (b || (gs.drop k).any fun x => decide (x = g)))) (fun _ iv _ => z - (intOf iv).toNat)
  case atStart => exact ⟨0, d, by first | rfl | rw [← hd]; rfl, rfl, by omega, hx0, b2, H0⟩
  case round =>
    clear hx0 b2 H0 hbx hd
    obtain ⟨k, b, rfl, rfl, hk, hbl, b2, HR⟩ := hrel
    rename_i wr
    by_cases hlt : k < z
    · have hlt' : decide ((k : Int) < (z : Int)) = true := decide_eq_true (by omega)
      have hlt2 : decide (k < z) = true := decide_eq_true hlt
      have hk' : k < gs.length := by rw [Hz.out]; exact hlt
      obtain ⟨h, off, rfl, hg, c0⟩ := Hcell.out k hk'
      replace c0 := cell_kept hbl c0
      have HS := Lib.hid (any_drop (g := g) hk')
      generalize gs[k] = x at *
      have HE := Lib.hid (show r = ((b || (x == g)) || (gs.drop (k + 1)).any fun x => decide (x = g)) by rw [HR.out, HS.out, Bool.or_assoc, int_beq])
      clear HR HS
      generalize hxg : (x == g) = t at HE
      cases b
      · go_wp2_with fail
        go_roundw
        case rel => exact ⟨k + 1, t, by first | rfl | rw [← hxg]; rfl, rfl, by omega, by (repeat' (first | exact Below.refl _ _ | assumption | refine gr_drew ?_ | refine gr_drewN ?_ _ | refine gr_alloc ?_ _ | refine gr_set ?_ ?_ _ | refine gr_call ?_ (by assumption)) <;> (try (simp; done)) <;> (try (simp; omega)) <;> (try omega)), b2, by simpa using HE⟩
        case measure => simp only [intOf]; omega
      · go_wp2_with fail
        go_roundw
        case rel => exact ⟨k + 1, true, rfl, rfl, by omega, by (repeat' (first | exact Below.refl _ _ | assumption | refine gr_drew ?_ | refine gr_drewN ?_ _ | refine gr_alloc ?_ _ | refine gr_set ?_ ?_ _ | refine gr_call ?_ (by assumption)) <;> (try (simp; done)) <;> (try (simp; omega)) <;> (try omega)), b2, Lib.hid (by rw [HE.out]; rfl)⟩
        case measure => simp only [intOf]; omega
    · have hlt' : decide ((k : Int) < (z : Int)) = false := decide_eq_false (by omega)
      have hlt2 : decide (k < z) = false := decide_eq_false hlt
      have HE := Lib.hid (show r = b by rw [HR.out, any_end (by rw [Hz.out]; omega), Bool.or_false])
      clear HR
      go_wp2_with fail
      go_ret
      exact ⟨by rw [HE.out]; rfl, by (repeat' (first | exact Below.refl _ _ | assumption | refine gr_drew ?_ | refine gr_drewN ?_ _ | refine gr_alloc ?_ _ | refine gr_set ?_ ?_ _ | refine gr_call ?_ (by assumption)) <;> (try (simp; done)) <;> (try (simp; omega)) <;> (try omega))⟩
end Go.Proofs.Ytpfidbcnefnhcaa

/- A region that draws its order, whose operations make memory beside calls: one step an operation, whatever the order. -/
namespace Go.Proofs.Ytpfidbcnefnhcaa
open Go Go.RowKit

section
variable {P : Program} {Q : Exit → Act → World → Prop}

def dstOf (l : List Oper) (j : Nat) : Nat := ((l[j]?).bind (·.dst)).getD 0
def valOf (l : List Oper) (a : Act) (j : Nat) : Value := a.tmps.getD (dstOf l j) undef
def findDst (l : List Oper) (k : Nat) : Option Nat := l.findIdx? (fun o => o.dst == some k)
def goodOps (l : List Oper) (n : Nat) : Bool :=
  (List.range l.length).all fun i => match l[i]? with
    | none => false
    | some o => o.guard.isNone && o.dst.isSome && decide (dstOf l i < n) && (findDst l (dstOf l i) == some i) && (o.after.all fun e => decide (e.on < i))
def setAll : List Oper → (Nat → Value) → Nat → Array Value → Array Value
  | [], _, _, t => t
  | o :: l, vals, i, t => setAll l vals (i + 1) (match o.dst with | some d => t.setIfInBounds d (vals i) | none => t)

def StepOk (P : Program) (Q : Exit → Act → World → Prop) (l : List Oper) (S : World → Prop) (V : Nat → World → Value → Prop) (a0 : Act) (i : Nat) (o : Oper) : Prop :=
  ∀ (a : Act) (w : World) (K : Act → World → Prop), S w →
    (∀ e ∈ o.after, Region.binds .any e = true → V e.on w (valOf l a e.on)) →
    (∀ k, findDst l k = none → a.tmps.getD k undef = a0.tmps.getD k undef) →
    (∀ v w', Below w.heap.size w w' → S w' → V i w' v → K (a.put o.dst v) w') → Oper.wp P o a w K Q
def StepsOk (P : Program) (Q : Exit → Act → World → Prop) (l : List Oper) (S : World → Prop) (V : Nat → World → Value → Prop) (a0 : Act) : List Oper → Nat → Prop
  | [], _ => True
  | o :: r, i => StepOk P Q l S V a0 i o ∧ StepsOk P Q l S V a0 r (i + 1)

structure FrameIs (l : List Oper) (V : Nat → World → Value → Prop) (S : World → Prop) (a0 : Act) (vals : Nat → Value) (listed : Array Bool) (a : Act) (w : World) : Prop where
  hS : S w
  hd : a.defers = a0.defers
  hz : a.tmps.size = a0.tmps.size
  hv : ∀ i, listed.getD i false = true → V i w (vals i)
  ht : ∀ k, a.tmps[k]? = match findDst l k with
    | some i => if listed.getD i false = true then some (vals i) else a0.tmps[k]?
    | none => a0.tmps[k]?

theorem ready_spec {ops : Array Oper} {listed : Array Bool} {i : Nat} (h : i ∈ Region.ready .any ops listed) :
    ∃ o, ops[i]? = some o ∧ listed.getD i true = false ∧ ∀ e ∈ o.after, Region.binds .any e = true → listed.getD e.on false = true := by
  unfold Region.ready at h
  rw [List.mem_filter] at h
  obtain ⟨h1, h2⟩ := h
  rw [List.mem_range] at h1
  refine ⟨ops[i], by simp [h1], ?_, ?_⟩
  · simp at h2; simpa using h2.1
  · intro e he hb
    simp only [Bool.and_eq_true, Array.getElem?_eq_getElem h1, Option.map_some, Option.getD_some, Array.all_eq_true_iff_forall_mem] at h2
    have := h2.2 e he
    simpa [hb] using this
theorem count_set {b : List Bool} : ∀ {i : Nat}, b[i]? = some false → (b.set i true).count false + 1 = b.count false := by
  induction b with
  | nil => intro i h; simp at h
  | cons x b ih =>
    intro i h
    cases i with
    | zero =>
      simp at h; subst h
      simp
    | succ i =>
      simp at h
      have := ih h
      simp only [List.set_cons_succ, List.count_cons]
      omega

theorem setAll_size : ∀ (l : List Oper) (vals : Nat → Value) (i : Nat) (t : Array Value), (setAll l vals i t).size = t.size
  | [], _, _, _ => rfl
  | o :: l, vals, i, t => by
    rw [setAll, setAll_size]
    cases o.dst <;> simp
theorem findDst_cons (o : Oper) (l : List Oper) (k : Nat) : findDst (o :: l) k = if o.dst = some k then some 0 else (findDst l k).map (· + 1) := by
  unfold findDst
  rw [List.findIdx?_cons]
  by_cases h : o.dst = some k
  · simp [h]
  · have : (o.dst == some k) = false := by simpa using h
    simp [this, h]
def uniq : List Oper → Bool
  | [] => true
  | o :: l => (match o.dst with | some d => (findDst l d).isNone | none => true) && uniq l
theorem setAll_at : ∀ (l : List Oper) (vals : Nat → Value) (n : Nat) (t : Array Value) (k : Nat), uniq l = true → k < t.size → (setAll l vals n t)[k]? = match findDst l k with
    | some i => some (vals (n + i))
    | none => t[k]?
  | [], _, _, _, _, _, _ => rfl
  | o :: l, vals, n, t, k, hu, hk => by
    simp only [uniq, Bool.and_eq_true] at hu
    rw [setAll, findDst_cons]
    cases hd : o.dst with
    | none =>
      rw [setAll_at l vals (n + 1) t k hu.2 hk]
      cases hf : findDst l k with
      | none => simp
      | some i => simp; congr 1; omega
    | some d =>
      rw [setAll_at l vals (n + 1) _ k hu.2 (by simpa using hk)]
      by_cases e : d = k
      · subst e
        rw [hd] at hu
        have hn : findDst l d = none := by simpa using hu.1
        simp [hn, hk]
      · cases hf : findDst l k with
        | none => simp [e, Array.getElem?_setIfInBounds_ne e]
        | some i => simp [e]; congr 1; omega

def PersAll : List (World → Value → Prop) → Prop
  | [] => True
  | p :: l => (∀ w w' v, Below w.heap.size w w' → p w v → p w' v) ∧ PersAll l
theorem pers_at : ∀ {l : List (World → Value → Prop)}, PersAll l → ∀ i w w' v, Below w.heap.size w w' → l.getD i (fun _ _ => True) w v → l.getD i (fun _ _ => True) w' v
  | [], _, _, _, _, _, _, _ => trivial
  | p :: l, h, 0, w, w', v, hb, hv => h.1 w w' v hb hv
  | p :: l, h, i + 1, w, w', v, hb, hv => pers_at h.2 i w w' v hb hv
def goodAfter (l : List Oper) : Bool := (List.range l.length).all fun i => match l[i]? with
  | none => false
  | some o => o.after.all fun e => decide (e.on < i)
theorem ready_nil' {l : List Oper} {listed : Array Bool} (hg : goodAfter l = true) (hs : listed.size = l.length) (h : Region.ready .any l.toArray listed = []) :
    ∀ j, j < l.length → listed.getD j false = true := by
  intro j
  induction j using Nat.strongRecOn with
  | _ j ih =>
    intro hj
    have h1 : j ∉ Region.ready .any l.toArray listed := by rw [h]; simp
    unfold Region.ready at h1
    rw [List.mem_filter] at h1
    have h2 : j ∈ List.range l.toArray.size := by simpa using hj
    have h3 := fun hp => h1 ⟨h2, hp⟩
    have hgj := List.all_eq_true.1 hg j (by simpa using hj)
    rw [List.getElem?_eq_getElem hj] at hgj
    have hlt := Array.all_eq_true_iff_forall_mem.1 hgj
    have hall : l[j].after.all (fun e => !Region.binds .any e || listed.getD e.on false) = true := by
      rw [Array.all_eq_true_iff_forall_mem]
      intro e he
      have hlt := of_decide_eq_true (hlt e he)
      rw [ih e.on hlt (by omega)]
      simp
    have hjs : j < listed.size := by omega
    cases hb : listed[j] with
    | true => simp [hjs, hb]
    | false =>
      exfalso
      refine h3 ?_
      have e1 : listed.getD j true = false := by simp [hjs, hb]
      have e2 : l.toArray[j]? = some l[j] := by simp [hj]
      rw [e1, e2, Option.map_some, Option.getD_some, hall]
      rfl
theorem all_done {l : List Oper} {listed : Array Bool} (hs : listed.size = l.length) (h : ∀ j, j < l.length → listed.getD j false = true) {a : Act} {w : World} (hQ : Q .normal a w) :
    ∀ fuel, wpAny P .any l.toArray Q fuel listed a w := by
  have hr : Region.ready .any l.toArray listed = [] := by
    rw [List.eq_nil_iff_forall_not_mem]
    intro i hi
    obtain ⟨o, ho, hl, _⟩ := ready_spec hi
    have hil : i < l.length := by
      have := (Array.getElem?_eq_some_iff.1 ho).1
      simpa using this
    have h1 := h i hil
    have hi' : i < listed.size := by omega
    simp [hi'] at hl h1
    rw [hl] at h1; cases h1
  intro fuel
  cases fuel with
  | zero => exact ⟨hr, hQ⟩
  | succ fuel => exact ⟨fun _ => hQ, fun i hi => by rw [hr] at hi; cases hi⟩
theorem frame_full {l : List Oper} {S : World → Prop} {V : Nat → World → Value → Prop} {a0 a : Act} {w : World} {vals : Nat → Value} {listed : Array Bool} (hu : uniq l = true)
    (F : FrameIs l V S a0 vals listed a w) (hall : ∀ j, j < l.length → listed.getD j false = true) : a = ⟨setAll l vals 0 a0.tmps, a0.defers⟩ := by
  have h5 : ∀ k, a.tmps[k]? = match findDst l k with | some i => some (vals i) | none => a0.tmps[k]? := by
    intro k
    rw [F.ht k]
    cases hf : findDst l k with
    | none => rfl
    | some i =>
      have hi : i < l.length := by
        unfold findDst at hf
        exact (List.findIdx?_eq_some_iff_getElem.1 hf).1
      simp only [hall i hi, if_true]
  have h4 := F.hz
  have h3 := F.hd
  clear F
  obtain ⟨ta, da⟩ := a
  simp only at h3 h4 h5
  subst h3
  congr 1
  apply Array.ext_getElem?
  intro k
  rw [h5 k]
  rcases Nat.lt_or_ge k a0.tmps.size with hk | hk
  · rw [setAll_at l vals 0 a0.tmps k hu hk]
    cases findDst l k <;> simp
  · have e2 : (setAll l vals 0 a0.tmps)[k]? = none := by rw [Array.getElem?_eq_none]; rw [setAll_size]; exact hk
    rw [e2, ← h5 k, Array.getElem?_eq_none]; omega

def setN : Nat → List Oper → (Nat → Value) → Nat → Array Value → Array Value
  | 0, _, _, _, t => t
  | _ + 1, [], _, _, t => t
  | n + 1, o :: l, vals, i, t => setN n l vals (i + 1) (match o.dst with | some d => t.setIfInBounds d (vals i) | none => t)
theorem setN_eq : ∀ (n : Nat) (l : List Oper) (vals : Nat → Value) (i : Nat) (t : Array Value), setAll (l.take n) vals i t = setN n l vals i t
  | 0, _, _, _, _ => rfl
  | _ + 1, [], _, _, _ => rfl
  | n + 1, o :: l, vals, i, t => by
    rw [List.take_succ_cons, setAll, setN]
    exact setN_eq n l vals (i + 1) _
end
end Go.Proofs.Ytpfidbcnefnhcaa

/- A region that draws its order, whose operations make memory beside calls, some of them behind a guard that is met: one step an operation, whatever the order. -/
namespace Go.Proofs.Ytpfidbcnefnhcaa
open Go Go.RowKit

section
variable {P : Program} {Q : Exit → Act → World → Prop}

def goodOpsG (l : List Oper) (n : Nat) : Bool :=
  (List.range l.length).all fun i => match l[i]? with
    | none => false
    | some o => (match o.guard with | none => true | some (j, _) => decide (j < i) && (o.after.any fun e => e.on == j && Region.binds .any e)) && o.dst.isSome && decide (dstOf l i < n) && (findDst l (dstOf l i) == some i) && (o.after.all fun e => decide (e.on < i))
def MetOk (V : Nat → World → Value → Prop) (o : Oper) : Prop := ∀ j b, o.guard = some (j, b) → ∀ w v, V j w v → v = .bool b
def StepsOkG (P : Program) (Q : Exit → Act → World → Prop) (l : List Oper) (S : World → Prop) (V : Nat → World → Value → Prop) (a0 : Act) : List Oper → Nat → Prop
  | [], _ => True
  | o :: r, i => (MetOk V o ∧ StepOk P Q l S V a0 i o) ∧ StepsOkG P Q l S V a0 r (i + 1)
theorem met_none {V : Nat → World → Value → Prop} {o : Oper} (h : o.guard = none) : MetOk V o := fun j b hg => by rw [h] at hg; cases hg
theorem met_some {V : Nat → World → Value → Prop} {o : Oper} (j : Nat) (b : Bool) (h : o.guard = some (j, b)) (hv : ∀ w v, V j w v → v = .bool b) : MetOk V o := fun j' b' hg => by
  rw [h] at hg
  obtain ⟨rfl, rfl⟩ := Prod.mk.inj (Option.some.inj hg)
  exact hv
end
end Go.Proofs.Ytpfidbcnefnhcaa

/- A region that draws its order, with a tail of stores behind all others: one step an operation, whatever the order. -/
namespace Go.Proofs.Ytpfidbcnefnhcaa
open Go Go.RowKit

section
variable {P : Program} {Q : Exit → Act → World → Prop}

def StepOkA (P : Program) (Q : Exit → Act → World → Prop) (l : List Oper) (A : Nat → Bool) (S : World → Prop) (V : Nat → World → Value → Prop) (a0 : Act) (i : Nat) (o : Oper) : Prop :=
  ∀ (a : Act) (w : World) (K : Act → World → Prop), S w →
    (∀ e ∈ o.after, Region.binds .any e = true → V e.on w (valOf l a e.on)) →
    (∀ k, findDst l k = none → a.tmps.getD k undef = a0.tmps.getD k undef) →
    (∀ v w', Below w.heap.size w w' → S w' → V i w' v → (A i = true → ∀ j u, j ≠ i → A j = true → V j w u → v ≠ u) → K (a.put o.dst v) w') → Oper.wp P o a w K Q
def StepsOkA (P : Program) (Q : Exit → Act → World → Prop) (l : List Oper) (A : Nat → Bool) (S : World → Prop) (V : Nat → World → Value → Prop) (a0 : Act) : List Oper → Nat → Prop
  | [], _ => True
  | o :: r, i => (MetOk V o ∧ StepOkA P Q l A S V a0 i o) ∧ StepsOkA P Q l A S V a0 r (i + 1)
def Differ (A : Nat → Bool) (listed : Array Bool) (vals : Nat → Value) : Prop := ∀ i j, listed.getD i false = true → listed.getD j false = true → i ≠ j → A i = true → A j = true → vals i ≠ vals j

def bound (o : Oper) : List Nat := (o.after.toList.filter (Region.binds .any)).map (·.on)
def clos (l : List Oper) : Nat → List Nat → List Nat
  | 0, s => s
  | n + 1, s => clos l n (s ++ s.flatMap fun k => match l[k]? with | some o => bound o | none => [])
def Down (l : List Oper) (listed : Array Bool) : Prop := ∀ j o, l[j]? = some o → listed.getD j false = true → ∀ k ∈ bound o, listed.getD k false = true
theorem bound_mem {o : Oper} {k : Nat} (h : k ∈ bound o) : ∃ e ∈ o.after, Region.binds .any e = true ∧ e.on = k := by
  obtain ⟨e, he, h1⟩ := List.mem_map.1 h
  obtain ⟨h2, h3⟩ := List.mem_filter.1 he
  exact ⟨e, by simpa using h2, h3, h1⟩

end
end Go.Proofs.Ytpfidbcnefnhcaa

/- The regions' laws with a goal behind a structure, so that no tactic opens it on the way. -/
namespace Go.Proofs.Ytpfidbcnefnhcaa
open Go Go.RowKit
structure Later (p : Prop) : Prop where
  out : p

section
variable {P : Program} {Q : Exit → Act → World → Prop}

end
end Go.Proofs.Ytpfidbcnefnhcaa

/- A region that draws its order, whose last two operations come behind all others through any number of steps: an append, say, and its assignment. -/
namespace Go.Proofs.Ytpfidbcnefnhcaa
open Go Go.RowKit

section
variable {P : Program} {Q : Exit → Act → World → Prop}

def reach (l : List Oper) : Nat → List Nat → List Nat
  | 0, s => s
  | n + 1, s => reach l n (if s.contains n = true then s ++ (match l[n]? with | some o => bound o | none => []) else s)
theorem reach_listed {l : List Oper} {listed : Array Bool} (hd : Down l listed) : ∀ (n : Nat) (s : List Nat), (∀ k ∈ s, listed.getD k false = true) → ∀ k ∈ reach l n s, listed.getD k false = true
  | 0, s, h => h
  | n + 1, s, h => reach_listed hd n _ (fun k hk => by
    split at hk
    · rename_i hn
      rcases List.mem_append.1 hk with h1 | h1
      · exact h k h1
      · cases hl : l[n]? with
        | none => rw [hl] at h1; cases h1
        | some o => rw [hl] at h1; exact hd n o hl (h n (List.contains_iff_mem.1 hn)) k h1
    · exact h k hk)
end
end Go.Proofs.Ytpfidbcnefnhcaa
