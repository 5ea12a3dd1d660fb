/- Bundle of 2 texts. -/
import Derived.Test.YtbhnhoenjoagbaaGreatDoorPk26
import Derived.Test.YtbhnhoenjoagbaaGreatDoorPk19
import Derived.Test.YtbhnhoenjoagbaaGreatDoorRegionU
import Derived.Test.YtbhnhoenjoagbaaGreatDoorPk09
import Derived.Test.YtbhnhoenjoagbaaGreatDoorPk14
import Derived.Test.YtbhnhoenjoagbaaGreatDoorPk15
import Derived.Test.YtbhnhoenjoagbaaGreatDoorPk10
import Derived.Test.YtbhnhoenjoagbaaGreatDoorPk13
/- Walks over package entry: a record is added to a list that a closure holds. -/
namespace Go.Proofs.YtbhnhoenjoagbaaGreatDoor
open Go.RowKit
open MetaM PathM EntM XatW
set_option linter.unusedVariables false

theorem one_rec_list (K V : ByteArray) (w : World) (B : Nat) (hB : B ≤ w.heap.size) : Row recE B (.slice (some ⟨w.heap.size, 0, none⟩) 1 1) [(K.data.toList, V.data.toList)] (w.alloc (.cells #[.string K, .string V] 28)) := by
  have h := one_rec w (K.data.toList, V.data.toList) B hB
  have e : ∀ X : ByteArray, strOf X.data.toList = X := strOf_self
  simp only [e] at h
  exact h
structure ListIn (B g : Nat) (l : List Rc) (v : Value) (w : World) : Prop where
  blk : BlkIs w g 24 #[v]
  row : Row recE B v l w
  ne : v.ownBlock ≠ some g
theorem ListIn.call {B g : Nat} {l : List Rc} {v : Value} {w w' : World} (h : ListIn B g l v w) (hb : Below w.heap.size w w') : ListIn B g l v w' := ⟨h.blk.kept hb h.blk.size, h.row.call hb, h.ne⟩
theorem BlkIs.grown {w w' : World} {h : Nat} {t : TypeId} {cs : Array Value} {row : Option Nat} (hb : BlkIs w h t cs) (hg : w.grownBy w' row) (hn : row ≠ some h) : BlkIs w' h t cs := (hg.block h hb.size (Ne.symm hn)).trans hb
attribute [local irreducible] Row At

set_option maxHeartbeats 1600000 in
set_option maxRecDepth 100000 in
theorem addE_any (B g : Nat) (l : List Rc) (b : Bool) (K V : ByteArray) (v : Value) (w : World) (hin : ListIn B g l v w) (hl : l.length ≤ 1000) (hB : B ≤ g) (a : World) (haB : a.heap.size = B) (hbl : Below B a w) :
    Calls Tryz.prog 59 #[.bool b, .string K, .string V, .pointer (some ⟨g, 0, none⟩)] w fun e w' => e = .returned (.tuple #[]) ∧ Below B a w' ∧ ∃ v', ListIn B g (l ++ one b K.data.toList V.data.toList) v' w' ∧ w.heap.size ≤ w'.heap.size ∧
      ∀ h t cs, BlkIs w h t cs → h ≠ g → v.ownBlock ≠ some h → BlkIs w' h t cs ∧ v'.ownBlock ≠ some h := by
  cases b with
  | false =>
    have e : l ++ one false K.data.toList V.data.toList = l := by simp [one]
    rw [e]
    go_enter Tryz.func59, Tryz.ntmps59
    go_wp2_with fail
    refine ⟨rfl, .tuple #[], by simp [results, Tryz.results59, go_sem], rfl, hbl, v, hin, Nat.le_refl _, fun h t cs hb _ hv => ⟨hb, hv⟩⟩
  | true =>
    have e : l ++ one true K.data.toList V.data.toList = l ++ [(K.data.toList, V.data.toList)] := by simp [one]
    rw [e]
    have hgs := hin.blk.size
    have c0 := hin.blk.cell_some 0 v rfl
    have f0 := hin.blk.free 0
    have hone := (one_rec_list K V w B (by omega)).at
    have hR3 := hin.row.alloc (.cells #[.string K, .string V] 28)
    have hl1 : l.length + [(K.data.toList, V.data.toList)].length ≤ 1000000 := by simp; omega
    have hsz : B ≤ (w.alloc (.cells #[.string K, .string V] 28)).heap.size := by simp; omega
    have Hin := Lib.hid hin
    clear hin
    go_enter Tryz.func59, Tryz.ntmps59
    go_wp2_with (at_builtin; refine wp_append_at recE rfl _ _ rfl B _ (.slice (some ⟨w.heap.size, 0, none⟩) 1 1) l [(K.data.toList, V.data.toList)] (w.alloc (.cells #[.string K, .string V] 28)) rfl (by exact hR3) (by rfl) (by exact hone) hl1 hsz ?_)
    intro v' w3 hR' hb' hgr hvb
    have hne' : v.ownBlock ≠ some g := Hin.out.ne
    have q : BlkIs w3 g 24 #[v] := (Hin.out.blk.alloc _).grown hgr hne'
    have c3 := q.cell_some 0 v rfl
    have f3 := q.free 0
    have hg3 := q.size
    have hs5 := hgr.size
    simp at hs5
    have hnv : v'.ownBlock ≠ some g := by
      rcases hvb with hvb | hvb
      · rw [hvb]; exact hne'
      · rw [hvb]; intro e; injection e with e; omega
    have HO := Lib.hid (fun h t cs (hb : BlkIs w h t cs) (hn : h ≠ g) (hv : v.ownBlock ≠ some h) => (show BlkIs (w3.setCell ⟨g, 0, none⟩ v') h t cs ∧ v'.ownBlock ≠ some h from
      ⟨((hb.alloc _).grown hgr hv).other hn v', by
        have := hb.size
        rcases hvb with hvb | hvb
        · rw [hvb]; exact hv
        · rw [hvb]; intro e; injection e with e; omega⟩))
    have HB := Lib.hid (show Below B a (w3.setCell ⟨g, 0, none⟩ v') from haB ▸ gr_set (gr_alloc (haB ▸ hbl) _ |>.trans (haB ▸ hb')) (by rw [haB]; exact hB) v')
    have HL := Lib.hid (show ListIn B g (l ++ [(K.data.toList, V.data.toList)]) v' (w3.setCell ⟨g, 0, none⟩ v') from ⟨q.put 0 v', hR'.other hnv v', hnv⟩)
    have HS := Lib.hid (show w.heap.size ≤ (w3.setCell ⟨g, 0, none⟩ v').heap.size by simp; omega)
    obtain ⟨p, n, cap, rfl⟩ : ∃ p n cap, v' = .slice p n cap := by
      obtain ⟨p, cap, h, _⟩ := hR'.at.shape
      exact ⟨p, _, cap, h⟩
    clear hR' hgr hvb hnv hb' hone hR3 hbl q
    go_wp2_with fail
    refine ⟨rfl, .tuple #[], by simp [results, Tryz.results59, go_sem], rfl, HB.out, _, HL.out, HS.out, HO.out⟩
end Go.Proofs.YtbhnhoenjoagbaaGreatDoor

/- Walks over package entry: the records of an entry, the state on the way. -/
namespace Go.Proofs.YtbhnhoenjoagbaaGreatDoor
open Go.RowKit
open MetaM PathM EntM XatW
set_option linter.unusedVariables false

def EntM.recsR (e : En) : List Rc :=
  ((((((((([] ++ one ((longP e && !validU e.path.data.toList) || (longT e && !validU e.target.data.toList)) kSet vSet) ++ one (longP e) kPath e.path.data.toList) ++ one (longT e) kLink e.target.data.toList) ++
  one (decide (2097151 < e.m.uid)) kUid (Lib.itoa e.m.uid)) ++ one (decide (2097151 < e.m.gid)) kGid (Lib.itoa e.m.gid)) ++
  one (longS e.m.sec e.m.nano) kTime (StampW.StampM.textF e.m.sec e.m.nano)) ++
  one (decide (0 < e.m.acl.length)) kAcl (AclW.textR e.m.acl)) ++ one (decide (0 < e.m.dfl.length)) kDfl (AclW.textR e.m.dfl)) ++
  one (decide (e.m.flags ≠ 0)) kFlags (FlagsW.FlagsM.textI e.m.flags) ++ one (decide (e.m.cap.v ≠ 0)) kCaps (SixM.p3 (CapsM.putL e.m.cap))) ++
  XatM.recsL e.m.xat

theorem keys_are : kSet = [104, 100, 114, 99, 104, 97, 114, 115, 101, 116] ∧ vSet = [66, 73, 78, 65, 82, 89] ∧ kAcl = [83, 67, 72, 73, 76, 89, 46, 97, 99, 108, 46, 97, 99, 99, 101, 115, 115] ∧ kDfl = [83, 67, 72, 73, 76, 89, 46, 97, 99, 108, 46, 100, 101, 102, 97, 117, 108, 116] ∧ kFlags = [83, 67, 72, 73, 76, 89, 46, 102, 102, 108, 97, 103, 115] ∧ kCaps = [71, 82, 73, 80, 83, 65, 67, 75, 46, 99, 97, 112, 115] := by
  refine ⟨?_, ?_, ?_, ?_, ?_, ?_⟩ <;> decide +kernel
theorem dec_ne (n : Int) : decide (n ≠ 0) = (n != 0) := by by_cases h : n = 0 <;> simp [h]
theorem recOf_two (x : XatM.Xa) : (XatM.recOf x).length ≤ 2 := by
  unfold XatM.recOf
  split <;> simp
theorem flat_two : ∀ l : List XatM.Xa, (l.flatMap XatM.recOf).length ≤ 2 * l.length
  | [] => by simp
  | x :: r => by have h1 := flat_two r; have h2 := recOf_two x; simp only [List.flatMap_cons, List.length_append, List.length_cons]; omega
theorem recs_few (l : List XatM.Xa) : (XatM.recsL l).length ≤ 64 := by
  unfold XatM.recsL
  split
  · rename_i h
    have h1 := (XatM.may_parts h).1
    have h2 := flat_two l
    omega
  · simp

structure RecSt (w : World) (B : Nat) (ce cm : Array Value) (l : List Rc) (v : Value) (W : World) : Prop where
  below : Below B w W
  box : BlkIs W B 39 ce
  lst : ListIn B (B + 1) l v W
  met : BlkIs W (B + 1 + 1) 37 cm
  ne0 : v.ownBlock ≠ some B
  ne2 : v.ownBlock ≠ some (B + 1 + 1)
theorem RecSt.call {w : World} {B : Nat} {ce cm : Array Value} {l : List Rc} {v : Value} {W W' : World} (h : RecSt w B ce cm l v W) (hB : w.heap.size = B) (hb : Below W.heap.size W W') : RecSt w B ce cm l v W' :=
  ⟨by subst hB; exact gr_call h.below hb, h.box.kept hb h.box.size, h.lst.call hb, h.met.kept hb h.met.size, h.ne0, h.ne2⟩
theorem RecSt.drew {w : World} {B : Nat} {ce cm : Array Value} {l : List Rc} {v : Value} {W : World} (h : RecSt w B ce cm l v W) (hB : w.heap.size = B) : RecSt w B ce cm l v W.drew := h.call hB (gr_drew (Below.refl _ _))
theorem addSt_any (w : World) (B : Nat) (hB : w.heap.size = B) (ce cm : Array Value) (l : List Rc) (v : Value) (b : Bool) (K V : ByteArray) (W : World) (h : RecSt w B ce cm l v W) (hl : l.length ≤ 1000) :
    Calls Tryz.prog 59 #[.bool b, .string K, .string V, .pointer (some ⟨B + 1, 0, none⟩)] W fun e w' => e = .returned (.tuple #[]) ∧ ∃ v', RecSt w B ce cm (l ++ one b K.data.toList V.data.toList) v' w' := by
  refine (addE_any B (B + 1) l b K V v W h.lst hl (by omega) w hB h.below).mono ?_
  rintro e w' ⟨he, hb, v', hin, hs, ho⟩
  refine ⟨he, v', hb, (ho B _ _ h.box (by omega) h.ne0).1, hin, (ho _ _ _ h.met (by omega) h.ne2).1, (ho B _ _ h.box (by omega) h.ne0).2, (ho _ _ _ h.met (by omega) h.ne2).2⟩
end Go.Proofs.YtbhnhoenjoagbaaGreatDoor
