/- Walks over package head: decode. -/
import Derived.Test.YtkkmhfgfkjeooaaHeadTake
namespace Go.Proofs.Ytkkmhfgfkjeooaa
open Go.RowKit
open HeadM NumM
set_option linter.unusedVariables false

/-- Where the decoding stands: the result's block, the fields that are left, the header so far. -/
structure DecAt (w : World) (b : List UInt8) (a : Nat) (cs : Array Value) (W : World) : Prop where
  hr : BlkIs W w.heap.size 23 #[.string ⟨#[]⟩, .int .i64 0, .int .i64 0, .int .i64 0, .int .i64 0, .int .i64 0, .int .u8 0, .string ⟨#[]⟩, .string ⟨#[]⟩, .string ⟨#[]⟩, .int .i64 0, .int .i64 0, .string ⟨#[]⟩]
  hp : BlkIs W (w.heap.size + 1) 64 #[.string (strOf (b.drop a))]
  hg : BlkIs W (w.heap.size + 1 + 1) 23 cs
  hb : Below w.heap.size w W
theorem DecAt.call {w W w1 : World} {b : List UInt8} {a c : Nat} {cs : Array Value} (h : DecAt w b a cs W) (hb1 : Below W.heap.size (W.setCell ⟨w.heap.size + 1, 0, none⟩ (.string (strOf (b.drop c)))) w1) : DecAt w b c cs w1 := by
  have e : (W.setCell ⟨w.heap.size + 1, 0, none⟩ (.string (strOf (b.drop c)))).heap.size = W.heap.size := by simp
  refine ⟨?_, ?_, ?_, ?_⟩
  · exact (h.hr.other (p := ⟨w.heap.size + 1, 0, none⟩) (by show w.heap.size ≠ w.heap.size + 1; omega) _).kept hb1 h.hr.size
  · exact (h.hp.put 0 _).kept hb1 h.hp.size
  · exact (h.hg.other (p := ⟨w.heap.size + 1, 0, none⟩) (by show w.heap.size + 1 + 1 ≠ w.heap.size + 1; omega) _).kept hb1 h.hg.size
  · refine (gr_set h.hb (p := ⟨w.heap.size + 1, 0, none⟩) (by show w.heap.size ≤ w.heap.size + 1; omega) _).trans (hb1.mono ?_)
    exact h.hb.size
theorem DecAt.quiet {w W : World} {b : List UInt8} {a c : Nat} {cs : Array Value} (h : DecAt w b a cs W) : DecAt w b c cs (W.setCell ⟨w.heap.size + 1, 0, none⟩ (.string (strOf (b.drop c)))) :=
  h.call (by have e : (W.setCell ⟨w.heap.size + 1, 0, none⟩ (.string (strOf (b.drop c)))).heap.size = W.heap.size := by simp
             exact Below.refl _ _)
theorem DecAt.store {w W : World} {b : List UInt8} {a : Nat} {cs cs' : Array Value} (h : DecAt w b a cs W) (k : Nat) (v : Value) (hcs : cs.setIfInBounds k v = cs') : DecAt w b a cs' (W.setCell ⟨w.heap.size + 1 + 1, k, none⟩ v) := by
  subst hcs
  refine ⟨?_, ?_, ?_, ?_⟩
  · exact h.hr.other (p := ⟨w.heap.size + 1 + 1, k, none⟩) (by show w.heap.size ≠ w.heap.size + 1 + 1; omega) _
  · exact h.hp.other (p := ⟨w.heap.size + 1 + 1, k, none⟩) (by show w.heap.size + 1 ≠ w.heap.size + 1 + 1; omega) _
  · exact h.hg.put k _
  · exact gr_set h.hb (p := ⟨w.heap.size + 1 + 1, k, none⟩) (by show w.heap.size ≤ w.heap.size + 1 + 1; omega) _
theorem put13 {w : World} {g : Nat} {t : TypeId} {c0 c1 c2 c3 c4 c5 c6 c7 c8 c9 c10 c11 c12 : Value} (v0 v1 v2 v3 v4 v5 v6 v7 v8 v9 v10 v11 v12 : Value) (h : BlkIs w g t #[c0, c1, c2, c3, c4, c5, c6, c7, c8, c9, c10, c11, c12]) :
    BlkIs (((((((((((((w.setCell ⟨g, 0, none⟩ v0).setCell ⟨g, 1, none⟩ v1).setCell ⟨g, 2, none⟩ v2).setCell ⟨g, 3, none⟩ v3).setCell ⟨g, 4, none⟩ v4).setCell ⟨g, 5, none⟩ v5).setCell ⟨g, 6, none⟩ v6).setCell ⟨g, 7, none⟩ v7).setCell ⟨g, 8, none⟩ v8).setCell ⟨g, 9, none⟩ v9).setCell ⟨g, 10, none⟩ v10).setCell ⟨g, 11, none⟩ v11).setCell ⟨g, 12, none⟩ v12) g t #[v0, v1, v2, v3, v4, v5, v6, v7, v8, v9, v10, v11, v12] := by
  have k := ((((((((((((h.put 0 v0).put 1 v1).put 2 v2).put 3 v3).put 4 v4).put 5 v5).put 6 v6).put 7 v7).put 8 v8).put 9 v9).put 10 v10).put 11 v11).put 12 v12
  simp only [List.setIfInBounds_toArray, List.set_cons_zero, List.set_cons_succ] at k
  exact k
theorem blk_at {W : World} {g g' : Nat} {t : TypeId} {cs : Array Value} (h : BlkIs W g t cs) (e : g = g') : BlkIs W g' t cs := e ▸ h
/-- How the decoding ends. -/
def decEnd (b : List UInt8) : Ending := if okB b = true then .returned (.agg #[.string (guess b).name, .int .i64 (guess b).mode, .int .i64 (guess b).uid, .int .i64 (guess b).gid, .int .i64 (guess b).size, .int .i64 (guess b).mtime, .int .u8 ((guess b).typ.toNat : Int), .string (guess b).link, .string (guess b).uname, .string (guess b).gname, .int .i64 (guess b).major, .int .i64 (guess b).minor, .string (guess b).pre]) else noHdrPanic
theorem decEnd_no {b : List UInt8} (h : okB b = false) : decEnd b = noHdrPanic := by unfold decEnd; rw [h]; rfl
theorem decEnd_yes {b : List UInt8} (h : okB b = true) : decEnd b = .returned (.agg #[.string (guess b).name, .int .i64 (guess b).mode, .int .i64 (guess b).uid, .int .i64 (guess b).gid, .int .i64 (guess b).size, .int .i64 (guess b).mtime, .int .u8 ((guess b).typ.toNat : Int), .string (guess b).link, .string (guess b).uname, .string (guess b).gname, .int .i64 (guess b).major, .int .i64 (guess b).minor, .string (guess b).pre]) := by unfold decEnd; rw [h]; rfl

set_option maxHeartbeats 4000000 in
set_option maxRecDepth 100000 in
theorem decode_any (b : List UInt8) (hl : b.length = 512) (w : World) :
    Calls Try.prog 25 #[.string (strOf b)] w fun e w' => e = decEnd b ∧ Below w.heap.size w w' := by
  have hne : b ≠ [] := by intro e; rw [e] at hl; simp at hl
  obtain ⟨G, hG⟩ : ∃ G, guess b = G := ⟨_, rfl⟩
  have hbad : ∀ {P : Prop}, ¬ P → (okB b = true → P) → decEnd b = noHdrPanic := by
    intro P hp h
    refine decEnd_no ?_
    cases ho : okB b with
    | false => rfl
    | true => exact absurd (h ho) hp
  have tname : strOf (upto (cut b 0 100)) = G.name := by rw [← hG]; rfl
  have tmode : rd (cut b 100 108) = G.mode := by rw [← hG]; rfl
  have tuid : rd (cut b 108 116) = G.uid := by rw [← hG]; rfl
  have tgid : rd (cut b 116 124) = G.gid := by rw [← hG]; rfl
  have tsize : rd (cut b 124 136) = G.size := by rw [← hG]; rfl
  have tmtime : rd (cut b 136 148) = G.mtime := by rw [← hG]; rfl
  have tlink : strOf (upto (cut b 157 257)) = G.link := by rw [← hG]; rfl
  have tuname : strOf (upto (cut b 265 297)) = G.uname := by rw [← hG]; rfl
  have tgname : strOf (upto (cut b 297 329)) = G.gname := by rw [← hG]; rfl
  have tmajor : rd (cut b 329 337) = G.major := by rw [← hG]; rfl
  have tminor : rd (cut b 337 345) = G.minor := by rw [← hG]; rfl
  have tpre : strOf (upto (cut b 345 500)) = G.pre := by rw [← hG]; rfl
  have ttyp : ∀ w, (Instr.index 9 (.string (strOf (cut b 156 157))) (.int .i64 0)).run Try.prog w = .ok (.int .u8 (G.typ.toNat : Int)) w := by
    obtain ⟨c, hc⟩ : ∃ c, b[156]? = some c := ⟨b[156], by simp [hl]⟩
    have e1 : cut b 156 157 = [c] := by
      apply List.ext_getElem?
      intro i
      unfold cut
      match i with
      | 0 => simp [hc]
      | i + 1 =>
        simp [List.getElem?_take]
        omega
    have e2 : G.typ = c := by rw [← hG]; show b.getD 156 0 = c; simp [List.getD_eq_getElem?_getD, hc]
    rw [e1, e2]
    intro w
    show (Instr.index 9 (.string ⟨[c].toArray⟩) (.int .i64 0)).run Try.prog w = _
    simp [go_sem]
    rfl
  have hput := Lib.hid (put_any G)
  have hgl : putH G ≠ b → decEnd b = noHdrPanic := fun h => decEnd_no (by
    unfold okB
    rw [hG]
    exact decide_eq_false h)
  have hgy : putH G = b → decEnd b = .returned (.agg #[.string G.name, .int .i64 G.mode, .int .i64 G.uid, .int .i64 G.gid, .int .i64 G.size, .int .i64 G.mtime, .int .u8 (G.typ.toNat : Int), .string G.link, .string G.uname, .string G.gname, .int .i64 G.major, .int .i64 G.minor, .string G.pre]) := fun h => by
    rw [decEnd_yes (by unfold okB; rw [hG]; exact decide_eq_true h), hG]
  replace hgl := Lib.hid hgl
  replace hgy := Lib.hid hgy
  have hl8 : b.length ≤ 8000 := by omega
  have e0 : strOf b = strOf (b.drop 0) := rfl
  obtain ⟨S, hS⟩ : ∃ S : ByteArray, strOf b = S := ⟨_, rfl⟩
  rw [hS] at e0 ⊢
  have hcmp := beq_L (strOf (putH G)) S
  have hSL : L S = b := by rw [← hS, L_strOf]
  rw [L_strOf, hSL] at hcmp
  clear hS hSL
  replace hcmp := Lib.hid hcmp
  replace e0 := Lib.hid e0
  go_enter Try.func25, Try.ntmps25
  go_wp2_with fail
  have d : DecAt w b 0 #[.string ⟨#[]⟩, .int .i64 0, .int .i64 0, .int .i64 0, .int .i64 0, .int .i64 0, .int .u8 0, .string ⟨#[]⟩, .string ⟨#[]⟩, .string ⟨#[]⟩, .int .i64 0, .int .i64 0, .string ⟨#[]⟩] (((w.alloc (.cells #[.string ⟨#[]⟩, .int .i64 0, .int .i64 0, .int .i64 0, .int .i64 0, .int .i64 0, .int .u8 0, .string ⟨#[]⟩, .string ⟨#[]⟩, .string ⟨#[]⟩, .int .i64 0, .int .i64 0, .string ⟨#[]⟩] 23)).alloc (.cells #[.string S] 64)).alloc (.cells #[.string ⟨#[]⟩, .int .i64 0, .int .i64 0, .int .i64 0, .int .i64 0, .int .i64 0, .int .u8 0, .string ⟨#[]⟩, .string ⟨#[]⟩, .string ⟨#[]⟩, .int .i64 0, .int .i64 0, .string ⟨#[]⟩] 23)) := by
    rw [e0.out]
    refine ⟨?_, ?_, ?_, ?_⟩
    · exact ((BlkIs.made _ _ _).alloc _).alloc _
    · exact (blk_at (BlkIs.made _ _ _) (by simp)).alloc _
    · exact blk_at (BlkIs.made _ _ _) (by simp)
    · exact gr_alloc (gr_alloc (gr_alloc (Below.refl _ _) _) _) _
  clear e0
  refine (ftext_any b 0 100 100 rfl 100 rfl (by omega) hl8 _ _ d.hp).mono ?_
  rintro e w1 ⟨rfl, hb1⟩
  rw [tname]
  replace d := d.call hb1
  have co := d.hg.cell_some 0 _ rfl
  have fo := d.hg.free 0
  go_wp2_with fail
  clear co fo
  replace d := d.store 0 (.string G.name) (cs' := #[.string G.name, .int .i64 0, .int .i64 0, .int .i64 0, .int .i64 0, .int .i64 0, .int .u8 0, .string ⟨#[]⟩, .string ⟨#[]⟩, .string ⟨#[]⟩, .int .i64 0, .int .i64 0, .string ⟨#[]⟩]) rfl
  rcases hr : rdFld (cut b 100 108) with _ | v
  · refine (fnumber_no b 100 108 8 rfl 8 rfl (by omega) hl8 hr _ _ d.hp).mono ?_
    rintro e w2 ⟨rfl, hb2⟩
    have hbb := (d.call hb2).hb
    have hd := hbad (P := ∃ v, rdFld (cut b 100 108) = some v) (by rw [hr]; simp) (fun h => (ok_reads hne h).r1)
    go_wp2_with fail
    rw [hd]
    exact ⟨rfl, rfl, hbb⟩
  refine (fnumber_yes b 100 108 8 rfl 8 rfl (by omega) hl8 ⟨v, hr⟩ _ _ d.hp).mono ?_
  rintro e w2 ⟨rfl, hb2⟩
  rw [tmode]
  replace d := d.call hb2
  clear hr v
  have co := d.hg.cell_some 1 _ rfl
  have fo := d.hg.free 1
  go_wp2_with fail
  clear co fo
  replace d := d.store 1 (.int .i64 G.mode) (cs' := #[.string G.name, .int .i64 G.mode, .int .i64 0, .int .i64 0, .int .i64 0, .int .i64 0, .int .u8 0, .string ⟨#[]⟩, .string ⟨#[]⟩, .string ⟨#[]⟩, .int .i64 0, .int .i64 0, .string ⟨#[]⟩]) rfl
  rcases hr : rdFld (cut b 108 116) with _ | v
  · refine (fnumber_no b 108 116 8 rfl 8 rfl (by omega) hl8 hr _ _ d.hp).mono ?_
    rintro e w3 ⟨rfl, hb3⟩
    have hbb := (d.call hb3).hb
    have hd := hbad (P := ∃ v, rdFld (cut b 108 116) = some v) (by rw [hr]; simp) (fun h => (ok_reads hne h).r2)
    go_wp2_with fail
    rw [hd]
    exact ⟨rfl, rfl, hbb⟩
  refine (fnumber_yes b 108 116 8 rfl 8 rfl (by omega) hl8 ⟨v, hr⟩ _ _ d.hp).mono ?_
  rintro e w3 ⟨rfl, hb3⟩
  rw [tuid]
  replace d := d.call hb3
  clear hr v
  have co := d.hg.cell_some 2 _ rfl
  have fo := d.hg.free 2
  go_wp2_with fail
  clear co fo
  replace d := d.store 2 (.int .i64 G.uid) (cs' := #[.string G.name, .int .i64 G.mode, .int .i64 G.uid, .int .i64 0, .int .i64 0, .int .i64 0, .int .u8 0, .string ⟨#[]⟩, .string ⟨#[]⟩, .string ⟨#[]⟩, .int .i64 0, .int .i64 0, .string ⟨#[]⟩]) rfl
  rcases hr : rdFld (cut b 116 124) with _ | v
  · refine (fnumber_no b 116 124 8 rfl 8 rfl (by omega) hl8 hr _ _ d.hp).mono ?_
    rintro e w4 ⟨rfl, hb4⟩
    have hbb := (d.call hb4).hb
    have hd := hbad (P := ∃ v, rdFld (cut b 116 124) = some v) (by rw [hr]; simp) (fun h => (ok_reads hne h).r3)
    go_wp2_with fail
    rw [hd]
    exact ⟨rfl, rfl, hbb⟩
  refine (fnumber_yes b 116 124 8 rfl 8 rfl (by omega) hl8 ⟨v, hr⟩ _ _ d.hp).mono ?_
  rintro e w4 ⟨rfl, hb4⟩
  rw [tgid]
  replace d := d.call hb4
  clear hr v
  have co := d.hg.cell_some 3 _ rfl
  have fo := d.hg.free 3
  go_wp2_with fail
  clear co fo
  replace d := d.store 3 (.int .i64 G.gid) (cs' := #[.string G.name, .int .i64 G.mode, .int .i64 G.uid, .int .i64 G.gid, .int .i64 0, .int .i64 0, .int .u8 0, .string ⟨#[]⟩, .string ⟨#[]⟩, .string ⟨#[]⟩, .int .i64 0, .int .i64 0, .string ⟨#[]⟩]) rfl
  rcases hr : rdFld (cut b 124 136) with _ | v
  · refine (fnumber_no b 124 136 12 rfl 12 rfl (by omega) hl8 hr _ _ d.hp).mono ?_
    rintro e w5 ⟨rfl, hb5⟩
    have hbb := (d.call hb5).hb
    have hd := hbad (P := ∃ v, rdFld (cut b 124 136) = some v) (by rw [hr]; simp) (fun h => (ok_reads hne h).r4)
    go_wp2_with fail
    rw [hd]
    exact ⟨rfl, rfl, hbb⟩
  refine (fnumber_yes b 124 136 12 rfl 12 rfl (by omega) hl8 ⟨v, hr⟩ _ _ d.hp).mono ?_
  rintro e w5 ⟨rfl, hb5⟩
  rw [tsize]
  replace d := d.call hb5
  clear hr v
  have co := d.hg.cell_some 4 _ rfl
  have fo := d.hg.free 4
  go_wp2_with fail
  clear co fo
  replace d := d.store 4 (.int .i64 G.size) (cs' := #[.string G.name, .int .i64 G.mode, .int .i64 G.uid, .int .i64 G.gid, .int .i64 G.size, .int .i64 0, .int .u8 0, .string ⟨#[]⟩, .string ⟨#[]⟩, .string ⟨#[]⟩, .int .i64 0, .int .i64 0, .string ⟨#[]⟩]) rfl
  rcases hr : rdFld (cut b 136 148) with _ | v
  · refine (fnumber_no b 136 148 12 rfl 12 rfl (by omega) hl8 hr _ _ d.hp).mono ?_
    rintro e w6 ⟨rfl, hb6⟩
    have hbb := (d.call hb6).hb
    have hd := hbad (P := ∃ v, rdFld (cut b 136 148) = some v) (by rw [hr]; simp) (fun h => (ok_reads hne h).r5)
    go_wp2_with fail
    rw [hd]
    exact ⟨rfl, rfl, hbb⟩
  refine (fnumber_yes b 136 148 12 rfl 12 rfl (by omega) hl8 ⟨v, hr⟩ _ _ d.hp).mono ?_
  rintro e w6 ⟨rfl, hb6⟩
  rw [tmtime]
  replace d := d.call hb6
  clear hr v
  have co := d.hg.cell_some 5 _ rfl
  have fo := d.hg.free 5
  go_wp2_with fail
  clear co fo
  replace d := d.store 5 (.int .i64 G.mtime) (cs' := #[.string G.name, .int .i64 G.mode, .int .i64 G.uid, .int .i64 G.gid, .int .i64 G.size, .int .i64 G.mtime, .int .u8 0, .string ⟨#[]⟩, .string ⟨#[]⟩, .string ⟨#[]⟩, .int .i64 0, .int .i64 0, .string ⟨#[]⟩]) rfl
  refine (take_any b 148 156 8 rfl 8 rfl (by omega) hl8 _ _ d.hp).mono ?_
  rintro e w7 ⟨rfl, rfl⟩
  replace d := DecAt.quiet (c := 156) d
  go_wp2_with fail
  refine (take_any b 156 157 1 rfl 1 rfl (by omega) hl8 _ _ d.hp).mono ?_
  rintro e w8 ⟨rfl, rfl⟩
  replace d := DecAt.quiet (c := 157) d
  have co := d.hg.cell_some 6 _ rfl
  have fo := d.hg.free 6
  go_wp2_with fail
  clear co fo
  replace d := d.store 6 (.int .u8 (G.typ.toNat : Int)) (cs' := #[.string G.name, .int .i64 G.mode, .int .i64 G.uid, .int .i64 G.gid, .int .i64 G.size, .int .i64 G.mtime, .int .u8 (G.typ.toNat : Int), .string ⟨#[]⟩, .string ⟨#[]⟩, .string ⟨#[]⟩, .int .i64 0, .int .i64 0, .string ⟨#[]⟩]) rfl
  refine (ftext_any b 157 257 100 rfl 100 rfl (by omega) hl8 _ _ d.hp).mono ?_
  rintro e w9 ⟨rfl, hb9⟩
  rw [tlink]
  replace d := d.call hb9
  have co := d.hg.cell_some 7 _ rfl
  have fo := d.hg.free 7
  go_wp2_with fail
  clear co fo
  replace d := d.store 7 (.string G.link) (cs' := #[.string G.name, .int .i64 G.mode, .int .i64 G.uid, .int .i64 G.gid, .int .i64 G.size, .int .i64 G.mtime, .int .u8 (G.typ.toNat : Int), .string G.link, .string ⟨#[]⟩, .string ⟨#[]⟩, .int .i64 0, .int .i64 0, .string ⟨#[]⟩]) rfl
  refine (take_any b 257 265 8 rfl 8 rfl (by omega) hl8 _ _ d.hp).mono ?_
  rintro e w10 ⟨rfl, rfl⟩
  replace d := DecAt.quiet (c := 265) d
  go_wp2_with fail
  refine (ftext_any b 265 297 32 rfl 32 rfl (by omega) hl8 _ _ d.hp).mono ?_
  rintro e w11 ⟨rfl, hb11⟩
  rw [tuname]
  replace d := d.call hb11
  have co := d.hg.cell_some 8 _ rfl
  have fo := d.hg.free 8
  go_wp2_with fail
  clear co fo
  replace d := d.store 8 (.string G.uname) (cs' := #[.string G.name, .int .i64 G.mode, .int .i64 G.uid, .int .i64 G.gid, .int .i64 G.size, .int .i64 G.mtime, .int .u8 (G.typ.toNat : Int), .string G.link, .string G.uname, .string ⟨#[]⟩, .int .i64 0, .int .i64 0, .string ⟨#[]⟩]) rfl
  refine (ftext_any b 297 329 32 rfl 32 rfl (by omega) hl8 _ _ d.hp).mono ?_
  rintro e w12 ⟨rfl, hb12⟩
  rw [tgname]
  replace d := d.call hb12
  have co := d.hg.cell_some 9 _ rfl
  have fo := d.hg.free 9
  go_wp2_with fail
  clear co fo
  replace d := d.store 9 (.string G.gname) (cs' := #[.string G.name, .int .i64 G.mode, .int .i64 G.uid, .int .i64 G.gid, .int .i64 G.size, .int .i64 G.mtime, .int .u8 (G.typ.toNat : Int), .string G.link, .string G.uname, .string G.gname, .int .i64 0, .int .i64 0, .string ⟨#[]⟩]) rfl
  rcases hr : rdFld (cut b 329 337) with _ | v
  · refine (fnumber_no b 329 337 8 rfl 8 rfl (by omega) hl8 hr _ _ d.hp).mono ?_
    rintro e w13 ⟨rfl, hb13⟩
    have hbb := (d.call hb13).hb
    have hd := hbad (P := ∃ v, rdFld (cut b 329 337) = some v) (by rw [hr]; simp) (fun h => (ok_reads hne h).r6)
    go_wp2_with fail
    rw [hd]
    exact ⟨rfl, rfl, hbb⟩
  refine (fnumber_yes b 329 337 8 rfl 8 rfl (by omega) hl8 ⟨v, hr⟩ _ _ d.hp).mono ?_
  rintro e w13 ⟨rfl, hb13⟩
  rw [tmajor]
  replace d := d.call hb13
  clear hr v
  have co := d.hg.cell_some 10 _ rfl
  have fo := d.hg.free 10
  go_wp2_with fail
  clear co fo
  replace d := d.store 10 (.int .i64 G.major) (cs' := #[.string G.name, .int .i64 G.mode, .int .i64 G.uid, .int .i64 G.gid, .int .i64 G.size, .int .i64 G.mtime, .int .u8 (G.typ.toNat : Int), .string G.link, .string G.uname, .string G.gname, .int .i64 G.major, .int .i64 0, .string ⟨#[]⟩]) rfl
  rcases hr : rdFld (cut b 337 345) with _ | v
  · refine (fnumber_no b 337 345 8 rfl 8 rfl (by omega) hl8 hr _ _ d.hp).mono ?_
    rintro e w14 ⟨rfl, hb14⟩
    have hbb := (d.call hb14).hb
    have hd := hbad (P := ∃ v, rdFld (cut b 337 345) = some v) (by rw [hr]; simp) (fun h => (ok_reads hne h).r7)
    go_wp2_with fail
    rw [hd]
    exact ⟨rfl, rfl, hbb⟩
  refine (fnumber_yes b 337 345 8 rfl 8 rfl (by omega) hl8 ⟨v, hr⟩ _ _ d.hp).mono ?_
  rintro e w14 ⟨rfl, hb14⟩
  rw [tminor]
  replace d := d.call hb14
  clear hr v
  have co := d.hg.cell_some 11 _ rfl
  have fo := d.hg.free 11
  go_wp2_with fail
  clear co fo
  replace d := d.store 11 (.int .i64 G.minor) (cs' := #[.string G.name, .int .i64 G.mode, .int .i64 G.uid, .int .i64 G.gid, .int .i64 G.size, .int .i64 G.mtime, .int .u8 (G.typ.toNat : Int), .string G.link, .string G.uname, .string G.gname, .int .i64 G.major, .int .i64 G.minor, .string ⟨#[]⟩]) rfl
  refine (ftext_any b 345 500 155 rfl 155 rfl (by omega) hl8 _ _ d.hp).mono ?_
  rintro e w15 ⟨rfl, hb15⟩
  rw [tpre]
  replace d := d.call hb15
  have co := d.hg.cell_some 12 _ rfl
  have fo := d.hg.free 12
  have p0 := d.hg.cell_some 0 _ rfl
  have p1 := d.hg.cell_some 1 _ rfl
  have p2 := d.hg.cell_some 2 _ rfl
  have p3 := d.hg.cell_some 3 _ rfl
  have p4 := d.hg.cell_some 4 _ rfl
  have p5 := d.hg.cell_some 5 _ rfl
  have p6 := d.hg.cell_some 6 _ rfl
  have p7 := d.hg.cell_some 7 _ rfl
  have p8 := d.hg.cell_some 8 _ rfl
  have p9 := d.hg.cell_some 9 _ rfl
  have p10 := d.hg.cell_some 10 _ rfl
  have p11 := d.hg.cell_some 11 _ rfl
  go_wp2_with fail
  clear co fo p0 p1 p2 p3 p4 p5 p6 p7 p8 p9 p10 p11
  replace d := d.store 12 (.string G.pre) (cs' := #[.string G.name, .int .i64 G.mode, .int .i64 G.uid, .int .i64 G.gid, .int .i64 G.size, .int .i64 G.mtime, .int .u8 (G.typ.toNat : Int), .string G.link, .string G.uname, .string G.gname, .int .i64 G.major, .int .i64 G.minor, .string G.pre]) rfl
  refine (hput.out _).mono ?_
  rintro e w99 ⟨rfl, hb99⟩
  have hr := d.hr.kept hb99 d.hr.size
  have hg := d.hg.kept hb99 d.hg.size
  have hbe : Below w.heap.size w w99 := gr_call d.hb hb99
  clear d
  have a0 := hg.cell_some 0 _ rfl
  have r0 := hr.cell_some 0 _ rfl
  have z0 := hr.free 0
  have a1 := hg.cell_some 1 _ rfl
  have r1 := hr.cell_some 1 _ rfl
  have z1 := hr.free 1
  have a2 := hg.cell_some 2 _ rfl
  have r2 := hr.cell_some 2 _ rfl
  have z2 := hr.free 2
  have a3 := hg.cell_some 3 _ rfl
  have r3 := hr.cell_some 3 _ rfl
  have z3 := hr.free 3
  have a4 := hg.cell_some 4 _ rfl
  have r4 := hr.cell_some 4 _ rfl
  have z4 := hr.free 4
  have a5 := hg.cell_some 5 _ rfl
  have r5 := hr.cell_some 5 _ rfl
  have z5 := hr.free 5
  have a6 := hg.cell_some 6 _ rfl
  have r6 := hr.cell_some 6 _ rfl
  have z6 := hr.free 6
  have a7 := hg.cell_some 7 _ rfl
  have r7 := hr.cell_some 7 _ rfl
  have z7 := hr.free 7
  have a8 := hg.cell_some 8 _ rfl
  have r8 := hr.cell_some 8 _ rfl
  have z8 := hr.free 8
  have a9 := hg.cell_some 9 _ rfl
  have r9 := hr.cell_some 9 _ rfl
  have z9 := hr.free 9
  have a10 := hg.cell_some 10 _ rfl
  have r10 := hr.cell_some 10 _ rfl
  have z10 := hr.free 10
  have a11 := hg.cell_some 11 _ rfl
  have r11 := hr.cell_some 11 _ rfl
  have z11 := hr.free 11
  have a12 := hg.cell_some 12 _ rfl
  have r12 := hr.cell_some 12 _ rfl
  have z12 := hr.free 12
  clear hg
  by_cases hq : putH G = b
  · have h1 := hcmp.out
    rw [decide_eq_true hq] at h1
    have hy := Lib.hid (hgy.out hq)
    clear hq hcmp hgl hgy
    go_wp2_with fail
    rw [hy.out]
    clear hy
    obtain ⟨W, hW⟩ : ∃ W, ((((((((((((w99.setCell ⟨w.heap.size, 0, none⟩ (.string G.name)).setCell ⟨w.heap.size, 1, none⟩ (.int .i64 G.mode)).setCell ⟨w.heap.size, 2, none⟩ (.int .i64 G.uid)).setCell ⟨w.heap.size, 3, none⟩ (.int .i64 G.gid)).setCell ⟨w.heap.size, 4, none⟩ (.int .i64 G.size)).setCell ⟨w.heap.size, 5, none⟩ (.int .i64 G.mtime)).setCell ⟨w.heap.size, 6, none⟩ (.int .u8 (G.typ.toNat : Int))).setCell ⟨w.heap.size, 7, none⟩ (.string G.link)).setCell ⟨w.heap.size, 8, none⟩ (.string G.uname)).setCell ⟨w.heap.size, 9, none⟩ (.string G.gname)).setCell ⟨w.heap.size, 10, none⟩ (.int .i64 G.major)).setCell ⟨w.heap.size, 11, none⟩ (.int .i64 G.minor)).setCell ⟨w.heap.size, 12, none⟩ (.string G.pre) = W := ⟨_, rfl⟩
    have hF : BlkIs W w.heap.size 23 #[.string G.name, .int .i64 G.mode, .int .i64 G.uid, .int .i64 G.gid, .int .i64 G.size, .int .i64 G.mtime, .int .u8 (G.typ.toNat : Int), .string G.link, .string G.uname, .string G.gname, .int .i64 G.major, .int .i64 G.minor, .string G.pre] := by
      rw [← hW]
      exact put13 (.string G.name) (.int .i64 G.mode) (.int .i64 G.uid) (.int .i64 G.gid) (.int .i64 G.size) (.int .i64 G.mtime) (.int .u8 (G.typ.toNat : Int)) (.string G.link) (.string G.uname) (.string G.gname) (.int .i64 G.major) (.int .i64 G.minor) (.string G.pre) hr
    have hbF : Below w.heap.size w W := by
      rw [← hW]
      exact gr_set (gr_set (gr_set (gr_set (gr_set (gr_set (gr_set (gr_set (gr_set (gr_set (gr_set (gr_set (gr_set (hbe) (p := ⟨w.heap.size, 0, none⟩) (Nat.le_refl _) (.string G.name)) (p := ⟨w.heap.size, 1, none⟩) (Nat.le_refl _) (.int .i64 G.mode)) (p := ⟨w.heap.size, 2, none⟩) (Nat.le_refl _) (.int .i64 G.uid)) (p := ⟨w.heap.size, 3, none⟩) (Nat.le_refl _) (.int .i64 G.gid)) (p := ⟨w.heap.size, 4, none⟩) (Nat.le_refl _) (.int .i64 G.size)) (p := ⟨w.heap.size, 5, none⟩) (Nat.le_refl _) (.int .i64 G.mtime)) (p := ⟨w.heap.size, 6, none⟩) (Nat.le_refl _) (.int .u8 (G.typ.toNat : Int))) (p := ⟨w.heap.size, 7, none⟩) (Nat.le_refl _) (.string G.link)) (p := ⟨w.heap.size, 8, none⟩) (Nat.le_refl _) (.string G.uname)) (p := ⟨w.heap.size, 9, none⟩) (Nat.le_refl _) (.string G.gname)) (p := ⟨w.heap.size, 10, none⟩) (Nat.le_refl _) (.int .i64 G.major)) (p := ⟨w.heap.size, 11, none⟩) (Nat.le_refl _) (.int .i64 G.minor)) (p := ⟨w.heap.size, 12, none⟩) (Nat.le_refl _) (.string G.pre)
    rw [hW]
    clear hW hr
    have k0 := hF.cell_some 0 _ rfl
    have k1 := hF.cell_some 1 _ rfl
    have k2 := hF.cell_some 2 _ rfl
    have k3 := hF.cell_some 3 _ rfl
    have k4 := hF.cell_some 4 _ rfl
    have k5 := hF.cell_some 5 _ rfl
    have k6 := hF.cell_some 6 _ rfl
    have k7 := hF.cell_some 7 _ rfl
    have k8 := hF.cell_some 8 _ rfl
    have k9 := hF.cell_some 9 _ rfl
    have k10 := hF.cell_some 10 _ rfl
    have k11 := hF.cell_some 11 _ rfl
    have k12 := hF.cell_some 12 _ rfl
    refine bodyPost_ret (v := .agg #[.string G.name, .int .i64 G.mode, .int .i64 G.uid, .int .i64 G.gid, .int .i64 G.size, .int .i64 G.mtime, .int .u8 (G.typ.toNat : Int), .string G.link, .string G.uname, .string G.gname, .int .i64 G.major, .int .i64 G.minor, .string G.pre]) ?_ rfl ⟨rfl, hbF⟩
    simp [results, Try.results25, go_sem, k0, k1, k2, k3, k4, k5, k6, k7, k8, k9, k10, k11, k12]
  · have h1 := hcmp.out
    rw [decide_eq_false hq] at h1
    have hy := Lib.hid (hgl.out hq)
    clear hq hcmp hgl hgy
    go_wp2_with fail
    rw [hy.out]
    exact ⟨rfl, rfl, hbe⟩
end Go.Proofs.Ytkkmhfgfkjeooaa
