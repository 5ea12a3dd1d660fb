/- Walks over package head: Get. -/
import Derived.Test.YtkkmhfgfkjeooaaHeadDecode
namespace Go.Proofs.Ytkkmhfgfkjeooaa
open Go.RowKit
open HeadM NumM
set_option linter.unusedVariables false

/-- The header that says nothing. -/
def HeadM.zeroH : Hd := { name := ⟨#[]⟩, mode := 0, uid := 0, gid := 0, size := 0, mtime := 0, typ := 0, link := ⟨#[]⟩, uname := ⟨#[]⟩, gname := ⟨#[]⟩, major := 0, minor := 0, pre := ⟨#[]⟩ }
/-- What Get hands back: a header and the number of an error. -/
def HeadM.getE (s : List UInt8) : Hd × Int :=
  if s.length < 512 then (zeroH, 5) else if s.take 512 = List.replicate 512 0 then (zeroH, 2) else if okB (s.take 512) = true then (guess (s.take 512), 0) else (zeroH, 4)

theorem oth13 {w : World} {g g' : Nat} {t : TypeId} {cs : Array Value} (v0 v1 v2 v3 v4 v5 v6 v7 v8 v9 v10 v11 v12 : Value) (hne : g' ≠ g) (h : BlkIs w g' t cs) :
    BlkIs (((((((((((((w.setCell ⟨g, 0, none⟩ v0).setCell ⟨g, 1, none⟩ v1).setCell ⟨g, 2, none⟩ v2).setCell ⟨g, 3, none⟩ v3).setCell ⟨g, 4, none⟩ v4).setCell ⟨g, 5, none⟩ v5).setCell ⟨g, 6, none⟩ v6).setCell ⟨g, 7, none⟩ v7).setCell ⟨g, 8, none⟩ v8).setCell ⟨g, 9, none⟩ v9).setCell ⟨g, 10, none⟩ v10).setCell ⟨g, 11, none⟩ v11).setCell ⟨g, 12, none⟩ v12) g' t cs :=
  ((((((((((((h.other (p := ⟨g, 0, none⟩) hne v0).other (p := ⟨g, 1, none⟩) hne v1).other (p := ⟨g, 2, none⟩) hne v2).other (p := ⟨g, 3, none⟩) hne v3).other (p := ⟨g, 4, none⟩) hne v4).other (p := ⟨g, 5, none⟩) hne v5).other (p := ⟨g, 6, none⟩) hne v6).other (p := ⟨g, 7, none⟩) hne v7).other (p := ⟨g, 8, none⟩) hne v8).other (p := ⟨g, 9, none⟩) hne v9).other (p := ⟨g, 10, none⟩) hne v10).other (p := ⟨g, 11, none⟩) hne v11).other (p := ⟨g, 12, none⟩) hne v12
theorem catch_panic (p : Addr) (x : Int) (u : TypeId) (pv : Value) (older : List PanicEntry) (w : World) (hc : w.cell? p = some (.int .i64 x)) (hz : w.frozen? p = false) :
    CallsD Try.prog 24 #[.pointer (some p)] (.panicking ({ v := .iface u pv, recovered := false } :: older)) w fun e u' w' =>
      e = .returned (.tuple #[]) ∧ u' = .panicking ({ v := .iface u pv, recovered := true } :: older) ∧ w' = w.setCell p (.int .i64 4) := by
  refine callsD_of_wpS Try.func24 rfl fun c₀ cs hu => ?_
  apply wpS_seq
  apply wpS_region
  simp [wpOpsS, go_sem, recoverD, hu, Try.ntmps24, Exit.thenS]
  refine wpS_cond (t := true) (by simp [Act.eval, Array.replicate]) ?_
  simp only [if_true]
  apply wpS_region
  simp [wpOpsS, go_sem, hc, hz, bodyPostS, results, Try.results24]
theorem catch_idle (p : Addr) (w : World) :
    CallsD Try.prog 24 #[.pointer (some p)] .returning w fun e u' w' => e = .returned (.tuple #[]) ∧ u' = .returning ∧ w' = w := by
  refine callsD_of_wpS Try.func24 rfl fun c₀ cs hu => ?_
  apply wpS_seq
  apply wpS_region
  simp [wpOpsS, go_sem, recoverD, hu, Try.ntmps24, Exit.thenS]
  refine wpS_cond (t := false) (by simp [Act.eval, Array.replicate]) ?_
  simp only [Bool.false_eq_true, if_false]
  refine wpS_of_wp (wp_skip ?_)
  cases c₀
  simp_all [bodyPostS, results, Try.results24]

theorem get_short (S : ByteArray) (hS : S.size < 512) (w : World) :
    Calls Try.prog 10 #[.string S] w fun e w' => e = .returned (.tuple #[.agg #[.string ⟨#[]⟩, .int .i64 0, .int .i64 0, .int .i64 0, .int .i64 0, .int .i64 0, .int .u8 0, .string ⟨#[]⟩, .string ⟨#[]⟩, .string ⟨#[]⟩, .int .i64 0, .int .i64 0, .string ⟨#[]⟩], .int .i64 5]) ∧ Below w.heap.size w w' := by
  have h1 : (S.size : Int) < 512 := by omega
  go_enter_defers Try.func10, Try.ntmps10
  go_wp2_with fail
  obtain ⟨W, hW⟩ : ∃ W, ((w.alloc (.cells #[.string ⟨#[]⟩, .int .i64 0, .int .i64 0, .int .i64 0, .int .i64 0, .int .i64 0, .int .u8 0, .string ⟨#[]⟩, .string ⟨#[]⟩, .string ⟨#[]⟩, .int .i64 0, .int .i64 0, .string ⟨#[]⟩] 23)).alloc (.cells #[.int .i64 5] 25)) = W := ⟨_, rfl⟩
  have hF : BlkIs W w.heap.size 23 #[.string ⟨#[]⟩, .int .i64 0, .int .i64 0, .int .i64 0, .int .i64 0, .int .i64 0, .int .u8 0, .string ⟨#[]⟩, .string ⟨#[]⟩, .string ⟨#[]⟩, .int .i64 0, .int .i64 0, .string ⟨#[]⟩] := by rw [← hW]; exact (BlkIs.made _ _ _).alloc _
  have hE : BlkIs W (w.heap.size + 1) 25 #[.int .i64 5] := by rw [← hW]; exact blk_at (BlkIs.made _ _ _) (by simp)
  have hbW : Below w.heap.size w W := by subst hW; (repeat' (first | exact Below.refl _ _ | assumption | refine gr_drew ?_ | refine gr_drewN ?_ _ | refine gr_alloc ?_ _ | refine gr_set ?_ ?_ _ | refine gr_call ?_ (by assumption)) <;> (try (simp; done)) <;> (try (simp; omega)) <;> (try omega))
  rw [hW]
  clear hW
  have k0 := hF.cell_some 0 _ rfl
  have k1 := hF.cell_some 1 _ rfl
  have k2 := hF.cell_some 2 _ rfl
  have k3 := hF.cell_some 3 _ rfl
  have k4 := hF.cell_some 4 _ rfl
  have k5 := hF.cell_some 5 _ rfl
  have k6 := hF.cell_some 6 _ rfl
  have k7 := hF.cell_some 7 _ rfl
  have k8 := hF.cell_some 8 _ rfl
  have k9 := hF.cell_some 9 _ rfl
  have k10 := hF.cell_some 10 _ rfl
  have k11 := hF.cell_some 11 _ rfl
  have k12 := hF.cell_some 12 _ rfl
  have ke := hE.cell_some 0 _ rfl
  simp [bodyPostD, Leaves, settle, results, Try.results10, go_sem, ke, k0, k1, k2, k3, k4, k5, k6, k7, k8, k9, k10, k11, k12]
  exact hbW

set_option maxHeartbeats 1000000 in
theorem get_zeros (S : ByteArray) (hS : 512 ≤ S.size) (hl : S.size ≤ 8000) (hz : (L S).take 512 = List.replicate 512 0) (w : World) :
    Calls Try.prog 10 #[.string S] w fun e w' => e = .returned (.tuple #[.agg #[.string ⟨#[]⟩, .int .i64 0, .int .i64 0, .int .i64 0, .int .i64 0, .int .i64 0, .int .u8 0, .string ⟨#[]⟩, .string ⟨#[]⟩, .string ⟨#[]⟩, .int .i64 0, .int .i64 0, .string ⟨#[]⟩], .int .i64 2]) ∧ Below w.heap.size w w' := by
  have h1 : ¬ (S.size : Int) < 512 := by omega
  have h2 : (512 : Int) ≤ (S.size : Int) := by omega
  have h3 : 512 ≤ S.size := hS
  have hB : L (S.extract 0 512) = (L S).take 512 := by
    show (S.extract 0 512).data.toList = _
    rw [Lib.extract_data]
    simp [L]
  obtain ⟨B, hBB⟩ : ∃ B : ByteArray, S.extract 0 512 = B := ⟨_, rfl⟩
  have ht := text_any ⟨#[]⟩ 512 512 rfl (Nat.zero_le _) (by omega)
  obtain ⟨Zs, hZs⟩ : ∃ Zs : ByteArray, strOf (padL (L ⟨#[]⟩) 512) = Zs := ⟨_, rfl⟩
  have hLZ : L Zs = List.replicate 512 0 := by rw [← hZs, L_strOf]; unfold padL; exact congrArg (fun k => List.replicate k (0 : UInt8)) (show 512 - 0 = 512 from rfl)
  rw [hZs] at ht
  replace ht := Lib.hid ht
  have hcmp := beq_L B Zs
  rw [hLZ, ← hBB, hB, hz, decide_eq_true rfl, hBB] at hcmp
  replace hBB := Lib.hid hBB
  clear hB hz hLZ hZs hS
  go_enter_defers Try.func10, Try.ntmps10
  go_wp2_with fail
  rw [hBB.out]
  refine (ht.out _).mono ?_
  rintro e w1 ⟨rfl, hb1⟩
  have hF0 := (BlkIs.made w 23 #[.string ⟨#[]⟩, .int .i64 0, .int .i64 0, .int .i64 0, .int .i64 0, .int .i64 0, .int .u8 0, .string ⟨#[]⟩, .string ⟨#[]⟩, .string ⟨#[]⟩, .int .i64 0, .int .i64 0, .string ⟨#[]⟩]).alloc (.cells #[.int .i64 0] 25)
  have hE0 : BlkIs ((w.alloc (.cells #[.string ⟨#[]⟩, .int .i64 0, .int .i64 0, .int .i64 0, .int .i64 0, .int .i64 0, .int .u8 0, .string ⟨#[]⟩, .string ⟨#[]⟩, .string ⟨#[]⟩, .int .i64 0, .int .i64 0, .string ⟨#[]⟩] 23)).alloc (.cells #[.int .i64 0] 25)) (w.heap.size + 1) 25 #[.int .i64 0] := blk_at (BlkIs.made _ _ _) (by simp)
  have hF1 := hF0.kept hb1 hF0.size
  have hE1 := hE0.kept hb1 hE0.size
  have hB1 : Below w.heap.size w w1 := gr_call (gr_alloc (gr_alloc (Below.refl _ _) _) _) hb1
  clear hF0 hE0 hb1
  have k0 := hF1.cell_some 0 _ rfl
  have f0 := hF1.free 0
  have k1 := hF1.cell_some 1 _ rfl
  have f1 := hF1.free 1
  have k2 := hF1.cell_some 2 _ rfl
  have f2 := hF1.free 2
  have k3 := hF1.cell_some 3 _ rfl
  have f3 := hF1.free 3
  have k4 := hF1.cell_some 4 _ rfl
  have f4 := hF1.free 4
  have k5 := hF1.cell_some 5 _ rfl
  have f5 := hF1.free 5
  have k6 := hF1.cell_some 6 _ rfl
  have f6 := hF1.free 6
  have k7 := hF1.cell_some 7 _ rfl
  have f7 := hF1.free 7
  have k8 := hF1.cell_some 8 _ rfl
  have f8 := hF1.free 8
  have k9 := hF1.cell_some 9 _ rfl
  have f9 := hF1.free 9
  have k10 := hF1.cell_some 10 _ rfl
  have f10 := hF1.free 10
  have k11 := hF1.cell_some 11 _ rfl
  have f11 := hF1.free 11
  have k12 := hF1.cell_some 12 _ rfl
  have f12 := hF1.free 12
  have ke := hE1.cell_some 0 _ rfl
  have fe := hE1.free 0
  have hw1 : w.heap.size < w1.heap.size := hF1.size
  have hw2 : w.heap.size + 1 < w1.heap.size := hE1.size
  go_wp2_with fail
  obtain ⟨W, hW⟩ : ∃ W, (((((((((((((w1.setCell ⟨w.heap.size, 0, none⟩ (.string ⟨#[]⟩)).setCell ⟨w.heap.size, 1, none⟩ (.int .i64 0)).setCell ⟨w.heap.size, 2, none⟩ (.int .i64 0)).setCell ⟨w.heap.size, 3, none⟩ (.int .i64 0)).setCell ⟨w.heap.size, 4, none⟩ (.int .i64 0)).setCell ⟨w.heap.size, 5, none⟩ (.int .i64 0)).setCell ⟨w.heap.size, 6, none⟩ (.int .u8 0)).setCell ⟨w.heap.size, 7, none⟩ (.string ⟨#[]⟩)).setCell ⟨w.heap.size, 8, none⟩ (.string ⟨#[]⟩)).setCell ⟨w.heap.size, 9, none⟩ (.string ⟨#[]⟩)).setCell ⟨w.heap.size, 10, none⟩ (.int .i64 0)).setCell ⟨w.heap.size, 11, none⟩ (.int .i64 0)).setCell ⟨w.heap.size, 12, none⟩ (.string ⟨#[]⟩)).setCell ⟨w.heap.size + 1, 0, none⟩ (.int .i64 2) = W := ⟨_, rfl⟩
  have hF : BlkIs W w.heap.size 23 #[.string ⟨#[]⟩, .int .i64 0, .int .i64 0, .int .i64 0, .int .i64 0, .int .i64 0, .int .u8 0, .string ⟨#[]⟩, .string ⟨#[]⟩, .string ⟨#[]⟩, .int .i64 0, .int .i64 0, .string ⟨#[]⟩] := by
    rw [← hW]
    exact (put13 (.string ⟨#[]⟩) (.int .i64 0) (.int .i64 0) (.int .i64 0) (.int .i64 0) (.int .i64 0) (.int .u8 0) (.string ⟨#[]⟩) (.string ⟨#[]⟩) (.string ⟨#[]⟩) (.int .i64 0) (.int .i64 0) (.string ⟨#[]⟩) hF1).other (p := ⟨w.heap.size + 1, 0, none⟩) (by show w.heap.size ≠ w.heap.size + 1; omega) _
  have hE : BlkIs W (w.heap.size + 1) 25 #[.int .i64 2] := by
    rw [← hW]
    exact (oth13 (.string ⟨#[]⟩) (.int .i64 0) (.int .i64 0) (.int .i64 0) (.int .i64 0) (.int .i64 0) (.int .u8 0) (.string ⟨#[]⟩) (.string ⟨#[]⟩) (.string ⟨#[]⟩) (.int .i64 0) (.int .i64 0) (.string ⟨#[]⟩) (by omega) hE1).put 0 _
  have hbW : Below w.heap.size w W := by
    rw [← hW]
    exact gr_set (gr_set (gr_set (gr_set (gr_set (gr_set (gr_set (gr_set (gr_set (gr_set (gr_set (gr_set (gr_set (gr_set (hB1) (p := ⟨w.heap.size, 0, none⟩) (Nat.le_refl _) (.string ⟨#[]⟩)) (p := ⟨w.heap.size, 1, none⟩) (Nat.le_refl _) (.int .i64 0)) (p := ⟨w.heap.size, 2, none⟩) (Nat.le_refl _) (.int .i64 0)) (p := ⟨w.heap.size, 3, none⟩) (Nat.le_refl _) (.int .i64 0)) (p := ⟨w.heap.size, 4, none⟩) (Nat.le_refl _) (.int .i64 0)) (p := ⟨w.heap.size, 5, none⟩) (Nat.le_refl _) (.int .i64 0)) (p := ⟨w.heap.size, 6, none⟩) (Nat.le_refl _) (.int .u8 0)) (p := ⟨w.heap.size, 7, none⟩) (Nat.le_refl _) (.string ⟨#[]⟩)) (p := ⟨w.heap.size, 8, none⟩) (Nat.le_refl _) (.string ⟨#[]⟩)) (p := ⟨w.heap.size, 9, none⟩) (Nat.le_refl _) (.string ⟨#[]⟩)) (p := ⟨w.heap.size, 10, none⟩) (Nat.le_refl _) (.int .i64 0)) (p := ⟨w.heap.size, 11, none⟩) (Nat.le_refl _) (.int .i64 0)) (p := ⟨w.heap.size, 12, none⟩) (Nat.le_refl _) (.string ⟨#[]⟩)) (p := ⟨w.heap.size + 1, 0, none⟩) (by show w.heap.size ≤ w.heap.size + 1; omega) _
  rw [hW]
  clear hW k0 f0 k1 f1 k2 f2 k3 f3 k4 f4 k5 f5 k6 f6 k7 f7 k8 f8 k9 f9 k10 f10 k11 f11 k12 f12 ke fe
  have k0 := hF.cell_some 0 _ rfl
  have k1 := hF.cell_some 1 _ rfl
  have k2 := hF.cell_some 2 _ rfl
  have k3 := hF.cell_some 3 _ rfl
  have k4 := hF.cell_some 4 _ rfl
  have k5 := hF.cell_some 5 _ rfl
  have k6 := hF.cell_some 6 _ rfl
  have k7 := hF.cell_some 7 _ rfl
  have k8 := hF.cell_some 8 _ rfl
  have k9 := hF.cell_some 9 _ rfl
  have k10 := hF.cell_some 10 _ rfl
  have k11 := hF.cell_some 11 _ rfl
  have k12 := hF.cell_some 12 _ rfl
  have ke := hE.cell_some 0 _ rfl
  simp [bodyPostD, Leaves, settle, results, Try.results10, go_sem, ke, k0, k1, k2, k3, k4, k5, k6, k7, k8, k9, k10, k11, k12]
  exact hbW
set_option maxHeartbeats 2000000 in
theorem get_main (S : ByteArray) (hS : 512 ≤ S.size) (hl : S.size ≤ 8000) (hz : (L S).take 512 ≠ List.replicate 512 0) (ok : Bool) (hok : okB ((L S).take 512) = ok) (G : Hd) (hG : guess ((L S).take 512) = G) (w : World) :
    Calls Try.prog 10 #[.string S] w fun e w' => e = .returned (if ok = true then .tuple #[.agg #[.string G.name, .int .i64 G.mode, .int .i64 G.uid, .int .i64 G.gid, .int .i64 G.size, .int .i64 G.mtime, .int .u8 (G.typ.toNat : Int), .string G.link, .string G.uname, .string G.gname, .int .i64 G.major, .int .i64 G.minor, .string G.pre], .int .i64 0] else .tuple #[.agg #[.string ⟨#[]⟩, .int .i64 0, .int .i64 0, .int .i64 0, .int .i64 0, .int .i64 0, .int .u8 0, .string ⟨#[]⟩, .string ⟨#[]⟩, .string ⟨#[]⟩, .int .i64 0, .int .i64 0, .string ⟨#[]⟩], .int .i64 4]) ∧ Below w.heap.size w w' := by
  have hmf : ∀ (fn : Fn) (first cap : Array Value) (w : World), (Instr.makeFunc fn first cap).run Try.prog w = .ok (.func fn first cap) w := fun _ _ _ _ => rfl
  have h1 : ¬ (S.size : Int) < 512 := by omega
  have h2 : (512 : Int) ≤ (S.size : Int) := by omega
  have h3 : 512 ≤ S.size := hS
  have hB : L (S.extract 0 512) = (L S).take 512 := by
    show (S.extract 0 512).data.toList = _
    rw [Lib.extract_data]
    simp [L]
  obtain ⟨B, hBB⟩ : ∃ B : ByteArray, S.extract 0 512 = B := ⟨_, rfl⟩
  have ht := text_any ⟨#[]⟩ 512 512 rfl (Nat.zero_le _) (by omega)
  obtain ⟨Zs, hZs⟩ : ∃ Zs : ByteArray, strOf (padL (L ⟨#[]⟩) 512) = Zs := ⟨_, rfl⟩
  have hLZ : L Zs = List.replicate 512 0 := by rw [← hZs, L_strOf]; unfold padL; exact congrArg (fun k => List.replicate k (0 : UInt8)) (show 512 - 0 = 512 from rfl)
  rw [hZs] at ht
  replace ht := Lib.hid ht
  have hcmp := beq_L B Zs
  rw [hLZ, ← hBB, hB, decide_eq_false hz, hBB] at hcmp
  have hBl : ((L S).take 512).length = 512 := by rw [List.length_take, size_L]; omega
  obtain ⟨b, hb⟩ : ∃ b, (L S).take 512 = b := ⟨_, rfl⟩
  rw [hb] at hok hG hBl hB
  have hdec := decode_any b hBl
  rw [show strOf b = B by rw [← hBB, ← hB, strOf_L]] at hdec
  have hend : decEnd b = if ok = true then .returned (.agg #[.string G.name, .int .i64 G.mode, .int .i64 G.uid, .int .i64 G.gid, .int .i64 G.size, .int .i64 G.mtime, .int .u8 (G.typ.toNat : Int), .string G.link, .string G.uname, .string G.gname, .int .i64 G.major, .int .i64 G.minor, .string G.pre]) else noHdrPanic := by unfold decEnd; rw [hok, hG]
  rw [hend] at hdec
  replace hdec := Lib.hid hdec
  replace hBB := Lib.hid hBB
  clear hB hz hLZ hZs hS hok hG hb hBl hend
  go_enter_defers Try.func10, Try.ntmps10
  go_wp2_with fail
  rw [hBB.out]
  refine (ht.out _).mono ?_
  rintro e w1 ⟨rfl, hb1⟩
  have hF0 := (BlkIs.made w 23 #[.string ⟨#[]⟩, .int .i64 0, .int .i64 0, .int .i64 0, .int .i64 0, .int .i64 0, .int .u8 0, .string ⟨#[]⟩, .string ⟨#[]⟩, .string ⟨#[]⟩, .int .i64 0, .int .i64 0, .string ⟨#[]⟩]).alloc (.cells #[.int .i64 0] 25)
  have hE0 : BlkIs ((w.alloc (.cells #[.string ⟨#[]⟩, .int .i64 0, .int .i64 0, .int .i64 0, .int .i64 0, .int .i64 0, .int .u8 0, .string ⟨#[]⟩, .string ⟨#[]⟩, .string ⟨#[]⟩, .int .i64 0, .int .i64 0, .string ⟨#[]⟩] 23)).alloc (.cells #[.int .i64 0] 25)) (w.heap.size + 1) 25 #[.int .i64 0] := blk_at (BlkIs.made _ _ _) (by simp)
  have hF1 := hF0.kept hb1 hF0.size
  have hE1 := hE0.kept hb1 hE0.size
  have hB1 : Below w.heap.size w w1 := gr_call (gr_alloc (gr_alloc (Below.refl _ _) _) _) hb1
  clear hF0 hE0 hb1
  have k0 := hF1.cell_some 0 _ rfl
  have f0 := hF1.free 0
  have k1 := hF1.cell_some 1 _ rfl
  have f1 := hF1.free 1
  have k2 := hF1.cell_some 2 _ rfl
  have f2 := hF1.free 2
  have k3 := hF1.cell_some 3 _ rfl
  have f3 := hF1.free 3
  have k4 := hF1.cell_some 4 _ rfl
  have f4 := hF1.free 4
  have k5 := hF1.cell_some 5 _ rfl
  have f5 := hF1.free 5
  have k6 := hF1.cell_some 6 _ rfl
  have f6 := hF1.free 6
  have k7 := hF1.cell_some 7 _ rfl
  have f7 := hF1.free 7
  have k8 := hF1.cell_some 8 _ rfl
  have f8 := hF1.free 8
  have k9 := hF1.cell_some 9 _ rfl
  have f9 := hF1.free 9
  have k10 := hF1.cell_some 10 _ rfl
  have f10 := hF1.free 10
  have k11 := hF1.cell_some 11 _ rfl
  have f11 := hF1.free 11
  have k12 := hF1.cell_some 12 _ rfl
  have f12 := hF1.free 12
  have ke := hE1.cell_some 0 _ rfl
  have fe := hE1.free 0
  have hw1 : w.heap.size < w1.heap.size := hF1.size
  have hw2 : w.heap.size + 1 < w1.heap.size := hE1.size
  go_wp2_with fail
  refine (hdec.out _).mono ?_
  rintro e w2 ⟨he, hb2⟩
  have hF := hF1.kept hb2 hF1.size
  have hE := hE1.kept hb2 hE1.size
  have hB2 : Below w.heap.size w w2 := gr_call hB1 hb2
  clear k0 f0 k1 f1 k2 f2 k3 f3 k4 f4 k5 f5 k6 f6 k7 f7 k8 f8 k9 f9 k10 f10 k11 f11 k12 f12 ke fe hF1 hE1 hB1 hb2 hw1 hw2
  have k0 := hF.cell_some 0 _ rfl
  have f0 := hF.free 0
  have k1 := hF.cell_some 1 _ rfl
  have f1 := hF.free 1
  have k2 := hF.cell_some 2 _ rfl
  have f2 := hF.free 2
  have k3 := hF.cell_some 3 _ rfl
  have f3 := hF.free 3
  have k4 := hF.cell_some 4 _ rfl
  have f4 := hF.free 4
  have k5 := hF.cell_some 5 _ rfl
  have f5 := hF.free 5
  have k6 := hF.cell_some 6 _ rfl
  have f6 := hF.free 6
  have k7 := hF.cell_some 7 _ rfl
  have f7 := hF.free 7
  have k8 := hF.cell_some 8 _ rfl
  have f8 := hF.free 8
  have k9 := hF.cell_some 9 _ rfl
  have f9 := hF.free 9
  have k10 := hF.cell_some 10 _ rfl
  have f10 := hF.free 10
  have k11 := hF.cell_some 11 _ rfl
  have f11 := hF.free 11
  have k12 := hF.cell_some 12 _ rfl
  have f12 := hF.free 12
  have ke := hE.cell_some 0 _ rfl
  have fe := hE.free 0
  have hw1 : w.heap.size < w2.heap.size := hF.size
  have hw2 : w.heap.size + 1 < w2.heap.size := hE.size
  cases ok
  · obtain rfl : e = noHdrPanic := he
    go_wp2_with fail
    refine leaves_cons (f := 24) (args := #[.pointer (some ⟨w.heap.size + 1, 0, none⟩)]) (by simp) (by simp [go_sem]) ?_
    refine (catch_panic ⟨w.heap.size + 1, 0, none⟩ 0 _ _ [] w2 ke fe).mono ?_
    rintro e u' w'' ⟨rfl, rfl, rfl⟩
    simp [Leaves, settle, results, Try.results10, go_sem, k0, k1, k2, k3, k4, k5, k6, k7, k8, k9, k10, k11, k12, ke, fe]
    exact gr_set hB2 (p := ⟨w.heap.size + 1, 0, none⟩) (by show w.heap.size ≤ w.heap.size + 1; omega) _
  · obtain rfl : e = .returned (.agg #[.string G.name, .int .i64 G.mode, .int .i64 G.uid, .int .i64 G.gid, .int .i64 G.size, .int .i64 G.mtime, .int .u8 (G.typ.toNat : Int), .string G.link, .string G.uname, .string G.gname, .int .i64 G.major, .int .i64 G.minor, .string G.pre]) := he
    go_wp2_with fail
    refine leaves_cons (f := 24) (args := #[.pointer (some ⟨w.heap.size + 1, 0, none⟩)]) (by simp) (by simp [go_sem]) ?_
    refine (catch_idle ⟨w.heap.size + 1, 0, none⟩ _).mono ?_
    rintro e u' w'' ⟨rfl, rfl, rfl⟩
    obtain ⟨W, hW⟩ : ∃ W, (((((((((((((w2.setCell ⟨w.heap.size, 0, none⟩ (.string G.name)).setCell ⟨w.heap.size, 1, none⟩ (.int .i64 G.mode)).setCell ⟨w.heap.size, 2, none⟩ (.int .i64 G.uid)).setCell ⟨w.heap.size, 3, none⟩ (.int .i64 G.gid)).setCell ⟨w.heap.size, 4, none⟩ (.int .i64 G.size)).setCell ⟨w.heap.size, 5, none⟩ (.int .i64 G.mtime)).setCell ⟨w.heap.size, 6, none⟩ (.int .u8 (G.typ.toNat : Int))).setCell ⟨w.heap.size, 7, none⟩ (.string G.link)).setCell ⟨w.heap.size, 8, none⟩ (.string G.uname)).setCell ⟨w.heap.size, 9, none⟩ (.string G.gname)).setCell ⟨w.heap.size, 10, none⟩ (.int .i64 G.major)).setCell ⟨w.heap.size, 11, none⟩ (.int .i64 G.minor)).setCell ⟨w.heap.size, 12, none⟩ (.string G.pre)).setCell ⟨w.heap.size + 1, 0, none⟩ (.int .i64 0) = W := ⟨_, rfl⟩
    have hFW : BlkIs W w.heap.size 23 #[.string G.name, .int .i64 G.mode, .int .i64 G.uid, .int .i64 G.gid, .int .i64 G.size, .int .i64 G.mtime, .int .u8 (G.typ.toNat : Int), .string G.link, .string G.uname, .string G.gname, .int .i64 G.major, .int .i64 G.minor, .string G.pre] := by
      rw [← hW]
      exact (put13 (.string G.name) (.int .i64 G.mode) (.int .i64 G.uid) (.int .i64 G.gid) (.int .i64 G.size) (.int .i64 G.mtime) (.int .u8 (G.typ.toNat : Int)) (.string G.link) (.string G.uname) (.string G.gname) (.int .i64 G.major) (.int .i64 G.minor) (.string G.pre) hF).other (p := ⟨w.heap.size + 1, 0, none⟩) (by show w.heap.size ≠ w.heap.size + 1; omega) _
    have hEW : BlkIs W (w.heap.size + 1) 25 #[.int .i64 0] := by
      rw [← hW]
      exact (oth13 (.string G.name) (.int .i64 G.mode) (.int .i64 G.uid) (.int .i64 G.gid) (.int .i64 G.size) (.int .i64 G.mtime) (.int .u8 (G.typ.toNat : Int)) (.string G.link) (.string G.uname) (.string G.gname) (.int .i64 G.major) (.int .i64 G.minor) (.string G.pre) (by omega) hE).put 0 _
    have hbW : Below w.heap.size w W := by
      rw [← hW]
      exact gr_set (gr_set (gr_set (gr_set (gr_set (gr_set (gr_set (gr_set (gr_set (gr_set (gr_set (gr_set (gr_set (gr_set (hB2) (p := ⟨w.heap.size, 0, none⟩) (Nat.le_refl _) (.string G.name)) (p := ⟨w.heap.size, 1, none⟩) (Nat.le_refl _) (.int .i64 G.mode)) (p := ⟨w.heap.size, 2, none⟩) (Nat.le_refl _) (.int .i64 G.uid)) (p := ⟨w.heap.size, 3, none⟩) (Nat.le_refl _) (.int .i64 G.gid)) (p := ⟨w.heap.size, 4, none⟩) (Nat.le_refl _) (.int .i64 G.size)) (p := ⟨w.heap.size, 5, none⟩) (Nat.le_refl _) (.int .i64 G.mtime)) (p := ⟨w.heap.size, 6, none⟩) (Nat.le_refl _) (.int .u8 (G.typ.toNat : Int))) (p := ⟨w.heap.size, 7, none⟩) (Nat.le_refl _) (.string G.link)) (p := ⟨w.heap.size, 8, none⟩) (Nat.le_refl _) (.string G.uname)) (p := ⟨w.heap.size, 9, none⟩) (Nat.le_refl _) (.string G.gname)) (p := ⟨w.heap.size, 10, none⟩) (Nat.le_refl _) (.int .i64 G.major)) (p := ⟨w.heap.size, 11, none⟩) (Nat.le_refl _) (.int .i64 G.minor)) (p := ⟨w.heap.size, 12, none⟩) (Nat.le_refl _) (.string G.pre)) (p := ⟨w.heap.size + 1, 0, none⟩) (by show w.heap.size ≤ w.heap.size + 1; omega) _
    rw [hW]
    clear hW k0 f0 k1 f1 k2 f2 k3 f3 k4 f4 k5 f5 k6 f6 k7 f7 k8 f8 k9 f9 k10 f10 k11 f11 k12 f12 ke fe
    have k0 := hFW.cell_some 0 _ rfl
    have k1 := hFW.cell_some 1 _ rfl
    have k2 := hFW.cell_some 2 _ rfl
    have k3 := hFW.cell_some 3 _ rfl
    have k4 := hFW.cell_some 4 _ rfl
    have k5 := hFW.cell_some 5 _ rfl
    have k6 := hFW.cell_some 6 _ rfl
    have k7 := hFW.cell_some 7 _ rfl
    have k8 := hFW.cell_some 8 _ rfl
    have k9 := hFW.cell_some 9 _ rfl
    have k10 := hFW.cell_some 10 _ rfl
    have k11 := hFW.cell_some 11 _ rfl
    have k12 := hFW.cell_some 12 _ rfl
    have ke := hEW.cell_some 0 _ rfl
    simp [Leaves, settle, results, Try.results10, go_sem, ke, k0, k1, k2, k3, k4, k5, k6, k7, k8, k9, k10, k11, k12]
    exact hbW

theorem get_any (S : ByteArray) (hl : S.size ≤ 8000) (w : World) :
    Calls Try.prog 10 #[.string S] w fun e w' => e = .returned (.tuple #[.agg #[.string (getE (L S)).1.name, .int .i64 (getE (L S)).1.mode, .int .i64 (getE (L S)).1.uid, .int .i64 (getE (L S)).1.gid, .int .i64 (getE (L S)).1.size, .int .i64 (getE (L S)).1.mtime, .int .u8 ((getE (L S)).1.typ.toNat : Int), .string (getE (L S)).1.link, .string (getE (L S)).1.uname, .string (getE (L S)).1.gname, .int .i64 (getE (L S)).1.major, .int .i64 (getE (L S)).1.minor, .string (getE (L S)).1.pre], .int .i64 (getE (L S)).2]) ∧ Below w.heap.size w w' := by
  unfold getE
  rw [size_L]
  by_cases h1 : S.size < 512
  · rw [if_pos h1]; exact get_short S h1 w
  rw [if_neg h1]
  by_cases h2 : (L S).take 512 = List.replicate 512 0
  · rw [if_pos h2]; exact get_zeros S (by omega) hl h2 w
  rw [if_neg h2]
  have h := get_main S (by omega) hl h2 _ rfl _ rfl w
  cases hok : okB ((L S).take 512) with
  | true => rw [hok] at h; exact h
  | false => rw [hok] at h; exact h
end Go.Proofs.Ytkkmhfgfkjeooaa
