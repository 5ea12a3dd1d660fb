/- Bundle of 2 texts. -/
import Derived.Test.YtbhnhoenjoagbaaGreatDoorPk27
import Derived.Test.YtbhnhoenjoagbaaGreatDoorEntHead
import Derived.Test.YtbhnhoenjoagbaaGreatDoorPk24
import Derived.Test.YtbhnhoenjoagbaaGreatDoorPk19
import Derived.Test.YtbhnhoenjoagbaaGreatDoorPk16
/- Walks over package entry: Put. -/
namespace Go.Proofs.YtbhnhoenjoagbaaGreatDoor
open Go.RowKit
open MetaM PathM EntM XatW
set_option linter.unusedVariables false

theorem typ_val {k : Int} (hk : 1 ≤ k ∧ k ≤ 7) : ((UInt8.ofNat (47 + k.toNat)).toNat : Int) = 47 + k := by
  have hz : k = 1 ∨ k = 2 ∨ k = 3 ∨ k = 4 ∨ k = 5 ∨ k = 6 ∨ k = 7 := by omega
  rcases hz with rfl | rfl | rfl | rfl | rfl | rfl | rfl <;> decide
theorem HeadE_any (e0 : En) (va vd vx : Value) (w : World) (hP : e0.path.size ≤ 8000) (hD : e0.data.size ≤ 100000) (hT : e0.target.size ≤ 100000) (hk : 1 ≤ e0.kind ∧ e0.kind ≤ 7) :
    Calls Tryz.prog 23 #[.agg (entC e0 va vd vx)] w fun r w' => r = .returned (.agg #[.string (headE e0).name, .int .i64 (headE e0).mode, .int .i64 (headE e0).uid, .int .i64 (headE e0).gid, .int .i64 (headE e0).size, .int .i64 (headE e0).mtime, .int .u8 ((headE e0).typ.toNat : Int), .string (headE e0).link, .string (headE e0).uname, .string (headE e0).gname, .int .i64 (headE e0).major, .int .i64 (headE e0).minor, .string (headE e0).pre]) ∧ Below w.heap.size w w' := by
  have hsz : (headE e0).pre.size ≤ 8000 ∧ (headE e0).name.size ≤ 8000 ∧ (HeadM.splitV e0.path.data.toList = .tuple #[.string (headE e0).pre, .string (headE e0).name, .bool true] ∨ ((∃ p n : ByteArray, HeadM.splitV e0.path.data.toList = .tuple #[.string p, .string n, .bool false]) ∧ (headE e0).pre = ⟨#[]⟩ ∧ (headE e0).name = firstB e0.path 100)) := by
    unfold headE HeadM.splitV
    simp only
    rcases h : HeadM.splitL e0.path.data.toList with _ | ⟨p, n⟩
    · refine ⟨Nat.zero_le _, ?_, .inr ⟨⟨_, _, rfl⟩, rfl, rfl⟩⟩
      show (firstB e0.path 100).size ≤ 8000
      unfold firstB
      rw [strOf_size, List.length_take]; omega
    · have hl := split_le h
      rw [list_sizeE] at hl
      refine ⟨?_, ?_, .inl rfl⟩
      · show (strOf p).size ≤ 8000
        rw [strOf_size]; omega
      · show (strOf n).size ≤ 8000
        rw [strOf_size]; omega
  have h := HeadE_core e0.path e0.kind e0.m e0.data e0.target e0.major e0.minor va vd vx w _ rfl hP hD hT hk (headE e0).pre (headE e0).name (firstB e0.target 100) (headE e0).uid (headE e0).gid (headE e0).mtime hsz.2.2 (by have := hsz.1; omega) (by have := hsz.2.1; omega) rfl
    (by show (if decide (2097151 < e0.m.uid) = true then 0 else e0.m.uid) = if 2097151 < e0.m.uid then 0 else e0.m.uid
        by_cases h : 2097151 < e0.m.uid <;> simp [h])
    (by show (if decide (2097151 < e0.m.gid) = true then 0 else e0.m.gid) = if 2097151 < e0.m.gid then 0 else e0.m.gid
        by_cases h : 2097151 < e0.m.gid <;> simp [h])
    (by rfl)
  rw [← typ_val hk] at h
  exact h
def EntM.putEF (e : En) : List UInt8 := if mayE e = true then putRecsF (recsE e) ++ HeadM.putH (headE e) ++ PadW.PadM.padL e.data.data.toList else []
structure BoxSt (w : World) (B : Nat) (ce : Array Value) (W : World) : Prop where
  below : Below B w W
  box : BlkIs W B 39 ce
theorem BoxSt.call {w : World} {B : Nat} {ce : Array Value} {W W' : World} (h : BoxSt w B ce W) (hB : w.heap.size = B) (hb : Below W.heap.size W W') : BoxSt w B ce W' :=
  ⟨by subst hB; exact gr_call h.below hb, h.box.kept hb h.box.size⟩
attribute [local irreducible] Row At

set_option maxHeartbeats 6400000 in
set_option maxRecDepth 100000 in
theorem PutE_core (e0 : En) (va vd vx : Value) (w : World) (B : Nat) (hB : w.heap.size = B) (hA : Amb w) (hma : MetaAt e0.m va vd vx w) (hmay : mayE e0 = true) (hP : e0.path.size ≤ 8000) (hT : e0.target.size ≤ 100000) (hD : e0.data.size ≤ 65536) (hk : 1 ≤ e0.kind ∧ e0.kind ≤ 7) (hf : CapsM.Fits e0.m.cap)
    (hs : ShortR (recsE e0)) (hro : RecOk e0) (hj : (RecW.RecM.joinF (recsE e0)).length ≤ 65536) :
    Calls Tryz.prog 25 #[.agg (entC e0 va vd vx)] w fun r w' => r = .returned (.string (strOf (putEF e0))) ∧ Below B w w' := by
  have HMY := Lib.hid (fun W (h : Below B w W) => MayE_any e0 va vd vx W (hA.on (show Below w.heap.size w W from hB ▸ h)) (hma.call (show Below w.heap.size w W from hB ▸ h)) (by omega) hT hf (fun _ _ _ => hs))
  rw [hmay] at HMY
  have HR := Lib.hid (fun W (h : Below B w W) => RecsE_any e0 va vd vx W (hA.on (show Below w.heap.size w W from hB ▸ h)) (hma.call (show Below w.heap.size w W from hB ▸ h)) hro)
  have HPR := Lib.hid (fun v W (h : Below B w W) (hr : Row recE B v (recsE e0) W) => putRecs_any B v (recsE e0) W (hA.on (show Below w.heap.size w W from hB ▸ h)).b hr hs hj)
  have HH := Lib.hid (fun W (h : Below B w W) => HeadE_any e0 va vd vx W hP (by omega) hT hk)
  have HHP := Lib.hid (fun W => HeadW.put_any (headE e0) W)
  have HPP := Lib.hid (fun W => PadW.put_any e0.data (by omega) W)
  have HF := Lib.hid (show putEF e0 = putRecsF (recsE e0) ++ HeadM.putH (headE e0) ++ PadW.PadM.padL e0.data.data.toList from if_pos hmay)
  generalize headE e0 = H at *
  obtain ⟨A, hA1⟩ : ∃ S, strOf (putRecsF (recsE e0)) = S := ⟨_, rfl⟩
  obtain ⟨C, hC1⟩ : ∃ S, strOf (HeadM.putH H) = S := ⟨_, rfl⟩
  obtain ⟨E, hE1⟩ : ∃ S, strOf (PadW.PadM.padL e0.data.data.toList) = S := ⟨_, rfl⟩
  rw [hA1] at HPR
  replace HHP := Lib.hid (fun W => show Calls Tryz.prog 87 #[.agg #[.string H.name, .int .i64 H.mode, .int .i64 H.uid, .int .i64 H.gid, .int .i64 H.size, .int .i64 H.mtime, .int .u8 (H.typ.toNat : Int), .string H.link, .string H.uname, .string H.gname, .int .i64 H.major, .int .i64 H.minor, .string H.pre]] W fun e w' => e = .returned (.string C) ∧ Below W.heap.size W w' from hC1 ▸ HHP.out W)
  replace HPP := Lib.hid (fun W => show Calls Tryz.prog 88 #[.string e0.data] W fun e w' => e = .returned (.string E) ∧ Below W.heap.size W w' from hE1 ▸ HPP.out W)
  have hpad : ∀ l : List UInt8, l.length ≤ 65536 → (PadW.PadM.padL l).length ≤ 66100 := by
    intro l h
    rw [PadW.PadM.padL_length]
    have := (PadW.PadM.more_in (n := l.length) (by omega)).2.1
    omega
  have hAs : A.size ≤ 70000 := by
    rw [← hA1, strOf_size]
    unfold putRecsF
    split
    · simp
    · rw [List.length_append]; have h1 := put_size (xHd (RecW.RecM.joinF (recsE e0)).length); have h2 := hpad _ hj; omega
  have hCs : C.size ≤ 512 := by rw [← hC1, strOf_size]; exact put_size _
  have hEs : E.size ≤ 70000 := by rw [← hE1, strOf_size]; have := hpad e0.data.data.toList (by rw [list_sizeE]; exact hD); omega
  have hACs : (A ++ C).size ≤ 80000 := by have e : (A ++ C).size = A.size + C.size := by simp [ByteArray.size_append]
                                          omega
  have HQ := Lib.hid (show strOf (putEF e0) = A ++ C ++ E by
    rw [HF.out, ← hA1, ← hC1, ← hE1]
    exact (bytes_ext (by rw [bytes_list, bytes_list]; simp [strOf])))
  clear HF hpad hA1 hC1 hE1 hj hro hs hf hk hD hT hP hmay hma hA
  generalize strOf (putEF e0) = RES at HQ ⊢
  unfold entC at *
  go_enter Tryz.func25, Tryz.ntmps25
  go_upto_region 1 with fail
  have hst : BoxSt w B #[.string e0.path, .int .i64 e0.kind, .int .i64 e0.m.mode, .int .i64 e0.m.uid, .int .i64 e0.m.gid, .int .i64 e0.m.sec, .int .i64 e0.m.nano, va, vd, vx, .int .i64 e0.m.cap.v, .int .u64 (e0.m.cap.p : Int), .int .u64 (e0.m.cap.i : Int), .bool e0.m.cap.e, .int .i64 e0.m.cap.r, .int .i64 e0.m.flags, .string e0.data, .string e0.target, .int .i64 e0.major, .int .i64 e0.minor] (w.alloc (.cells #[.string e0.path, .int .i64 e0.kind, .int .i64 e0.m.mode, .int .i64 e0.m.uid, .int .i64 e0.m.gid, .int .i64 e0.m.sec, .int .i64 e0.m.nano, va, vd, vx, .int .i64 e0.m.cap.v, .int .u64 (e0.m.cap.p : Int), .int .u64 (e0.m.cap.i : Int), .bool e0.m.cap.e, .int .i64 e0.m.cap.r, .int .i64 e0.m.flags, .string e0.data, .string e0.target, .int .i64 e0.major, .int .i64 e0.minor] 39)) := by
    subst hB
    exact ⟨gr_alloc (Below.refl _ _) _, BlkIs.made _ _ _⟩
  obtain ⟨W0, hW0⟩ : ∃ W, w.alloc (.cells #[.string e0.path, .int .i64 e0.kind, .int .i64 e0.m.mode, .int .i64 e0.m.uid, .int .i64 e0.m.gid, .int .i64 e0.m.sec, .int .i64 e0.m.nano, va, vd, vx, .int .i64 e0.m.cap.v, .int .u64 (e0.m.cap.p : Int), .int .u64 (e0.m.cap.i : Int), .bool e0.m.cap.e, .int .i64 e0.m.cap.r, .int .i64 e0.m.flags, .string e0.data, .string e0.target, .int .i64 e0.major, .int .i64 e0.minor] 39) = W := ⟨_, rfl⟩
  rw [hW0] at hst ⊢
  clear hW0
  go_wp2_with (with_reducible (show wpList _ _ _ (Oper.mk _ (Op.load 39 _) _ _ _ _ :: _) _ _); refine wpList_loadB (by simp [Region.wanted, yielded, go_sem]) 39 (.tmp 1) rfl B (by simp [Act.eval, go_sem]) 39 _ hst.box (by kernel_rfl) (by kernel_rfl) ?_)
  refine (HMY.out _ hst.below).mono ?_
  rintro e w1 ⟨rfl, hb1⟩
  replace hst := hst.call hB hb1
  clear hb1 HMY
  go_upto_region 3 with fail
  refine region_oneUL (S := fun W => BoxSt w B #[.string e0.path, .int .i64 e0.kind, .int .i64 e0.m.mode, .int .i64 e0.m.uid, .int .i64 e0.m.gid, .int .i64 e0.m.sec, .int .i64 e0.m.nano, va, vd, vx, .int .i64 e0.m.cap.v, .int .u64 (e0.m.cap.p : Int), .int .u64 (e0.m.cap.i : Int), .bool e0.m.cap.e, .int .i64 e0.m.cap.r, .int .i64 e0.m.flags, .string e0.data, .string e0.target, .int .i64 e0.major, .int .i64 e0.minor] W) 11
    [(fun W v => v = .agg #[.string e0.path, .int .i64 e0.kind, .int .i64 e0.m.mode, .int .i64 e0.m.uid, .int .i64 e0.m.gid, .int .i64 e0.m.sec, .int .i64 e0.m.nano, va, vd, vx, .int .i64 e0.m.cap.v, .int .u64 (e0.m.cap.p : Int), .int .u64 (e0.m.cap.i : Int), .bool e0.m.cap.e, .int .i64 e0.m.cap.r, .int .i64 e0.m.flags, .string e0.data, .string e0.target, .int .i64 e0.major, .int .i64 e0.minor]),
  (fun W v => Row recE B v (recsE e0) W),
  (fun W v => v = .string A),
  (fun W v => v = .agg #[.string e0.path, .int .i64 e0.kind, .int .i64 e0.m.mode, .int .i64 e0.m.uid, .int .i64 e0.m.gid, .int .i64 e0.m.sec, .int .i64 e0.m.nano, va, vd, vx, .int .i64 e0.m.cap.v, .int .u64 (e0.m.cap.p : Int), .int .u64 (e0.m.cap.i : Int), .bool e0.m.cap.e, .int .i64 e0.m.cap.r, .int .i64 e0.m.flags, .string e0.data, .string e0.target, .int .i64 e0.major, .int .i64 e0.minor]),
  (fun W v => v = .agg #[.string H.name, .int .i64 H.mode, .int .i64 H.uid, .int .i64 H.gid, .int .i64 H.size, .int .i64 H.mtime, .int .u8 (H.typ.toNat : Int), .string H.link, .string H.uname, .string H.gname, .int .i64 H.major, .int .i64 H.minor, .string H.pre]),
  (fun W v => v = .string C),
  (fun W v => v = .string (A ++ C)),
  (fun W v => v = .pointer (some ⟨B, 16, none⟩)),
  (fun W v => v = .string e0.data),
  (fun W v => v = .string E),
  (fun W v => v = .string (A ++ C ++ E))] (by rfl) (by kernel_rfl) (by kernel_rfl) (by kernel_rfl) (by kernel_rfl) (by rfl) (by kernel_rfl) ?hS ?hp ?hs ?he
  case hS => exact hst.call hB (gr_drew (Below.refl _ _))
  case hp => repeat' (first | exact trivial | refine ⟨fun _ _ _ _ h => h, ?_⟩ | refine ⟨fun _ _ _ hb h => h.call hb, ?_⟩)
  case hs =>
    simp only [List.take_succ_cons, List.take_zero]
    refine ⟨?_, ?_, ?_, ?_, ?_, ?_, ?_, ?_, ?_, ?_, ?_, trivial⟩
    · refine .inl ⟨met_none rfl, ?_⟩
      intro a W K hS hd hD hf hK
      have e1 : a.tmps.getD 1 undef = .pointer (some ⟨B, 0, none⟩) := hf 1 (by kernel_rfl)
      clear hd hf hD
      exact wp_loadB 39 (.tmp 1) rfl B e1 39 _ hS.box (by kernel_rfl) (by kernel_rfl) (hK _ _ (Below.refl _ _) hS rfl (fun h => absurd h (by decide)))
    · refine .inl ⟨met_none rfl, ?_⟩
      intro a W K hS hd hD hf hK
      have e6 : a.tmps.getD 6 undef = .agg #[.string e0.path, .int .i64 e0.kind, .int .i64 e0.m.mode, .int .i64 e0.m.uid, .int .i64 e0.m.gid, .int .i64 e0.m.sec, .int .i64 e0.m.nano, va, vd, vx, .int .i64 e0.m.cap.v, .int .u64 (e0.m.cap.p : Int), .int .u64 (e0.m.cap.i : Int), .bool e0.m.cap.e, .int .i64 e0.m.cap.r, .int .i64 e0.m.flags, .string e0.data, .string e0.target, .int .i64 e0.major, .int .i64 e0.minor] := hd ⟨0, .data⟩ (by simp) rfl
      clear hd hf hD
      go_simp
      go_at_call 21
      refine (HR.out _ hS.below).mono ?_
      rintro e w1 ⟨⟨u, rfl, hrow⟩, hb⟩
      exact hK _ _ hb (hS.call hB hb) (hrow.mono (by have := hS.below.size; omega)) (fun h => absurd h (by decide))
    · refine .inl ⟨met_none rfl, ?_⟩
      intro a W K hS hd hD hf hK
      have p7 := hd ⟨1, .data⟩ (by simp) rfl
      have q7 : Row recE B (a.tmps.getD 7 undef) (recsE e0) W := p7
      clear p7
      obtain ⟨u7, h7⟩ : ∃ u, a.tmps.getD 7 undef = u := ⟨_, rfl⟩
      rw [h7] at q7
      clear hd hf hD
      go_simp
      go_at_call 86
      refine (HPR.out _ _ hS.below q7).mono ?_
      rintro e w1 ⟨rfl, hb⟩
      exact hK _ _ hb (hS.call hB hb) rfl (fun h => absurd h (by decide))
    · refine .inl ⟨met_none rfl, ?_⟩
      intro a W K hS hd hD hf hK
      have e1 : a.tmps.getD 1 undef = .pointer (some ⟨B, 0, none⟩) := hf 1 (by kernel_rfl)
      clear hd hf hD
      exact wp_loadB 39 (.tmp 1) rfl B e1 39 _ hS.box (by kernel_rfl) (by kernel_rfl) (hK _ _ (Below.refl _ _) hS rfl (fun h => absurd h (by decide)))
    · refine .inl ⟨met_none rfl, ?_⟩
      intro a W K hS hd hD hf hK
      have e9 : a.tmps.getD 9 undef = .agg #[.string e0.path, .int .i64 e0.kind, .int .i64 e0.m.mode, .int .i64 e0.m.uid, .int .i64 e0.m.gid, .int .i64 e0.m.sec, .int .i64 e0.m.nano, va, vd, vx, .int .i64 e0.m.cap.v, .int .u64 (e0.m.cap.p : Int), .int .u64 (e0.m.cap.i : Int), .bool e0.m.cap.e, .int .i64 e0.m.cap.r, .int .i64 e0.m.flags, .string e0.data, .string e0.target, .int .i64 e0.major, .int .i64 e0.minor] := hd ⟨3, .data⟩ (by simp) rfl
      clear hd hf hD
      go_simp
      go_at_call 23
      refine (HH.out _ hS.below).mono ?_
      rintro e w1 ⟨rfl, hb⟩
      exact hK _ _ hb (hS.call hB hb) rfl (fun h => absurd h (by decide))
    · refine .inl ⟨met_none rfl, ?_⟩
      intro a W K hS hd hD hf hK
      have e10 : a.tmps.getD 10 undef = .agg #[.string H.name, .int .i64 H.mode, .int .i64 H.uid, .int .i64 H.gid, .int .i64 H.size, .int .i64 H.mtime, .int .u8 (H.typ.toNat : Int), .string H.link, .string H.uname, .string H.gname, .int .i64 H.major, .int .i64 H.minor, .string H.pre] := hd ⟨4, .data⟩ (by simp) rfl
      clear hd hf hD
      go_simp
      go_at_call 87
      refine (HHP.out _).mono ?_
      rintro e w1 ⟨rfl, hb⟩
      exact hK _ _ hb (hS.call hB hb) rfl (fun h => absurd h (by decide))
    · refine .inl ⟨met_none rfl, ?_⟩
      intro a W K hS hd hD hf hK
      have e8 : a.tmps.getD 8 undef = .string A := hd ⟨2, .data⟩ (by simp) rfl
      have e11 : a.tmps.getD 11 undef = .string C := hd ⟨5, .data⟩ (by simp) rfl
      have s1 : ¬ 9223372036854775807 < A.size + C.size := by omega
      clear hd hf hD
      go_simp
      exact hK _ _ (Below.refl _ _) hS rfl (fun h => absurd h (by decide))
    · refine .inl ⟨met_none rfl, ?_⟩
      intro a W K hS hd hD hf hK
      have e1 : a.tmps.getD 1 undef = .pointer (some ⟨B, 0, none⟩) := hf 1 (by kernel_rfl)
      clear hd hf hD
      go_simp
      exact hK _ _ (Below.refl _ _) hS rfl (fun h => absurd h (by decide))
    · refine .inl ⟨met_none rfl, ?_⟩
      intro a W K hS hd hD hf hK
      have e13 : a.tmps.getD 13 undef = .pointer (some ⟨B, 16, none⟩) := hd ⟨7, .data⟩ (by simp) rfl
      have c0 := hS.box.cell_some 16 _ rfl
      clear hd hf hD
      go_simp
      exact hK _ _ (Below.refl _ _) hS rfl (fun h => absurd h (by decide))
    · refine .inl ⟨met_none rfl, ?_⟩
      intro a W K hS hd hD hf hK
      have e14 : a.tmps.getD 14 undef = .string e0.data := hd ⟨8, .data⟩ (by simp) rfl
      clear hd hf hD
      go_simp
      go_at_call 88
      refine (HPP.out _).mono ?_
      rintro e w1 ⟨rfl, hb⟩
      exact hK _ _ hb (hS.call hB hb) rfl (fun h => absurd h (by decide))
    · refine .inl ⟨met_none rfl, ?_⟩
      intro a W K hS hd hD hf hK
      have e12 : a.tmps.getD 12 undef = .string (A ++ C) := hd ⟨6, .data⟩ (by simp) rfl
      have e15 : a.tmps.getD 15 undef = .string E := hd ⟨9, .data⟩ (by simp) rfl
      have s1 : ¬ 9223372036854775807 < A.size + C.size + E.size := by omega
      clear hd hf hD
      go_simp
      exact hK _ _ (Below.refl _ _) hS rfl (fun h => absurd h (by decide))
  case he =>
    intro vals wx K hS hV hK
    have e16 := hV 10 (by omega)
    clear hV hst
    simp only [List.getD_cons_succ, List.getD_cons_zero] at e16
    have HB := Lib.hid hS.below
    clear hS
    refine Later.mk ?_
    simp only [List.append_eq, List.cons_append, List.nil_append, setN, Nat.reduceAdd, List.setIfInBounds_toArray, List.set_cons_succ, List.set_cons_zero]
    rw [e16]
    go_simp
    refine hK _ _ ?_
    clear hK
    go_wp2_with fail
    go_ret
    exact ⟨by rw [HQ.out]; rfl, HB.out⟩
theorem PutE_any (e0 : En) (va vd vx : Value) (w : World) (hA : Amb w) (hma : MetaAt e0.m va vd vx w) (hmay : mayE e0 = true) (hf : CapsM.Fits e0.m.cap) (hs : ShortR (recsE e0)) :
    Calls Tryz.prog 25 #[.agg (entC e0 va vd vx)] w fun r w' => r = .returned (.string (strOf (putEF e0))) ∧ Below w.heap.size w w' := by
  have hm := hmay
  unfold mayE at hm
  simp only [Bool.and_eq_true, decide_eq_true_eq] at hm
  obtain ⟨⟨⟨⟨⟨h1, h2⟩, h3⟩, h4⟩, h5⟩, h6⟩ := hm
  have hro := recOk_of h1 h5 h3 hf
  have h6' := h6
  unfold recsOk at h6'
  unfold bodyOk at h4
  simp only [Bool.and_eq_true, decide_eq_true_eq] at h4 h6'
  exact PutE_core e0 va vd vx w _ rfl hA hma hmay hro.path hro.target h4.1.1.1 h2 hf hs hro h6'.2
end Go.Proofs.YtbhnhoenjoagbaaGreatDoor

/- Entries whose texts are short: their records may be. -/
namespace Go.Proofs.YtbhnhoenjoagbaaGreatDoor
open Go.RowKit
open MetaM PathM
set_option linter.unusedVariables false
namespace EntM

theorem esc_enc (c : UInt8) : ∀ x ∈ EscM.enc c, x ≠ 61 ∧ x ≠ 0 := by
  have hs : ∀ x : UInt8, EscM.self x = true → x ≠ 61 ∧ x ≠ 0 := by
    intro x h
    unfold EscM.self at h
    simp only [Bool.and_eq_true, decide_eq_true_eq] at h
    refine ⟨fun e => ?_, fun e => ?_⟩
    · subst e; exact h.2 (by decide)
    · subst e; exact absurd h.1.1.1 (by decide)
  intro x hx
  unfold EscM.enc at hx
  split at hx
  · rename_i h
    simp only [List.mem_singleton] at hx
    subst hx
    exact hs _ h
  · simp only [List.mem_cons, List.not_mem_nil, or_false] at hx
    have hc := c.toNat_lt
    rcases hx with rfl | rfl | rfl
    · exact ⟨by decide, by decide⟩
    · exact hs _ (EscM.H_self _ (by omega)).1
    · exact hs _ (EscM.H_self _ (by omega)).1
theorem esc_plain (l : List UInt8) : ∀ x ∈ EscM.put l, x ≠ 61 ∧ x ≠ 0 := by
  intro x hx
  unfold EscM.put at hx
  obtain ⟨c, _, h⟩ := List.mem_flatMap.1 hx
  exact esc_enc c x h
theorem key_of {k : List UInt8} (h1 : 1 ≤ k.length) (h2 : k.length ≤ 255) (h3 : (0 : UInt8) ∉ k) (h4 : (61 : UInt8) ∉ k) : RecW.RecM.keyB k = true := by
  unfold RecW.RecM.keyB
  rw [decide_eq_true h1, decide_eq_true h2]
  simp [h3, h4]
theorem put_le {k v : List UInt8} (hk : RecW.RecM.keyB k = true) (hv : v.length ≤ 1000) : RecW.RecM.mayB k v = true ∧ (RecW.RecM.putF k v).length ≤ 1300 := by
  have := one_ok (b := true) (k := k) (v := v) (fun _ => ⟨hk, hv⟩) (k, v) (by simp [one])
  exact this
theorem xrec_ok {x : XatM.Xa} (hx : XatM.okX x = true) (hv : x.2.length ≤ 700) : ∀ r ∈ XatM.recOf x, RecW.RecM.mayB r.1 r.2 = true ∧ (RecW.RecM.putF r.1 r.2).length ≤ 1300 := by
  obtain ⟨h1, h2, h3, h4, _⟩ := XatM.okX_parts hx
  have hm := XatM.put_mono x.1
  intro r hr
  unfold XatM.recOf at hr
  rcases List.mem_append.1 hr with hr | hr
  · by_cases hc : x.1.contains 61 = true
    · rw [if_pos hc] at hr; simp at hr
    · rw [if_neg hc, List.mem_singleton] at hr
      subst hr
      refine put_le (key_of (by simp [XatM.sK]) (by simp [XatM.sK]; omega) ?_ ?_) (by simp only; omega)
      · intro h
        rcases List.mem_append.1 h with h | h
        · exact absurd h (by decide)
        · have : x.1.contains 0 = true := by simpa using h
          rw [h2] at this; cases this
      · intro h
        rcases List.mem_append.1 h with h | h
        · exact absurd h (by decide)
        · exact hc (by simpa using h)
  · rw [List.mem_singleton] at hr
    subst hr
    refine put_le (key_of (by simp [XatM.lK]) (by simp [XatM.lK]; omega) ?_ ?_) (by simp only; rw [SixM.p3_length]; omega)
    · intro h
      rcases List.mem_append.1 h with h | h
      · exact absurd h (by decide)
      · exact (esc_plain _ _ h).2 rfl
    · intro h
      rcases List.mem_append.1 h with h | h
      · exact absurd h (by decide)
      · exact (esc_plain _ _ h).1 rfl
theorem recOf_len (x : XatM.Xa) : (XatM.recOf x).length ≤ 2 := by
  unfold XatM.recOf
  split <;> simp
theorem xrecs_ok {l : List XatM.Xa} (hm : XatM.mayL l = true) (hv : ∀ x ∈ l, x.2.length ≤ 700) : (∀ r ∈ XatM.recsL l, RecW.RecM.mayB r.1 r.2 = true ∧ (RecW.RecM.putF r.1 r.2).length ≤ 1300) ∧ (XatM.recsL l).length ≤ 2 * l.length := by
  have hp := XatM.may_parts hm
  unfold XatM.recsL
  rw [if_pos hm]
  refine ⟨fun r hr => ?_, ?_⟩
  · obtain ⟨x, hx, h⟩ := List.mem_flatMap.1 hr
    exact xrec_ok (hp.2.1 x hx) (hv x hx) r h
  · clear hm hv hp
    induction l with
    | nil => simp
    | cons x t ih =>
      have h1 := recOf_len x
      rw [List.flatMap_cons, List.length_append, List.length_cons]
      omega
structure Short (m : Mt) : Prop where
  uid : -9223372036854775808 ≤ m.uid ∧ m.uid ≤ 9223372036854775807
  gid : -9223372036854775808 ≤ m.gid ∧ m.gid ≤ 9223372036854775807
  time : longS m.sec m.nano = true → (StampW.StampM.textF m.sec m.nano).length ≤ 1000
  acl : m.acl ≠ [] → (AclM.textL m.acl).length ≤ 1000
  dfl : m.dfl ≠ [] → (AclM.textL m.dfl).length ≤ 1000
  flags : (FlagsW.FlagsM.textI m.flags).length ≤ 1000
  xat : XatM.mayL m.xat = true
  xval : ∀ x ∈ m.xat, x.2.length ≤ 700
  xlen : m.xat.length ≤ 12
theorem recs_parts {e : En} (h : Short e.m) (hp : e.path.size ≤ 1000) (ht : e.target.size ≤ 1000) : (∀ r ∈ recsE e, RecW.RecM.mayB r.1 r.2 = true ∧ (RecW.RecM.putF r.1 r.2).length ≤ 1300) ∧ (recsE e).length ≤ 34 := by
  have hx := xrecs_ok h.xat h.xval
  have hl := h.xlen
  have lp : e.path.data.toList.length ≤ 1000 := by simpa using hp
  have lt : e.target.data.toList.length ≤ 1000 := by simpa using ht
  have P : ∀ r ∈ recsE e, RecW.RecM.mayB r.1 r.2 = true ∧ (RecW.RecM.putF r.1 r.2).length ≤ 1300 := by
    intro r hr
    unfold recsE at hr
    simp only [List.mem_append] at hr
    rcases hr with hr | hr | hr | hr | hr | hr | hr | hr | hr | hr | hr
    · exact one_ok (fun _ => ⟨by decide +kernel, by decide +kernel⟩) r hr
    · exact one_ok (fun _ => ⟨by decide +kernel, lp⟩) r hr
    · exact one_ok (fun _ => ⟨by decide +kernel, lt⟩) r hr
    · exact one_ok (fun _ => ⟨by decide +kernel, by have := (DecM.itoa_len e.m.uid h.uid.1 h.uid.2).2; omega⟩) r hr
    · exact one_ok (fun _ => ⟨by decide +kernel, by have := (DecM.itoa_len e.m.gid h.gid.1 h.gid.2).2; omega⟩) r hr
    · exact one_ok (fun hb => ⟨by decide +kernel, h.time hb⟩) r hr
    · exact one_ok (fun hb => ⟨by decide +kernel, h.acl (of_decide_eq_true hb)⟩) r hr
    · exact one_ok (fun hb => ⟨by decide +kernel, h.dfl (of_decide_eq_true hb)⟩) r hr
    · exact one_ok (fun _ => ⟨by decide +kernel, h.flags⟩) r hr
    · exact one_ok (fun _ => ⟨by decide +kernel, by rw [SixM.p3_length]; have := CapsM.putL_size e.m.cap; omega⟩) r hr
    · exact hx.1 r hr
  have hn : (recsE e).length ≤ 34 := by
    unfold recsE
    simp only [List.length_append]
    have := one_len
    have a1 := one_len ((longP e && !validU e.path.data.toList) || (longT e && !validU e.target.data.toList)) kSet vSet
    have a2 := one_len (longP e) kPath e.path.data.toList
    have a3 := one_len (longT e) kLink e.target.data.toList
    have a4 := one_len (decide (2097151 < e.m.uid)) kUid (Lib.itoa e.m.uid)
    have a5 := one_len (decide (2097151 < e.m.gid)) kGid (Lib.itoa e.m.gid)
    have a6 := one_len (longS e.m.sec e.m.nano) kTime (StampW.StampM.textF e.m.sec e.m.nano)
    have a7 := one_len (decide (e.m.acl ≠ [])) kAcl (AclM.textL e.m.acl)
    have a8 := one_len (decide (e.m.dfl ≠ [])) kDfl (AclM.textL e.m.dfl)
    have a9 := one_len (decide (e.m.flags ≠ 0)) kFlags (FlagsW.FlagsM.textI e.m.flags)
    have a10 := one_len (decide (e.m.cap.v ≠ 0)) kCaps (SixM.p3 (CapsM.putL e.m.cap))
    omega
  exact ⟨P, hn⟩
theorem recs_ok {e : En} (h : Short e.m) (hp : e.path.size ≤ 1000) (ht : e.target.size ≤ 1000) : recsOk (recsE e) = true := by
  obtain ⟨P, hn⟩ := recs_parts h hp ht
  have hj := join_len (c := 1300) (l := recsE e) (fun r hr => (P r hr).2)
  unfold recsOk
  rw [List.all_eq_true.2 (fun r hr => (P r hr).1), decide_eq_true (by omega)]
  rfl
theorem recs_short {e : En} (h : Short e.m) (hp : e.path.size ≤ 1000) (ht : e.target.size ≤ 1000) : (∀ r ∈ recsE e, r.1.length + r.2.length ≤ 9000) ∧ (recsE e).length ≤ 100 := by
  obtain ⟨P, hn⟩ := recs_parts h hp ht
  refine ⟨fun r hr => ?_, by omega⟩
  obtain ⟨h1, h2⟩ := P r hr
  rw [RecW.RecM.put_may h1] at h2
  have hk : r.1.length + r.2.length ≤ 100000 := by
    have h3 := ((RecW.RecM.may_iff _ _).1 h1).2.2.2.2
    have h4 := (RecW.RecM.lenF_bounds (3 + r.1.length + r.2.length)).1
    omega
  rw [RecW.RecM.enc_length _ _ (by omega)] at h2
  have h4 := (RecW.RecM.lenF_bounds (3 + r.1.length + r.2.length)).1
  omega
end EntM
end Go.Proofs.YtbhnhoenjoagbaaGreatDoor
