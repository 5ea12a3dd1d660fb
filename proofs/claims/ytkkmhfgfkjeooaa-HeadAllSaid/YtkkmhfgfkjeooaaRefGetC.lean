/- Walks over the document's answer for package head: GetHead of what is not all noughts. -/
import Derived.Test.YtkkmhfgfkjeooaaRefGetA
import Derived.Test.YtkkmhfgfkjeooaaLater
namespace Go.Proofs.Ytkkmhfgfkjeooaa
open Go.RowKit
open HeadM NumM
set_option linter.unusedVariables false

set_option maxHeartbeats 4000000 in
set_option maxRecDepth 100000 in
theorem refGet_some (S : ByteArray) (hS : 512 ≤ S.size) (hl : S.size ≤ 8000) (hz : (L S).take 512 ≠ List.replicate 512 0) (w : World) :
    Calls Try.prog 11 #[.string S] w fun e w' => e = .returned (.agg #[.string (getE (L S)).1.name, .int .i64 (getE (L S)).1.mode, .int .i64 (getE (L S)).1.uid, .int .i64 (getE (L S)).1.gid, .int .i64 (getE (L S)).1.size, .int .i64 (getE (L S)).1.mtime, .int .u8 ((getE (L S)).1.typ.toNat : Int), .string (getE (L S)).1.link, .string (getE (L S)).1.uname, .string (getE (L S)).1.gname, .int .i64 (getE (L S)).1.major, .int .i64 (getE (L S)).1.minor, .string (getE (L S)).1.pre, .int .i64 (getE (L S)).2]) ∧ Below w.heap.size w w' := by
  have h1 : ¬ (S.size : Int) < 512 := by omega
  have h2 : (512 : Int) ≤ (S.size : Int) := by omega
  have h3 : 512 ≤ S.size := hS
  have hB : L (S.extract 0 512) = (L S).take 512 := by
    show (S.extract 0 512).data.toList = _
    rw [Lib.extract_data]
    simp [L]
  have hBl : ((L S).take 512).length = 512 := by rw [List.length_take, size_L]; omega
  obtain ⟨R, hR⟩ : ∃ R, getE (L S) = R := ⟨_, rfl⟩
  have hR2 : R = if (L S).take 512 = List.replicate 512 0 then (zeroH, 2) else if okB ((L S).take 512) = true then (guess ((L S).take 512), 0) else (zeroH, 4) := by
    rw [← hR]; unfold getE; rw [size_L, if_neg (by omega)]
  rw [hR]
  obtain ⟨b, hb⟩ : ∃ b, (L S).take 512 = b := ⟨_, rfl⟩
  rw [hb] at hBl hB hR2 hz
  obtain ⟨B, hBB⟩ : ∃ B : ByteArray, S.extract 0 512 = B := ⟨_, rfl⟩
  rw [hBB] at hB
  obtain ⟨Zs, hZs⟩ : ∃ Zs : ByteArray, strOf (List.replicate 512 0) = Zs := ⟨_, rfl⟩
  have hLZ : L Zs = List.replicate 512 0 := by rw [← hZs, L_strOf]
  have hcmp := beq_L B Zs
  rw [hLZ, hB] at hcmp
  have hcvZ : ∀ {g : Nat} {W : World}, BRow g (.slice (some ⟨g, 0, none⟩) 512 512) (List.replicate 512 0) W → (convert 43 9 (.slice (some ⟨g, 0, none⟩) 512 512)).run Try.prog W = .ok (.string Zs) W := fun hr => by
    rw [← hZs]
    exact hr.str
  have zB : B.size = 512 := by rw [← size_L, hB, hBl]
  replace hBB := Lib.hid hBB
  clear hR hb hLZ hZs hS
  have hT : BlkIs (w.alloc (.cells #[.string ⟨#[]⟩, .int .i64 0, .int .i64 0, .int .i64 0, .int .i64 0, .int .i64 0, .int .u8 0, .string ⟨#[]⟩, .string ⟨#[]⟩, .string ⟨#[]⟩, .int .i64 0, .int .i64 0, .string ⟨#[]⟩, .int .i64 0] 29)) w.heap.size 29 #[.string ⟨#[]⟩, .int .i64 0, .int .i64 0, .int .i64 0, .int .i64 0, .int .i64 0, .int .u8 0, .string ⟨#[]⟩, .string ⟨#[]⟩, .string ⟨#[]⟩, .int .i64 0, .int .i64 0, .string ⟨#[]⟩, .int .i64 0] := BlkIs.made _ _ _
  rw [if_neg hz] at hR2
  rw [decide_eq_false hz] at hcmp
  obtain ⟨G, hG⟩ : ∃ G, guess b = G := ⟨_, rfl⟩
  rw [hG] at hR2
  have I : Ints G := guess_ints hG
  have hput := Lib.hid (refPut_any G I)
  have hcmp2 := beq_L (strOf (putH G)) B
  rw [L_strOf, hB] at hcmp2
  have hokG : okB b = decide (putH G = b) := by unfold okB; rw [hG]
  rw [hokG] at hR2
  have hex : ∀ i j, j ≤ 512 → L (B.extract i j) = cut b i j := by
    intro i j hj
    show (B.extract i j).data.toList = _
    rw [Lib.extract_data]
    have : B.data.toList = b := hB
    rw [this]
    unfold cut
    rw [List.drop_take]
  have hez : ∀ i j, j ≤ 512 → (B.extract i j).size ≤ 512 := by
    intro i j hj
    rw [← size_L, hex i j hj]
    simp [cut]
    omega
  have cname := fun w => rtext_any (B.extract 0 100) (by have := hez 0 100 (by omega); omega) w
  rw [hex 0 100 (by omega), show strOf (upto (cut b 0 100)) = G.name by rw [← hG]; rfl] at cname
  replace cname : Hid (∀ w, Calls Try.prog 26 #[.string (B.extract 0 100)] w fun e w' => e = .returned (.string G.name) ∧ Below w.heap.size w w') := Lib.hid (fun w => (cname w).mono fun e w' ⟨he, hw⟩ => ⟨he, hw ▸ Below.refl _ _⟩)
  obtain ⟨qmode, hqmode⟩ : ∃ q, (rdFld (cut b 100 108)).isSome = q := ⟨_, rfl⟩
  have cmode : Hid (∀ w, Calls Try.prog 27 #[.string (B.extract 100 108)] w fun e w' => e = .returned (.agg #[.int .i64 G.mode, .bool qmode]) ∧ Below w.heap.size w w') := Lib.hid (fun w => by
    have h := refReadField_any (B.extract 100 108) w
    rw [show (B.extract 100 108).data.toList = cut b 100 108 from hex 100 108 (by omega)] at h
    have e1 : numV (rdFld (cut b 100 108)) = .agg #[.int .i64 G.mode, .bool qmode] := by rw [← hG, ← hqmode]; rfl
    rw [e1] at h
    exact h)
  obtain ⟨quid, hquid⟩ : ∃ q, (rdFld (cut b 108 116)).isSome = q := ⟨_, rfl⟩
  have cuid : Hid (∀ w, Calls Try.prog 27 #[.string (B.extract 108 116)] w fun e w' => e = .returned (.agg #[.int .i64 G.uid, .bool quid]) ∧ Below w.heap.size w w') := Lib.hid (fun w => by
    have h := refReadField_any (B.extract 108 116) w
    rw [show (B.extract 108 116).data.toList = cut b 108 116 from hex 108 116 (by omega)] at h
    have e1 : numV (rdFld (cut b 108 116)) = .agg #[.int .i64 G.uid, .bool quid] := by rw [← hG, ← hquid]; rfl
    rw [e1] at h
    exact h)
  obtain ⟨qgid, hqgid⟩ : ∃ q, (rdFld (cut b 116 124)).isSome = q := ⟨_, rfl⟩
  have cgid : Hid (∀ w, Calls Try.prog 27 #[.string (B.extract 116 124)] w fun e w' => e = .returned (.agg #[.int .i64 G.gid, .bool qgid]) ∧ Below w.heap.size w w') := Lib.hid (fun w => by
    have h := refReadField_any (B.extract 116 124) w
    rw [show (B.extract 116 124).data.toList = cut b 116 124 from hex 116 124 (by omega)] at h
    have e1 : numV (rdFld (cut b 116 124)) = .agg #[.int .i64 G.gid, .bool qgid] := by rw [← hG, ← hqgid]; rfl
    rw [e1] at h
    exact h)
  obtain ⟨qsize, hqsize⟩ : ∃ q, (rdFld (cut b 124 136)).isSome = q := ⟨_, rfl⟩
  have csize : Hid (∀ w, Calls Try.prog 27 #[.string (B.extract 124 136)] w fun e w' => e = .returned (.agg #[.int .i64 G.size, .bool qsize]) ∧ Below w.heap.size w w') := Lib.hid (fun w => by
    have h := refReadField_any (B.extract 124 136) w
    rw [show (B.extract 124 136).data.toList = cut b 124 136 from hex 124 136 (by omega)] at h
    have e1 : numV (rdFld (cut b 124 136)) = .agg #[.int .i64 G.size, .bool qsize] := by rw [← hG, ← hqsize]; rfl
    rw [e1] at h
    exact h)
  obtain ⟨qmtime, hqmtime⟩ : ∃ q, (rdFld (cut b 136 148)).isSome = q := ⟨_, rfl⟩
  have cmtime : Hid (∀ w, Calls Try.prog 27 #[.string (B.extract 136 148)] w fun e w' => e = .returned (.agg #[.int .i64 G.mtime, .bool qmtime]) ∧ Below w.heap.size w w') := Lib.hid (fun w => by
    have h := refReadField_any (B.extract 136 148) w
    rw [show (B.extract 136 148).data.toList = cut b 136 148 from hex 136 148 (by omega)] at h
    have e1 : numV (rdFld (cut b 136 148)) = .agg #[.int .i64 G.mtime, .bool qmtime] := by rw [← hG, ← hqmtime]; rfl
    rw [e1] at h
    exact h)
  have clink := fun w => rtext_any (B.extract 157 257) (by have := hez 157 257 (by omega); omega) w
  rw [hex 157 257 (by omega), show strOf (upto (cut b 157 257)) = G.link by rw [← hG]; rfl] at clink
  replace clink : Hid (∀ w, Calls Try.prog 26 #[.string (B.extract 157 257)] w fun e w' => e = .returned (.string G.link) ∧ Below w.heap.size w w') := Lib.hid (fun w => (clink w).mono fun e w' ⟨he, hw⟩ => ⟨he, hw ▸ Below.refl _ _⟩)
  have cuname := fun w => rtext_any (B.extract 265 297) (by have := hez 265 297 (by omega); omega) w
  rw [hex 265 297 (by omega), show strOf (upto (cut b 265 297)) = G.uname by rw [← hG]; rfl] at cuname
  replace cuname : Hid (∀ w, Calls Try.prog 26 #[.string (B.extract 265 297)] w fun e w' => e = .returned (.string G.uname) ∧ Below w.heap.size w w') := Lib.hid (fun w => (cuname w).mono fun e w' ⟨he, hw⟩ => ⟨he, hw ▸ Below.refl _ _⟩)
  have cgname := fun w => rtext_any (B.extract 297 329) (by have := hez 297 329 (by omega); omega) w
  rw [hex 297 329 (by omega), show strOf (upto (cut b 297 329)) = G.gname by rw [← hG]; rfl] at cgname
  replace cgname : Hid (∀ w, Calls Try.prog 26 #[.string (B.extract 297 329)] w fun e w' => e = .returned (.string G.gname) ∧ Below w.heap.size w w') := Lib.hid (fun w => (cgname w).mono fun e w' ⟨he, hw⟩ => ⟨he, hw ▸ Below.refl _ _⟩)
  obtain ⟨qmajor, hqmajor⟩ : ∃ q, (rdFld (cut b 329 337)).isSome = q := ⟨_, rfl⟩
  have cmajor : Hid (∀ w, Calls Try.prog 27 #[.string (B.extract 329 337)] w fun e w' => e = .returned (.agg #[.int .i64 G.major, .bool qmajor]) ∧ Below w.heap.size w w') := Lib.hid (fun w => by
    have h := refReadField_any (B.extract 329 337) w
    rw [show (B.extract 329 337).data.toList = cut b 329 337 from hex 329 337 (by omega)] at h
    have e1 : numV (rdFld (cut b 329 337)) = .agg #[.int .i64 G.major, .bool qmajor] := by rw [← hG, ← hqmajor]; rfl
    rw [e1] at h
    exact h)
  obtain ⟨qminor, hqminor⟩ : ∃ q, (rdFld (cut b 337 345)).isSome = q := ⟨_, rfl⟩
  have cminor : Hid (∀ w, Calls Try.prog 27 #[.string (B.extract 337 345)] w fun e w' => e = .returned (.agg #[.int .i64 G.minor, .bool qminor]) ∧ Below w.heap.size w w') := Lib.hid (fun w => by
    have h := refReadField_any (B.extract 337 345) w
    rw [show (B.extract 337 345).data.toList = cut b 337 345 from hex 337 345 (by omega)] at h
    have e1 : numV (rdFld (cut b 337 345)) = .agg #[.int .i64 G.minor, .bool qminor] := by rw [← hG, ← hqminor]; rfl
    rw [e1] at h
    exact h)
  have cpre := fun w => rtext_any (B.extract 345 500) (by have := hez 345 500 (by omega); omega) w
  rw [hex 345 500 (by omega), show strOf (upto (cut b 345 500)) = G.pre by rw [← hG]; rfl] at cpre
  replace cpre : Hid (∀ w, Calls Try.prog 26 #[.string (B.extract 345 500)] w fun e w' => e = .returned (.string G.pre) ∧ Below w.heap.size w w') := Lib.hid (fun w => (cpre w).mono fun e w' ⟨he, hw⟩ => ⟨he, hw ▸ Below.refl _ _⟩)
  have hidx : ∀ w, (Instr.index 9 (.string B) (.int .i64 156)).run Try.prog w = .ok (.int .u8 (G.typ.toNat : Int)) w := by
    obtain ⟨c, hc, hi⟩ := idxAt Try.underlying9 B 156 (by omega)
    have e2 : G.typ = c := by rw [← hG]; show b.getD 156 0 = c; rw [← hB]; simp [List.getD_eq_getElem?_getD, hc]
    rw [e2]
    exact hi
  clear hex hez hqmode hquid hqgid hqsize hqmtime hqmajor hqminor hG hB hBl hokG hz I
  replace hcmp2 := Lib.hid hcmp2
  replace hR2 := Lib.hid hR2
  go_enter Try.func11, Try.ntmps11
  go_wp2_with (at_make; refine wp_make rfl _ _ rfl _ 512 512 512 rfl rfl rfl rfl (by omega) ?_)
  rw [hBB.out]
  intro w1 hr hb1 hx
  clear hx
  have hcv := hcvZ hr
  have hT1 := hT.kept hb1 (Nat.lt_succ_self _)
  have hB1 : Below w.heap.size w w1 := ((Below.refl w.heap.size w).alloc (Nat.le_refl _) _).trans (hb1.mono (Nat.le_succ _))
  clear hr hb1 hT
  go_wp2_with fail
  refine region_lastqL (S := fun W => Below w.heap.size w W ∧ BlkIs W w.heap.size 29 #[.string ⟨#[]⟩, .int .i64 0, .int .i64 0, .int .i64 0, .int .i64 0, .int .i64 0, .int .u8 0, .string ⟨#[]⟩, .string ⟨#[]⟩, .string ⟨#[]⟩, .int .i64 0, .int .i64 0, .string ⟨#[]⟩, .int .i64 0]) 47
    [(fun W v => v = .string B),
     (fun W v => v = .string (B.extract 0 100)),
     (fun W v => v = .string G.name),
     (fun W v => v = .string B),
     (fun W v => v = .string (B.extract 100 108)),
     (fun W v => v = .agg #[.int .i64 G.mode, .bool qmode]),
     (fun W v => v = .int .i64 G.mode),
     (fun W v => v = .string B),
     (fun W v => v = .string (B.extract 108 116)),
     (fun W v => v = .agg #[.int .i64 G.uid, .bool quid]),
     (fun W v => v = .int .i64 G.uid),
     (fun W v => v = .string B),
     (fun W v => v = .string (B.extract 116 124)),
     (fun W v => v = .agg #[.int .i64 G.gid, .bool qgid]),
     (fun W v => v = .int .i64 G.gid),
     (fun W v => v = .string B),
     (fun W v => v = .string (B.extract 124 136)),
     (fun W v => v = .agg #[.int .i64 G.size, .bool qsize]),
     (fun W v => v = .int .i64 G.size),
     (fun W v => v = .string B),
     (fun W v => v = .string (B.extract 136 148)),
     (fun W v => v = .agg #[.int .i64 G.mtime, .bool qmtime]),
     (fun W v => v = .int .i64 G.mtime),
     (fun W v => v = .string B),
     (fun W v => v = .int .u8 (G.typ.toNat : Int)),
     (fun W v => v = .string B),
     (fun W v => v = .string (B.extract 157 257)),
     (fun W v => v = .string G.link),
     (fun W v => v = .string B),
     (fun W v => v = .string (B.extract 265 297)),
     (fun W v => v = .string G.uname),
     (fun W v => v = .string B),
     (fun W v => v = .string (B.extract 297 329)),
     (fun W v => v = .string G.gname),
     (fun W v => v = .string B),
     (fun W v => v = .string (B.extract 329 337)),
     (fun W v => v = .agg #[.int .i64 G.major, .bool qmajor]),
     (fun W v => v = .int .i64 G.major),
     (fun W v => v = .string B),
     (fun W v => v = .string (B.extract 337 345)),
     (fun W v => v = .agg #[.int .i64 G.minor, .bool qminor]),
     (fun W v => v = .int .i64 G.minor),
     (fun W v => v = .string B),
     (fun W v => v = .string (B.extract 345 500)),
     (fun W v => v = .string G.pre),
     (fun W v => v = .agg #[.string G.name, .int .i64 G.mode, .int .i64 G.uid, .int .i64 G.gid, .int .i64 G.size, .int .i64 G.mtime, .int .u8 (G.typ.toNat : Int), .string G.link, .string G.uname, .string G.gname, .int .i64 G.major, .int .i64 G.minor, .string G.pre]),
     (fun W v => ∃ g, v = .pointer (some ⟨g, 0, none⟩) ∧ w.heap.size ≤ g ∧ BlkIs W g 23 #[.string ⟨#[]⟩, .int .i64 0, .int .i64 0, .int .i64 0, .int .i64 0, .int .i64 0, .int .u8 0, .string ⟨#[]⟩, .string ⟨#[]⟩, .string ⟨#[]⟩, .int .i64 0, .int .i64 0, .string ⟨#[]⟩])] (by rfl) (by kernel_rfl) (by kernel_rfl) (by kernel_rfl) (by kernel_rfl) (by rfl) (by kernel_rfl) ?hS ?hp ?hs ?he
  case hS => exact ⟨gr_drew hB1, hT1⟩
  case hp => repeat' (first | exact trivial | refine ⟨fun _ _ _ _ h => h, ?_⟩ | refine ⟨fun _ _ _ hb ⟨g, h1, h2, h3⟩ => ⟨g, h1, h2, h3.kept hb h3.size⟩, ?_⟩)
  case hs =>
    simp only [List.take_succ_cons, List.take_zero]
    refine ⟨?_, ?_, ?_, ?_, ?_, ?_, ?_, ?_, ?_, ?_, ?_, ?_, ?_, ?_, ?_, ?_, ?_, ?_, ?_, ?_, ?_, ?_, ?_, ?_, ?_, ?_, ?_, ?_, ?_, ?_, ?_, ?_, ?_, ?_, ?_, ?_, ?_, ?_, ?_, ?_, ?_, ?_, ?_, ?_, ?_, ?_, ?_, trivial⟩
    · intro a W K hS hd hf hK
      have e0 : a.tmps.getD 0 undef = .string B := hf 0 (by kernel_rfl)
      clear hd hf
      go_simp
      exact hK _ _ (Below.refl _ _) hS rfl
    · intro a W K hS hd hf hK
      have e15 : a.tmps.getD 15 undef = .string B := hd ⟨0, .data⟩ (by simp) rfl
      clear hd hf
      go_simp
      exact hK _ _ (Below.refl _ _) hS rfl
    · intro a W K hS hd hf hK
      have e16 : a.tmps.getD 16 undef = .string (B.extract 0 100) := hd ⟨1, .data⟩ (by simp) rfl
      clear hd hf
      go_simp
      go_at_call 26
      refine (cname.out _).mono ?_
      rintro e w1 ⟨rfl, hb⟩
      exact hK _ _ hb ⟨gr_call hS.1 hb, hS.2.kept hb hS.2.size⟩ rfl
    · intro a W K hS hd hf hK
      have e0 : a.tmps.getD 0 undef = .string B := hf 0 (by kernel_rfl)
      clear hd hf
      go_simp
      exact hK _ _ (Below.refl _ _) hS rfl
    · intro a W K hS hd hf hK
      have e18 : a.tmps.getD 18 undef = .string B := hd ⟨3, .data⟩ (by simp) rfl
      clear hd hf
      go_simp
      exact hK _ _ (Below.refl _ _) hS rfl
    · intro a W K hS hd hf hK
      have e19 : a.tmps.getD 19 undef = .string (B.extract 100 108) := hd ⟨4, .data⟩ (by simp) rfl
      clear hd hf
      go_simp
      go_at_call 27
      refine (cmode.out _).mono ?_
      rintro e w1 ⟨rfl, hb⟩
      exact hK _ _ hb ⟨gr_call hS.1 hb, hS.2.kept hb hS.2.size⟩ rfl
    · intro a W K hS hd hf hK
      have e20 : a.tmps.getD 20 undef = .agg #[.int .i64 G.mode, .bool qmode] := hd ⟨5, .data⟩ (by simp) rfl
      have hfld := fldn
      clear hd hf
      go_simp
      exact hK _ _ (Below.refl _ _) hS rfl
    · intro a W K hS hd hf hK
      have e0 : a.tmps.getD 0 undef = .string B := hf 0 (by kernel_rfl)
      clear hd hf
      go_simp
      exact hK _ _ (Below.refl _ _) hS rfl
    · intro a W K hS hd hf hK
      have e22 : a.tmps.getD 22 undef = .string B := hd ⟨7, .data⟩ (by simp) rfl
      clear hd hf
      go_simp
      exact hK _ _ (Below.refl _ _) hS rfl
    · intro a W K hS hd hf hK
      have e23 : a.tmps.getD 23 undef = .string (B.extract 108 116) := hd ⟨8, .data⟩ (by simp) rfl
      clear hd hf
      go_simp
      go_at_call 27
      refine (cuid.out _).mono ?_
      rintro e w1 ⟨rfl, hb⟩
      exact hK _ _ hb ⟨gr_call hS.1 hb, hS.2.kept hb hS.2.size⟩ rfl
    · intro a W K hS hd hf hK
      have e24 : a.tmps.getD 24 undef = .agg #[.int .i64 G.uid, .bool quid] := hd ⟨9, .data⟩ (by simp) rfl
      have hfld := fldn
      clear hd hf
      go_simp
      exact hK _ _ (Below.refl _ _) hS rfl
    · intro a W K hS hd hf hK
      have e0 : a.tmps.getD 0 undef = .string B := hf 0 (by kernel_rfl)
      clear hd hf
      go_simp
      exact hK _ _ (Below.refl _ _) hS rfl
    · intro a W K hS hd hf hK
      have e26 : a.tmps.getD 26 undef = .string B := hd ⟨11, .data⟩ (by simp) rfl
      clear hd hf
      go_simp
      exact hK _ _ (Below.refl _ _) hS rfl
    · intro a W K hS hd hf hK
      have e27 : a.tmps.getD 27 undef = .string (B.extract 116 124) := hd ⟨12, .data⟩ (by simp) rfl
      clear hd hf
      go_simp
      go_at_call 27
      refine (cgid.out _).mono ?_
      rintro e w1 ⟨rfl, hb⟩
      exact hK _ _ hb ⟨gr_call hS.1 hb, hS.2.kept hb hS.2.size⟩ rfl
    · intro a W K hS hd hf hK
      have e28 : a.tmps.getD 28 undef = .agg #[.int .i64 G.gid, .bool qgid] := hd ⟨13, .data⟩ (by simp) rfl
      have hfld := fldn
      clear hd hf
      go_simp
      exact hK _ _ (Below.refl _ _) hS rfl
    · intro a W K hS hd hf hK
      have e0 : a.tmps.getD 0 undef = .string B := hf 0 (by kernel_rfl)
      clear hd hf
      go_simp
      exact hK _ _ (Below.refl _ _) hS rfl
    · intro a W K hS hd hf hK
      have e30 : a.tmps.getD 30 undef = .string B := hd ⟨15, .data⟩ (by simp) rfl
      clear hd hf
      go_simp
      exact hK _ _ (Below.refl _ _) hS rfl
    · intro a W K hS hd hf hK
      have e31 : a.tmps.getD 31 undef = .string (B.extract 124 136) := hd ⟨16, .data⟩ (by simp) rfl
      clear hd hf
      go_simp
      go_at_call 27
      refine (csize.out _).mono ?_
      rintro e w1 ⟨rfl, hb⟩
      exact hK _ _ hb ⟨gr_call hS.1 hb, hS.2.kept hb hS.2.size⟩ rfl
    · intro a W K hS hd hf hK
      have e32 : a.tmps.getD 32 undef = .agg #[.int .i64 G.size, .bool qsize] := hd ⟨17, .data⟩ (by simp) rfl
      have hfld := fldn
      clear hd hf
      go_simp
      exact hK _ _ (Below.refl _ _) hS rfl
    · intro a W K hS hd hf hK
      have e0 : a.tmps.getD 0 undef = .string B := hf 0 (by kernel_rfl)
      clear hd hf
      go_simp
      exact hK _ _ (Below.refl _ _) hS rfl
    · intro a W K hS hd hf hK
      have e34 : a.tmps.getD 34 undef = .string B := hd ⟨19, .data⟩ (by simp) rfl
      clear hd hf
      go_simp
      exact hK _ _ (Below.refl _ _) hS rfl
    · intro a W K hS hd hf hK
      have e35 : a.tmps.getD 35 undef = .string (B.extract 136 148) := hd ⟨20, .data⟩ (by simp) rfl
      clear hd hf
      go_simp
      go_at_call 27
      refine (cmtime.out _).mono ?_
      rintro e w1 ⟨rfl, hb⟩
      exact hK _ _ hb ⟨gr_call hS.1 hb, hS.2.kept hb hS.2.size⟩ rfl
    · intro a W K hS hd hf hK
      have e36 : a.tmps.getD 36 undef = .agg #[.int .i64 G.mtime, .bool qmtime] := hd ⟨21, .data⟩ (by simp) rfl
      have hfld := fldn
      clear hd hf
      go_simp
      exact hK _ _ (Below.refl _ _) hS rfl
    · intro a W K hS hd hf hK
      have e0 : a.tmps.getD 0 undef = .string B := hf 0 (by kernel_rfl)
      clear hd hf
      go_simp
      exact hK _ _ (Below.refl _ _) hS rfl
    · intro a W K hS hd hf hK
      have e38 : a.tmps.getD 38 undef = .string B := hd ⟨23, .data⟩ (by simp) rfl
      have hix := hidx
      clear hd hf
      go_simp
      exact hK _ _ (Below.refl _ _) hS rfl
    · intro a W K hS hd hf hK
      have e0 : a.tmps.getD 0 undef = .string B := hf 0 (by kernel_rfl)
      clear hd hf
      go_simp
      exact hK _ _ (Below.refl _ _) hS rfl
    · intro a W K hS hd hf hK
      have e40 : a.tmps.getD 40 undef = .string B := hd ⟨25, .data⟩ (by simp) rfl
      clear hd hf
      go_simp
      exact hK _ _ (Below.refl _ _) hS rfl
    · intro a W K hS hd hf hK
      have e41 : a.tmps.getD 41 undef = .string (B.extract 157 257) := hd ⟨26, .data⟩ (by simp) rfl
      clear hd hf
      go_simp
      go_at_call 26
      refine (clink.out _).mono ?_
      rintro e w1 ⟨rfl, hb⟩
      exact hK _ _ hb ⟨gr_call hS.1 hb, hS.2.kept hb hS.2.size⟩ rfl
    · intro a W K hS hd hf hK
      have e0 : a.tmps.getD 0 undef = .string B := hf 0 (by kernel_rfl)
      clear hd hf
      go_simp
      exact hK _ _ (Below.refl _ _) hS rfl
    · intro a W K hS hd hf hK
      have e43 : a.tmps.getD 43 undef = .string B := hd ⟨28, .data⟩ (by simp) rfl
      clear hd hf
      go_simp
      exact hK _ _ (Below.refl _ _) hS rfl
    · intro a W K hS hd hf hK
      have e44 : a.tmps.getD 44 undef = .string (B.extract 265 297) := hd ⟨29, .data⟩ (by simp) rfl
      clear hd hf
      go_simp
      go_at_call 26
      refine (cuname.out _).mono ?_
      rintro e w1 ⟨rfl, hb⟩
      exact hK _ _ hb ⟨gr_call hS.1 hb, hS.2.kept hb hS.2.size⟩ rfl
    · intro a W K hS hd hf hK
      have e0 : a.tmps.getD 0 undef = .string B := hf 0 (by kernel_rfl)
      clear hd hf
      go_simp
      exact hK _ _ (Below.refl _ _) hS rfl
    · intro a W K hS hd hf hK
      have e46 : a.tmps.getD 46 undef = .string B := hd ⟨31, .data⟩ (by simp) rfl
      clear hd hf
      go_simp
      exact hK _ _ (Below.refl _ _) hS rfl
    · intro a W K hS hd hf hK
      have e47 : a.tmps.getD 47 undef = .string (B.extract 297 329) := hd ⟨32, .data⟩ (by simp) rfl
      clear hd hf
      go_simp
      go_at_call 26
      refine (cgname.out _).mono ?_
      rintro e w1 ⟨rfl, hb⟩
      exact hK _ _ hb ⟨gr_call hS.1 hb, hS.2.kept hb hS.2.size⟩ rfl
    · intro a W K hS hd hf hK
      have e0 : a.tmps.getD 0 undef = .string B := hf 0 (by kernel_rfl)
      clear hd hf
      go_simp
      exact hK _ _ (Below.refl _ _) hS rfl
    · intro a W K hS hd hf hK
      have e49 : a.tmps.getD 49 undef = .string B := hd ⟨34, .data⟩ (by simp) rfl
      clear hd hf
      go_simp
      exact hK _ _ (Below.refl _ _) hS rfl
    · intro a W K hS hd hf hK
      have e50 : a.tmps.getD 50 undef = .string (B.extract 329 337) := hd ⟨35, .data⟩ (by simp) rfl
      clear hd hf
      go_simp
      go_at_call 27
      refine (cmajor.out _).mono ?_
      rintro e w1 ⟨rfl, hb⟩
      exact hK _ _ hb ⟨gr_call hS.1 hb, hS.2.kept hb hS.2.size⟩ rfl
    · intro a W K hS hd hf hK
      have e51 : a.tmps.getD 51 undef = .agg #[.int .i64 G.major, .bool qmajor] := hd ⟨36, .data⟩ (by simp) rfl
      have hfld := fldn
      clear hd hf
      go_simp
      exact hK _ _ (Below.refl _ _) hS rfl
    · intro a W K hS hd hf hK
      have e0 : a.tmps.getD 0 undef = .string B := hf 0 (by kernel_rfl)
      clear hd hf
      go_simp
      exact hK _ _ (Below.refl _ _) hS rfl
    · intro a W K hS hd hf hK
      have e53 : a.tmps.getD 53 undef = .string B := hd ⟨38, .data⟩ (by simp) rfl
      clear hd hf
      go_simp
      exact hK _ _ (Below.refl _ _) hS rfl
    · intro a W K hS hd hf hK
      have e54 : a.tmps.getD 54 undef = .string (B.extract 337 345) := hd ⟨39, .data⟩ (by simp) rfl
      clear hd hf
      go_simp
      go_at_call 27
      refine (cminor.out _).mono ?_
      rintro e w1 ⟨rfl, hb⟩
      exact hK _ _ hb ⟨gr_call hS.1 hb, hS.2.kept hb hS.2.size⟩ rfl
    · intro a W K hS hd hf hK
      have e55 : a.tmps.getD 55 undef = .agg #[.int .i64 G.minor, .bool qminor] := hd ⟨40, .data⟩ (by simp) rfl
      have hfld := fldn
      clear hd hf
      go_simp
      exact hK _ _ (Below.refl _ _) hS rfl
    · intro a W K hS hd hf hK
      have e0 : a.tmps.getD 0 undef = .string B := hf 0 (by kernel_rfl)
      clear hd hf
      go_simp
      exact hK _ _ (Below.refl _ _) hS rfl
    · intro a W K hS hd hf hK
      have e57 : a.tmps.getD 57 undef = .string B := hd ⟨42, .data⟩ (by simp) rfl
      clear hd hf
      go_simp
      exact hK _ _ (Below.refl _ _) hS rfl
    · intro a W K hS hd hf hK
      have e58 : a.tmps.getD 58 undef = .string (B.extract 345 500) := hd ⟨43, .data⟩ (by simp) rfl
      clear hd hf
      go_simp
      go_at_call 26
      refine (cpre.out _).mono ?_
      rintro e w1 ⟨rfl, hb⟩
      exact hK _ _ hb ⟨gr_call hS.1 hb, hS.2.kept hb hS.2.size⟩ rfl
    · intro a W K hS hd hf hK
      have e17 : a.tmps.getD 17 undef = .string G.name := hd ⟨2, .data⟩ (by simp) rfl
      have e21 : a.tmps.getD 21 undef = .int .i64 G.mode := hd ⟨6, .data⟩ (by simp) rfl
      have e25 : a.tmps.getD 25 undef = .int .i64 G.uid := hd ⟨10, .data⟩ (by simp) rfl
      have e29 : a.tmps.getD 29 undef = .int .i64 G.gid := hd ⟨14, .data⟩ (by simp) rfl
      have e33 : a.tmps.getD 33 undef = .int .i64 G.size := hd ⟨18, .data⟩ (by simp) rfl
      have e37 : a.tmps.getD 37 undef = .int .i64 G.mtime := hd ⟨22, .data⟩ (by simp) rfl
      have e39 : a.tmps.getD 39 undef = .int .u8 (G.typ.toNat : Int) := hd ⟨24, .data⟩ (by simp) rfl
      have e42 : a.tmps.getD 42 undef = .string G.link := hd ⟨27, .data⟩ (by simp) rfl
      have e45 : a.tmps.getD 45 undef = .string G.uname := hd ⟨30, .data⟩ (by simp) rfl
      have e48 : a.tmps.getD 48 undef = .string G.gname := hd ⟨33, .data⟩ (by simp) rfl
      have e52 : a.tmps.getD 52 undef = .int .i64 G.major := hd ⟨37, .data⟩ (by simp) rfl
      have e56 : a.tmps.getD 56 undef = .int .i64 G.minor := hd ⟨41, .data⟩ (by simp) rfl
      have e59 : a.tmps.getD 59 undef = .string G.pre := hd ⟨44, .data⟩ (by simp) rfl
      have hbd := buildH G.name G.mode G.uid G.gid G.size G.mtime (G.typ.toNat : Int) G.link G.uname G.gname G.major G.minor G.pre
      have f17 := e17
      rw [Array.getD_eq_getD_getElem?] at f17
      have f21 := e21
      rw [Array.getD_eq_getD_getElem?] at f21
      have f25 := e25
      rw [Array.getD_eq_getD_getElem?] at f25
      have f29 := e29
      rw [Array.getD_eq_getD_getElem?] at f29
      have f33 := e33
      rw [Array.getD_eq_getD_getElem?] at f33
      have f37 := e37
      rw [Array.getD_eq_getD_getElem?] at f37
      have f39 := e39
      rw [Array.getD_eq_getD_getElem?] at f39
      have f42 := e42
      rw [Array.getD_eq_getD_getElem?] at f42
      have f45 := e45
      rw [Array.getD_eq_getD_getElem?] at f45
      have f48 := e48
      rw [Array.getD_eq_getD_getElem?] at f48
      have f52 := e52
      rw [Array.getD_eq_getD_getElem?] at f52
      have f56 := e56
      rw [Array.getD_eq_getD_getElem?] at f56
      have f59 := e59
      rw [Array.getD_eq_getD_getElem?] at f59
      clear hd hf
      go_simp
      exact hK _ _ (Below.refl _ _) hS rfl
    · intro a W K hS hd hf hK
      clear hd hf
      go_simp
      exact hK _ _ ((Below.refl _ _).alloc (Nat.le_refl _) _) ⟨gr_alloc hS.1 _, hS.2.alloc _⟩ ⟨_, rfl, hS.1.size, BlkIs.made _ _ _⟩
  case he =>
    intro vals w2 K hS2 hV hK
    have e45 := hV 45 (by omega)
    have e46 := hV 46 (by omega)
    clear hV
    simp only [List.getD_cons_succ, List.getD_cons_zero] at e45 e46
    obtain ⟨g, e46, hg, hblk⟩ := e46
    obtain ⟨hB2, hT2⟩ := hS2
    have hne : w.heap.size ≠ g := by
      intro e
      have h5 := hT2
      rw [e] at h5
      unfold BlkIs at h5 hblk
      rw [hblk] at h5
      simp at h5
    refine Later.mk ?_
    simp only [setN, Nat.reduceAdd, List.setIfInBounds_toArray, List.set_cons_succ, List.set_cons_zero]
    rw [e46, e45]
    have k0 := hblk.cell_some 0 _ rfl
    have f0 := hblk.free 0
    have k1 := hblk.cell_some 1 _ rfl
    have f1 := hblk.free 1
    have k2 := hblk.cell_some 2 _ rfl
    have f2 := hblk.free 2
    have k3 := hblk.cell_some 3 _ rfl
    have f3 := hblk.free 3
    have k4 := hblk.cell_some 4 _ rfl
    have f4 := hblk.free 4
    have k5 := hblk.cell_some 5 _ rfl
    have f5 := hblk.free 5
    have k6 := hblk.cell_some 6 _ rfl
    have f6 := hblk.free 6
    have k7 := hblk.cell_some 7 _ rfl
    have f7 := hblk.free 7
    have k8 := hblk.cell_some 8 _ rfl
    have f8 := hblk.free 8
    have k9 := hblk.cell_some 9 _ rfl
    have f9 := hblk.free 9
    have k10 := hblk.cell_some 10 _ rfl
    have f10 := hblk.free 10
    have k11 := hblk.cell_some 11 _ rfl
    have f11 := hblk.free 11
    have k12 := hblk.cell_some 12 _ rfl
    have f12 := hblk.free 12
    clear hT1 hB1 e46 e45 hcv hcmp cname cmode cuid cgid csize cmtime clink cuname cgname cmajor cminor cpre
    go_simp
    obtain ⟨W, hW⟩ : ∃ W, ((((((((((((w2.setCell ⟨g, 0, none⟩ (.string G.name)).setCell ⟨g, 1, none⟩ (.int .i64 G.mode)).setCell ⟨g, 2, none⟩ (.int .i64 G.uid)).setCell ⟨g, 3, none⟩ (.int .i64 G.gid)).setCell ⟨g, 4, none⟩ (.int .i64 G.size)).setCell ⟨g, 5, none⟩ (.int .i64 G.mtime)).setCell ⟨g, 6, none⟩ (.int .u8 (G.typ.toNat : Int))).setCell ⟨g, 7, none⟩ (.string G.link)).setCell ⟨g, 8, none⟩ (.string G.uname)).setCell ⟨g, 9, none⟩ (.string G.gname)).setCell ⟨g, 10, none⟩ (.int .i64 G.major)).setCell ⟨g, 11, none⟩ (.int .i64 G.minor)).setCell ⟨g, 12, none⟩ (.string G.pre) = W := ⟨_, rfl⟩
    have hgW : BlkIs W g 23 #[.string G.name, .int .i64 G.mode, .int .i64 G.uid, .int .i64 G.gid, .int .i64 G.size, .int .i64 G.mtime, .int .u8 (G.typ.toNat : Int), .string G.link, .string G.uname, .string G.gname, .int .i64 G.major, .int .i64 G.minor, .string G.pre] := by
      rw [← hW]
      exact put13 (.string G.name) (.int .i64 G.mode) (.int .i64 G.uid) (.int .i64 G.gid) (.int .i64 G.size) (.int .i64 G.mtime) (.int .u8 (G.typ.toNat : Int)) (.string G.link) (.string G.uname) (.string G.gname) (.int .i64 G.major) (.int .i64 G.minor) (.string G.pre) hblk
    have hTW : BlkIs W w.heap.size 29 #[.string ⟨#[]⟩, .int .i64 0, .int .i64 0, .int .i64 0, .int .i64 0, .int .i64 0, .int .u8 0, .string ⟨#[]⟩, .string ⟨#[]⟩, .string ⟨#[]⟩, .int .i64 0, .int .i64 0, .string ⟨#[]⟩, .int .i64 0] := by
      rw [← hW]
      exact oth13 (.string G.name) (.int .i64 G.mode) (.int .i64 G.uid) (.int .i64 G.gid) (.int .i64 G.size) (.int .i64 G.mtime) (.int .u8 (G.typ.toNat : Int)) (.string G.link) (.string G.uname) (.string G.gname) (.int .i64 G.major) (.int .i64 G.minor) (.string G.pre) hne hT2
    have hBW : Below w.heap.size w W := by
      rw [← hW]
      exact gr_set (gr_set (gr_set (gr_set (gr_set (gr_set (gr_set (gr_set (gr_set (gr_set (gr_set (gr_set (gr_set (hB2) (p := ⟨g, 0, none⟩) hg (.string G.name)) (p := ⟨g, 1, none⟩) hg (.int .i64 G.mode)) (p := ⟨g, 2, none⟩) hg (.int .i64 G.uid)) (p := ⟨g, 3, none⟩) hg (.int .i64 G.gid)) (p := ⟨g, 4, none⟩) hg (.int .i64 G.size)) (p := ⟨g, 5, none⟩) hg (.int .i64 G.mtime)) (p := ⟨g, 6, none⟩) hg (.int .u8 (G.typ.toNat : Int))) (p := ⟨g, 7, none⟩) hg (.string G.link)) (p := ⟨g, 8, none⟩) hg (.string G.uname)) (p := ⟨g, 9, none⟩) hg (.string G.gname)) (p := ⟨g, 10, none⟩) hg (.int .i64 G.major)) (p := ⟨g, 11, none⟩) hg (.int .i64 G.minor)) (p := ⟨g, 12, none⟩) hg (.string G.pre)
    rw [hW]
    clear hW hblk hT2 hB2 k0 f0 k1 f1 k2 f2 k3 f3 k4 f4 k5 f5 k6 f6 k7 f7 k8 f8 k9 f9 k10 f10 k11 f11 k12 f12
    refine hK _ _ ?_
    have k0 := hgW.cell_some 0 _ rfl
    have k1 := hgW.cell_some 1 _ rfl
    have k2 := hgW.cell_some 2 _ rfl
    have k3 := hgW.cell_some 3 _ rfl
    have k4 := hgW.cell_some 4 _ rfl
    have k5 := hgW.cell_some 5 _ rfl
    have k6 := hgW.cell_some 6 _ rfl
    have k7 := hgW.cell_some 7 _ rfl
    have k8 := hgW.cell_some 8 _ rfl
    have k9 := hgW.cell_some 9 _ rfl
    have k10 := hgW.cell_some 10 _ rfl
    have k11 := hgW.cell_some 11 _ rfl
    have k12 := hgW.cell_some 12 _ rfl
    clear hK
    have hbg := buildGot G.name G.mode G.uid G.gid G.size G.mtime (G.typ.toNat : Int) G.link G.uname G.gname G.major G.minor G.pre
    go_wp2_with fail
    refine (hput.out _).mono ?_
    rintro e w3 ⟨rfl, hb3⟩
    have hg3 := hgW.kept hb3 hgW.size
    have hT3 := hTW.kept hb3 hTW.size
    have hB3 : Below w.heap.size w w3 := gr_call hBW hb3
    clear hgW hTW hBW hb3 k0 k1 k2 k3 k4 k5 k6 k7 k8 k9 k10 k11 k12
    have k0 := hT3.cell_some 0 _ rfl
    have kf0 := hT3.free 0
    have k1 := hT3.cell_some 1 _ rfl
    have kf1 := hT3.free 1
    have k2 := hT3.cell_some 2 _ rfl
    have kf2 := hT3.free 2
    have k3 := hT3.cell_some 3 _ rfl
    have kf3 := hT3.free 3
    have k4 := hT3.cell_some 4 _ rfl
    have kf4 := hT3.free 4
    have k5 := hT3.cell_some 5 _ rfl
    have kf5 := hT3.free 5
    have k6 := hT3.cell_some 6 _ rfl
    have kf6 := hT3.free 6
    have k7 := hT3.cell_some 7 _ rfl
    have kf7 := hT3.free 7
    have k8 := hT3.cell_some 8 _ rfl
    have kf8 := hT3.free 8
    have k9 := hT3.cell_some 9 _ rfl
    have kf9 := hT3.free 9
    have k10 := hT3.cell_some 10 _ rfl
    have kf10 := hT3.free 10
    have k11 := hT3.cell_some 11 _ rfl
    have kf11 := hT3.free 11
    have k12 := hT3.cell_some 12 _ rfl
    have kf12 := hT3.free 12
    have k13 := hT3.cell_some 13 _ rfl
    have kf13 := hT3.free 13
    have g0 := hg3.cell_some 0 _ rfl
    have g1 := hg3.cell_some 1 _ rfl
    have g2 := hg3.cell_some 2 _ rfl
    have g3 := hg3.cell_some 3 _ rfl
    have g4 := hg3.cell_some 4 _ rfl
    have g5 := hg3.cell_some 5 _ rfl
    have g6 := hg3.cell_some 6 _ rfl
    have g7 := hg3.cell_some 7 _ rfl
    have g8 := hg3.cell_some 8 _ rfl
    have g9 := hg3.cell_some 9 _ rfl
    have g10 := hg3.cell_some 10 _ rfl
    have g11 := hg3.cell_some 11 _ rfl
    have g12 := hg3.cell_some 12 _ rfl
    by_cases hq : putH G = b
    · have hc := hcmp2.out
      have hr := hR2.out
      rw [decide_eq_true hq] at hc
      rw [if_pos (decide_eq_true hq)] at hr
      have hres := Lib.hid hr
      clear hr hcmp2 hR2 hq
      go_wp2_with fail
      obtain ⟨W, hW⟩ : ∃ W, (((((((((((((w3.setCell ⟨w.heap.size, 0, none⟩ (.string G.name)).setCell ⟨w.heap.size, 1, none⟩ (.int .i64 G.mode)).setCell ⟨w.heap.size, 2, none⟩ (.int .i64 G.uid)).setCell ⟨w.heap.size, 3, none⟩ (.int .i64 G.gid)).setCell ⟨w.heap.size, 4, none⟩ (.int .i64 G.size)).setCell ⟨w.heap.size, 5, none⟩ (.int .i64 G.mtime)).setCell ⟨w.heap.size, 6, none⟩ (.int .u8 (G.typ.toNat : Int))).setCell ⟨w.heap.size, 7, none⟩ (.string G.link)).setCell ⟨w.heap.size, 8, none⟩ (.string G.uname)).setCell ⟨w.heap.size, 9, none⟩ (.string G.gname)).setCell ⟨w.heap.size, 10, none⟩ (.int .i64 G.major)).setCell ⟨w.heap.size, 11, none⟩ (.int .i64 G.minor)).setCell ⟨w.heap.size, 12, none⟩ (.string G.pre)).setCell ⟨w.heap.size, 13, none⟩ (.int .i64 0) = W := ⟨_, rfl⟩
      have hFW : BlkIs W w.heap.size 29 #[.string G.name, .int .i64 G.mode, .int .i64 G.uid, .int .i64 G.gid, .int .i64 G.size, .int .i64 G.mtime, .int .u8 (G.typ.toNat : Int), .string G.link, .string G.uname, .string G.gname, .int .i64 G.major, .int .i64 G.minor, .string G.pre, .int .i64 0] := by
        rw [← hW]
        exact put14 (.string G.name) (.int .i64 G.mode) (.int .i64 G.uid) (.int .i64 G.gid) (.int .i64 G.size) (.int .i64 G.mtime) (.int .u8 (G.typ.toNat : Int)) (.string G.link) (.string G.uname) (.string G.gname) (.int .i64 G.major) (.int .i64 G.minor) (.string G.pre) (.int .i64 0) hT3
      have hbW : Below w.heap.size w W := by
        rw [← hW]
        exact gr_set (gr_set (gr_set (gr_set (gr_set (gr_set (gr_set (gr_set (gr_set (gr_set (gr_set (gr_set (gr_set (gr_set (hB3) (p := ⟨w.heap.size, 0, none⟩) (Nat.le_refl _) (.string G.name)) (p := ⟨w.heap.size, 1, none⟩) (Nat.le_refl _) (.int .i64 G.mode)) (p := ⟨w.heap.size, 2, none⟩) (Nat.le_refl _) (.int .i64 G.uid)) (p := ⟨w.heap.size, 3, none⟩) (Nat.le_refl _) (.int .i64 G.gid)) (p := ⟨w.heap.size, 4, none⟩) (Nat.le_refl _) (.int .i64 G.size)) (p := ⟨w.heap.size, 5, none⟩) (Nat.le_refl _) (.int .i64 G.mtime)) (p := ⟨w.heap.size, 6, none⟩) (Nat.le_refl _) (.int .u8 (G.typ.toNat : Int))) (p := ⟨w.heap.size, 7, none⟩) (Nat.le_refl _) (.string G.link)) (p := ⟨w.heap.size, 8, none⟩) (Nat.le_refl _) (.string G.uname)) (p := ⟨w.heap.size, 9, none⟩) (Nat.le_refl _) (.string G.gname)) (p := ⟨w.heap.size, 10, none⟩) (Nat.le_refl _) (.int .i64 G.major)) (p := ⟨w.heap.size, 11, none⟩) (Nat.le_refl _) (.int .i64 G.minor)) (p := ⟨w.heap.size, 12, none⟩) (Nat.le_refl _) (.string G.pre)) (p := ⟨w.heap.size, 13, none⟩) (Nat.le_refl _) (.int .i64 0)
      rw [hW]
      clear hW
      have j0 := hFW.cell_some 0 _ rfl
      have j1 := hFW.cell_some 1 _ rfl
      have j2 := hFW.cell_some 2 _ rfl
      have j3 := hFW.cell_some 3 _ rfl
      have j4 := hFW.cell_some 4 _ rfl
      have j5 := hFW.cell_some 5 _ rfl
      have j6 := hFW.cell_some 6 _ rfl
      have j7 := hFW.cell_some 7 _ rfl
      have j8 := hFW.cell_some 8 _ rfl
      have j9 := hFW.cell_some 9 _ rfl
      have j10 := hFW.cell_some 10 _ rfl
      have j11 := hFW.cell_some 11 _ rfl
      have j12 := hFW.cell_some 12 _ rfl
      have j13 := hFW.cell_some 13 _ rfl
      refine bodyPost_ret (v := .agg #[.string G.name, .int .i64 G.mode, .int .i64 G.uid, .int .i64 G.gid, .int .i64 G.size, .int .i64 G.mtime, .int .u8 (G.typ.toNat : Int), .string G.link, .string G.uname, .string G.gname, .int .i64 G.major, .int .i64 G.minor, .string G.pre, .int .i64 0]) ?_ rfl ⟨?G, hbW⟩
      case G => first | rfl | (rw [hres.out]; done) | (rw [hres.out]; rfl)
      simp [results, Try.results11, go_sem, j0, j1, j2, j3, j4, j5, j6, j7, j8, j9, j10, j11, j12, j13]
    · have hc := hcmp2.out
      have hr := hR2.out
      rw [decide_eq_false hq] at hc
      rw [if_neg (by rw [decide_eq_true_eq]; exact hq)] at hr
      have hres := Lib.hid hr
      clear hr hcmp2 hR2 hq
      go_wp2_with fail
      obtain ⟨W, hW⟩ : ∃ W, (((((((((((((w3.setCell ⟨w.heap.size, 0, none⟩ (.string ⟨#[]⟩)).setCell ⟨w.heap.size, 1, none⟩ (.int .i64 0)).setCell ⟨w.heap.size, 2, none⟩ (.int .i64 0)).setCell ⟨w.heap.size, 3, none⟩ (.int .i64 0)).setCell ⟨w.heap.size, 4, none⟩ (.int .i64 0)).setCell ⟨w.heap.size, 5, none⟩ (.int .i64 0)).setCell ⟨w.heap.size, 6, none⟩ (.int .u8 0)).setCell ⟨w.heap.size, 7, none⟩ (.string ⟨#[]⟩)).setCell ⟨w.heap.size, 8, none⟩ (.string ⟨#[]⟩)).setCell ⟨w.heap.size, 9, none⟩ (.string ⟨#[]⟩)).setCell ⟨w.heap.size, 10, none⟩ (.int .i64 0)).setCell ⟨w.heap.size, 11, none⟩ (.int .i64 0)).setCell ⟨w.heap.size, 12, none⟩ (.string ⟨#[]⟩)).setCell ⟨w.heap.size, 13, none⟩ (.int .i64 4) = W := ⟨_, rfl⟩
      have hFW : BlkIs W w.heap.size 29 #[.string ⟨#[]⟩, .int .i64 0, .int .i64 0, .int .i64 0, .int .i64 0, .int .i64 0, .int .u8 0, .string ⟨#[]⟩, .string ⟨#[]⟩, .string ⟨#[]⟩, .int .i64 0, .int .i64 0, .string ⟨#[]⟩, .int .i64 4] := by
        rw [← hW]
        exact put14 (.string ⟨#[]⟩) (.int .i64 0) (.int .i64 0) (.int .i64 0) (.int .i64 0) (.int .i64 0) (.int .u8 0) (.string ⟨#[]⟩) (.string ⟨#[]⟩) (.string ⟨#[]⟩) (.int .i64 0) (.int .i64 0) (.string ⟨#[]⟩) (.int .i64 4) hT3
      have hbW : Below w.heap.size w W := by
        rw [← hW]
        exact gr_set (gr_set (gr_set (gr_set (gr_set (gr_set (gr_set (gr_set (gr_set (gr_set (gr_set (gr_set (gr_set (gr_set (hB3) (p := ⟨w.heap.size, 0, none⟩) (Nat.le_refl _) (.string ⟨#[]⟩)) (p := ⟨w.heap.size, 1, none⟩) (Nat.le_refl _) (.int .i64 0)) (p := ⟨w.heap.size, 2, none⟩) (Nat.le_refl _) (.int .i64 0)) (p := ⟨w.heap.size, 3, none⟩) (Nat.le_refl _) (.int .i64 0)) (p := ⟨w.heap.size, 4, none⟩) (Nat.le_refl _) (.int .i64 0)) (p := ⟨w.heap.size, 5, none⟩) (Nat.le_refl _) (.int .i64 0)) (p := ⟨w.heap.size, 6, none⟩) (Nat.le_refl _) (.int .u8 0)) (p := ⟨w.heap.size, 7, none⟩) (Nat.le_refl _) (.string ⟨#[]⟩)) (p := ⟨w.heap.size, 8, none⟩) (Nat.le_refl _) (.string ⟨#[]⟩)) (p := ⟨w.heap.size, 9, none⟩) (Nat.le_refl _) (.string ⟨#[]⟩)) (p := ⟨w.heap.size, 10, none⟩) (Nat.le_refl _) (.int .i64 0)) (p := ⟨w.heap.size, 11, none⟩) (Nat.le_refl _) (.int .i64 0)) (p := ⟨w.heap.size, 12, none⟩) (Nat.le_refl _) (.string ⟨#[]⟩)) (p := ⟨w.heap.size, 13, none⟩) (Nat.le_refl _) (.int .i64 4)
      rw [hW]
      clear hW
      have j0 := hFW.cell_some 0 _ rfl
      have j1 := hFW.cell_some 1 _ rfl
      have j2 := hFW.cell_some 2 _ rfl
      have j3 := hFW.cell_some 3 _ rfl
      have j4 := hFW.cell_some 4 _ rfl
      have j5 := hFW.cell_some 5 _ rfl
      have j6 := hFW.cell_some 6 _ rfl
      have j7 := hFW.cell_some 7 _ rfl
      have j8 := hFW.cell_some 8 _ rfl
      have j9 := hFW.cell_some 9 _ rfl
      have j10 := hFW.cell_some 10 _ rfl
      have j11 := hFW.cell_some 11 _ rfl
      have j12 := hFW.cell_some 12 _ rfl
      have j13 := hFW.cell_some 13 _ rfl
      refine bodyPost_ret (v := .agg #[.string ⟨#[]⟩, .int .i64 0, .int .i64 0, .int .i64 0, .int .i64 0, .int .i64 0, .int .u8 0, .string ⟨#[]⟩, .string ⟨#[]⟩, .string ⟨#[]⟩, .int .i64 0, .int .i64 0, .string ⟨#[]⟩, .int .i64 4]) ?_ rfl ⟨?G, hbW⟩
      case G => first | rfl | (rw [hres.out]; done) | (rw [hres.out]; rfl)
      simp [results, Try.results11, go_sem, j0, j1, j2, j3, j4, j5, j6, j7, j8, j9, j10, j11, j12, j13]
end Go.Proofs.Ytkkmhfgfkjeooaa
