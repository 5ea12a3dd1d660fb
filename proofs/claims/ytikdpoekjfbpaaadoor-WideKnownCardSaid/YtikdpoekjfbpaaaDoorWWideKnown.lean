/- The law WideKnown, walked. -/
import Derived.Test.YtikdpoekjfbpaaaDoorWideAwake
import Derived.Test.YtikdpoekjfbpaaaDoorWideFrame
import Derived.Test.YtikdpoekjfbpaaaDoorRegionL
namespace Go.Proofs.YtikdpoekjfbpaaaDoor
open Go.RowKit
open WideM
set_option linter.unusedVariables false

def knownL0 : List Wid := [⟨1, 0, 16383, strOf [79, 87, 78, 69, 82, 64]⟩]
def knownT0 : List UInt8 := [65, 58, 58, 79, 87, 78, 69, 82, 64, 58, 114, 119, 97, 120, 100, 68, 116, 84, 110, 78, 99, 67, 111, 121]
theorem known0 : getL knownT0 = some knownL0 ∧ may knownL0 = true ∧ textR knownL0 = knownT0 ∧ knownL0 ≠ [] := by
  have h1 : may knownL0 = true := by decide
  have h2 : textL knownL0 = knownT0 := by decide
  exact ⟨(get_iff _ _).2 ⟨h1, h2⟩, h1, by unfold textR; rw [if_pos h1]; exact h2, by simp [knownL0]⟩
def knownL1 : List Wid := [⟨2, 0, 2, strOf [69, 86, 69, 82, 89, 79, 78, 69, 64]⟩, ⟨1, 0, 3, strOf [69, 86, 69, 82, 89, 79, 78, 69, 64]⟩]
def knownT1 : List UInt8 := [68, 58, 58, 69, 86, 69, 82, 89, 79, 78, 69, 64, 58, 119, 44, 65, 58, 58, 69, 86, 69, 82, 89, 79, 78, 69, 64, 58, 114, 119]
theorem known1 : getL knownT1 = some knownL1 ∧ may knownL1 = true ∧ textR knownL1 = knownT1 ∧ knownL1 ≠ [] := by
  have h1 : may knownL1 = true := by decide
  have h2 : textL knownL1 = knownT1 := by decide
  exact ⟨(get_iff _ _).2 ⟨h1, h2⟩, h1, by unfold textR; rw [if_pos h1]; exact h2, by simp [knownL1]⟩
def knownL2 : List Wid := [⟨1, 67, 1, strOf [55]⟩]
def knownT2 : List UInt8 := [65, 58, 102, 100, 103, 58, 55, 58, 114]
theorem known2 : getL knownT2 = some knownL2 ∧ may knownL2 = true ∧ textR knownL2 = knownT2 ∧ knownL2 ≠ [] := by
  have h1 : may knownL2 = true := by decide
  have h2 : textL knownL2 = knownT2 := by decide
  exact ⟨(get_iff _ _).2 ⟨h1, h2⟩, h1, by unfold textR; rw [if_pos h1]; exact h2, by simp [knownL2]⟩
def knownL3 : List Wid := [⟨1, 127, 0, strOf [120, 32, 121]⟩]
def knownT3 : List UInt8 := [65, 58, 102, 100, 110, 112, 83, 70, 103, 58, 120, 32, 121, 58]
theorem known3 : getL knownT3 = some knownL3 ∧ may knownL3 = true ∧ textR knownL3 = knownT3 ∧ knownL3 ≠ [] := by
  have h1 : may knownL3 = true := by decide
  have h2 : textL knownL3 = knownT3 := by decide
  exact ⟨(get_iff _ _).2 ⟨h1, h2⟩, h1, by unfold textR; rw [if_pos h1]; exact h2, by simp [knownL3]⟩
def badT0 : List UInt8 := [66, 58, 58, 79, 87, 78, 69, 82, 64, 58, 114]
theorem bad0 : getL badT0 = none := by decide
def badT1 : List UInt8 := [65, 58, 58, 79, 87, 78, 69, 82, 64]
theorem bad1 : getL badT1 = none := by decide
def badT2 : List UInt8 := [65, 58, 58, 79, 87, 78, 69, 82, 64, 58, 122]
theorem bad2 : getL badT2 = none := by decide
def badT3 : List UInt8 := [97, 58, 58, 79, 87, 78, 69, 82, 64, 58, 114]
theorem bad3 : getL badT3 = none := by decide
def badT4 : List UInt8 := [65, 58, 58, 79, 87, 78, 69, 82, 64, 58, 114, 10]
theorem bad4 : getL badT4 = none := by decide
def badT5 : List UInt8 := [65, 58, 58, 79, 87, 78, 69, 82, 64, 58, 114, 58, 120]
theorem bad5 : getL badT5 = none := by decide
def badT6 : List UInt8 := [65, 58, 102]
theorem bad6 : getL badT6 = none := by decide
def everyone : List UInt8 := [69, 86, 69, 82, 89, 79, 78, 69, 64]
theorem known_all : allows knownL1 [everyone] 1 = false ∧ allows knownL1 [everyone] 0 = true ∧ allows knownL1 [owner] 0 = false := by decide
theorem known_no : may [⟨3, 0, 0, strOf [97]⟩] = false := by decide

set_option maxHeartbeats 6400000 in
set_option maxRecDepth 100000 in
theorem wideKnown_walk (a0 : Int) (w : World) (hA : Amb w) (w0 : (Lit.int .u8 a0).wf = true) :
    Calls Tryd.prog 5 #[.int .u8 a0] w fun e w' => e = .returned (.bool true) ∧ Below w.heap.size w w' := by
  have hw0 : 0 ≤ a0 ∧ a0 ≤ 255 := by simpa [Lit.wf, IntKind.min, IntKind.max, IntKind.signed, IntKind.bits] using w0
  clear w0
  have haw := Lib.hid awake_true
  have beq_self : ∀ T : ByteArray, (T.toList == T.toList) = true := fun T => beq_self_eq_true _
  obtain ⟨T0, hT0⟩ : ∃ T : ByteArray, (⟨#[65, 58, 58, 79, 87, 78, 69, 82, 64, 58, 114, 119, 97, 120, 100, 68, 116, 84, 110, 78, 99, 67, 111, 121]⟩ : ByteArray) = T := ⟨_, rfl⟩
  obtain ⟨T1, hT1⟩ : ∃ T : ByteArray, (⟨#[68, 58, 58, 69, 86, 69, 82, 89, 79, 78, 69, 64, 58, 119, 44, 65, 58, 58, 69, 86, 69, 82, 89, 79, 78, 69, 64, 58, 114, 119]⟩ : ByteArray) = T := ⟨_, rfl⟩
  obtain ⟨T2, hT2⟩ : ∃ T : ByteArray, (⟨#[65, 58, 102, 100, 103, 58, 55, 58, 114]⟩ : ByteArray) = T := ⟨_, rfl⟩
  obtain ⟨T3, hT3⟩ : ∃ T : ByteArray, (⟨#[65, 58, 102, 100, 110, 112, 83, 70, 103, 58, 120, 32, 121, 58]⟩ : ByteArray) = T := ⟨_, rfl⟩
  obtain ⟨B0, hB0⟩ : ∃ T : ByteArray, (⟨#[66, 58, 58, 79, 87, 78, 69, 82, 64, 58, 114]⟩ : ByteArray) = T := ⟨_, rfl⟩
  obtain ⟨B1, hB1⟩ : ∃ T : ByteArray, (⟨#[65, 58, 58, 79, 87, 78, 69, 82, 64]⟩ : ByteArray) = T := ⟨_, rfl⟩
  obtain ⟨B2, hB2⟩ : ∃ T : ByteArray, (⟨#[65, 58, 58, 79, 87, 78, 69, 82, 64, 58, 122]⟩ : ByteArray) = T := ⟨_, rfl⟩
  obtain ⟨B3, hB3⟩ : ∃ T : ByteArray, (⟨#[97, 58, 58, 79, 87, 78, 69, 82, 64, 58, 114]⟩ : ByteArray) = T := ⟨_, rfl⟩
  obtain ⟨B4, hB4⟩ : ∃ T : ByteArray, (⟨#[65, 58, 58, 79, 87, 78, 69, 82, 64, 58, 114, 10]⟩ : ByteArray) = T := ⟨_, rfl⟩
  obtain ⟨B5, hB5⟩ : ∃ T : ByteArray, (⟨#[65, 58, 58, 79, 87, 78, 69, 82, 64, 58, 114, 58, 120]⟩ : ByteArray) = T := ⟨_, rfl⟩
  obtain ⟨B6, hB6⟩ : ∃ T : ByteArray, (⟨#[65, 58, 102]⟩ : ByteArray) = T := ⟨_, rfl⟩
  obtain ⟨OW, hOW⟩ : ∃ T : ByteArray, (⟨#[79, 87, 78, 69, 82, 64]⟩ : ByteArray) = T := ⟨_, rfl⟩
  obtain ⟨EV, hEV⟩ : ∃ T : ByteArray, (⟨#[69, 86, 69, 82, 89, 79, 78, 69, 64]⟩ : ByteArray) = T := ⟨_, rfl⟩
  obtain ⟨AA, hAA⟩ : ∃ T : ByteArray, (⟨#[97]⟩ : ByteArray) = T := ⟨_, rfl⟩
  obtain ⟨k, hk, hk4⟩ : ∃ k : Nat, a0 % 4 = (k : Int) ∧ k < 4 := ⟨(a0 % 4).toNat, by omega, by omega⟩
  obtain ⟨j, hj, hj7⟩ : ∃ k : Nat, a0 % 7 = (k : Int) ∧ k < 7 := ⟨(a0 % 7).toNat, by omega, by omega⟩
  obtain ⟨T, L, hTk, hTs, hg, hm, ht, hne⟩ : ∃ (T : ByteArray) (L : List Wid), (#[.string T0, .string T1, .string T2, .string T3] : Array Value)[k]? = some (.string T) ∧ T.size ≤ 800000 ∧ getL T.data.toList = some L ∧ may L = true ∧ strOf (textR L) = T ∧ L ≠ [] := by
    have : k = 0 ∨ k = 1 ∨ k = 2 ∨ k = 3 := by omega
    rcases this with rfl | rfl | rfl | rfl
    · exact ⟨T0, knownL0, rfl, by rw [← hT0]; decide, by rw [← hT0]; exact known0.1, known0.2.1, by rw [known0.2.2.1, ← hT0]; rfl, known0.2.2.2⟩
    · exact ⟨T1, knownL1, rfl, by rw [← hT1]; decide, by rw [← hT1]; exact known1.1, known1.2.1, by rw [known1.2.2.1, ← hT1]; rfl, known1.2.2.2⟩
    · exact ⟨T2, knownL2, rfl, by rw [← hT2]; decide, by rw [← hT2]; exact known2.1, known2.2.1, by rw [known2.2.2.1, ← hT2]; rfl, known2.2.2.2⟩
    · exact ⟨T3, knownL3, rfl, by rw [← hT3]; decide, by rw [← hT3]; exact known3.1, known3.2.1, by rw [known3.2.2.1, ← hT3]; rfl, known3.2.2.2⟩
  obtain ⟨B, hBj, hBs, hb⟩ : ∃ (B : ByteArray), (#[.string B0, .string B1, .string B2, .string B3, .string B4, .string B5, .string B6] : Array Value)[j]? = some (.string B) ∧ B.size ≤ 800000 ∧ getL B.data.toList = none := by
    have : j = 0 ∨ j = 1 ∨ j = 2 ∨ j = 3 ∨ j = 4 ∨ j = 5 ∨ j = 6 := by omega
    rcases this with rfl | rfl | rfl | rfl | rfl | rfl | rfl
    · exact ⟨B0, rfl, by rw [← hB0]; decide, by rw [← hB0]; exact bad0⟩
    · exact ⟨B1, rfl, by rw [← hB1]; decide, by rw [← hB1]; exact bad1⟩
    · exact ⟨B2, rfl, by rw [← hB2]; decide, by rw [← hB2]; exact bad2⟩
    · exact ⟨B3, rfl, by rw [← hB3]; decide, by rw [← hB3]; exact bad3⟩
    · exact ⟨B4, rfl, by rw [← hB4]; decide, by rw [← hB4]; exact bad4⟩
    · exact ⟨B5, rfl, by rw [← hB5]; decide, by rw [← hB5]; exact bad5⟩
    · exact ⟨B6, rfl, by rw [← hB6]; decide, by rw [← hB6]; exact bad6⟩
  have h1 := Lib.hid (fun w' (hA' : Amb w') => Parse_any T hTs w' hA')
  have h2 := Lib.hid (fun w' (hA' : Amb w') => Parse_any B hBs w' hA')
  have h3 := Lib.hid (fun w' (hA' : Amb w') => Parse_any T1 (by rw [← hT1]; decide) w' hA')
  rw [hg] at h1
  rw [hb] at h2
  rw [show getL T1.data.toList = some knownL1 by rw [← hT1]; exact known1.1] at h3
  have hp1 := (may_parts hm)
  have htext := Lib.hid (fun v w' (hat : At wideE v L w') => textL_any v L w' hat (by omega))
  rw [ht] at htext
  have hall := Lib.hid (fun v x ws b w' (hat : At wideE v knownL1 w') (hax : At strE x ws w') (hw : ws.length ≤ 1) => allows_any v x knownL1 ws b w' hat hax (may_parts known1.2.1).1 (by decide) (by omega))
  have ha1 := Lib.hid (fun v x w' hat hax => hall.out v x [everyone] 1 w' hat hax (Nat.le_refl _))
  have ha2 := Lib.hid (fun v x w' hat hax => hall.out v x [everyone] 0 w' hat hax (Nat.le_refl _))
  have ha3 := Lib.hid (fun v x w' hat hax => hall.out v x [owner] 0 w' hat hax (Nat.le_refl _))
  rw [known_all.1] at ha1
  rw [known_all.2.1] at ha2
  rw [known_all.2.2] at ha3
  have hoE := Lib.hid (fun w => (one_str w everyone 0 (Nat.zero_le _)).at)
  have hoO := Lib.hid (fun w => (one_str w owner 0 (Nat.zero_le _)).at)
  rw [show strOf everyone = EV from hEV] at hoE
  rw [show strOf owner = OW from hOW] at hoO
  have hmy := Lib.hid (fun v w' (hat : At wideE v [⟨3, 0, 0, AA⟩] w') => may_any v [⟨3, 0, 0, AA⟩] w' hat (Nat.le_trans (Nat.le_refl 1) (by decide)))
  rw [show may [⟨3, 0, 0, AA⟩] = false by rw [← hAA]; exact known_no] at hmy
  have hoA := Lib.hid (fun w => (one_wide w ⟨3, 0, 0, AA⟩ 0 (Nat.zero_le _)).at)
  obtain ⟨z, hz⟩ : ∃ z, L.length = z := ⟨_, rfl⟩
  have hz0 : ((z : Int) == 0) = false := by
    rw [beq_eq_false_iff_ne]
    intro e
    exact hne (List.eq_nil_of_length_eq_zero (by omega))
  have Hz := Lib.hid hz
  have hbd : ∀ W, (Instr.build 41 #[(0, .int .i64 3), (3, .string AA)]).run Tryd.prog W = .ok (.agg #[.int .i64 3, .int .i64 0, .int .i64 0, .string AA]) W := fun W => run_build W _ _ _ (by kernel_rfl)
  have hx0 : Below w.heap.size w (w.alloc (.cells #[.string T0, .string T1, .string T2, .string T3] 9)) := by (repeat' (first | exact Below.refl _ _ | assumption | refine gr_drew ?_ | refine gr_drewN ?_ _ | refine gr_alloc ?_ _ | refine gr_set ?_ ?_ _ | refine gr_call ?_ (by assumption)) <;> (try (simp; done)) <;> (try (simp; omega)) <;> (try omega))
  have hblk : BlkIs (w.alloc (.cells #[.string T0, .string T1, .string T2, .string T3] 9)) w.heap.size 9 #[.string T0, .string T1, .string T2, .string T3] := BlkIs.made _ _ _
  have hget : ∀ h, ([.string T0, .string T1, .string T2, .string T3] : List Value)[k]'h = .string T := fun h => by
    have e := hTk
    rw [List.getElem?_toArray, List.getElem?_eq_getElem h] at e
    exact Option.some.inj e
  have hgetB : ∀ h, ([.string B0, .string B1, .string B2, .string B3, .string B4, .string B5, .string B6] : List Value)[j]'h = .string B := fun h => by
    have e := hBj
    rw [List.getElem?_toArray, List.getElem?_eq_getElem h] at e
    exact Option.some.inj e
  have Hj := Lib.hid hBj
  have HT := Lib.hid hTk
  have H1 := Lib.hid (show (#[.string T0, .string T1, .string T2, .string T3] : Array Value)[1]? = some (.string T1) from rfl)
  obtain ⟨hw1, hw2⟩ := hw0
  clear hg hm ht hne hb hp1 hz hall hTk hBj hTs hBs
  generalize knownL1 = K1 at *
  generalize everyone = ev at *
  generalize owner = ow at *
  go_enter Tryd.func5, Tryd.ntmps5
  simp only [hT0, hT1, hT2, hT3, hB0, hB1, hB2, hB3, hB4, hB5, hB6, hOW, hEV, hAA]
  clear hT0 hT1 hT2 hT3 hB0 hB1 hB2 hB3 hB4 hB5 hB6 hOW hEV hAA
  have c0 := hblk.cell_some k _ HT.out
  go_wp2_with fail
  refine (h1.out _ (hA.on hx0)).mono ?_
  rintro e w1 ⟨⟨sv, rfl, hR⟩, hb1⟩
  have hat := hR.at
  have hl : BlkIs w1 w.heap.size 9 #[.string T0, .string T1, .string T2, .string T3] := hblk.kept hb1 hblk.size
  replace hb1 := gr_call hx0 hb1
  obtain ⟨q, cap, rfl, hcap⟩ := hat.shape
  rw [Hz.out] at hat hcap ⊢
  clear hR hx0 hblk h1 c0 hget
  have hb2 := gr_alloc hb1 (.cells #[.string B0, .string B1, .string B2, .string B3, .string B4, .string B5, .string B6] 9)
  have hat2 := hat.alloc (.cells #[.string B0, .string B1, .string B2, .string B3, .string B4, .string B5, .string B6] 9)
  have hl2 := hl.alloc (.cells #[.string B0, .string B1, .string B2, .string B3, .string B4, .string B5, .string B6] 9)
  clear hat hl hb1
  go_wp2_with fail
  refine (h2.out _ (hA.on hb2)).mono ?_
  rintro e w2 ⟨he, hb3⟩
  obtain rfl : e = .returned (.tuple #[.slice none 0 0, .bool false]) := he
  have hat3 := hat2.call hb3
  have hl3 := hl2.kept hb3 hl2.size
  replace hb3 := gr_call hb2 hb3
  obtain ⟨gl, hgl⟩ : ∃ g, w.heap.size = g := ⟨_, rfl⟩
  rw [hgl] at hl3
  clear hat2 hl2 hb2 h2 hgetB
  go_wp2_with fail
  try rw [hgl]
  have hTk := HT.out
  have hz1 := hz0
  refine region_listL (S := fun W => Below w.heap.size w W ∧ At wideE (.slice q z cap) L W ∧ BlkIs W gl 9 #[.string T0, .string T1, .string T2, .string T3]) (n := 19)
    [(fun W v => v = .bool true),
     (fun W v => v = .bool false),
     (fun W v => v = .bool false),
     (fun W v => v = .slice q z cap),
     (fun W v => v = .string T),
     (fun W v => v = .slice (some ⟨gl, 0, none⟩) 4 4),
     (fun W v => v = .int .i64 (k : Nat)),
     (fun W v => v = .pointer (some ⟨gl, k, none⟩)),
     (fun W v => v = .string T),
     (fun W v => v = .bool false),
     (fun W v => v = .bool false),
     (fun W v => v = .bool false),
     (fun W v => v = .bool false),
     (fun W v => v = .bool false),
     (fun W v => v = .bool false),
     (fun W v => v = .slice q z cap),
     (fun W v => v = .int .i64 (z : Nat)),
     (fun W v => v = .bool false),
     (fun W v => v = .bool false)] (by rfl) (by kernel_rfl) (by kernel_rfl) (by kernel_rfl) (by kernel_rfl) ?hS ?hp ?hs ?he
  case hS => exact ⟨gr_drew hb3, hat3.drew, hl3⟩
  case hp => repeat' (first | exact trivial | refine ⟨fun _ _ _ _ h => h, ?_⟩)
  case hs =>
    clear hb3 hat3 hl3
    refine ⟨?_, ?_, ?_, ?_, ?_, ?_, ?_, ?_, ?_, ?_, ?_, ?_, ?_, ?_, ?_, ?_, ?_, ?_, ?_, trivial⟩
    · refine ⟨met_none rfl, ?_⟩
      intro a W K hS hd hD hf hK
      have e6 : a.tmps.getD 6 undef = .bool true := hf 6 (by kernel_rfl)
      clear hd hf hD
      go_simp
      exact hK _ _ (Below.refl _ _) hS rfl
    · refine ⟨met_none rfl, ?_⟩
      intro a W K hS hd hD hf hK
      have e40 : a.tmps.getD 40 undef = .bool true := hd ⟨0, .data⟩ (by simp) rfl
      clear hd hf hD
      go_simp
      exact hK _ _ (Below.refl _ _) hS rfl
    · refine ⟨met_none rfl, ?_⟩
      intro a W K hS hd hD hf hK
      have e41 : a.tmps.getD 41 undef = .bool false := hd ⟨1, .data⟩ (by simp) rfl
      clear hd hf hD
      go_simp
      exact hK _ _ (Below.refl _ _) hS rfl
    · refine ⟨met_some 2 false rfl (fun w v h => h), ?_⟩
      intro a W K hS hd hD hf hK
      have e5 : a.tmps.getD 5 undef = .slice q z cap := hf 5 (by kernel_rfl)
      clear hd hf hD
      go_simp
      exact hK _ _ (Below.refl _ _) hS rfl
    · refine ⟨met_some 2 false rfl (fun w v h => h), ?_⟩
      intro a W K hS hd hD hf hK
      have e43 : a.tmps.getD 43 undef = .slice q z cap := hd ⟨3, .data⟩ (by simp) rfl
      clear hd hf hD
      go_simp
      go_at_call 12
      refine (htext.out _ _ hS.2.1).mono ?_
      rintro e w1 ⟨rfl, hb⟩
      exact hK _ _ hb (⟨gr_call hS.1 hb, hS.2.1.call hb, hS.2.2.kept hb hS.2.2.size⟩) rfl
    · refine ⟨met_some 2 false rfl (fun w v h => h), ?_⟩
      intro a W K hS hd hD hf hK
      have e3 : a.tmps.getD 3 undef = .slice (some ⟨gl, 0, none⟩) 4 4 := hf 3 (by kernel_rfl)
      clear hd hf hD
      go_simp
      exact hK _ _ (Below.refl _ _) hS rfl
    · refine ⟨met_some 2 false rfl (fun w v h => h), ?_⟩
      intro a W K hS hd hD hf hK
      have e4 : a.tmps.getD 4 undef = .int .i64 (k : Nat) := hf 4 (by kernel_rfl)
      clear hd hf hD
      go_simp
      exact hK _ _ (Below.refl _ _) hS rfl
    · refine ⟨met_some 2 false rfl (fun w v h => h), ?_⟩
      intro a W K hS hd hD hf hK
      have e45 : a.tmps.getD 45 undef = .slice (some ⟨gl, 0, none⟩) 4 4 := hd ⟨5, .data⟩ (by simp) rfl
      have e46 : a.tmps.getD 46 undef = .int .i64 (k : Nat) := hd ⟨6, .data⟩ (by simp) rfl
      have hki : (k : Int) < 4 := by omega
      clear hd hf hD
      go_simp
      exact hK _ _ (Below.refl _ _) hS rfl
    · refine ⟨met_some 2 false rfl (fun w v h => h), ?_⟩
      intro a W K hS hd hD hf hK
      have e47 : a.tmps.getD 47 undef = .pointer (some ⟨gl, k, none⟩) := hd ⟨7, .data⟩ (by simp) rfl
      have c0 := hS.2.2.cell_some k _ hTk
      clear hd hf hD
      go_simp
      exact hK _ _ (Below.refl _ _) hS rfl
    · refine ⟨met_some 2 false rfl (fun w v h => h), ?_⟩
      intro a W K hS hd hD hf hK
      have e44 : a.tmps.getD 44 undef = .string T := hd ⟨4, .data⟩ (by simp) rfl
      have e48 : a.tmps.getD 48 undef = .string T := hd ⟨8, .data⟩ (by simp) rfl
      have hself := beq_self
      clear hd hf hD
      go_simp
      exact hK _ _ (Below.refl _ _) hS rfl
    · refine ⟨met_none rfl, ?_⟩
      intro a W K hS hd hD hf hK
      have e42 : a.tmps.getD 42 undef = .bool false := hd ⟨2, .data⟩ (by simp) rfl
      have e49 : a.tmps.getD 49 undef = .bool false := hd ⟨9, .data⟩ (by simp) rfl
      clear hd hf hD
      go_simp
      exact hK _ _ (Below.refl _ _) hS rfl
    · refine ⟨met_none rfl, ?_⟩
      intro a W K hS hd hD hf hK
      have e50 : a.tmps.getD 50 undef = .bool false := hd ⟨10, .data⟩ (by simp) rfl
      clear hd hf hD
      go_simp
      exact hK _ _ (Below.refl _ _) hS rfl
    · refine ⟨met_some 11 false rfl (fun w v h => h), ?_⟩
      intro a W K hS hd hD hf hK
      have e9 : a.tmps.getD 9 undef = .bool false := hf 9 (by kernel_rfl)
      clear hd hf hD
      go_simp
      exact hK _ _ (Below.refl _ _) hS rfl
    · refine ⟨met_none rfl, ?_⟩
      intro a W K hS hd hD hf hK
      have e51 : a.tmps.getD 51 undef = .bool false := hd ⟨11, .data⟩ (by simp) rfl
      have e52 : a.tmps.getD 52 undef = .bool false := hd ⟨12, .data⟩ (by simp) rfl
      clear hd hf hD
      go_simp
      exact hK _ _ (Below.refl _ _) hS rfl
    · refine ⟨met_none rfl, ?_⟩
      intro a W K hS hd hD hf hK
      have e53 : a.tmps.getD 53 undef = .bool false := hd ⟨13, .data⟩ (by simp) rfl
      clear hd hf hD
      go_simp
      exact hK _ _ (Below.refl _ _) hS rfl
    · refine ⟨met_some 14 false rfl (fun w v h => h), ?_⟩
      intro a W K hS hd hD hf hK
      have e5 : a.tmps.getD 5 undef = .slice q z cap := hf 5 (by kernel_rfl)
      clear hd hf hD
      go_simp
      exact hK _ _ (Below.refl _ _) hS rfl
    · refine ⟨met_some 14 false rfl (fun w v h => h), ?_⟩
      intro a W K hS hd hD hf hK
      have e55 : a.tmps.getD 55 undef = .slice q z cap := hd ⟨15, .data⟩ (by simp) rfl
      clear hd hf hD
      go_simp
      exact hK _ _ (Below.refl _ _) hS rfl
    · refine ⟨met_some 14 false rfl (fun w v h => h), ?_⟩
      intro a W K hS hd hD hf hK
      have e56 : a.tmps.getD 56 undef = .int .i64 (z : Nat) := hd ⟨16, .data⟩ (by simp) rfl
      clear hd hf hD
      go_simp
      exact hK _ _ (Below.refl _ _) hS rfl
    · refine ⟨met_none rfl, ?_⟩
      intro a W K hS hd hD hf hK
      have e54 : a.tmps.getD 54 undef = .bool false := hd ⟨14, .data⟩ (by simp) rfl
      have e57 : a.tmps.getD 57 undef = .bool false := hd ⟨17, .data⟩ (by simp) rfl
      clear hd hf hD
      go_simp
      exact hK _ _ (Below.refl _ _) hS rfl
  case he =>
    intro vals w6 hS6 hV
    have e58 := hV 18 (by omega)
    clear hV
    simp only [List.getD_cons_succ, List.getD_cons_zero] at e58
    obtain ⟨hB6, _, hl6⟩ := hS6
    clear hb3 hat3 hl3
    refine Later.mk ?_
    simp only [List.append_eq, List.cons_append, List.nil_append, setN, Nat.reduceAdd, List.setIfInBounds_toArray, List.set_cons_succ, List.set_cons_zero]
    rw [e58]
    have hb7 := gr_alloc hB6 (.cells #[.string EV] 9)
    have hl7 := hl6.alloc (.cells #[.string EV] 9)
    have hev := hoE.out w6
    have c1 := hl7.cell_some 1 _ rfl
    go_wp2_with fail
    refine (h3.out _ (hA.on hb7)).mono ?_
    rintro e w8 ⟨⟨v3, rfl, hR3⟩, hb8⟩
    have ka := hR3.at
    have kv := hev.call hb8
    replace hb8 := gr_call hb7 hb8
    clear hR3 hb7 hl7 hl6 hev c1 h3
    go_wp2_with fail
    refine (ha1.out _ _ _ ka kv).mono ?_
    rintro e w9 ⟨rfl, hb9⟩
    replace ka := ka.call hb9
    replace kv := kv.call hb9
    replace hb9 := gr_call hb8 hb9
    clear hb8 ha1
    go_wp2_with fail
    refine (ha2.out _ _ _ ka kv).mono ?_
    rintro e w10 ⟨rfl, hb10⟩
    replace ka := ka.call hb10
    replace hb10 := gr_call hb9 hb10
    clear hb9 kv ha2
    have hb11 := gr_alloc hb10 (.cells #[.string OW] 9)
    have ka2 := ka.alloc (.cells #[.string OW] 9)
    have kw := hoO.out w10
    clear ka hb10
    go_wp2_with fail
    refine (ha3.out _ _ _ ka2 kw).mono ?_
    rintro e w12 ⟨rfl, hb12⟩
    replace hb12 := gr_call hb11 hb12
    clear hb11 ka2 kw ha3
    have hb13 := gr_alloc hb12 (.cells #[.int .i64 3, .int .i64 0, .int .i64 0, .string AA] 41)
    have km := hoA.out w12
    go_wp2_with fail
    refine (hmy.out _ _ km).mono ?_
    rintro e w14 ⟨rfl, hb14⟩
    replace hb14 := gr_call hb13 hb14
    clear hb12 hb13 km
    go_wp2_with fail
    refine (haw.out _ (hA.on hb14)).mono ?_
    rintro e w15 ⟨rfl, hb15⟩
    replace hb15 := gr_call hb14 hb15
    go_wp2_with fail
    go_ret
    exact ⟨rfl, hb15⟩
end Go.Proofs.YtikdpoekjfbpaaaDoor
