/- Walks over package acl: what the pieces of a part say. -/
import Derived.Test.YtbhnhoenjoagbaaGreatDoorBnAP
import Derived.Recover
namespace Go.Proofs.YtbhnhoenjoagbaaGreatDoor.AclW
open Go.RowKit
open AclM DecM
set_option linter.unusedVariables false

/-- What ends the parsing. -/
def notList : List PanicEntry := [{ v := .iface 232 (.agg #[]), recovered := false }]
/-- How a piece's reading ends. -/
def intEnd (o : Option Int) (e : Ending) : Prop := match o with
  | some n => e = .returned (.int .i64 n)
  | none => e = .panicked notList

def hit (l id : List UInt8) (t : Int) : Prop := [letter t] = l ∧ (hasId t = true ↔ id ≠ [])
theorem hit_tag {l id : List UInt8} {t : Int} (h1 : 1 ≤ t) (h2 : t ≤ 6) (h : hit l id t) : tagOf l id = some t := by
  obtain ⟨h3, h4⟩ := h
  subst h3
  have : t = 1 ∨ t = 2 ∨ t = 3 ∨ t = 4 ∨ t = 5 ∨ t = 6 := by omega
  rcases this with rfl | rfl | rfl | rfl | rfl | rfl <;> simp [hasId] at h4 <;> simp [tagOf, letter, h4]
theorem no_tag {l id : List UInt8} (h : ∀ t : Int, 1 ≤ t → t ≤ 6 → ¬ hit l id t) : tagOf l id = none := by
  have a1 := h 1 (by decide) (by decide)
  have a2 := h 2 (by decide) (by decide)
  have a3 := h 3 (by decide) (by decide)
  have a4 := h 4 (by decide) (by decide)
  have a5 := h 5 (by decide) (by decide)
  have a6 := h 6 (by decide) (by decide)
  simp only [hit, letter, hasId] at a1 a2 a3 a4 a5 a6
  unfold tagOf
  by_cases hid : id = []
  · subst hid
    simp at a1 a2 a3 a4 a5 a6
    have e : ∀ c : UInt8, [c] = l ↔ l = [c] := fun c => ⟨fun h => h.symm, fun h => h.symm⟩
    simp only [e] at a1 a3 a5 a6
    rw [if_neg a1, if_neg a3, if_neg a5, if_neg a6]
  · simp [hid] at a1 a2 a3 a4 a5 a6
    have e : ∀ c : UInt8, [c] = l ↔ l = [c] := fun c => ⟨fun h => h.symm, fun h => h.symm⟩
    simp only [e] at a2 a4
    rw [if_neg a2, if_neg a4, if_neg hid, if_neg hid]
    split
    · rfl
    · split <;> rfl

set_option maxHeartbeats 1600000 in
theorem parseTag_any (L I : ByteArray) (w : World) :
    Calls Tryz.prog 307 #[.string L, .string I] w fun e w' => intEnd (tagOf L.data.toList I.data.toList) e ∧ w = w' := by
  have Hh := Lib.hid hasId_any
  go_enter Tryz.func307, Tryz.ntmps307
  go_wp2_with fail
  go_loopw [5] (fun iv wr => ∃ i : Nat, iv = .int .i64 (i : Int) ∧ 1 ≤ i ∧ i ≤ 7 ∧ wr = w ∧ Hid (∀ t : Int, 1 ≤ t → t < (i : Int) → ¬ hit L.data.toList I.data.toList t)) (fun iv _ => 7 - (intOf iv).toNat)
  case atStart => exact ⟨1, rfl, by omega, by omega, rfl, Lib.hid (fun t h1 h2 => by omega)⟩
  case round =>
    obtain ⟨i, rfl, hi1, hi, rfl, HR⟩ := hrel
    have hi7 : i = 1 ∨ i = 2 ∨ i = 3 ∨ i = 4 ∨ i = 5 ∨ i = 6 ∨ i = 7 := by omega
    rcases hi7 with rfl | rfl | rfl | rfl | rfl | rfl | rfl
    · have hh : Hid (∀ w : World, Calls Tryz.prog 196 #[.int .i64 1] w fun e w' => e = .returned (.bool false) ∧ w = w') := Lib.hid (fun w => by have := Hh.out 1 w; rwa [show hasId 1 = false from rfl] at this)
      have hle : (({ data := #[32, 117, 117, 103, 103, 109, 111] } : ByteArray).extract 1 2).toList = [letter 1] := by rw [Lib.toList_data]; rfl
      have hLe : L.toList = L.data.toList := Lib.toList_data L
      have hIe : I.toList = I.data.toList := Lib.toList_data I
      by_cases hl : [letter 1] = L.data.toList
      · have hq : (({ data := #[32, 117, 117, 103, 103, 109, 111] } : ByteArray).extract 1 2).toList = L.toList := by rw [hle, hLe]; exact hl
        clear hle hLe
        by_cases hid : I.data.toList = []
        · have hid1 : I.toList = [] := by rw [hIe]; exact hid
          clear hIe
          have HT := Lib.hid (hit_tag (by decide) (by decide) (show hit L.data.toList I.data.toList 1 from ⟨hl, by simp [hasId, hid]⟩))
          clear HR hl hid
          go_wp2_with fail
          refine (hh.out _).mono ?_
          rintro e w1 ⟨rfl, rfl⟩
          go_wp2_with fail
          go_ret
          exact ⟨by rw [HT.out]; rfl, rfl⟩
        · have hid1 : ¬ I.toList = [] := by rw [hIe]; exact hid
          have hid2 : I.toList.isEmpty = false := by rw [Bool.eq_false_iff]; intro e; exact hid1 (List.isEmpty_iff.1 e)
          clear hIe
          have HN : Hid (∀ t : Int, 1 ≤ t → t < ((2 : Nat) : Int) → ¬ hit L.data.toList I.data.toList t) := Lib.hid (fun t h1 h2 => by
            by_cases ht : t = 1
            · subst ht; exact fun hh => absurd (hh.2.2 hid) (by decide)
            · exact HR.out t h1 (by omega))
          clear HR hl hid
          go_wp2_with fail
          refine (hh.out _).mono ?_
          rintro e w1 ⟨rfl, rfl⟩
          go_wp2_with fail
          go_roundw
          case rel => exact ⟨2, rfl, by omega, by omega, trivial, HN⟩
          case measure => simp only [intOf]; omega
      · have hq : ¬ (({ data := #[32, 117, 117, 103, 103, 109, 111] } : ByteArray).extract 1 2).toList = L.toList := by rw [hle, hLe]; exact hl
        clear hle hLe hIe
        have HN : Hid (∀ t : Int, 1 ≤ t → t < ((2 : Nat) : Int) → ¬ hit L.data.toList I.data.toList t) := Lib.hid (fun t h1 h2 => by
          by_cases ht : t = 1
          · subst ht; exact fun hh => hl hh.1
          · exact HR.out t h1 (by omega))
        clear HR hl
        go_wp2_with fail
        go_roundw
        case rel => exact ⟨2, rfl, by omega, by omega, trivial, HN⟩
        case measure => simp only [intOf]; omega
    · have hh : Hid (∀ w : World, Calls Tryz.prog 196 #[.int .i64 2] w fun e w' => e = .returned (.bool true) ∧ w = w') := Lib.hid (fun w => by have := Hh.out 2 w; rwa [show hasId 2 = true from rfl] at this)
      have hle : (({ data := #[32, 117, 117, 103, 103, 109, 111] } : ByteArray).extract 2 3).toList = [letter 2] := by rw [Lib.toList_data]; rfl
      have hLe : L.toList = L.data.toList := Lib.toList_data L
      have hIe : I.toList = I.data.toList := Lib.toList_data I
      by_cases hl : [letter 2] = L.data.toList
      · have hq : (({ data := #[32, 117, 117, 103, 103, 109, 111] } : ByteArray).extract 2 3).toList = L.toList := by rw [hle, hLe]; exact hl
        clear hle hLe
        by_cases hid : I.data.toList = []
        · have hid1 : I.toList = [] := by rw [hIe]; exact hid
          clear hIe
          have HN : Hid (∀ t : Int, 1 ≤ t → t < ((3 : Nat) : Int) → ¬ hit L.data.toList I.data.toList t) := Lib.hid (fun t h1 h2 => by
            by_cases ht : t = 2
            · subst ht; exact fun hh => absurd (hh.2.1 rfl) (by simp [hid])
            · exact HR.out t h1 (by omega))
          clear HR hl hid
          go_wp2_with fail
          refine (hh.out _).mono ?_
          rintro e w1 ⟨rfl, rfl⟩
          go_wp2_with fail
          go_roundw
          case rel => exact ⟨3, rfl, by omega, by omega, trivial, HN⟩
          case measure => simp only [intOf]; omega
        · have hid1 : ¬ I.toList = [] := by rw [hIe]; exact hid
          have hid2 : I.toList.isEmpty = false := by rw [Bool.eq_false_iff]; intro e; exact hid1 (List.isEmpty_iff.1 e)
          clear hIe
          have HT := Lib.hid (hit_tag (by decide) (by decide) (show hit L.data.toList I.data.toList 2 from ⟨hl, by simp [hasId, hid]⟩))
          clear HR hl hid
          go_wp2_with fail
          refine (hh.out _).mono ?_
          rintro e w1 ⟨rfl, rfl⟩
          go_wp2_with fail
          go_ret
          exact ⟨by rw [HT.out]; rfl, rfl⟩
      · have hq : ¬ (({ data := #[32, 117, 117, 103, 103, 109, 111] } : ByteArray).extract 2 3).toList = L.toList := by rw [hle, hLe]; exact hl
        clear hle hLe hIe
        have HN : Hid (∀ t : Int, 1 ≤ t → t < ((3 : Nat) : Int) → ¬ hit L.data.toList I.data.toList t) := Lib.hid (fun t h1 h2 => by
          by_cases ht : t = 2
          · subst ht; exact fun hh => hl hh.1
          · exact HR.out t h1 (by omega))
        clear HR hl
        go_wp2_with fail
        go_roundw
        case rel => exact ⟨3, rfl, by omega, by omega, trivial, HN⟩
        case measure => simp only [intOf]; omega
    · have hh : Hid (∀ w : World, Calls Tryz.prog 196 #[.int .i64 3] w fun e w' => e = .returned (.bool false) ∧ w = w') := Lib.hid (fun w => by have := Hh.out 3 w; rwa [show hasId 3 = false from rfl] at this)
      have hle : (({ data := #[32, 117, 117, 103, 103, 109, 111] } : ByteArray).extract 3 4).toList = [letter 3] := by rw [Lib.toList_data]; rfl
      have hLe : L.toList = L.data.toList := Lib.toList_data L
      have hIe : I.toList = I.data.toList := Lib.toList_data I
      by_cases hl : [letter 3] = L.data.toList
      · have hq : (({ data := #[32, 117, 117, 103, 103, 109, 111] } : ByteArray).extract 3 4).toList = L.toList := by rw [hle, hLe]; exact hl
        clear hle hLe
        by_cases hid : I.data.toList = []
        · have hid1 : I.toList = [] := by rw [hIe]; exact hid
          clear hIe
          have HT := Lib.hid (hit_tag (by decide) (by decide) (show hit L.data.toList I.data.toList 3 from ⟨hl, by simp [hasId, hid]⟩))
          clear HR hl hid
          go_wp2_with fail
          refine (hh.out _).mono ?_
          rintro e w1 ⟨rfl, rfl⟩
          go_wp2_with fail
          go_ret
          exact ⟨by rw [HT.out]; rfl, rfl⟩
        · have hid1 : ¬ I.toList = [] := by rw [hIe]; exact hid
          have hid2 : I.toList.isEmpty = false := by rw [Bool.eq_false_iff]; intro e; exact hid1 (List.isEmpty_iff.1 e)
          clear hIe
          have HN : Hid (∀ t : Int, 1 ≤ t → t < ((4 : Nat) : Int) → ¬ hit L.data.toList I.data.toList t) := Lib.hid (fun t h1 h2 => by
            by_cases ht : t = 3
            · subst ht; exact fun hh => absurd (hh.2.2 hid) (by decide)
            · exact HR.out t h1 (by omega))
          clear HR hl hid
          go_wp2_with fail
          refine (hh.out _).mono ?_
          rintro e w1 ⟨rfl, rfl⟩
          go_wp2_with fail
          go_roundw
          case rel => exact ⟨4, rfl, by omega, by omega, trivial, HN⟩
          case measure => simp only [intOf]; omega
      · have hq : ¬ (({ data := #[32, 117, 117, 103, 103, 109, 111] } : ByteArray).extract 3 4).toList = L.toList := by rw [hle, hLe]; exact hl
        clear hle hLe hIe
        have HN : Hid (∀ t : Int, 1 ≤ t → t < ((4 : Nat) : Int) → ¬ hit L.data.toList I.data.toList t) := Lib.hid (fun t h1 h2 => by
          by_cases ht : t = 3
          · subst ht; exact fun hh => hl hh.1
          · exact HR.out t h1 (by omega))
        clear HR hl
        go_wp2_with fail
        go_roundw
        case rel => exact ⟨4, rfl, by omega, by omega, trivial, HN⟩
        case measure => simp only [intOf]; omega
    · have hh : Hid (∀ w : World, Calls Tryz.prog 196 #[.int .i64 4] w fun e w' => e = .returned (.bool true) ∧ w = w') := Lib.hid (fun w => by have := Hh.out 4 w; rwa [show hasId 4 = true from rfl] at this)
      have hle : (({ data := #[32, 117, 117, 103, 103, 109, 111] } : ByteArray).extract 4 5).toList = [letter 4] := by rw [Lib.toList_data]; rfl
      have hLe : L.toList = L.data.toList := Lib.toList_data L
      have hIe : I.toList = I.data.toList := Lib.toList_data I
      by_cases hl : [letter 4] = L.data.toList
      · have hq : (({ data := #[32, 117, 117, 103, 103, 109, 111] } : ByteArray).extract 4 5).toList = L.toList := by rw [hle, hLe]; exact hl
        clear hle hLe
        by_cases hid : I.data.toList = []
        · have hid1 : I.toList = [] := by rw [hIe]; exact hid
          clear hIe
          have HN : Hid (∀ t : Int, 1 ≤ t → t < ((5 : Nat) : Int) → ¬ hit L.data.toList I.data.toList t) := Lib.hid (fun t h1 h2 => by
            by_cases ht : t = 4
            · subst ht; exact fun hh => absurd (hh.2.1 rfl) (by simp [hid])
            · exact HR.out t h1 (by omega))
          clear HR hl hid
          go_wp2_with fail
          refine (hh.out _).mono ?_
          rintro e w1 ⟨rfl, rfl⟩
          go_wp2_with fail
          go_roundw
          case rel => exact ⟨5, rfl, by omega, by omega, trivial, HN⟩
          case measure => simp only [intOf]; omega
        · have hid1 : ¬ I.toList = [] := by rw [hIe]; exact hid
          have hid2 : I.toList.isEmpty = false := by rw [Bool.eq_false_iff]; intro e; exact hid1 (List.isEmpty_iff.1 e)
          clear hIe
          have HT := Lib.hid (hit_tag (by decide) (by decide) (show hit L.data.toList I.data.toList 4 from ⟨hl, by simp [hasId, hid]⟩))
          clear HR hl hid
          go_wp2_with fail
          refine (hh.out _).mono ?_
          rintro e w1 ⟨rfl, rfl⟩
          go_wp2_with fail
          go_ret
          exact ⟨by rw [HT.out]; rfl, rfl⟩
      · have hq : ¬ (({ data := #[32, 117, 117, 103, 103, 109, 111] } : ByteArray).extract 4 5).toList = L.toList := by rw [hle, hLe]; exact hl
        clear hle hLe hIe
        have HN : Hid (∀ t : Int, 1 ≤ t → t < ((5 : Nat) : Int) → ¬ hit L.data.toList I.data.toList t) := Lib.hid (fun t h1 h2 => by
          by_cases ht : t = 4
          · subst ht; exact fun hh => hl hh.1
          · exact HR.out t h1 (by omega))
        clear HR hl
        go_wp2_with fail
        go_roundw
        case rel => exact ⟨5, rfl, by omega, by omega, trivial, HN⟩
        case measure => simp only [intOf]; omega
    · have hh : Hid (∀ w : World, Calls Tryz.prog 196 #[.int .i64 5] w fun e w' => e = .returned (.bool false) ∧ w = w') := Lib.hid (fun w => by have := Hh.out 5 w; rwa [show hasId 5 = false from rfl] at this)
      have hle : (({ data := #[32, 117, 117, 103, 103, 109, 111] } : ByteArray).extract 5 6).toList = [letter 5] := by rw [Lib.toList_data]; rfl
      have hLe : L.toList = L.data.toList := Lib.toList_data L
      have hIe : I.toList = I.data.toList := Lib.toList_data I
      by_cases hl : [letter 5] = L.data.toList
      · have hq : (({ data := #[32, 117, 117, 103, 103, 109, 111] } : ByteArray).extract 5 6).toList = L.toList := by rw [hle, hLe]; exact hl
        clear hle hLe
        by_cases hid : I.data.toList = []
        · have hid1 : I.toList = [] := by rw [hIe]; exact hid
          clear hIe
          have HT := Lib.hid (hit_tag (by decide) (by decide) (show hit L.data.toList I.data.toList 5 from ⟨hl, by simp [hasId, hid]⟩))
          clear HR hl hid
          go_wp2_with fail
          refine (hh.out _).mono ?_
          rintro e w1 ⟨rfl, rfl⟩
          go_wp2_with fail
          go_ret
          exact ⟨by rw [HT.out]; rfl, rfl⟩
        · have hid1 : ¬ I.toList = [] := by rw [hIe]; exact hid
          have hid2 : I.toList.isEmpty = false := by rw [Bool.eq_false_iff]; intro e; exact hid1 (List.isEmpty_iff.1 e)
          clear hIe
          have HN : Hid (∀ t : Int, 1 ≤ t → t < ((6 : Nat) : Int) → ¬ hit L.data.toList I.data.toList t) := Lib.hid (fun t h1 h2 => by
            by_cases ht : t = 5
            · subst ht; exact fun hh => absurd (hh.2.2 hid) (by decide)
            · exact HR.out t h1 (by omega))
          clear HR hl hid
          go_wp2_with fail
          refine (hh.out _).mono ?_
          rintro e w1 ⟨rfl, rfl⟩
          go_wp2_with fail
          go_roundw
          case rel => exact ⟨6, rfl, by omega, by omega, trivial, HN⟩
          case measure => simp only [intOf]; omega
      · have hq : ¬ (({ data := #[32, 117, 117, 103, 103, 109, 111] } : ByteArray).extract 5 6).toList = L.toList := by rw [hle, hLe]; exact hl
        clear hle hLe hIe
        have HN : Hid (∀ t : Int, 1 ≤ t → t < ((6 : Nat) : Int) → ¬ hit L.data.toList I.data.toList t) := Lib.hid (fun t h1 h2 => by
          by_cases ht : t = 5
          · subst ht; exact fun hh => hl hh.1
          · exact HR.out t h1 (by omega))
        clear HR hl
        go_wp2_with fail
        go_roundw
        case rel => exact ⟨6, rfl, by omega, by omega, trivial, HN⟩
        case measure => simp only [intOf]; omega
    · have hh : Hid (∀ w : World, Calls Tryz.prog 196 #[.int .i64 6] w fun e w' => e = .returned (.bool false) ∧ w = w') := Lib.hid (fun w => by have := Hh.out 6 w; rwa [show hasId 6 = false from rfl] at this)
      have hle : (({ data := #[32, 117, 117, 103, 103, 109, 111] } : ByteArray).extract 6 7).toList = [letter 6] := by rw [Lib.toList_data]; rfl
      have hLe : L.toList = L.data.toList := Lib.toList_data L
      have hIe : I.toList = I.data.toList := Lib.toList_data I
      by_cases hl : [letter 6] = L.data.toList
      · have hq : (({ data := #[32, 117, 117, 103, 103, 109, 111] } : ByteArray).extract 6 7).toList = L.toList := by rw [hle, hLe]; exact hl
        clear hle hLe
        by_cases hid : I.data.toList = []
        · have hid1 : I.toList = [] := by rw [hIe]; exact hid
          clear hIe
          have HT := Lib.hid (hit_tag (by decide) (by decide) (show hit L.data.toList I.data.toList 6 from ⟨hl, by simp [hasId, hid]⟩))
          clear HR hl hid
          go_wp2_with fail
          refine (hh.out _).mono ?_
          rintro e w1 ⟨rfl, rfl⟩
          go_wp2_with fail
          go_ret
          exact ⟨by rw [HT.out]; rfl, rfl⟩
        · have hid1 : ¬ I.toList = [] := by rw [hIe]; exact hid
          have hid2 : I.toList.isEmpty = false := by rw [Bool.eq_false_iff]; intro e; exact hid1 (List.isEmpty_iff.1 e)
          clear hIe
          have HN : Hid (∀ t : Int, 1 ≤ t → t < ((7 : Nat) : Int) → ¬ hit L.data.toList I.data.toList t) := Lib.hid (fun t h1 h2 => by
            by_cases ht : t = 6
            · subst ht; exact fun hh => absurd (hh.2.2 hid) (by decide)
            · exact HR.out t h1 (by omega))
          clear HR hl hid
          go_wp2_with fail
          refine (hh.out _).mono ?_
          rintro e w1 ⟨rfl, rfl⟩
          go_wp2_with fail
          go_roundw
          case rel => exact ⟨7, rfl, by omega, by omega, trivial, HN⟩
          case measure => simp only [intOf]; omega
      · have hq : ¬ (({ data := #[32, 117, 117, 103, 103, 109, 111] } : ByteArray).extract 6 7).toList = L.toList := by rw [hle, hLe]; exact hl
        clear hle hLe hIe
        have HN : Hid (∀ t : Int, 1 ≤ t → t < ((7 : Nat) : Int) → ¬ hit L.data.toList I.data.toList t) := Lib.hid (fun t h1 h2 => by
          by_cases ht : t = 6
          · subst ht; exact fun hh => hl hh.1
          · exact HR.out t h1 (by omega))
        clear HR hl
        go_wp2_with fail
        go_roundw
        case rel => exact ⟨7, rfl, by omega, by omega, trivial, HN⟩
        case measure => simp only [intOf]; omega
    · have HT := Lib.hid (no_tag (l := L.data.toList) (id := I.data.toList) (fun t h1 h2 => HR.out t h1 (by omega)))
      clear HR
      go_wp2_with fail
      exact ⟨rfl, by rw [HT.out]; rfl, rfl⟩
end Go.Proofs.YtbhnhoenjoagbaaGreatDoor.AclW
