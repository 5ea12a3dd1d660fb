/- The walk of the law SixtyBack. -/
import Derived.Test.YthebijpdpchpcaaWSixtyJoins
import Derived.Test.YthebijpdpchpcaaByteRow
namespace Go.Proofs.Ythebijpdpchpcaa
open Go.RowKit
open SixM
set_option linter.unusedVariables false

theorem bytes_same (s : ByteArray) : (⟨s.data.toList.toArray⟩ : ByteArray) = s := bytes_ext (by simp)
theorem Get_is (t : ByteArray) (ht : t.size ≤ 30000) (s : ByteArray) (hl : p3 s.data.toList = t.data.toList) (w : World) :
    Calls Try.prog 8 #[.string t] w fun e w' => e = .returned (.tuple #[.string s, .bool true]) ∧ Below w.heap.size w w' := by
  have := Get_yes t ht _ hl w
  rw [bytes_same] at this
  exact this

set_option maxHeartbeats 1600000 in
theorem sixtyBack_walk (a0 : ByteArray) (a1 : Int) (a2 : Int) (w : World) (w0 : a0.size ≤ maxLen) (w1 : (Lit.int .u16 a1).wf = true) (w2 : (Lit.int .u8 a2).wf = true) :
    Calls Try.prog 4 #[.string a0, .int .u16 a1, .int .u8 a2] w fun e w' => e = .returned (.bool true) ∧ Below w.heap.size w w' := by
  obtain ⟨n, hn⟩ : ∃ n, a0.size = n := ⟨_, rfl⟩
  have ha1 : 0 ≤ a1 ∧ a1 ≤ 65535 := by simpa [Lit.wf, IntKind.min, IntKind.max, IntKind.signed, IntKind.bits] using w1
  have ha2 : 0 ≤ a2 ∧ a2 ≤ 255 := by simpa [Lit.wf, IntKind.min, IntKind.max, IntKind.signed, IntKind.bits] using w2
  clear w1 w2
  by_cases hle : n ≤ 300
  · have h1 : ¬ (300 : Int) < (n : Int) := by omega
    obtain ⟨d, hd⟩ : ∃ d : UInt8, (d.toNat : Int) = a2 := ⟨UInt8.ofNat a2.toNat, by simp; omega⟩
    obtain ⟨T, hT⟩ : ∃ T : ByteArray, T = ⟨(p3 a0.data.toList).toArray⟩ := ⟨_, rfl⟩
    obtain ⟨N, hN⟩ : ∃ N, T.size = N := ⟨_, rfl⟩
    have hTl : T.data.toList = p3 a0.data.toList := by rw [hT]
    have h0l : a0.data.toList.length = n := by rw [← hn]; simp
    have hTn : T.data.toList.length = N := by rw [← hN]; simp
    have hNn : N = (n + 2) / 3 * 4 := by rw [← hTn, hTl, p3_length, h0l]
    have h2 : ((N : Int) != ((n : Int) + 2) / 3 * 4) = false := by simp; omega
    have H1 := Lib.hid (fun W => Put_is a0 (by omega) T hTl W)
    have H2 := Lib.hid (fun W => Get_is T (by omega) a0 hTl.symm W)
    have H3 := Lib.hid (fun W => Get_no (T ++ ⟨#[61]⟩) (by rw [ByteArray.size_append, hN]; have : (⟨#[61]⟩ : ByteArray).size = 1 := rfl; omega) (fun l hl => by
      have h3 := congrArg List.length hl
      rw [p3_length, bytes_list, List.length_append, hTn] at h3
      have h4 : (⟨#[61]⟩ : ByteArray).data.toList.length = 1 := rfl
      omega) W)
    have hN6 : N ≤ 1000 := by omega
    have HTl := Lib.hid hTl
    have HTn := Lib.hid hTn
    have HNn := Lib.hid hNn
    clear hTl hTn hNn hT h0l
    by_cases h0 : N = 0
    · subst h0
      go_enter Try.func4, Try.ntmps4
      go_wp2_with fail
      refine (H1.out _).mono ?_
      rintro e w3 ⟨rfl, hb3⟩
      go_wp2_with fail
      refine (H2.out _).mono ?_
      rintro e w4 ⟨rfl, hb4⟩
      go_wp2_with fail
      refine (H3.out _).mono ?_
      rintro e w5 ⟨rfl, hb5⟩
      go_wp2_with fail
      refine (awake_true _).mono ?_
      rintro e w6 ⟨rfl, hb6⟩
      go_wp2_with fail
      go_ret
      exact ⟨rfl, bthen (bthen (bthen hb3 hb4) hb5) hb6⟩
    · obtain ⟨I, hI, hI2⟩ : ∃ I : Nat, a1 % (N : Int) = (I : Int) ∧ I < N := ⟨(a1 % (N : Int)).toNat, by have := Int.emod_nonneg a1 (b := (N : Int)) (by omega); omega, by have := Int.emod_nonneg a1 (b := (N : Int)) (by omega); have := Int.emod_lt_of_pos a1 (b := (N : Int)) (by omega); omega⟩
      have hN0 : ((N : Int) == 0) = false := by simp; omega
      have hN1 : ¬ (N : Int) = 0 := by omega
      have hIN : (I : Int) < (N : Int) := by omega
      have hcv : ∀ W, (convert 9 31 (.string T)).run Try.prog W = .ok (.slice (some ⟨W.heap.size, 0, none⟩) N (grownCap W T.size 0 5)) (Lib.bytesWorld W 5 T) := fun W => by
        have := Lib.run_convert_string_bytes (P := Try.prog) W 9 31 5 T Try.underlying9 Try.underlying31 Try.underlying5
        rw [hN] at this ⊢
        exact this
      go_enter Try.func4, Try.ntmps4
      go_wp2_with fail
      refine (H1.out _).mono ?_
      rintro e w3 ⟨rfl, hb3⟩
      go_wp2_with fail
      refine (H2.out _).mono ?_
      rintro e w4 ⟨rfl, hb4⟩
      go_wp2_with fail
      refine (H3.out _).mono ?_
      rintro e w5 ⟨rfl, hb5⟩
      have hb := bthen (bthen hb3 hb4) hb5
      clear hb3 hb4 hb5
      have hR := RowIs.of w5 5 T
      have hb6 := below_bytesWorld hb hb.size 5 T
      have hcv5 := hcv w5
      clear hcv
      have hsz5 := hb.size
      generalize Lib.bytesWorld w5 5 T = w6 at *
      have hlt : I < T.data.toList.length := by rw [HTn.out]; exact hI2
      have hc := hR.cell I hlt
      have hf := hR.free I hlt
      have hR7 := hR.put I d
      rw [hd] at hR7
      have hb7 : Below w.heap.size w (w6.setCell ⟨w5.heap.size, I, none⟩ (.int .u8 a2)) := hb6.setCell hsz5 _
      have hcb := fun cap => hR7.back (P := Try.prog) (src := 31) (dst := 9) cap Try.underlying31 Try.underlying5 Try.underlying9
      rw [List.length_set, HTn.out] at hcb
      clear hR hb hb6
      obtain ⟨U, hU⟩ : ∃ U : ByteArray, U = ⟨(T.data.toList.set I d).toArray⟩ := ⟨_, rfl⟩
      have hUs : U.size ≤ 30000 := by
        have h3 : U.data.toList.length = U.size := by simp
        have h4 := HTn.out
        rw [hU] at h3
        simp only [List.length_set] at h3
        rw [hU]
        omega
      rw [← hU] at hcb
      have HU := Lib.hid hU
      clear hU
      go_wp2_with fail
      generalize w6.setCell ⟨w5.heap.size, I, none⟩ (.int .u8 a2) = w7 at *
      have hlt7 := hR7.size
      have hcb8 : ∀ w8, Below w7.heap.size w7 w8 → ∀ cap, (convert 31 9 (.slice (some ⟨w5.heap.size, 0, none⟩) N cap)).run Try.prog w8 = .ok (.string U) w8 := fun w8 hb8 cap => by
        have := (hR7.kept hb8 hlt7).back (P := Try.prog) (src := 31) (dst := 9) cap Try.underlying31 Try.underlying5 Try.underlying9
        rw [List.length_set, HTn.out, ← HU.out] at this
        exact this
      clear hR7 hcb hc hf hcv5 HU hlt
      by_cases hUT : U = T
      · subst hUT
        refine (H2.out _).mono ?_
        rintro e w8 ⟨rfl, hb8⟩
        have hcb9 := hcb8 w8 hb8
        clear hcb8
        go_wp2_with fail
        refine (awake_true _).mono ?_
        rintro e w9 ⟨rfl, hb9⟩
        go_wp2_with fail
        go_ret
        exact ⟨rfl, bthen (bthen hb7 hb8) hb9⟩
      · have hUT' : ¬ U.toList = T.toList := fun h3 => hUT (bytes_ext (by rw [← ByteArray.toList_eq, ← ByteArray.toList_eq]; exact h3))
        refine (Get_any U hUs _).mono ?_
        rintro e w8 ⟨rfl, hb8⟩
        have hcb9 := hcb8 w8 hb8
        clear hcb8
        cases hg : SixM.get U.data.toList with
        | none =>
          clear hg
          simp only [getRet]
          go_wp2_with fail
          refine (awake_true _).mono ?_
          rintro e w9 ⟨rfl, hb9⟩
          go_wp2_with fail
          go_ret
          exact ⟨rfl, bthen (bthen hb7 hb8) hb9⟩
        | some y =>
          obtain ⟨Y, hY⟩ : ∃ Y : ByteArray, Y = ⟨y.toArray⟩ := ⟨_, rfl⟩
          have hYne : ¬ Y.toList = a0.toList := fun h3 => by
            have h4 : Y.data.toList = a0.data.toList := by rw [← ByteArray.toList_eq, ← ByteArray.toList_eq]; exact h3
            have h5 : y = a0.data.toList := by rw [← h4, hY]
            have h6 := p3_get hg
            rw [h5, ← HTl.out] at h6
            exact hUT (bytes_ext h6.symm)
          simp only [getRet]
          rw [← hY]
          clear hg hY
          go_wp2_with fail
          refine (awake_true _).mono ?_
          rintro e w9 ⟨rfl, hb9⟩
          go_wp2_with fail
          go_ret
          exact ⟨ret_bool (a := U.toList == T.toList || !Y.toList == a0.toList) (by simp [hYne]), bthen (bthen hb7 hb8) hb9⟩
  · have h1 : (300 : Int) < (n : Int) := by omega
    go_enter Try.func4, Try.ntmps4
    go_wp2_with fail
    refine (awake_true _).mono ?_
    rintro e w6 ⟨rfl, hb6⟩
    go_wp2_with fail
    go_ret
    exact ⟨rfl, hb6⟩
end Go.Proofs.Ythebijpdpchpcaa
