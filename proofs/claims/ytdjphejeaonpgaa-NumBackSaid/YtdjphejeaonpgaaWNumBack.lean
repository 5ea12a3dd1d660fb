/- The walk of the law NumBack. -/
import Derived.Test.YtdjphejeaonpgaaNumAwake
import Derived.Test.YtdjphejeaonpgaaByteRow
namespace Go.Proofs.Ytdjphejeaonpgaa
open Go.RowKit
open NumM
set_option linter.unusedVariables false

theorem xor_same (a b : UInt8) (h : a ^^^ b = a) : b = 0 := by
  have h2 := congrArg (fun x => a ^^^ x) h
  simpa [← UInt8.xor_assoc] using h2
theorem xor_byte (a b : UInt8) : bits .xor .u8 (a.toNat : Int) (b.toNat : Int) = ((a ^^^ b).toNat : Int) := by
  rw [u8_xor_nat _ _ a.toNat_lt b.toNat_lt, UInt8.toNat_xor]

set_option maxHeartbeats 800000 in
theorem numBack_some8 (n at_ by_ : Int) (w : World) (hn : -9223372036854775808 ≤ n ∧ n ≤ 9223372036854775807) (ha : 0 ≤ at_ ∧ at_ ≤ 255) (hby : 0 ≤ by_ ∧ by_ ≤ 255) (l : List UInt8) (hl : fieldO n 8 = some l) :
    Calls Try.prog 4 #[.int .i64 n, .bool false, .int .u8 at_, .int .u8 by_] w fun e w' => e = .returned (.bool true) ∧ Below w.heap.size w w' := by
  have hlen : l.length = 8 := by have := fieldO_length hl; omega
  obtain ⟨d, hd⟩ : ∃ d : UInt8, (d.toNat : Int) = by_ := ⟨UInt8.ofNat by_.toNat, by simp; omega⟩
  obtain ⟨I, hI, hI2⟩ : ∃ I : Nat, at_ % 8 = (I : Int) ∧ I < 8 := ⟨(at_ % 8).toNat, by omega, by omega⟩
  obtain ⟨s, hs⟩ : ∃ s : ByteArray, s = ⟨l.toArray⟩ := ⟨_, rfl⟩
  have hsl : s.data.toList = l := by rw [hs]
  have hsz : s.size = 8 := by rw [hs]; show l.toArray.size = 8; simpa using hlen
  have H1 := Lib.hid (fun W => hs ▸ Field_yes n 8 l hl W)
  have H2 := Lib.hid (fun W => ReadField_yes s n (by rw [hsl]; exact rdFld_of hn hl) W)
  have H3 := Lib.hid (fun W => ReadField_no (s.extract 0 7) (by
    rw [Lib.extract_data]
    refine rdFld_short ?_
    rw [List.length_take, List.length_drop, hsl, hlen]
    rfl) W)
  have hlt : I < l.length := by omega
  have hxor := xor_byte l[I] d
  have hcv : ∀ W, (convert 9 34 (.string s)).run Try.prog W = .ok (.slice (some ⟨W.heap.size, 0, none⟩) 8 (grownCap W s.size 0 5)) (Lib.bytesWorld W 5 s) := fun W => by
    have := Lib.run_convert_string_bytes (P := Try.prog) W 9 34 5 s Try.underlying9 Try.underlying34 Try.underlying5
    rw [hsz] at this ⊢
    exact this
  have hlen1 : ((s.size : Int) != 8) = false := by simp [hsz]
  have hsz1 : s.size ≤ 8 := by omega
  have hsz2 : 8 ≤ s.size := by omega
  rw [hd] at hxor
  have Hx := Lib.hid hxor
  have Hl := Lib.hid hl
  have Hd := Lib.hid hd
  have Hsl := Lib.hid hsl
  have Hlen := Lib.hid hlen
  clear hxor hl hd hsl hlen hs hsz
  go_enter Try.func4, Try.ntmps4
  go_wp2_with fail
  refine (H1.out _).mono ?_
  rintro e w1 ⟨rfl, hb1⟩
  go_wp2_with fail
  refine (H2.out _).mono ?_
  rintro e w2 ⟨rfl, hb2⟩
  go_wp2_with fail
  refine (H3.out _).mono ?_
  rintro e w3 ⟨rfl, hb3⟩
  have hb := bthen (bthen hb1 hb2) hb3
  clear hb1 hb2 hb3
  have hR := RowIs.of w3 5 s
  rw [Hsl.out] at hR
  have hb4 := below_bytesWorld hb hb.size 5 s
  have hcv3 := hcv w3
  clear hcv
  have hsz3 := hb.size
  generalize Lib.bytesWorld w3 5 s = w4 at *
  have hc := hR.cell I hlt
  have hf := hR.free I hlt
  have hR5 := hR.put I (l[I] ^^^ d)
  rw [← Hx.out] at hR5
  generalize hy : bits .xor .u8 ((l[I]).toNat : Int) by_ = y at *
  have hb5 : Below w.heap.size w (w4.setCell ⟨w3.heap.size, I, none⟩ (.int .u8 y)) := hb4.setCell hsz3 _
  have hcb := fun cap => hR5.back (P := Try.prog) (src := 34) (dst := 9) cap Try.underlying34 Try.underlying5 Try.underlying9
  rw [List.length_set, Hlen.out] at hcb
  clear hR hR5 hb hb4
  go_wp2_with fail
  rcases hrd : rdFld (l.set I (l[I] ^^^ d)) with _ | v
  · refine (ReadField_no ⟨(l.set I (l[I] ^^^ d)).toArray⟩ hrd _).mono ?_
    rintro e w5 ⟨rfl, hb6⟩
    clear hrd hcb hc hf hcv3 hy
    rcases hz : (by_ == 0) with _ | _
    all_goals
      go_wp2_with fail
      refine (awake_true _).mono ?_
      rintro e w6 ⟨rfl, hb7⟩
      go_wp2_with fail
      go_ret
      exact ⟨rfl, bthen (bthen hb5 hb6) hb7⟩
  · have hcases : (by_ == 0) = true ∨ ((by_ == 0) = false ∧ (v != n) = true) := by
      by_cases hvn : v = n
      · left
        subst hvn
        have h1 := rdFld_form hrd
        rw [List.length_set, Hlen.out] at h1
        have h2 := Hl.out
        rw [show ((8 : Nat) : Int) = 8 from rfl, h2] at h1
        injection h1 with h1
        have h3 : (l.set I (l[I] ^^^ d))[I]'(by simpa using hlt) = l[I] ^^^ d := by simp
        have h4 : l[I] ^^^ d = l[I] := by
          rw [← h3]
          congr 1
          exact h1.symm
        have h5 := xor_same _ _ h4
        have h6 := Hd.out
        rw [h5] at h6
        simpa using h6.symm
      · by_cases hz : by_ = 0
        · left; simpa using hz
        · right; exact ⟨by simpa using hz, by simpa using hvn⟩
    refine (ReadField_yes ⟨(l.set I (l[I] ^^^ d)).toArray⟩ v hrd _).mono ?_
    rintro e w5 ⟨rfl, hb6⟩
    clear hrd hcb hc hf hcv3 hy
    rcases hcases with hz | ⟨hz, hv⟩
    all_goals
      go_wp2_with fail
      refine (awake_true _).mono ?_
      rintro e w6 ⟨rfl, hb7⟩
      go_wp2_with fail
      go_ret
      exact ⟨rfl, bthen (bthen hb5 hb6) hb7⟩

set_option maxHeartbeats 800000 in
theorem numBack_some12 (n at_ by_ : Int) (w : World) (hn : -9223372036854775808 ≤ n ∧ n ≤ 9223372036854775807) (ha : 0 ≤ at_ ∧ at_ ≤ 255) (hby : 0 ≤ by_ ∧ by_ ≤ 255) (l : List UInt8) (hl : fieldO n 12 = some l) :
    Calls Try.prog 4 #[.int .i64 n, .bool true, .int .u8 at_, .int .u8 by_] w fun e w' => e = .returned (.bool true) ∧ Below w.heap.size w w' := by
  have hlen : l.length = 12 := by have := fieldO_length hl; omega
  obtain ⟨d, hd⟩ : ∃ d : UInt8, (d.toNat : Int) = by_ := ⟨UInt8.ofNat by_.toNat, by simp; omega⟩
  obtain ⟨I, hI, hI2⟩ : ∃ I : Nat, at_ % 12 = (I : Int) ∧ I < 12 := ⟨(at_ % 12).toNat, by omega, by omega⟩
  obtain ⟨s, hs⟩ : ∃ s : ByteArray, s = ⟨l.toArray⟩ := ⟨_, rfl⟩
  have hsl : s.data.toList = l := by rw [hs]
  have hsz : s.size = 12 := by rw [hs]; show l.toArray.size = 12; simpa using hlen
  have H1 := Lib.hid (fun W => hs ▸ Field_yes n 12 l hl W)
  have H2 := Lib.hid (fun W => ReadField_yes s n (by rw [hsl]; exact rdFld_of hn hl) W)
  have H3 := Lib.hid (fun W => ReadField_no (s.extract 0 11) (by
    rw [Lib.extract_data]
    refine rdFld_short ?_
    rw [List.length_take, List.length_drop, hsl, hlen]
    rfl) W)
  have hlt : I < l.length := by omega
  have hxor := xor_byte l[I] d
  have hcv : ∀ W, (convert 9 34 (.string s)).run Try.prog W = .ok (.slice (some ⟨W.heap.size, 0, none⟩) 12 (grownCap W s.size 0 5)) (Lib.bytesWorld W 5 s) := fun W => by
    have := Lib.run_convert_string_bytes (P := Try.prog) W 9 34 5 s Try.underlying9 Try.underlying34 Try.underlying5
    rw [hsz] at this ⊢
    exact this
  have hlen1 : ((s.size : Int) != 12) = false := by simp [hsz]
  have hsz1 : s.size ≤ 12 := by omega
  have hsz2 : 12 ≤ s.size := by omega
  rw [hd] at hxor
  have Hx := Lib.hid hxor
  have Hl := Lib.hid hl
  have Hd := Lib.hid hd
  have Hsl := Lib.hid hsl
  have Hlen := Lib.hid hlen
  clear hxor hl hd hsl hlen hs hsz
  go_enter Try.func4, Try.ntmps4
  go_wp2_with fail
  refine (H1.out _).mono ?_
  rintro e w1 ⟨rfl, hb1⟩
  go_wp2_with fail
  refine (H2.out _).mono ?_
  rintro e w2 ⟨rfl, hb2⟩
  go_wp2_with fail
  refine (H3.out _).mono ?_
  rintro e w3 ⟨rfl, hb3⟩
  have hb := bthen (bthen hb1 hb2) hb3
  clear hb1 hb2 hb3
  have hR := RowIs.of w3 5 s
  rw [Hsl.out] at hR
  have hb4 := below_bytesWorld hb hb.size 5 s
  have hcv3 := hcv w3
  clear hcv
  have hsz3 := hb.size
  generalize Lib.bytesWorld w3 5 s = w4 at *
  have hc := hR.cell I hlt
  have hf := hR.free I hlt
  have hR5 := hR.put I (l[I] ^^^ d)
  rw [← Hx.out] at hR5
  generalize hy : bits .xor .u8 ((l[I]).toNat : Int) by_ = y at *
  have hb5 : Below w.heap.size w (w4.setCell ⟨w3.heap.size, I, none⟩ (.int .u8 y)) := hb4.setCell hsz3 _
  have hcb := fun cap => hR5.back (P := Try.prog) (src := 34) (dst := 9) cap Try.underlying34 Try.underlying5 Try.underlying9
  rw [List.length_set, Hlen.out] at hcb
  clear hR hR5 hb hb4
  go_wp2_with fail
  rcases hrd : rdFld (l.set I (l[I] ^^^ d)) with _ | v
  · refine (ReadField_no ⟨(l.set I (l[I] ^^^ d)).toArray⟩ hrd _).mono ?_
    rintro e w5 ⟨rfl, hb6⟩
    clear hrd hcb hc hf hcv3 hy
    rcases hz : (by_ == 0) with _ | _
    all_goals
      go_wp2_with fail
      refine (awake_true _).mono ?_
      rintro e w6 ⟨rfl, hb7⟩
      go_wp2_with fail
      go_ret
      exact ⟨rfl, bthen (bthen hb5 hb6) hb7⟩
  · have hcases : (by_ == 0) = true ∨ ((by_ == 0) = false ∧ (v != n) = true) := by
      by_cases hvn : v = n
      · left
        subst hvn
        have h1 := rdFld_form hrd
        rw [List.length_set, Hlen.out] at h1
        have h2 := Hl.out
        rw [show ((12 : Nat) : Int) = 12 from rfl, h2] at h1
        injection h1 with h1
        have h3 : (l.set I (l[I] ^^^ d))[I]'(by simpa using hlt) = l[I] ^^^ d := by simp
        have h4 : l[I] ^^^ d = l[I] := by
          rw [← h3]
          congr 1
          exact h1.symm
        have h5 := xor_same _ _ h4
        have h6 := Hd.out
        rw [h5] at h6
        simpa using h6.symm
      · by_cases hz : by_ = 0
        · left; simpa using hz
        · right; exact ⟨by simpa using hz, by simpa using hvn⟩
    refine (ReadField_yes ⟨(l.set I (l[I] ^^^ d)).toArray⟩ v hrd _).mono ?_
    rintro e w5 ⟨rfl, hb6⟩
    clear hrd hcb hc hf hcv3 hy
    rcases hcases with hz | ⟨hz, hv⟩
    all_goals
      go_wp2_with fail
      refine (awake_true _).mono ?_
      rintro e w6 ⟨rfl, hb7⟩
      go_wp2_with fail
      go_ret
      exact ⟨rfl, bthen (bthen hb5 hb6) hb7⟩

theorem numBack_none (n at_ by_ : Int) (w : World) (hl : fieldO n 8 = none) :
    Calls Try.prog 4 #[.int .i64 n, .bool false, .int .u8 at_, .int .u8 by_] w fun e w' => e = .returned (.bool true) ∧ Below w.heap.size w w' := by
  have hf := (fieldO_none (by decide) hl).2
  have H1 := Lib.hid (fun W => Field_no n 8 hl W)
  have hcase : decide (72057594037927936 ≤ n) = true ∨ (decide (72057594037927936 ≤ n) = false ∧ decide (n < -72057594037927936) = true) := by
    rcases hf with h | h
    · right; refine ⟨?_, ?_⟩ <;> simp <;> omega
    · left; simpa using h
  clear hl hf
  rcases hcase with h1 | ⟨h1, h2⟩
  all_goals
    go_enter Try.func4, Try.ntmps4
    go_wp2_with fail
    refine (H1.out _).mono ?_
    rintro e w1 ⟨rfl, hb1⟩
    go_wp2_with fail
    refine (awake_true _).mono ?_
    rintro e w6 ⟨rfl, hb7⟩
    go_wp2_with fail
    go_ret
    exact ⟨rfl, bthen hb1 hb7⟩

theorem numBack_walk (a0 : Int) (a1 : Bool) (a2 : Int) (a3 : Int) (w : World) (w0 : (Lit.int .i64 a0).wf = true) (w2 : (Lit.int .u8 a2).wf = true) (w3 : (Lit.int .u8 a3).wf = true) :
    Calls Try.prog 4 #[.int .i64 a0, .bool a1, .int .u8 a2, .int .u8 a3] w fun e w' => e = .returned (.bool true) ∧ Below w.heap.size w w' := by
  have b0 := bounds64 w0
  have b2 := boundsU8 w2
  have b3 := boundsU8 w3
  rcases a1 with _ | _
  · rcases hl : fieldO a0 8 with _ | l
    · exact numBack_none a0 a2 a3 w hl
    · exact numBack_some8 a0 a2 a3 w b0 b2 b3 l hl
  · rcases hl : fieldO a0 12 with _ | l
    · have := (fieldO_none (by decide) hl).1
      omega
    · exact numBack_some12 a0 a2 a3 w b0 b2 b3 l hl
end Go.Proofs.Ytdjphejeaonpgaa
