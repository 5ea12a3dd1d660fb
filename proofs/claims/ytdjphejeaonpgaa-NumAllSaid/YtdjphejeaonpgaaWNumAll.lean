/- The walk of the law NumAll. -/
import Derived.Test.YtdjphejeaonpgaaNumAwake
import Derived.Test.YtdjphejeaonpgaaRefRead3
namespace Go.Proofs.Ytdjphejeaonpgaa
open Go.RowKit
open NumM
set_option linter.unusedVariables false

theorem tell_any {f : FuncId} {n v : Int} {o : Option (List UInt8)} (hy : ∀ l, o = some l → ∀ W, Calls Try.prog f #[.int .i64 n, .int .i64 v] W fun e w' => e = .returned (.tuple #[.string ⟨l.toArray⟩, .bool true]) ∧ Below W.heap.size W w')
    (hn : o = none → ∀ W, Calls Try.prog f #[.int .i64 n, .int .i64 v] W fun e w' => e = .returned (.tuple #[.string { data := #[] }, .bool false]) ∧ Below W.heap.size W w') :
    ∀ W, Calls Try.prog f #[.int .i64 n, .int .i64 v] W fun e w' => e = .returned (.tuple #[.string (bstr o), .bool o.isSome]) ∧ Below W.heap.size W w' := by
  rcases o with _ | l
  · exact hn rfl
  · exact hy l rfl
theorem read_any {f : FuncId} {s : ByteArray} {o : Option Int} (hy : ∀ v, o = some v → ∀ W, Calls Try.prog f #[.string s] W fun e w' => e = .returned (.tuple #[.int .i64 v, .bool true]) ∧ Below W.heap.size W w')
    (hn : o = none → ∀ W, Calls Try.prog f #[.string s] W fun e w' => e = .returned (.tuple #[.int .i64 0, .bool false]) ∧ Below W.heap.size W w') :
    ∀ W, Calls Try.prog f #[.string s] W fun e w' => e = .returned (.tuple #[.int .i64 (o.getD 0), .bool o.isSome]) ∧ Below W.heap.size W w' := by
  rcases o with _ | l
  · exact hn rfl
  · exact hy l rfl

theorem numAll_long (n v : Int) (s : ByteArray) (w : World) (h : 100 < s.size) :
    Calls Try.prog 3 #[.int .i64 n, .int .i64 v, .string s] w fun e w' => e = .returned (.bool true) ∧ Below w.heap.size w w' := by
  have h1 : decide ((100 : Int) < (s.size : Int)) = true := decide_eq_true (by omega)
  clear h
  go_enter Try.func3, Try.ntmps3
  go_wp2_with fail
  refine (awake_true _).mono ?_
  rintro e w1 ⟨rfl, hb⟩
  go_wp2_with fail
  go_ret
  exact ⟨rfl, hb⟩

set_option maxHeartbeats 1600000 in
theorem numAll_short (n v : Int) (s : ByteArray) (w : World) (h : s.size ≤ 100) (hn : -9223372036854775808 ≤ n ∧ n ≤ 9223372036854775807) :
    Calls Try.prog 3 #[.int .i64 n, .int .i64 v, .string s] w fun e w' => e = .returned (.bool true) ∧ Below w.heap.size w w' := by
  have h1 : decide ((100 : Int) < (s.size : Int)) = false := decide_eq_false (by omega)
  have a1 := tell_any (fun l h W => Octal_yes n v l h W) (fun h W => Octal_no n v h W)
  have a2 := tell_any (fun l h W => Base_yes n v l h W) (fun h W => Base_no n v h W)
  have a3 := tell_any (fun l h W => Field_yes n v l h W) (fun h W => Field_no n v h W)
  have r1 := fun W => refOctal_any n v hn.2 W
  have r2 := fun W => refBase_any n v hn W
  have r3 := fun W => refField_any n v hn W
  have a4 := read_any (fun x h W => ReadOctal_yes s x h W) (fun h W => ReadOctal_no s h W)
  have a5 := read_any (fun x h W => ReadBase_yes s x h W) (fun h W => ReadBase_no s h W)
  have a6 := read_any (fun x h W => ReadField_yes s x h W) (fun h W => ReadField_no s h W)
  have r4 := fun W => refReadOctal_any s W
  have r5 := fun W => refReadBase_any s W
  have r6 := fun W => refReadField_any s W
  rw [rOct'_eq] at r4
  simp only [saidOf, numV] at r1 r2 r3 r4 r5 r6
  generalize bstr (octO n v) = b1 at *
  generalize (octO n v).isSome = o1 at *
  generalize bstr (basO n v) = b2 at *
  generalize (basO n v).isSome = o2 at *
  generalize bstr (fieldO n v) = b3 at *
  generalize (fieldO n v).isSome = o3 at *
  generalize (rdOct s.data.toList).getD 0 = v4 at *
  generalize (rdOct s.data.toList).isSome = o4 at *
  generalize (rdBas s.data.toList).getD 0 = v5 at *
  generalize (rdBas s.data.toList).isSome = o5 at *
  generalize (rdFld s.data.toList).getD 0 = v6 at *
  generalize (rdFld s.data.toList).isSome = o6 at *
  have A1 := Lib.hid a1
  have A2 := Lib.hid a2
  have A3 := Lib.hid a3
  have A4 := Lib.hid a4
  have A5 := Lib.hid a5
  have A6 := Lib.hid a6
  have R1 := Lib.hid r1
  have R2 := Lib.hid r2
  have R3 := Lib.hid r3
  have R4 := Lib.hid r4
  have R5 := Lib.hid r5
  have R6 := Lib.hid r6
  clear a1 a2 a3 a4 a5 a6 r1 r2 r3 r4 r5 r6 h hn
  go_enter Try.func3, Try.ntmps3
  go_wp2_with fail
  refine (A1.out _).mono ?_
  rintro e w1 ⟨rfl, hb1⟩
  go_wp2_with fail
  refine (A2.out _).mono ?_
  rintro e w2 ⟨rfl, hb2⟩
  go_wp2_with fail
  refine (A3.out _).mono ?_
  rintro e w3 ⟨rfl, hb3⟩
  go_wp2_with fail
  refine (R1.out _).mono ?_
  rintro e w4 ⟨rfl, hb4⟩
  go_wp2_with fail
  refine (R2.out _).mono ?_
  rintro e w5 ⟨rfl, hb5⟩
  go_wp2_with fail
  refine (R3.out _).mono ?_
  rintro e w6 ⟨rfl, hb6⟩
  have hb := bthen (bthen (bthen (bthen (bthen hb1 hb2) hb3) hb4) hb5) hb6
  clear hb1 hb2 hb3 hb4 hb5 hb6
  go_wp2_with fail
  refine (A4.out _).mono ?_
  rintro e w7 ⟨rfl, hb7⟩
  have hs := hb.size
  have hc := bthen (((hb.alloc hs _).alloc (by simp; omega) _).alloc (by simp; omega) _) hb7
  clear hb hb7 hs
  go_wp2_with fail
  refine (A5.out _).mono ?_
  rintro e w8 ⟨rfl, hb8⟩
  go_wp2_with fail
  refine (A6.out _).mono ?_
  rintro e w9 ⟨rfl, hb9⟩
  go_wp2_with fail
  refine (R4.out _).mono ?_
  rintro e w10 ⟨rfl, hb10⟩
  go_wp2_with fail
  refine (R5.out _).mono ?_
  rintro e w11 ⟨rfl, hb11⟩
  go_wp2_with fail
  refine (R6.out _).mono ?_
  rintro e w12 ⟨rfl, hb12⟩
  have hb := bthen (bthen (bthen (bthen (bthen hc hb8) hb9) hb10) hb11) hb12
  clear hc hb8 hb9 hb10 hb11 hb12
  go_wp2_with fail
  refine (awake_true _).mono ?_
  rintro e w13 ⟨rfl, hb13⟩
  have hs := hb.size
  have hc := bthen (((hb.alloc hs _).alloc (by simp; omega) _).alloc (by simp; omega) _) hb13
  go_wp2_with fail
  go_ret
  exact ⟨rfl, hc⟩

theorem numAll_walk (a0 : Int) (a1 : Int) (a2 : ByteArray) (w : World) (w0 : (Lit.int .i64 a0).wf = true) (w1 : (Lit.int .i64 a1).wf = true) (w2 : a2.size ≤ maxLen) :
    Calls Try.prog 3 #[.int .i64 a0, .int .i64 a1, .string a2] w fun e w' => e = .returned (.bool true) ∧ Below w.heap.size w w' := by
  by_cases h : 100 < a2.size
  · exact numAll_long a0 a1 a2 w h
  · exact numAll_short a0 a1 a2 w (by omega) (bounds64 w0)
end Go.Proofs.Ytdjphejeaonpgaa
