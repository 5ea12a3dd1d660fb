/- Walks over package num: readAs, ReadOctal, ReadBase, ReadField. -/
import Derived.Test.YtkkmhfgfkjeooaaNumBV
import Derived.Lib.Strings
namespace Go.Proofs.Ytkkmhfgfkjeooaa
open Go.RowKit
open NumM

def fldV (l : List UInt8) : Int := if (l.head?.getD 0).toNat < 128 then octV (l.take (l.length - 1)) else basV l

theorem head_is (s : ByteArray) (h : 1 ≤ s.size) : s.data.toList.head? = some (s[0]'(by omega)) := by
  rw [List.head?_eq_getElem?, List.getElem?_eq_getElem (by simp; omega)]; rfl

theorem fieldValue_any (s : ByteArray) (w : World) (h1 : 1 ≤ s.size) (h2 : s.size ≤ 12) :
    Calls Try.prog 77 #[.string s] w fun e w' => e = .returned (.int .i64 (fldV s.data.toList)) ∧ w = w' := by
  have Hh := Lib.hid (head_is s h1)
  have Ho := Lib.hid (octalValue_any s w h1 h2)
  have Hb := Lib.hid (baseValue_any s w h1 h2)
  have hidx : ∃ c : Int, Hid (c = ((s[0]'(by omega)).toNat : Int)) ∧ ∀ w, (Instr.index 9 (.string s) (.int .i64 0)).run Try.prog w = .ok (.int .u8 c) w := ⟨_, Lib.hid rfl, fun w => by
    have hs : 0 < s.size := by omega
    simp [go_sem, hs]⟩
  obtain ⟨c, Hc, hidx⟩ := hidx

  rcases hd : decide (c < 128) with _ | _
  · go_enter Try.func77, Try.ntmps77
    go_wp2_with fail
    refine Hb.out.mono ?_
    rintro e w' ⟨rfl, rfl⟩
    go_wp2_with fail
    go_ret
    refine ⟨ret_num ?_, rfl⟩
    unfold fldV
    have hc' := of_decide_eq_false hd
    have := Hc.out
    rw [Hh.out, if_neg (by simp; omega)]
  · go_enter Try.func77, Try.ntmps77
    go_wp2_with fail
    refine Ho.out.mono ?_
    rintro e w' ⟨rfl, rfl⟩
    go_wp2_with fail
    go_ret
    refine ⟨ret_num ?_, rfl⟩
    unfold fldV
    have hc' := of_decide_eq_true hd
    have := Hc.out
    rw [Hh.out, if_pos (by simp; omega)]
    simp

theorem readAs_bad (K1 K2 : FuncId) (s : ByteArray) (w : World) (h : isW (s.size : Int) = false) :
    Calls Try.prog 76 #[.func (Fn.func K1) #[] #[], .func (Fn.func K2) #[] #[], .string s] w fun e w' => e = noFieldPanic ∧ Below w.heap.size w w' := by
  have H := Lib.hid h; clear h
  go_enter Try.func76, Try.ntmps76
  go_wp2_with fail
  refine (checkWidth_no _ H.out _).mono ?_
  rintro e w' ⟨rfl, rfl⟩
  go_wp2_with fail
  exact ⟨rfl, rfl, Below.refl _ _⟩
theorem readAs_yes (K1 K2 : FuncId) (s : ByteArray) (v : Int) (w : World) (h : isW (s.size : Int) = true)
    (k1 : ∀ (a : Array Value) w, (callFunc K1 a).run Try.prog w = .ok (.enter K1 a) w) (k2 : ∀ (a : Array Value) w, (callFunc K2 a).run Try.prog w = .ok (.enter K2 a) w)
    (hV : ∀ W, Calls Try.prog K2 #[.string s] W fun e W' => e = .returned (.int .i64 v) ∧ W = W')
    (hE : ∀ W, Calls Try.prog K1 #[.int .i64 v, .int .i64 (s.size : Int)] W fun e W' => e = .returned (.string s) ∧ Below W.heap.size W W') :
    Calls Try.prog 76 #[.func (Fn.func K1) #[] #[], .func (Fn.func K2) #[] #[], .string s] w fun e w' => e = .returned (.int .i64 v) ∧ Below w.heap.size w w' := by
  have H := Lib.hid h; clear h
  have HV := Lib.hid hV; clear hV
  have HE := Lib.hid hE; clear hE
  go_enter Try.func76, Try.ntmps76
  go_wp2_with fail
  refine (checkWidth_ok _ H.out _).mono ?_
  rintro e w' ⟨rfl, rfl⟩
  go_wp2_with fail
  refine (HV.out _).mono ?_
  rintro e w' ⟨rfl, rfl⟩
  go_wp2_with fail
  refine (HE.out _).mono ?_
  rintro e w1 ⟨rfl, hb⟩
  go_wp2_with fail
  go_ret
  exact ⟨rfl, hb⟩
theorem readAs_other (K1 K2 : FuncId) (s t : ByteArray) (v : Int) (w : World) (h : isW (s.size : Int) = true) (hne : (t.toList == s.toList) = false)
    (k1 : ∀ (a : Array Value) w, (callFunc K1 a).run Try.prog w = .ok (.enter K1 a) w) (k2 : ∀ (a : Array Value) w, (callFunc K2 a).run Try.prog w = .ok (.enter K2 a) w)
    (hV : ∀ W, Calls Try.prog K2 #[.string s] W fun e W' => e = .returned (.int .i64 v) ∧ W = W')
    (hE : ∀ W, Calls Try.prog K1 #[.int .i64 v, .int .i64 (s.size : Int)] W fun e W' => e = .returned (.string t) ∧ Below W.heap.size W W') :
    Calls Try.prog 76 #[.func (Fn.func K1) #[] #[], .func (Fn.func K2) #[] #[], .string s] w fun e w' => e = noFieldPanic ∧ Below w.heap.size w w' := by
  have H := Lib.hid h; clear h
  have HV := Lib.hid hV; clear hV
  have HE := Lib.hid hE; clear hE
  go_enter Try.func76, Try.ntmps76
  go_wp2_with fail
  refine (checkWidth_ok _ H.out _).mono ?_
  rintro e w' ⟨rfl, rfl⟩
  go_wp2_with fail
  refine (HV.out _).mono ?_
  rintro e w' ⟨rfl, rfl⟩
  go_wp2_with fail
  refine (HE.out _).mono ?_
  rintro e w1 ⟨rfl, hb⟩
  go_wp2_with fail
  exact ⟨rfl, rfl, hb⟩
theorem readAs_none (K1 K2 : FuncId) (s : ByteArray) (v : Int) (w : World) (h : isW (s.size : Int) = true)
    (k1 : ∀ (a : Array Value) w, (callFunc K1 a).run Try.prog w = .ok (.enter K1 a) w) (k2 : ∀ (a : Array Value) w, (callFunc K2 a).run Try.prog w = .ok (.enter K2 a) w)
    (hV : ∀ W, Calls Try.prog K2 #[.string s] W fun e W' => e = .returned (.int .i64 v) ∧ W = W')
    (hE : ∀ W, Calls Try.prog K1 #[.int .i64 v, .int .i64 (s.size : Int)] W fun e W' => e = noFieldPanic ∧ Below W.heap.size W W') :
    Calls Try.prog 76 #[.func (Fn.func K1) #[] #[], .func (Fn.func K2) #[] #[], .string s] w fun e w' => e = noFieldPanic ∧ Below w.heap.size w w' := by
  have H := Lib.hid h; clear h
  have HV := Lib.hid hV; clear hV
  have HE := Lib.hid hE; clear hE
  go_enter Try.func76, Try.ntmps76
  go_wp2_with fail
  refine (checkWidth_ok _ H.out _).mono ?_
  rintro e w' ⟨rfl, rfl⟩
  go_wp2_with fail
  refine (HV.out _).mono ?_
  rintro e w' ⟨rfl, rfl⟩
  go_wp2_with fail
  refine (HE.out _).mono ?_
  rintro e w1 ⟨rfl, hb⟩
  go_wp2_with fail
  exact ⟨rfl, rfl, hb⟩

/-- A reader, on lists. -/
def rdO (enc : Int → Int → Option (List UInt8)) (v : Int) (l : List UInt8) : Option Int := if enc v l.length = some l then some v else none
def octW (l : List UInt8) : Int := octV (l.take (l.length - 1))
def rdOct (l : List UInt8) : Option Int := rdO octO (octW l) l
def rdBas (l : List UInt8) : Option Int := rdO basO (basV l) l
def rdFld (l : List UInt8) : Option Int := rdO fieldO (fldV l) l

theorem isW_size {s : ByteArray} (h : isW (s.size : Int) = true) : 1 ≤ s.size ∧ s.size ≤ 12 := by
  have : (s.size : Int) = 8 ∨ (s.size : Int) = 12 := by simpa [isW] using h
  omega
theorem basO_bad (n v : Int) (h : isW v = false) : basO n v = none := by simp [basO, h]
theorem fieldO_bad (n v : Int) (h : isW v = false) : fieldO n v = none := by simp [fieldO, octO_bad n v h, basO_bad n v h]





theorem ReadField_clo_yes (s : ByteArray) (v : Int) (p : Addr) (w : World) (hp : w.cell? p = some (.string s)) (h : rdFld s.data.toList = some v) :
    Calls Try.prog 75 #[.pointer (some p)] w fun e w' => e = .returned (.int .i64 v) ∧ Below w.heap.size w w' := by
  have hsz : s.data.toList.length = s.size := by simp
  have hx : fieldO (fldV s.data.toList) (s.size : Int) = some s.data.toList ∧ fldV s.data.toList = v := by
    unfold rdFld rdO at h
    rw [hsz] at h
    split at h
    · exact ⟨by assumption, by injection h⟩
    · cases h
  obtain ⟨ho, hv⟩ := hx
  have hw : isW (s.size : Int) = true := by
    rcases hw : isW (s.size : Int) with _ | _
    · rw [fieldO_bad _ _ hw] at ho; cases ho
    · rfl
  have hs := isW_size hw
  have k1 : ∀ (a : Array Value) w, (callFunc 64 a).run Try.prog w = .ok (.enter 64 a) w := fun _ _ => by simp [go_sem]
  have k2 : ∀ (a : Array Value) w, (callFunc 77 a).run Try.prog w = .ok (.enter 77 a) w := fun _ _ => by simp [go_sem]
  have hV : ∀ W, Calls Try.prog 77 #[.string s] W fun e W' => e = .returned (.int .i64 v) ∧ W = W' := fun W => hv ▸ fieldValue_any s W hs.1 hs.2
  have hE : ∀ W, Calls Try.prog 64 #[.int .i64 v, .int .i64 (s.size : Int)] W fun e W' => e = .returned (.string s) ∧ Below W.heap.size W W' := fun W => by
    have := field_yes v _ _ (hv ▸ ho) W
    exact this
  have Hr := Lib.hid (fun W => readAs_yes _ _ s v W hw k1 k2 hV hE)
  clear k1 k2 hV hE hv ho hw hs h hsz
  go_enter Try.func75, Try.ntmps75
  go_wp2_with fail
  refine (Hr.out _).mono ?_
  rintro e w' ⟨rfl, hb⟩
  go_wp2_with fail
  go_ret
  exact ⟨rfl, hb⟩
theorem ReadField_clo_no (s : ByteArray) (p : Addr) (w : World) (hp : w.cell? p = some (.string s)) (h : rdFld s.data.toList = none) :
    Calls Try.prog 75 #[.pointer (some p)] w fun e w' => e = noFieldPanic ∧ Below w.heap.size w w' := by
  have hr : ∀ W, Calls Try.prog 76 #[.func (Fn.func 64) #[] #[], .func (Fn.func 77) #[] #[], .string s] W fun e w' => e = noFieldPanic ∧ Below W.heap.size W w' := by
    intro W
    have hsz : s.data.toList.length = s.size := by simp
    have hx : ¬ fieldO (fldV s.data.toList) (s.size : Int) = some s.data.toList := by
      unfold rdFld rdO at h
      rw [hsz] at h
      split at h
      · cases h
      · assumption
    rcases hw : isW (s.size : Int) with _ | _
    · exact readAs_bad _ _ s W hw
    · have hs := isW_size hw
      have k1 : ∀ (a : Array Value) w, (callFunc 64 a).run Try.prog w = .ok (.enter 64 a) w := fun _ _ => by simp [go_sem]
      have k2 : ∀ (a : Array Value) w, (callFunc 77 a).run Try.prog w = .ok (.enter 77 a) w := fun _ _ => by simp [go_sem]
      have hV : ∀ W, Calls Try.prog 77 #[.string s] W fun e W' => e = .returned (.int .i64 (fldV s.data.toList)) ∧ W = W' := fun W => fieldValue_any s W hs.1 hs.2
      rcases ho : fieldO (fldV s.data.toList) (s.size : Int) with _ | t
      · exact readAs_none _ _ s _ W hw k1 k2 hV (fun W => field_no _ _ ho W)
      · refine readAs_other _ _ s ⟨t.toArray⟩ _ W hw ?_ k1 k2 hV (fun W => field_yes _ _ _ ho W)
        rw [ho] at hx
        rw [Lib.toList_data, Lib.toList_data]
        simpa using hx
  have Hr := Lib.hid hr
  clear hr h
  go_enter Try.func75, Try.ntmps75
  go_wp2_with fail
  refine (Hr.out _).mono ?_
  rintro e w' ⟨rfl, hb⟩
  go_wp2_with fail
  exact ⟨rfl, rfl, hb⟩

/-- ReadField: the number and true. -/
theorem ReadField_yes (s : ByteArray) (v : Int) (h : rdFld s.data.toList = some v) (w : World) :
    Calls Try.prog 59 #[.string s] w fun e w' => e = .returned (.tuple #[.int .i64 v, .bool true]) ∧ Below w.heap.size w w' := by
  have hmf : ∀ (fn : Fn) (first cap : Array Value) (w : World), (Instr.makeFunc fn first cap).run Try.prog w = .ok (.func fn first cap) w := fun _ _ _ _ => rfl
  have hc : ∀ (p : Addr) (W : World), W.cell? p = some (.string s) → Calls Try.prog 75 #[.pointer (some p)] W fun e w' => e = .returned (.int .i64 v) ∧ Below W.heap.size W w' := fun p W hp => ReadField_clo_yes s v p W hp h
  have Hc := Lib.hid hc; clear hc h
  go_enter Try.func59, Try.ntmps59
  go_wp2_with fail
  refine (attemptI_ret 75 _ v _ (fun _ => by simp [go_sem]) (fun W hW => Hc.out _ W ((hW.cell (by simp)).trans (by simp [go_sem])))).mono ?_
  rintro e w' ⟨rfl, hbl⟩
  go_wp2_with fail
  go_ret2
  exact ⟨rfl, ((Below.refl _ _).alloc (Nat.le_refl _) _).trans (hbl.mono (by simp))⟩
/-- ReadField: nothing and false. -/
theorem ReadField_no (s : ByteArray) (h : rdFld s.data.toList = none) (w : World) :
    Calls Try.prog 59 #[.string s] w fun e w' => e = .returned (.tuple #[.int .i64 0, .bool false]) ∧ Below w.heap.size w w' := by
  have hmf : ∀ (fn : Fn) (first cap : Array Value) (w : World), (Instr.makeFunc fn first cap).run Try.prog w = .ok (.func fn first cap) w := fun _ _ _ _ => rfl
  have hc : ∀ (p : Addr) (W : World), W.cell? p = some (.string s) → Calls Try.prog 75 #[.pointer (some p)] W fun e w' => e = noFieldPanic ∧ Below W.heap.size W w' := fun p W hp => ReadField_clo_no s p W hp h
  have Hc := Lib.hid hc; clear hc h
  go_enter Try.func59, Try.ntmps59
  go_wp2_with fail
  refine (attemptI_panic 75 _ _ (fun _ => by simp [go_sem]) (fun W hW => Hc.out _ W ((hW.cell (by simp)).trans (by simp [go_sem])))).mono ?_
  rintro e w' ⟨rfl, hbl⟩
  go_wp2_with fail
  go_ret2
  exact ⟨rfl, ((Below.refl _ _).alloc (Nat.le_refl _) _).trans (hbl.mono (by simp))⟩
end Go.Proofs.Ytkkmhfgfkjeooaa
