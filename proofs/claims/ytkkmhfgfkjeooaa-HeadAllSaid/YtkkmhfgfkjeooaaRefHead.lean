/- Walks over the document's answer for package head: has, short, whole, filled, MayHead, text, Join. -/
import Derived.Test.YtkkmhfgfkjeooaaHeadMay2
import Derived.Test.YtkkmhfgfkjeooaaRegion
import Derived.Test.YtkkmhfgfkjeooaaMake
import Derived.Test.YtkkmhfgfkjeooaaRefRead3
namespace Go.Proofs.Ytkkmhfgfkjeooaa
open Go.RowKit
open HeadM NumM
set_option linter.unusedVariables false

theorem idxAt {P : Program} {t : TypeId} (ht : P.underlying t = some .string) (S : ByteArray) (i : Nat) (h : i < S.size) : ∃ c : UInt8, (L S)[i]? = some c ∧ ∀ w, (Instr.index t (.string S) (.int .i64 (i : Int))).run P w = .ok (.int .u8 (c.toNat : Int)) w := by
  refine ⟨S[i], ?_, ?_⟩
  · rw [List.getElem?_eq_getElem (by rw [size_L]; exact h)]; rfl
  · intro w
    simp [go_sem, ht, h]
theorem dropAt {l : List UInt8} {i : Nat} {c : UInt8} (h : l[i]? = some c) : l.drop i = c :: l.drop (i + 1) := by
  obtain ⟨hi, rfl⟩ := List.getElem?_eq_some_iff.1 h
  exact List.drop_eq_getElem_cons hi
theorem toNat_ne {a b : UInt8} (h : a ≠ b) : ((a.toNat : Int) == (b.toNat : Int)) = false := by
  rw [beq_eq_false_iff_ne]
  intro e
  exact h (UInt8.toNat_inj.1 (by omega))

theorem has_any (S : ByteArray) (c : UInt8) (x : Int) (hx : x = (c.toNat : Int)) (hS : S.size ≤ 9000000000) (w : World) :
    Calls Try.prog 48 #[.string S, .int .u8 x] w fun e w' => e = .returned (.bool ((L S).contains c)) ∧ w' = w := by
  obtain ⟨n, hn⟩ : ∃ n, S.size = n := ⟨_, rfl⟩
  have Hx := Lib.hid hx
  obtain ⟨M, hL⟩ : ∃ M, L S = M := ⟨_, rfl⟩
  have hln := Lib.hid (show M.length = n by rw [← hL, ← hn, size_L])
  have HI := Lib.hid (fun i (h : i < n) => idxAt Try.underlying9 S i (by omega))
  rw [hL] at HI ⊢
  rw [hn] at hS
  obtain ⟨r, hr⟩ : ∃ r, M.contains c = r := ⟨_, rfl⟩
  have Hrr := Lib.hid hr
  rw [hr]
  clear hx hL hr
  go_enter Try.func48, Try.ntmps48
  go_wp2_with fail
  go_loopw [5] (fun iv wr => ∃ i : Nat, iv = .int .i64 (i : Int) ∧ i ≤ n ∧ wr = w ∧ Hid (r = (M.drop i).contains c)) (fun iv _ => n - (intOf iv).toNat)
  case atStart => exact ⟨0, rfl, by omega, rfl, Lib.hid (by simp [← Hrr.out])⟩
  case round =>
    obtain ⟨i, rfl, hi, rfl, HR⟩ := hrel
    by_cases hlt : i < n
    · have hlt' : (i : Int) < (n : Int) := by omega
      obtain ⟨d, hd, hidx⟩ := HI.out i hlt
      by_cases hdc : d = c
      · have heq : ((d.toNat : Int) == x) = true := by rw [hdc, Hx.out]; simp
        have Hr := Lib.hid (show r = true by rw [HR.out, dropAt hd, hdc]; simp)
        clear hd hdc HR
        go_wp2
        go_ret
        exact ⟨ret_bool Hr.out.symm, rfl⟩
      · have heq : ((d.toNat : Int) == x) = false := by rw [Hx.out]; exact toNat_ne hdc
        have Hr := Lib.hid (show r = (M.drop (i + 1)).contains c by rw [HR.out, dropAt hd, List.contains_cons]; simp [Ne.symm hdc])
        clear hd hdc HR
        go_wp2
        go_roundw
        case rel => exact ⟨i + 1, by go_num, by omega, by trivial, Hr⟩
        case measure => simp [intOf]; omega
    · have hlt' : ¬ (i : Int) < (n : Int) := by omega
      have Hr := Lib.hid (show r = false by rw [HR.out, List.drop_eq_nil_of_le (by rw [hln.out]; omega)]; rfl)
      clear HR
      go_wp2
      go_ret
      exact ⟨ret_bool Hr.out.symm, rfl⟩

theorem short_any (s : ByteArray) (n : Nat) (x : Int) (hx : x = (n : Int)) (hn : n ≤ 8000) (w : World) :
    Calls Try.prog 31 #[.string s, .int .i64 x] w fun e w' => e = .returned (.bool (mayT (L s) n)) ∧ w' = w := by
  unfold mayT
  rw [size_L]
  subst hx
  rcases h : decide (s.size ≤ n) with _ | _
  · have h1 := of_decide_eq_false h
    have h2 : decide ((s.size : Int) ≤ (n : Int)) = false := decide_eq_false (by omega)
    clear h1
    go_enter Try.func31, Try.ntmps31
    go_wp2_with fail
    go_ret
    exact ⟨rfl, rfl⟩
  · have h1 := of_decide_eq_true h
    have h2 : decide ((s.size : Int) ≤ (n : Int)) = true := decide_eq_true (by omega)
    have hc := Lib.hid (fun w => has_any s 0 0 rfl (by omega) w)
    generalize (L s).contains 0 = b at *
    clear h1
    go_enter Try.func31, Try.ntmps31
    go_wp2_with fail
    refine (hc.out _).mono ?_
    rintro e w' ⟨rfl, rfl⟩
    go_wp2_with fail
    go_ret
    exact ⟨rfl, rfl⟩

theorem refFld (n v : Int) (hn : -9223372036854775808 ≤ n ∧ n ≤ 9223372036854775807) (w : World) :
    Calls Try.prog 22 #[.int .i64 n, .int .i64 v] w fun e w' => e = .returned (.agg #[.string (strOf (fl n v)), .bool (hasF n v)]) ∧ Below w.heap.size w w' := refField_any n v hn w
theorem fld1 (x : ByteArray) (b : Bool) (w : World) : (Instr.field 48 (.agg #[.string x, .bool b]) 1).run Try.prog w = .ok (.bool b) w := by kernel_rfl
theorem fld0 (x : ByteArray) (b : Bool) (w : World) : (Instr.field 48 (.agg #[.string x, .bool b]) 0).run Try.prog w = .ok (.string x) w := by kernel_rfl

theorem whole_any (n v : Int) (hn : -9223372036854775808 ≤ n ∧ n ≤ 9223372036854775807) (w : World) :
    Calls Try.prog 32 #[.int .i64 n, .int .i64 v] w fun e w' => e = .returned (.bool (mayN n v)) ∧ Below w.heap.size w w' := by
  have hc := Lib.hid (refFld n v hn)
  unfold mayN
  have h1f := fld1
  clear hn
  by_cases h0 : 0 ≤ n
  · rw [decide_eq_true h0]
    go_enter Try.func32, Try.ntmps32
    go_wp2_with fail
    refine (hc.out _).mono ?_
    rintro e w1 ⟨rfl, hbw1⟩
    have hzw1 := hbw1.size
    try simp at hzw1
    go_wp2_with fail
    go_ret
    exact ⟨rfl, by (repeat' (first | exact Below.refl _ _ | assumption | refine gr_drew ?_ | refine gr_drewN ?_ _ | refine gr_alloc ?_ _ | refine gr_set ?_ ?_ _ | refine gr_call ?_ (by assumption)) <;> (try (simp; done)) <;> (try (simp; omega)) <;> (try omega))⟩
  · rw [decide_eq_false h0]
    go_enter Try.func32, Try.ntmps32
    go_wp2_with fail
    go_ret
    exact ⟨rfl, by (repeat' (first | exact Below.refl _ _ | assumption | refine gr_drew ?_ | refine gr_drewN ?_ _ | refine gr_alloc ?_ _ | refine gr_set ?_ ?_ _ | refine gr_call ?_ (by assumption)) <;> (try (simp; done)) <;> (try (simp; omega)) <;> (try omega))⟩

theorem oper_make {Q : Exit → Act → World → Prop} {K : Act → World → Prop} {o : Oper} {a : Act} (l c : Operand) (hop : o.op = Op.makeSlice 43 l c)
    (w : World) (n : Nat) (L C : Int) (hl : a.eval l = .int .i64 L) (hc : a.eval c = .int .i64 C) (hL : L = (n : Int)) (hC : C = (n : Int)) (hn : n ≤ 1000000)
    (h : ∀ w', BRow w.heap.size (.slice (some ⟨w.heap.size, 0, none⟩) n n) (List.replicate n 0) w' → Below w.heap.size w w' → K (a.put o.dst (.slice (some ⟨w.heap.size, 0, none⟩) n n)) w') :
    Oper.wp Try.prog o a w K Q := by
  obtain ⟨i0, hi, hz0, hz1, hz2⟩ := info_parts (show (Try.prog.info? 5).map (fun i => (i.zero, i.size, i.bytes)) = some (some (.int .u8 0), 1, 1) by kernel_rfl)
  obtain ⟨w', hrun, r1, r2⟩ := run_make_full (P := Try.prog) w w.heap.size 43 5 i0 (.int .u8 0) 1 Try.underlying43 hi hz0 hz1 .i64 .i64 n (by rw [hz2]; omega) (by unfold maxLen; omega) (Nat.le_refl _)
  subst hL
  subst hC
  unfold Oper.wp
  simp [execOp, hop, hl, hc, hrun, Result.andThen]
  have hrow : BRow w.heap.size (.slice (some ⟨w.heap.size, 0, none⟩) n n) (List.replicate n 0) w' := by
    unfold BRow
    rw [made_zeros] at r1
    rw [List.length_replicate]
    exact r1
  exact h w' hrow ((Below.refl _ w).grown r2 (Nat.le_refl _) (fun k hk => by simp at hk))

theorem filled_any (s : ByteArray) (n : Nat) (x : Int) (hx : x = (n : Int)) (hs : s.size ≤ n) (hn : n ≤ 8000) (w : World) :
    Calls Try.prog 35 #[.string s, .int .i64 x] w fun e w' => e = .returned (.string (strOf (padL (L s) n))) ∧ Below w.heap.size w w' := by
  subst hx
  obtain ⟨m, hm⟩ : ∃ m, n - s.size = m := ⟨_, rfl⟩
  have he : s ++ strOf (List.replicate m 0) = strOf (padL (L s) n) := by
    unfold padL
    rw [← strOf_app, strOf_L, size_L, hm]
  have hsz : (strOf (List.replicate m 0)).size = m := by rw [strOf_sz, List.length_replicate]
  obtain ⟨Z, hZ⟩ : ∃ Z : ByteArray, strOf (List.replicate m 0) = Z := ⟨_, rfl⟩
  rw [hZ] at he hsz
  have hlen : ¬ 9223372036854775807 < s.size + Z.size := by omega
  have hlen2 : s.size + Z.size ≤ 9223372036854775807 := by omega
  rw [← he]
  clear he
  have hsub : IntKind.i64.wrap ((n : Int) - (s.size : Int)) = (m : Int) := by rw [IntKind.wrap_i64]; omega
  have hsub2 : (n : Int) - (s.size : Int) = (m : Int) := by omega
  have hm8 : m ≤ 1000000 := by omega
  go_enter Try.func35, Try.ntmps35
  go_wp2_with (first
    | (refine wp_make rfl _ _ rfl _ m _ _ rfl rfl (by first | rfl | exact hsub2) (by first | rfl | exact hsub2) hm8 ?_; intro w1 hr hb1 hcv; change (convert 43 9 (.slice (some ⟨w.heap.size, 0, none⟩) m m)).run Try.prog w1 = .ok (.string (strOf (List.replicate m 0))) w1 at hcv; rw [hZ] at hcv))
  go_ret
  exact ⟨rfl, by assumption⟩

set_option maxHeartbeats 2000000 in
theorem refMay_any (h : Hd) (I : Ints h) (w : World) :
    Calls Try.prog 15 #[.agg #[.string h.name, .int .i64 h.mode, .int .i64 h.uid, .int .i64 h.gid, .int .i64 h.size, .int .i64 h.mtime, .int .u8 (h.typ.toNat : Int), .string h.link, .string h.uname, .string h.gname, .int .i64 h.major, .int .i64 h.minor, .string h.pre]] w fun e w' => e = .returned (.bool (mayH h)) ∧ Below w.heap.size w w' := by
  have c100 := Lib.hid (fun s w => short_any s 100 100 rfl (by omega) w)
  have c32 := Lib.hid (fun s w => short_any s 32 32 rfl (by omega) w)
  have c155 := Lib.hid (fun s w => short_any s 155 155 rfl (by omega) w)
  have kmode := Lib.hid (whole_any h.mode 8 I.i1)
  have kuid := Lib.hid (whole_any h.uid 8 I.i2)
  have kgid := Lib.hid (whole_any h.gid 8 I.i3)
  have kmajor := Lib.hid (whole_any h.major 8 I.i6)
  have kminor := Lib.hid (whole_any h.minor 8 I.i7)
  have ksize := Lib.hid (whole_any h.size 12 I.i4)
  have kmtime := Lib.hid (refFld h.mtime 12 I.i5)
  have h1f := fld1
  have hb0 := BlkIs.made w 23 #[.string h.name, .int .i64 h.mode, .int .i64 h.uid, .int .i64 h.gid, .int .i64 h.size, .int .i64 h.mtime, .int .u8 (h.typ.toNat : Int), .string h.link, .string h.uname, .string h.gname, .int .i64 h.major, .int .i64 h.minor, .string h.pre]
  clear I
  go_enter Try.func15, Try.ntmps15
  go_wp2_with fail
  refine (c100.out _ _).mono ?_
  rintro e w' ⟨rfl, rfl⟩
  rcases q0 : mayT (L h.name) 100 with _ | _
  · go_wp2_with fail
    go_ret
    exact ⟨ret_bool (by simp [mayH, mayTs, mayNs, q0]), by (repeat' (first | exact Below.refl _ _ | assumption | refine gr_drew ?_ | refine gr_drewN ?_ _ | refine gr_alloc ?_ _ | refine gr_set ?_ ?_ _ | refine gr_call ?_ (by assumption)) <;> (try (simp; done)) <;> (try (simp; omega)) <;> (try omega))⟩
  go_wp2_with fail
  refine (c100.out _ _).mono ?_
  rintro e w' ⟨rfl, rfl⟩
  rcases q1 : mayT (L h.link) 100 with _ | _
  · go_wp2_with fail
    go_ret
    exact ⟨ret_bool (by simp [mayH, mayTs, mayNs, q1]), by (repeat' (first | exact Below.refl _ _ | assumption | refine gr_drew ?_ | refine gr_drewN ?_ _ | refine gr_alloc ?_ _ | refine gr_set ?_ ?_ _ | refine gr_call ?_ (by assumption)) <;> (try (simp; done)) <;> (try (simp; omega)) <;> (try omega))⟩
  go_wp2_with fail
  refine (c32.out _ _).mono ?_
  rintro e w' ⟨rfl, rfl⟩
  rcases q2 : mayT (L h.uname) 32 with _ | _
  · go_wp2_with fail
    go_ret
    exact ⟨ret_bool (by simp [mayH, mayTs, mayNs, q2]), by (repeat' (first | exact Below.refl _ _ | assumption | refine gr_drew ?_ | refine gr_drewN ?_ _ | refine gr_alloc ?_ _ | refine gr_set ?_ ?_ _ | refine gr_call ?_ (by assumption)) <;> (try (simp; done)) <;> (try (simp; omega)) <;> (try omega))⟩
  go_wp2_with fail
  refine (c32.out _ _).mono ?_
  rintro e w' ⟨rfl, rfl⟩
  rcases q3 : mayT (L h.gname) 32 with _ | _
  · go_wp2_with fail
    go_ret
    exact ⟨ret_bool (by simp [mayH, mayTs, mayNs, q3]), by (repeat' (first | exact Below.refl _ _ | assumption | refine gr_drew ?_ | refine gr_drewN ?_ _ | refine gr_alloc ?_ _ | refine gr_set ?_ ?_ _ | refine gr_call ?_ (by assumption)) <;> (try (simp; done)) <;> (try (simp; omega)) <;> (try omega))⟩
  go_wp2_with fail
  refine (c155.out _ _).mono ?_
  rintro e w' ⟨rfl, rfl⟩
  rcases q4 : mayT (L h.pre) 155 with _ | _
  · go_wp2_with fail
    go_ret
    exact ⟨ret_bool (by simp [mayH, mayTs, mayNs, q4]), by (repeat' (first | exact Below.refl _ _ | assumption | refine gr_drew ?_ | refine gr_drewN ?_ _ | refine gr_alloc ?_ _ | refine gr_set ?_ ?_ _ | refine gr_call ?_ (by assumption)) <;> (try (simp; done)) <;> (try (simp; omega)) <;> (try omega))⟩
  go_wp2_with fail
  refine (kmode.out _).mono ?_
  rintro e w1 ⟨rfl, hbw1⟩
  have hb1 := hb0.kept hbw1 hb0.size
  clear hb0
  have c1 := hb1.cell_some 2 _ rfl
  rcases q5 : mayN h.mode 8 with _ | _
  · go_wp2_with fail
    go_ret
    exact ⟨ret_bool (by simp [mayH, mayTs, mayNs, q5]), by (repeat' (first | exact Below.refl _ _ | assumption | refine gr_drew ?_ | refine gr_drewN ?_ _ | refine gr_alloc ?_ _ | refine gr_set ?_ ?_ _ | refine gr_call ?_ (by assumption)) <;> (try (simp; done)) <;> (try (simp; omega)) <;> (try omega))⟩
  go_wp2_with fail
  refine (kuid.out _).mono ?_
  rintro e w2 ⟨rfl, hbw2⟩
  have hb2 := hb1.kept hbw2 hb1.size
  clear hb1
  have c2 := hb2.cell_some 3 _ rfl
  rcases q6 : mayN h.uid 8 with _ | _
  · go_wp2_with fail
    go_ret
    exact ⟨ret_bool (by simp [mayH, mayTs, mayNs, q6]), by (repeat' (first | exact Below.refl _ _ | assumption | refine gr_drew ?_ | refine gr_drewN ?_ _ | refine gr_alloc ?_ _ | refine gr_set ?_ ?_ _ | refine gr_call ?_ (by assumption)) <;> (try (simp; done)) <;> (try (simp; omega)) <;> (try omega))⟩
  go_wp2_with fail
  refine (kgid.out _).mono ?_
  rintro e w3 ⟨rfl, hbw3⟩
  have hb3 := hb2.kept hbw3 hb2.size
  clear hb2
  have c3 := hb3.cell_some 10 _ rfl
  rcases q7 : mayN h.gid 8 with _ | _
  · go_wp2_with fail
    go_ret
    exact ⟨ret_bool (by simp [mayH, mayTs, mayNs, q7]), by (repeat' (first | exact Below.refl _ _ | assumption | refine gr_drew ?_ | refine gr_drewN ?_ _ | refine gr_alloc ?_ _ | refine gr_set ?_ ?_ _ | refine gr_call ?_ (by assumption)) <;> (try (simp; done)) <;> (try (simp; omega)) <;> (try omega))⟩
  go_wp2_with fail
  refine (kmajor.out _).mono ?_
  rintro e w4 ⟨rfl, hbw4⟩
  have hb4 := hb3.kept hbw4 hb3.size
  clear hb3
  have c4 := hb4.cell_some 11 _ rfl
  rcases q8 : mayN h.major 8 with _ | _
  · go_wp2_with fail
    go_ret
    exact ⟨ret_bool (by simp [mayH, mayTs, mayNs, q8]), by (repeat' (first | exact Below.refl _ _ | assumption | refine gr_drew ?_ | refine gr_drewN ?_ _ | refine gr_alloc ?_ _ | refine gr_set ?_ ?_ _ | refine gr_call ?_ (by assumption)) <;> (try (simp; done)) <;> (try (simp; omega)) <;> (try omega))⟩
  go_wp2_with fail
  refine (kminor.out _).mono ?_
  rintro e w5 ⟨rfl, hbw5⟩
  have hb5 := hb4.kept hbw5 hb4.size
  clear hb4
  have c5 := hb5.cell_some 4 _ rfl
  rcases q9 : mayN h.minor 8 with _ | _
  · go_wp2_with fail
    go_ret
    exact ⟨ret_bool (by simp [mayH, mayTs, mayNs, q9]), by (repeat' (first | exact Below.refl _ _ | assumption | refine gr_drew ?_ | refine gr_drewN ?_ _ | refine gr_alloc ?_ _ | refine gr_set ?_ ?_ _ | refine gr_call ?_ (by assumption)) <;> (try (simp; done)) <;> (try (simp; omega)) <;> (try omega))⟩
  go_wp2_with fail
  refine (ksize.out _).mono ?_
  rintro e w6 ⟨rfl, hbw6⟩
  have hb6 := hb5.kept hbw6 hb5.size
  clear hb5
  have c6 := hb6.cell_some 5 _ rfl
  rcases q10 : mayN h.size 12 with _ | _
  · go_wp2_with fail
    go_ret
    exact ⟨ret_bool (by simp [mayH, mayTs, mayNs, q10]), by (repeat' (first | exact Below.refl _ _ | assumption | refine gr_drew ?_ | refine gr_drewN ?_ _ | refine gr_alloc ?_ _ | refine gr_set ?_ ?_ _ | refine gr_call ?_ (by assumption)) <;> (try (simp; done)) <;> (try (simp; omega)) <;> (try omega))⟩
  go_wp2_with fail
  refine (kmtime.out _).mono ?_
  rintro e w7 ⟨rfl, hbw7⟩
  have hb7 := hb6.kept hbw7 hb6.size
  clear hb6
  rcases q11 : hasF h.mtime 12 with _ | _
  · go_wp2_with fail
    go_ret
    exact ⟨ret_bool (by simp [mayH, mayTs, mayNs, q11]), by (repeat' (first | exact Below.refl _ _ | assumption | refine gr_drew ?_ | refine gr_drewN ?_ _ | refine gr_alloc ?_ _ | refine gr_set ?_ ?_ _ | refine gr_call ?_ (by assumption)) <;> (try (simp; done)) <;> (try (simp; omega)) <;> (try omega))⟩
  go_wp2_with fail
  go_ret
  exact ⟨ret_bool (by simp [mayH, mayTs, mayNs, q0, q1, q2, q3, q4, q5, q6, q7, q8, q9, q10, q11]), by (repeat' (first | exact Below.refl _ _ | assumption | refine gr_drew ?_ | refine gr_drewN ?_ _ | refine gr_alloc ?_ _ | refine gr_set ?_ ?_ _ | refine gr_call ?_ (by assumption)) <;> (try (simp; done)) <;> (try (simp; omega)) <;> (try omega))⟩
end Go.Proofs.Ytkkmhfgfkjeooaa
