/- Walks over the document's answer for records: what bytes at a place are. -/
import Derived.Test.YtbjklpodkopgiaaDoorRefRec2
import Derived.Deep.DeepCutAuto
import Derived.Deep.CutBlock
namespace Go.Proofs.YtbjklpodkopgiaaDoor
open Go.RowKit
open DecM
open RecM
open Go.Lib (decDigits itoa)
set_option linter.unusedVariables false

/-- At place j the number so far is x; of all the rest the number is n, its digits are d. -/
def ScanS (L : List UInt8) (p n d j x : Nat) : Prop := p ≤ j ∧ scanF x (j - p) (L.drop j) = (n, d)
theorem ScanS.step {L : List UInt8} {p n d j x : Nat} {c : UInt8} (h : ScanS L p n d j x) (hc : L[j]? = some c) (hd : isDig c = true) (hx : x ≤ 65536) : ScanS L p n d (j + 1) (x * 10 + (c.toNat - 48)) := by
  obtain ⟨hp, h⟩ := h
  rw [dropAt hc, scanF, if_pos ⟨hd, hx⟩] at h
  exact ⟨by omega, by rw [show j + 1 - p = j - p + 1 by omega]; exact h⟩
theorem ScanS.stop {L : List UInt8} {p n d j x : Nat} {c : UInt8} (h : ScanS L p n d j x) (hc : L[j]? = some c) (hd : ¬ (isDig c = true ∧ x ≤ 65536)) : x = n ∧ j = p + d := by
  obtain ⟨hp, h⟩ := h
  rw [dropAt hc, scanF, if_neg hd] at h
  simp only [Prod.mk.injEq] at h
  omega
theorem ScanS.done {L : List UInt8} {p n d j x : Nat} (h : ScanS L p n d j x) (hj : L.length ≤ j) : x = n ∧ j = p + d := by
  obtain ⟨hp, h⟩ := h
  rw [List.drop_eq_nil_of_le hj, scanF] at h
  simp only [Prod.mk.injEq] at h
  omega
theorem index_at {M : List UInt8} {q : Nat} {c : UInt8} (h : M[q]? = some c) (hn : ∀ r, r < q → M[r]? ≠ some c) : Lib.indexByte M c = (q : Int) := by
  obtain ⟨hq, hqe⟩ := List.getElem?_eq_some_iff.1 h
  have e : M = M.take q ++ c :: M.drop (q + 1) := by
    rw [← hqe, List.getElem_cons_drop, List.take_append_drop]
  have hni : c ∉ M.take q := by
    intro hm
    obtain ⟨r, hr, he⟩ := List.getElem_of_mem hm
    rw [List.length_take] at hr
    exact hn r (by omega) (by rw [List.getElem?_eq_getElem (by omega), ← he, List.getElem_take])
  have h2 := index_app (M.take q) (M.drop (q + 1)) c hni
  rw [← e, List.length_take] at h2
  rw [h2]
  omega
theorem index_no {M : List UInt8} {c : UInt8} (hn : ∀ r, r < M.length → M[r]? ≠ some c) : Lib.indexByte M c < 0 := by
  rw [index_iff]
  intro hm
  obtain ⟨r, hr, he⟩ := List.getElem_of_mem hm
  exact hn r hr (by rw [List.getElem?_eq_getElem hr, he])

theorem ext_mid2 (S : ByteArray) (a b : Nat) : (S.extract a b).data.toList = (S.data.toList.take b).drop a := by
  simp [List.drop_take]
/-- What GetRec hands back. -/
def refV (o : Option (List UInt8 × List UInt8 × Nat)) (p : Nat) : Value := match o with
  | some (k, v, n) => .agg #[.string (strOf k), .string (strOf v), .int .i64 ((p + n : Nat) : Int), .int .i64 0]
  | none => .agg #[.string ⟨#[]⟩, .string ⟨#[]⟩, .int .i64 0, .int .i64 4]
def errR (e : Int) : Value := .agg #[.string ⟨#[]⟩, .string ⟨#[]⟩, .int .i64 0, .int .i64 e]

set_option maxHeartbeats 1600000 in
theorem refGet_any (S : ByteArray) (p : Nat) (hp : p < S.size) (hS : S.size ≤ 90000) (w : World) :
    Calls Tryd.prog 10 #[.string S, .int .i64 (p : Int)] w fun e w' => e = .returned (refV (refF (S.data.toList.drop p)) p) ∧ Below w.heap.size w w' := by
  obtain ⟨z, hz⟩ : ∃ z, S.size = z := ⟨_, rfl⟩
  obtain ⟨L, hL⟩ : ∃ L, S.data.toList = L := ⟨_, rfl⟩
  obtain ⟨n, hn⟩ : ∃ n, (scanF 0 0 (L.drop p)).1 = n := ⟨_, rfl⟩
  obtain ⟨d, hd⟩ : ∃ d, (scanF 0 0 (L.drop p)).2 = d := ⟨_, rfl⟩
  have hsc := scan_le (L.drop p) 0 0
  have hlen : L.length = z := by rw [← hL, len_list, hz]
  rw [hn, hd, List.length_drop, hlen] at hsc
  have hd1 : d ≤ z - p := by omega
  have hn1 : n ≤ 655369 := hsc.2.2 (by omega)
  have Hst := Lib.hid (show ScanS L p n d p 0 from ⟨Nat.le_refl _, by rw [Nat.sub_self, ← hn, ← hd]⟩)
  have HI := Lib.hid (fun i (h : i < z) => idxAt Tryd.underlying9 S i (by omega))
  rw [hL] at HI ⊢
  rw [hz] at hp hS
  have h1 : decide ((p : Int) < 0) = false := decide_eq_false (by omega)
  have h2 : decide ((z : Int) < (p : Int)) = false := decide_eq_false (by omega)
  have h2' : decide (z < p) = false := decide_eq_false (by omega)
  have h3 : ((p : Int) == (z : Int)) = false := by rw [beq_eq_false_iff_ne]; omega
  have Hlen := Lib.hid hlen
  obtain ⟨q, hq⟩ : ∃ q, p + d = q := ⟨_, rfl⟩
  have Hn := Lib.hid hn
  have Hd := Lib.hid hd
  clear hsc hn hd hlen
  go_enter Tryd.func10, Tryd.ntmps10
  go_upto_block 0 with fail
  go_cut [5, 6] (fun s5 s6 wx => s5 = .int .i64 (n : Int) ∧ s6 = .int .i64 (q : Int) ∧ wx = w.alloc (.cells #[.string ⟨#[]⟩, .string ⟨#[]⟩, .int .i64 0, .int .i64 0] 29))
  case first =>
    go_wp2_with fail
    go_loop [5, 6] (fun s5 s6 => ∃ x j : Nat, s5 = .int .i64 (x : Int) ∧ s6 = .int .i64 (j : Int) ∧ p ≤ j ∧ j ≤ z ∧ x ≤ 655369 ∧ Hid (ScanS L p n d j x)) (fun _ s6 => z - (intOf s6).toNat)
    case atStart => exact ⟨0, p, rfl, rfl, by omega, by omega, by omega, Hst⟩
    case round =>
      obtain ⟨x, j, rfl, rfl, hj0, hj1, hx1, HS⟩ := hrel
      by_cases hlt : j < z
      · obtain ⟨c, hc, hidx⟩ := HI.out j hlt
        have hlt' : decide ((j : Int) < (z : Int)) = true := decide_eq_true (by omega)
        have hlt2 : decide (j < z) = true := decide_eq_true hlt
        by_cases hdg : isDig c = true
        · have hdg' := hdg
          simp only [isDig, Bool.and_eq_true, decide_eq_true_eq] at hdg'
          have hd1 : decide ((48 : Int) ≤ (c.toNat : Int)) = true := decide_eq_true (by omega)
          have hd2 : decide ((c.toNat : Int) ≤ 57) = true := decide_eq_true (by omega)
          have hc1 : 48 ≤ c.toNat := hdg'.1
          have hc2 : c.toNat ≤ 57 := hdg'.2
          by_cases hx : x ≤ 65536
          · have hx' : decide ((x : Int) ≤ 65536) = true := decide_eq_true (by omega)
            have HT := Lib.hid (HS.out.step hc hdg hx)
            clear hdg hdg' HS hc
            go_wp2
            go_round
            case rel => exact ⟨x * 10 + (c.toNat - 48), j + 1, by congr 1; omega, by go_num, by omega, by omega, by omega, HT⟩
            case measure => simp [intOf]; omega
          · have hx' : decide ((x : Int) ≤ 65536) = false := decide_eq_false (by omega)
            have hst := HS.out.stop hc (fun h => hx h.2)
            rw [hq] at hst
            obtain ⟨rfl, rfl⟩ := hst
            clear hdg hdg' hc
            go_wp2
            go_meet
            exact ⟨rfl, rfl, rfl⟩
        · have hst := HS.out.stop hc (fun h => hdg h.1)
          rw [hq] at hst
          obtain ⟨rfl, rfl⟩ := hst
          have hnd : decide ((48 : Int) ≤ (c.toNat : Int)) = false ∨ (decide ((48 : Int) ≤ (c.toNat : Int)) = true ∧ decide ((c.toNat : Int) ≤ 57) = false) := by
            simp only [isDig, Bool.and_eq_true, decide_eq_true_eq] at hdg
            simp only [decide_eq_false_iff_not, decide_eq_true_eq]
            omega
          clear hdg hc
          rcases hnd with hn1 | ⟨hn1, hn2⟩
          all_goals
            go_wp2
            go_meet
            exact ⟨rfl, rfl, rfl⟩
      · have hlt' : decide ((j : Int) < (z : Int)) = false := decide_eq_false (by omega)
        have hlt2 : decide (j < z) = false := decide_eq_false hlt
        have hst := HS.out.done (by rw [Hlen.out]; omega)
        rw [hq] at hst
        obtain ⟨rfl, rfl⟩ := hst
        clear hlt
        go_wp2
        go_meet
        exact ⟨rfl, rfl, rfl⟩
  case rest =>
    obtain ⟨rfl, rfl, rfl⟩ := hcut
    have Hq := Lib.hid hq
    have hqz : q ≤ z := by omega
    clear hq Hst
    obtain ⟨f, hf⟩ : ∃ f, p + n = f := ⟨_, rfl⟩
    have hpf : (p : Int) + (n : Int) = (f : Int) := by omega
    by_cases hA : z - p < n
    · have hA' : decide ((z : Int) - (p : Int) < (n : Int)) = true := decide_eq_true (by omega)
      have Ho := Lib.hid (show refF (L.drop p) = none by
        unfold refF
        rw [Hn.out, Hd.out, if_pos (Or.inl (by rw [List.length_drop, Hlen.out]; omega))])
      clear hA
      go_wp2_with fail
      exact bodyPost_ret (v := .agg #[.string ⟨#[]⟩, .string ⟨#[]⟩, .int .i64 0, .int .i64 4]) (by simp [results, Tryd.results10, go_sem, *]) rfl ⟨by rw [Ho.out]; rfl, by (repeat' (first | exact Below.refl _ _ | assumption | refine gr_drew ?_ | refine gr_drewN ?_ _ | refine gr_alloc ?_ _ | refine gr_set ?_ ?_ _ | refine gr_call ?_ (by assumption)) <;> (try (simp; done)) <;> (try (simp; omega)) <;> (try omega))⟩
    · have hA' : decide ((z : Int) - (p : Int) < (n : Int)) = false := decide_eq_false (by omega)
      by_cases hB : f < q + 3
      · have hB' : decide ((f : Int) < (q : Int) + 3) = true := decide_eq_true (by omega)
        have hB2 : decide (f < q + 3) = true := decide_eq_true hB
        have Ho := Lib.hid (show refF (L.drop p) = none by
          unfold refF
          rw [Hn.out, Hd.out, if_pos (Or.inr (by have := Hq.out; omega))])
        clear hA hB
        go_wp2_with fail
        exact bodyPost_ret (v := .agg #[.string ⟨#[]⟩, .string ⟨#[]⟩, .int .i64 0, .int .i64 4]) (by simp [results, Tryd.results10, go_sem, *]) rfl ⟨by rw [Ho.out]; rfl, by (repeat' (first | exact Below.refl _ _ | assumption | refine gr_drew ?_ | refine gr_drewN ?_ _ | refine gr_alloc ?_ _ | refine gr_set ?_ ?_ _ | refine gr_call ?_ (by assumption)) <;> (try (simp; done)) <;> (try (simp; omega)) <;> (try omega))⟩
      · have hB' : decide ((f : Int) < (q : Int) + 3) = false := decide_eq_false (by omega)
        have hB2 : decide (f < q + 3) = false := decide_eq_false hB
        obtain ⟨e, he⟩ : ∃ e, f = e + 1 := ⟨f - 1, by omega⟩
        have hfe : (f : Int) - 1 = (e : Int) := by omega
        have hez : e < z := by omega
        obtain ⟨M, hM⟩ : ∃ M, refMid (L.drop p) = M := ⟨_, rfl⟩
        have hMl : M.length = e - (q + 1) := by
          rw [← hM]; unfold refMid
          rw [Hn.out, Hd.out, List.length_drop, List.length_take, List.length_drop, Hlen.out]
          have := Hq.out; omega
        have HMi := Lib.hid (show ∀ r, r < e - (q + 1) → M[r]? = L[q + 1 + r]? by
          intro r hr
          rw [← hM]; unfold refMid
          have := Hq.out
          rw [Hn.out, Hd.out, List.getElem?_drop, List.getElem?_take_of_lt (by omega), List.getElem?_drop]
          congr 1; omega)
        have Hno := Lib.hid (show ¬ ((L.drop p).length < n ∨ n < d + 3) by
          rw [List.length_drop, Hlen.out]; have := Hq.out; omega)
        have HMl := Lib.hid hMl
        have HM := Lib.hid hM
        have hqe : q + 1 ≤ e := by omega
        have He := Lib.hid he
        have Hf := Lib.hid hf
        clear hA hB hM hMl he hf
        go_wp2_with fail
        go_loop [7] (fun s7 => ∃ k : Nat, s7 = .int .i64 (k : Int) ∧ q + 1 ≤ k ∧ k ≤ e ∧ Hid (∀ r, r < k - (q + 1) → M[r]? ≠ some 61)) (fun s7 => e - (intOf s7).toNat)
        case atStart => exact ⟨q + 1, by go_num, by omega, by omega, Lib.hid (fun r hr => by omega)⟩
        case round =>
          obtain ⟨k, rfl, hk0, hk1, HK⟩ := hrel
          by_cases hlt : k < e
          · obtain ⟨c, hc, hidx⟩ := HI.out k (by omega)
            have hlt' : decide ((k : Int) < (e : Int)) = true := decide_eq_true (by omega)
            have hlt2 : decide (k < e) = true := decide_eq_true hlt
            have hMk : M[k - (q + 1)]? = some c := by rw [HMi.out _ (by omega), ← hc]; congr 1; omega
            by_cases hc61 : c = 61
            · subst hc61
              have hge : decide ((e : Int) ≤ (k : Int)) = false := decide_eq_false (by omega)
              have hge2 : decide (e ≤ k) = false := decide_eq_false (by omega)
              have Hix := Lib.hid (index_at hMk HK.out)
              have hidx2 : ∀ w, (Instr.index 9 (.string S) (.int .i64 (k : Int))).run Tryd.prog w = .ok (.int .u8 61) w := hidx
              have hK : (S.extract (q + 1) k).data.toList = M.take (k - (q + 1)) := by
                rw [ext_mid2, hL]
                apply List.ext_getElem?
                intro r
                rw [List.getElem?_drop]
                by_cases hr : r < k - (q + 1)
                · rw [List.getElem?_take_of_lt (by omega), List.getElem?_take_of_lt hr, HMi.out r (by omega)]
                · rw [List.getElem?_eq_none (by rw [List.length_take]; omega), List.getElem?_eq_none (by rw [List.length_take]; omega)]
              have hV : (S.extract (k + 1) e).data.toList = M.drop (k - (q + 1) + 1) := by
                rw [ext_mid2, hL]
                apply List.ext_getElem?
                intro r
                rw [List.getElem?_drop, List.getElem?_drop]
                by_cases hr : k + 1 + r < e
                · rw [List.getElem?_take_of_lt hr, HMi.out _ (by omega)]
                  congr 1; omega
                · rw [List.getElem?_eq_none (by rw [List.length_take]; omega), List.getElem?_eq_none (by rw [HMl.out]; omega)]
              have hKs : (S.extract (q + 1) k).size + (S.extract (k + 1) e).size ≤ 100000 := by
                rw [← len_list, ← len_list, hK, hV, List.length_take, List.length_drop, HMl.out]; omega
              have hput := Lib.hid (refPut_any (S.extract (q + 1) k) (S.extract (k + 1) e) hKs)
              have hT : (S.extract p f).data.toList = (L.drop p).take n := by
                rw [ext_mid2, hL, List.drop_take]
                congr 1; have := Hf.out; omega
              have hcmp := str_beq (strOf (putF (M.take (k - (q + 1))) (M.drop (k - (q + 1) + 1)))) (S.extract p f)
              rw [strOf_list, hT] at hcmp
              rw [hK, hV] at hput
              have hKe := Lib.hid (str_eq hK)
              have hVe := Lib.hid (str_eq hV)
              have hRef : ∀ b, decide (putF (M.take (k - (q + 1))) (M.drop (k - (q + 1) + 1)) = (L.drop p).take n) = b → refF (L.drop p) = if b = true then some (M.take (k - (q + 1)), M.drop (k - (q + 1) + 1), n) else none := by
                intro b hb
                unfold refF
                rw [HM.out, Hn.out, Hd.out, if_neg Hno.out, Hix.out, if_neg (by omega), Int.toNat_natCast]
                by_cases h : putF (M.take (k - (q + 1))) (M.drop (k - (q + 1) + 1)) = (L.drop p).take n
                · rw [decide_eq_true h] at hb; subst hb; rw [if_pos h]; rfl
                · rw [decide_eq_false h] at hb; subst hb; rw [if_neg h]; rfl
              have hfz : f ≤ z := by have := He.out; omega
              have hpf2 : p ≤ f := by have := Hf.out; omega
              generalize decide (putF (M.take (k - (q + 1))) (M.drop (k - (q + 1) + 1)) = (L.drop p).take n) = b at *
              have HRef := Lib.hid (hRef b rfl)
              have HP := Lib.hid (show strOf (putF (M.take (k - (q + 1))) (M.drop (k - (q + 1) + 1))) = strOf (putF (M.take (k - (q + 1))) (M.drop (k - (q + 1) + 1))) from rfl)
              generalize strOf (putF (M.take (k - (q + 1))) (M.drop (k - (q + 1) + 1))) = P at *
              generalize M.take (k - (q + 1)) = K2 at *
              generalize M.drop (k - (q + 1) + 1) = V2 at *
              clear hMk hc hidx hRef HP HK
              go_wp2_with fail
              go_region
              go_wp2_with fail
              have hB0 : Below w.heap.size w ((w.alloc (.cells #[.string ⟨#[]⟩, .string ⟨#[]⟩, .int .i64 0, .int .i64 0] 29)).alloc (.cells #[.string (S.extract (q + 1) k), .string (S.extract (k + 1) e)] 23)).drew := by (repeat' (first | exact Below.refl _ _ | assumption | refine gr_drew ?_ | refine gr_drewN ?_ _ | refine gr_alloc ?_ _ | refine gr_set ?_ ?_ _ | refine gr_call ?_ (by assumption)) <;> (try (simp; done)) <;> (try (simp; omega)) <;> (try omega))
              obtain ⟨W, hW⟩ : ∃ W, ((w.alloc (.cells #[.string ⟨#[]⟩, .string ⟨#[]⟩, .int .i64 0, .int .i64 0] 29)).alloc (.cells #[.string (S.extract (q + 1) k), .string (S.extract (k + 1) e)] 23)).drew = W := ⟨_, rfl⟩
              rw [hW] at hB0
              have c0 : W.cell? ⟨w.heap.size, 0, none⟩ = some (.string ⟨#[]⟩) := by subst hW; simp [go_sem]
              have c1 : W.cell? ⟨w.heap.size, 1, none⟩ = some (.string ⟨#[]⟩) := by subst hW; simp [go_sem]
              have c2 : W.cell? ⟨w.heap.size, 2, none⟩ = some (.int .i64 0) := by subst hW; simp [go_sem]
              have c3 : W.cell? ⟨w.heap.size, 3, none⟩ = some (.int .i64 0) := by subst hW; simp [go_sem]
              have d0 : W.cell? ⟨w.heap.size + 1, 0, none⟩ = some (.string (S.extract (q + 1) k)) := by subst hW; simp [go_sem]
              have d1 : W.cell? ⟨w.heap.size + 1, 1, none⟩ = some (.string (S.extract (k + 1) e)) := by subst hW; simp [go_sem]
              have f0 : W.frozen? ⟨w.heap.size, 0, none⟩ = false := by subst hW; simp [go_sem]
              have f1 : W.frozen? ⟨w.heap.size, 1, none⟩ = false := by subst hW; simp [go_sem]
              have f2 : W.frozen? ⟨w.heap.size, 2, none⟩ = false := by subst hW; simp [go_sem]
              have f3 : W.frozen? ⟨w.heap.size, 3, none⟩ = false := by subst hW; simp [go_sem]
              rw [hW]
              have hwr : IntKind.i64.wrap (f : Int) = (f : Int) := by rw [IntKind.wrap_i64]; omega
              have i0 : (0 : Int) ≤ (p : Int) := by omega
              have i1 : (p : Int) ≤ (f : Int) := by omega
              have i2 : (f : Int) ≤ (z : Int) := by omega
              have i3 : (0 : Int) ≤ (f : Int) := by omega
              clear hW hK hV hT
              cases b
              · go_region_held3 (fun w' => Below w.heap.size w w' ∧ w'.cell? ⟨w.heap.size, 0, none⟩ = some (.string ⟨#[]⟩) ∧ w'.cell? ⟨w.heap.size, 1, none⟩ = some (.string ⟨#[]⟩) ∧ w'.cell? ⟨w.heap.size, 2, none⟩ = some (.int .i64 0) ∧ w'.cell? ⟨w.heap.size, 3, none⟩ = some (.int .i64 0) ∧ w'.cell? ⟨w.heap.size + 1, 0, none⟩ = some (.string (S.extract (q + 1) k)) ∧ w'.cell? ⟨w.heap.size + 1, 1, none⟩ = some (.string (S.extract (k + 1) e)) ∧ w'.frozen? ⟨w.heap.size, 0, none⟩ = false ∧ w'.frozen? ⟨w.heap.size, 1, none⟩ = false ∧ w'.frozen? ⟨w.heap.size, 2, none⟩ = false ∧ w'.frozen? ⟨w.heap.size, 3, none⟩ = false)
                  (first | (go_keep; done) | (go_split_ands; (repeat' apply And.intro) <;> (first | assumption | exact Amb.on (by assumption) hb1 | exact gr_call (by assumption) hb1 | exact cell_kept hb1 (by assumption) | exact free_kept hb1 (by assumption) (by assumption) | (show Below _ _ _; (repeat' (first | exact Below.refl _ _ | assumption | refine gr_drew ?_ | refine gr_drewN ?_ _ | refine gr_alloc ?_ _ | refine gr_set ?_ ?_ _ | refine gr_call ?_ (by assumption)) <;> (try (simp; done)) <;> (try (simp; omega)) <;> (try omega)); done) | (go_keep; done) | (simp [go_sem, *]; done))))
                  (first | (go_at_call 16; go_split_ands; refine (hput.out _).mono ?_; rintro e w1 ⟨rfl, hb1⟩))
                all_goals
                  go_split_ands
                  go_wp2_with fail
                  refine bodyPost_ret (v := .agg #[.string ⟨#[]⟩, .string ⟨#[]⟩, .int .i64 0, .int .i64 4]) (by simp [results, Tryd.results10, go_sem, *]) rfl ⟨by rw [HRef.out]; rfl, by (repeat' (first | exact Below.refl _ _ | assumption | refine gr_drew ?_ | refine gr_drewN ?_ _ | refine gr_alloc ?_ _ | refine gr_set ?_ ?_ _ | refine gr_call ?_ (by assumption)) <;> (try (simp; done)) <;> (try (simp; omega)) <;> (try omega))⟩
              · go_region_held3 (fun w' => Below w.heap.size w w' ∧ w'.cell? ⟨w.heap.size, 0, none⟩ = some (.string ⟨#[]⟩) ∧ w'.cell? ⟨w.heap.size, 1, none⟩ = some (.string ⟨#[]⟩) ∧ w'.cell? ⟨w.heap.size, 2, none⟩ = some (.int .i64 0) ∧ w'.cell? ⟨w.heap.size, 3, none⟩ = some (.int .i64 0) ∧ w'.cell? ⟨w.heap.size + 1, 0, none⟩ = some (.string (S.extract (q + 1) k)) ∧ w'.cell? ⟨w.heap.size + 1, 1, none⟩ = some (.string (S.extract (k + 1) e)) ∧ w'.frozen? ⟨w.heap.size, 0, none⟩ = false ∧ w'.frozen? ⟨w.heap.size, 1, none⟩ = false ∧ w'.frozen? ⟨w.heap.size, 2, none⟩ = false ∧ w'.frozen? ⟨w.heap.size, 3, none⟩ = false)
                  (first | (go_keep; done) | (go_split_ands; (repeat' apply And.intro) <;> (first | assumption | exact Amb.on (by assumption) hb1 | exact gr_call (by assumption) hb1 | exact cell_kept hb1 (by assumption) | exact free_kept hb1 (by assumption) (by assumption) | (show Below _ _ _; (repeat' (first | exact Below.refl _ _ | assumption | refine gr_drew ?_ | refine gr_drewN ?_ _ | refine gr_alloc ?_ _ | refine gr_set ?_ ?_ _ | refine gr_call ?_ (by assumption)) <;> (try (simp; done)) <;> (try (simp; omega)) <;> (try omega)); done) | (go_keep; done) | (simp [go_sem, *]; done))))
                  (first | (go_at_call 16; go_split_ands; refine (hput.out _).mono ?_; rintro e w1 ⟨rfl, hb1⟩))
                all_goals
                  go_split_ands
                  go_wp2_with fail
                  refine bodyPost_ret (v := .agg #[.string (S.extract (q + 1) k), .string (S.extract (k + 1) e), .int .i64 (f : Int), .int .i64 0]) (by simp [results, Tryd.results10, go_sem, *]) rfl ⟨by rw [HRef.out, hKe.out, hVe.out, ← Hf.out]; rfl, by (repeat' (first | exact Below.refl _ _ | assumption | refine gr_drew ?_ | refine gr_drewN ?_ _ | refine gr_alloc ?_ _ | refine gr_set ?_ ?_ _ | refine gr_call ?_ (by assumption)) <;> (try (simp; done)) <;> (try (simp; omega)) <;> (try omega))⟩
            · have hne : ((c.toNat : Int) != 61) = true := by
                have h := toNat_ne hc61
                rw [show ((61 : UInt8).toNat : Int) = 61 from rfl] at h
                rw [bne, h]; rfl
              have HK2 := Lib.hid (show ∀ r, r < k + 1 - (q + 1) → M[r]? ≠ some 61 by
                intro r hr
                by_cases hrk : r < k - (q + 1)
                · exact HK.out r hrk
                · have : r = k - (q + 1) := by omega
                  rw [this, hMk]
                  intro h; exact hc61 (Option.some.inj h))
              clear hMk hc hc61 HK
              go_wp2_with fail
              go_round
              case rel => exact ⟨k + 1, by go_num, by omega, by omega, HK2⟩
              case measure => simp [intOf]; omega
          · have hlt' : decide ((k : Int) < (e : Int)) = false := decide_eq_false (by omega)
            have hlt2 : decide (k < e) = false := decide_eq_false hlt
            have hge : decide ((e : Int) ≤ (k : Int)) = true := decide_eq_true (by omega)
            have hge2 : decide (e ≤ k) = true := decide_eq_true (by omega)
            have Ho := Lib.hid (show refF (L.drop p) = none by
              unfold refF
              rw [HM.out, Hn.out, Hd.out, if_neg Hno.out, if_pos (index_no (fun r hr => HK.out r (by rw [HMl.out] at hr; omega)))])
            clear hlt
            go_wp2_with fail
            exact bodyPost_ret (v := .agg #[.string ⟨#[]⟩, .string ⟨#[]⟩, .int .i64 0, .int .i64 4]) (by simp [results, Tryd.results10, go_sem, *]) rfl ⟨by rw [Ho.out]; rfl, by (repeat' (first | exact Below.refl _ _ | assumption | refine gr_drew ?_ | refine gr_drewN ?_ _ | refine gr_alloc ?_ _ | refine gr_set ?_ ?_ _ | refine gr_call ?_ (by assumption)) <;> (try (simp; done)) <;> (try (simp; omega)) <;> (try omega))⟩
end Go.Proofs.YtbjklpodkopgiaaDoor
