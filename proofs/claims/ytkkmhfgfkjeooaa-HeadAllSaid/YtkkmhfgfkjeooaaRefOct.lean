/- Walks over the document's answer for package num. -/
import Derived.Test.YtkkmhfgfkjeooaaNumRead
namespace Go.Proofs.Ytkkmhfgfkjeooaa
open Go.RowKit
open NumM

theorem digs_more (j n : Nat) : (⟨#[UInt8.ofNat (48 + n / 8 ^ j % 8)]⟩ : ByteArray) ++ ⟨(digs j n).toArray⟩ = ⟨(digs (j + 1) n).toArray⟩ := by
  rw [digs_cons, ByteArray.mk_append_mk]
  simp
/-- A Said as the document's answer has it. -/
def saidOf (o : Option (List UInt8)) : Value := .agg #[.string (bstr o), .bool o.isSome]
def strLen : Value → Nat | .string s => s.size | _ => 0

/-- What stands at the head of a round: S is the digits so far. -/
structure OctAt (n d : Nat) (S : ByteArray) : Prop where
  dig : S = ⟨(digs S.size n).toArray⟩
  far : d < S.size → 0 < n / 8 ^ (S.size - 1)
  few : S.size ≤ 22
theorem OctAt.start (n d : Nat) : OctAt n d ByteArray.empty := ⟨rfl, fun h => by simp at h, by simp⟩
theorem OctAt.next {n d : Nat} {S : ByteArray} (h : OctAt n d S) (hn : n < 9223372036854775808) (hd : d ≤ 20) (hgo : 0 < n / 8 ^ S.size ∨ S.size < d) :
    OctAt n d ((⟨#[UInt8.ofNat (48 + n / 8 ^ S.size % 8)]⟩ : ByteArray) ++ S) ∧ ((⟨#[UInt8.ofNat (48 + n / 8 ^ S.size % 8)]⟩ : ByteArray) ++ S).size = S.size + 1 := by
  have hsz : ((⟨#[UInt8.ofNat (48 + n / 8 ^ S.size % 8)]⟩ : ByteArray) ++ S).size = S.size + 1 := by
    rw [ByteArray.size_append]; show 1 + S.size = _; omega
  refine ⟨⟨?_, ?_, ?_⟩, hsz⟩
  · rw [hsz, ← digs_more]
    congr 1
    exact h.dig
  · rw [hsz]
    intro hlt
    rcases hgo with hgo | hgo
    · exact hgo
    · omega
  · rw [hsz]
    rcases hgo with hgo | hgo
    · have h1 : 8 ^ S.size ≤ n := by
        rcases Nat.lt_or_ge n (8 ^ S.size) with h | h
        · rw [Nat.div_eq_of_lt h] at hgo; omega
        · exact h
      have h2 : S.size < 22 := by
        rcases Nat.lt_or_ge S.size 22 with h | h
        · exact h
        · have h3 := Nat.pow_le_pow_right (n := 8) (by decide) h
          have h4 : 8 ^ 22 = 73786976294838206464 := by decide
          omega
      omega
    · omega
theorem OctAt.done_small {n d : Nat} {S : ByteArray} (h : OctAt n d S) (hn : n < 8 ^ d) (h0 : d ≤ S.size) : S.size = d ∧ S ++ ⟨#[0]⟩ = ⟨(digs d n ++ [0]).toArray⟩ := by
  have he : S.size = d := by
    rcases Nat.lt_or_ge d S.size with hlt | hge
    · have h1 := h.far hlt
      have h2 : 8 ^ d ≤ 8 ^ (S.size - 1) := Nat.pow_le_pow_right (by decide) (by omega)
      rw [Nat.div_eq_of_lt (by omega)] at h1
      omega
    · omega
  refine ⟨he, ?_⟩
  rw [h.dig, he, ByteArray.mk_append_mk]
theorem OctAt.done_big {n d : Nat} {S : ByteArray} (_h : OctAt n d S) (hn : 8 ^ d ≤ n) (hz : n / 8 ^ S.size = 0) : d < S.size := by
  rcases Nat.lt_or_ge d S.size with hlt | hge
  · exact hlt
  · have h1 : 8 ^ S.size ≤ 8 ^ d := Nat.pow_le_pow_right (by decide) hge
    have h2 : 0 < n / 8 ^ S.size := Nat.div_pos (by omega) (Nat.pow_pos (by decide))
    omega

theorem refOct8_any (n : Nat) (w : World) (hn : n < 9223372036854775808) :
    Calls Try.prog 36 #[.int .i64 n, .int .i64 8] w fun e w' => e = .returned (saidOf (octO n 8)) ∧ Below w.heap.size w w' := by
  have h3 : decide ((n : Int) < 0) = false := by simp
  have hn' : (n : Int) ≤ 9223372036854775807 := by omega
  have Hn := Lib.hid hn; clear hn
  go_enter Try.func36, Try.ntmps36
  go_wp2_with fail
  go_loopw [0, 5] (fun nv sv wr => ∃ S : ByteArray, sv = .string S ∧ nv = .int .i64 ((n / 8 ^ S.size : Nat) : Int) ∧ OctAt n 7 S ∧ BlkIs wr w.heap.size 48 #[.string { data := #[] }, .bool false] ∧ Below w.heap.size w wr) (fun nv sv _ => (intOf nv).toNat + (7 - strLen sv))
  case atStart => exact ⟨ByteArray.empty, rfl, by simp, OctAt.start _ _, BlkIs.made _ _ _, (Below.refl _ _).alloc (Nat.le_refl _) _⟩
  case round =>
    obtain ⟨S, rfl, hnv, hS, hb, hbl⟩ := hrel
    have hfew := hS.few
    by_cases hgo : 0 < n / 8 ^ S.size ∨ S.size < 7
    · have hx := hS.next Hn.out (by decide) hgo
      have hm : n / 8 ^ S.size ≤ n := Nat.div_le_self _ _
      have Hnx := Lib.hid (show n / 8 ^ (S.size + 1) = n / 8 ^ S.size / 8 by rw [Nat.div_div_eq_div_mul, Nat.pow_succ])
      have hu : (48 + ((n / 8 ^ S.size : Nat) : Int) % 8) = ((UInt8.ofNat (48 + n / 8 ^ S.size % 8)).toNat : Int) := by simp; omega
      generalize UInt8.ofNat (48 + n / 8 ^ S.size % 8) = u at *
      have hcv := fun W => conv_one (P := Try.prog) (src := 43) (dst := 9) Try.underlying43 Try.underlying5 Try.underlying9 u (48 + ((n / 8 ^ S.size : Nat) : Int) % 8) hu W
      have hbs := hb.size
      have Hx := Lib.hid hx
      clear hS hx hu
      generalize n / 8 ^ S.size = m at *
      subst hnv
      have Hb := hb.alloc (.cells #[.int .u8 (48 + (m : Int) % 8)] 5)
      have Hbl := hbl.alloc (Nat.le_of_lt hbs) (.cells #[.int .u8 (48 + (m : Int) % 8)] 5)
      by_cases hpos : 0 < m
      · clear hgo
        go_wp2
        all_goals
          go_roundw
          case rel => exact ⟨_, rfl, by rw [Hx.out.2, Hnx.out]; go_num, Hx.out.1, Hb, Hbl⟩
          case measure => have := Hx.out.2; simp [intOf, strLen, this]; omega
      · obtain rfl : m = 0 := by omega
        have hlt : (S.size : Int) < 7 := by omega
        simp only [show (48 + ((0 : Nat) : Int) % 8) = 48 from rfl] at hcv Hb Hbl
        go_wp2
        all_goals
          go_roundw
          case rel => exact ⟨_, rfl, by rw [Hx.out.2, Hnx.out]; rfl, Hx.out.1, Hb, Hbl⟩
          case measure => have := Hx.out.2; simp [intOf, strLen, this]; omega
    · have hm0 : n / 8 ^ S.size = 0 := Nat.eq_zero_of_not_pos fun h => hgo (.inl h)
      have hge : 7 ≤ S.size := by omega
      rw [hm0] at hnv
      subst hnv
      have h1 : decide ((S.size : Int) < 7) = false := decide_eq_false (by omega)
      have hc0 := hb.cell_some 0 (.string { data := #[] }) rfl
      have hc1 := hb.cell_some 1 (.bool false) rfl
      have hf0 := hb.free 0
      have hf1 := hb.free 1
      by_cases hbig : 8 ^ 7 ≤ n
      · have hS1 := hS.done_big hbig hm0
        have h2 : decide ((8 : Int) ≤ S.size) = true := decide_eq_true (by omega)
        clear hS1
        have hbi : (8 : Int) ^ 7 ≤ n := by exact_mod_cast hbig
        have Ho := Lib.hid (show octO n 8 = none from octO_big _ _ hbi)
        clear hbi
        clear hgo hm0 hS hb hbig hge
        go_wp2
        refine bodyPost_ret (v := .agg #[.string { data := #[] }, .bool false]) (by simp [results, Try.results36, go_sem, hc0, hc1]) rfl ⟨?_, ?_⟩
        · rw [saidOf, Ho.out]; rfl
        · exact (hbl.setCell (Nat.le_refl _) _).setCell (Nat.le_refl _) _
      · have hS1 := hS.done_small (by omega) hge
        have h2 : decide ((8 : Int) ≤ S.size) = false := decide_eq_false (by omega)
        have Ho := Lib.hid (show octO n 8 = some (digs 7 n ++ [0]) by
          have : (n : Int) < 8 ^ 7 := by exact_mod_cast (show n < 8 ^ 7 by omega)
          simp [octO, isW]; exact this)
        have Hd := Lib.hid hS1.2
        clear hgo hm0 hS hb hbig hS1 hge
        go_wp2
        refine bodyPost_ret (v := .agg #[.string (S ++ { data := #[0] }), .bool true]) (by simp [results, Try.results36, go_sem, hc0, hc1]) rfl ⟨?_, ?_⟩
        · rw [saidOf, Ho.out, Hd.out]; rfl
        · exact (hbl.setCell (Nat.le_refl _) _).setCell (Nat.le_refl _) _

theorem refOct12_any (n : Nat) (w : World) (hn : n < 9223372036854775808) :
    Calls Try.prog 36 #[.int .i64 n, .int .i64 12] w fun e w' => e = .returned (saidOf (octO n 12)) ∧ Below w.heap.size w w' := by
  have h3 : decide ((n : Int) < 0) = false := by simp
  have hn' : (n : Int) ≤ 9223372036854775807 := by omega
  have Hn := Lib.hid hn; clear hn
  go_enter Try.func36, Try.ntmps36
  go_wp2_with fail
  go_loopw [0, 5] (fun nv sv wr => ∃ S : ByteArray, sv = .string S ∧ nv = .int .i64 ((n / 8 ^ S.size : Nat) : Int) ∧ OctAt n 11 S ∧ BlkIs wr w.heap.size 48 #[.string { data := #[] }, .bool false] ∧ Below w.heap.size w wr) (fun nv sv _ => (intOf nv).toNat + (11 - strLen sv))
  case atStart => exact ⟨ByteArray.empty, rfl, by simp, OctAt.start _ _, BlkIs.made _ _ _, (Below.refl _ _).alloc (Nat.le_refl _) _⟩
  case round =>
    obtain ⟨S, rfl, hnv, hS, hb, hbl⟩ := hrel
    have hfew := hS.few
    by_cases hgo : 0 < n / 8 ^ S.size ∨ S.size < 11
    · have hx := hS.next Hn.out (by decide) hgo
      have hm : n / 8 ^ S.size ≤ n := Nat.div_le_self _ _
      have Hnx := Lib.hid (show n / 8 ^ (S.size + 1) = n / 8 ^ S.size / 8 by rw [Nat.div_div_eq_div_mul, Nat.pow_succ])
      have hu : (48 + ((n / 8 ^ S.size : Nat) : Int) % 8) = ((UInt8.ofNat (48 + n / 8 ^ S.size % 8)).toNat : Int) := by simp; omega
      generalize UInt8.ofNat (48 + n / 8 ^ S.size % 8) = u at *
      have hcv := fun W => conv_one (P := Try.prog) (src := 43) (dst := 9) Try.underlying43 Try.underlying5 Try.underlying9 u (48 + ((n / 8 ^ S.size : Nat) : Int) % 8) hu W
      have hbs := hb.size
      have Hx := Lib.hid hx
      clear hS hx hu
      generalize n / 8 ^ S.size = m at *
      subst hnv
      have Hb := hb.alloc (.cells #[.int .u8 (48 + (m : Int) % 8)] 5)
      have Hbl := hbl.alloc (Nat.le_of_lt hbs) (.cells #[.int .u8 (48 + (m : Int) % 8)] 5)
      by_cases hpos : 0 < m
      · clear hgo
        go_wp2
        all_goals
          go_roundw
          case rel => exact ⟨_, rfl, by rw [Hx.out.2, Hnx.out]; go_num, Hx.out.1, Hb, Hbl⟩
          case measure => have := Hx.out.2; simp [intOf, strLen, this]; omega
      · obtain rfl : m = 0 := by omega
        have hlt : (S.size : Int) < 11 := by omega
        simp only [show (48 + ((0 : Nat) : Int) % 8) = 48 from rfl] at hcv Hb Hbl
        go_wp2
        all_goals
          go_roundw
          case rel => exact ⟨_, rfl, by rw [Hx.out.2, Hnx.out]; rfl, Hx.out.1, Hb, Hbl⟩
          case measure => have := Hx.out.2; simp [intOf, strLen, this]; omega
    · have hm0 : n / 8 ^ S.size = 0 := Nat.eq_zero_of_not_pos fun h => hgo (.inl h)
      have hge : 11 ≤ S.size := by omega
      rw [hm0] at hnv
      subst hnv
      have h1 : decide ((S.size : Int) < 11) = false := decide_eq_false (by omega)
      have hc0 := hb.cell_some 0 (.string { data := #[] }) rfl
      have hc1 := hb.cell_some 1 (.bool false) rfl
      have hf0 := hb.free 0
      have hf1 := hb.free 1
      by_cases hbig : 8 ^ 11 ≤ n
      · have hS1 := hS.done_big hbig hm0
        have h2 : decide ((12 : Int) ≤ S.size) = true := decide_eq_true (by omega)
        clear hS1
        have hbi : (8 : Int) ^ 11 ≤ n := by exact_mod_cast hbig
        have Ho := Lib.hid (show octO n 12 = none from octO_big _ _ hbi)
        clear hbi
        clear hgo hm0 hS hb hbig hge
        go_wp2
        refine bodyPost_ret (v := .agg #[.string { data := #[] }, .bool false]) (by simp [results, Try.results36, go_sem, hc0, hc1]) rfl ⟨?_, ?_⟩
        · rw [saidOf, Ho.out]; rfl
        · exact (hbl.setCell (Nat.le_refl _) _).setCell (Nat.le_refl _) _
      · have hS1 := hS.done_small (by omega) hge
        have h2 : decide ((12 : Int) ≤ S.size) = false := decide_eq_false (by omega)
        have Ho := Lib.hid (show octO n 12 = some (digs 11 n ++ [0]) by
          have : (n : Int) < 8 ^ 11 := by exact_mod_cast (show n < 8 ^ 11 by omega)
          simp [octO, isW]; exact this)
        have Hd := Lib.hid hS1.2
        clear hgo hm0 hS hb hbig hS1 hge
        go_wp2
        refine bodyPost_ret (v := .agg #[.string (S ++ { data := #[0] }), .bool true]) (by simp [results, Try.results36, go_sem, hc0, hc1]) rfl ⟨?_, ?_⟩
        · rw [saidOf, Ho.out, Hd.out]; rfl
        · exact (hbl.setCell (Nat.le_refl _) _).setCell (Nat.le_refl _) _

theorem refOct_bad (n v : Int) (hv : isW v = false ∨ n < 0) (w : World) :
    Calls Try.prog 36 #[.int .i64 n, .int .i64 v] w fun e w' => e = .returned (saidOf (octO n v)) ∧ Below w.heap.size w w' := by
  have Ho := Lib.hid (show octO n v = none from hv.elim (octO_bad n v) (octO_neg n v))
  rcases hw : isW v with _ | _
  · have h : v ≠ 8 ∧ v ≠ 12 := by simpa [isW] using hw
    have h1 : (v != 8) = true := by simpa using h.1
    have h2 : (v != 12) = true := by simpa using h.2
    clear h hv hw
    go_enter Try.func36, Try.ntmps36
    go_wp2
    refine bodyPost_ret (v := .agg #[.string { data := #[] }, .bool false]) (by simp [results, Try.results36, go_sem]) rfl ⟨?_, ?_⟩
    · rw [saidOf, Ho.out]; rfl
    · exact (Below.refl _ _).alloc (Nat.le_refl _) _
  · have h3 : decide (n < 0) = true := by
      rcases hv with h | h
      · rw [hw] at h; cases h
      · simpa using h
    have h : v = 8 ∨ v = 12 := by simpa [isW] using hw
    clear hv hw
    rcases h with rfl | rfl
    all_goals
      go_enter Try.func36, Try.ntmps36
      go_wp2
      refine bodyPost_ret (v := .agg #[.string { data := #[] }, .bool false]) (by simp [results, Try.results36, go_sem]) rfl ⟨?_, ?_⟩
      · rw [saidOf, Ho.out]; rfl
      · exact (Below.refl _ _).alloc (Nat.le_refl _) _

/-- The document's Octal. -/
theorem refOctal_any (n v : Int) (hn : n ≤ 9223372036854775807) (w : World) :
    Calls Try.prog 36 #[.int .i64 n, .int .i64 v] w fun e w' => e = .returned (saidOf (octO n v)) ∧ Below w.heap.size w w' := by
  by_cases hb : isW v = false ∨ n < 0
  · exact refOct_bad n v hb w
  · have hv : isW v = true := by
      rcases h : isW v with _ | _
      · exact (hb (.inl h)).elim
      · rfl
    obtain ⟨m, rfl⟩ := Int.eq_ofNat_of_zero_le (show 0 ≤ n by
      rcases Int.lt_or_le n 0 with h | h
      · exact (hb (.inr h)).elim
      · exact h)
    have h : v = 8 ∨ v = 12 := by simpa [isW] using hv
    rcases h with rfl | rfl
    · exact refOct8_any m w (by omega)
    · exact refOct12_any m w (by omega)
end Go.Proofs.Ytkkmhfgfkjeooaa
