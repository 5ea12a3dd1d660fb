/- The statements' own function put: a character's bytes by its number. -/
import Derived.Test.YthmmcmpbpfnocaaDoorRefText2
namespace Go.Proofs.YthmmcmpbpfnocaaDoor
open Go.RowKit
open TextM
set_option linter.unusedVariables false

def putL (n : Nat) : List UInt8 :=
  if n < 128 then [UInt8.ofNat n]
  else if n < 2048 then [UInt8.ofNat (192 + n / 64), UInt8.ofNat (128 + n % 64)]
  else if n < 65536 then [UInt8.ofNat (224 + n / 4096), UInt8.ofNat (128 + n / 64 % 64), UInt8.ofNat (128 + n % 64)]
  else [UInt8.ofNat (240 + n / 262144), UInt8.ofNat (128 + n / 4096 % 64), UInt8.ofNat (128 + n / 64 % 64), UInt8.ofNat (128 + n % 64)]

/-- string([]byte{..}) of bytes that are known. -/
theorem cells1 (a : Nat) (x : Int) (hx : x = (a : Int)) (ha : a < 256) : #[Value.int .u8 x] = cellsOf [UInt8.ofNat a] := by subst hx; simp [cellsOf]; omega
theorem and63 (n : Nat) (x : Int) (hx : x = (n : Int)) (hn : n < 4611686018427387904) : bits .and .i64 x 63 = ((n % 64 : Nat) : Int) := by
  subst hx
  exact (and_i64 n 63 (by omega) (by decide)).trans (by rw [Nat.and_two_pow_sub_one_eq_mod n 6])
theorem byte_of (a : Nat) (x : Int) (hx : x = (a : Int)) (ha : a < 256) : Value.int .u8 x = Value.int .u8 ((UInt8.ofNat a).toNat : Int) := by
  subst hx; rw [UInt8.toNat_ofNat', Nat.mod_eq_of_lt ha]
theorem conv_lit {P : Program} {t src dst : TypeId} (hs : P.underlying src = some (.slice t)) (he : P.underlying t = some (.int .u8)) (hd : P.underlying dst = some .string) (l : List UInt8) (k : Nat) (hk : k = l.length) (cs : Array Value) (hc : cs = cellsOf l) (W : World) :
    (convert src dst (.slice (some ⟨W.heap.size, 0, none⟩) k k)).run P (W.alloc (.cells cs t)) = .ok (.string ⟨l.toArray⟩) (W.alloc (.cells cs t)) := by
  subst hc hk
  exact conv_back (P := P) (src := src) (dst := dst) l l.length (BlkIs.made W t (cellsOf l)) hs he hd

theorem put_1 (n : Nat) (h1 : 0 ≤ n) (h2 : n < 128) (w : World) :
    Calls Tryd.prog 14 #[.int .i64 (n : Int)] w fun e w' => e = .returned (.string ⟨(putL n).toArray⟩) ∧ Below w.heap.size w w' := by
  have hR : putL n = [UInt8.ofNat n] := by
    unfold putL
    rw [if_pos (by omega)]
  obtain ⟨x, hx⟩ : ∃ x : Int, x = (n : Int) := ⟨_, rfl⟩
  rw [hR, ← hx]
  have hcs : #[Value.int .u8 (x)] = cellsOf [UInt8.ofNat n] := by
    unfold cellsOf
    simp only [List.map_cons, List.map_nil]
    rw [byte_of (n) (x) (by omega) (by omega)]
  obtain ⟨R, hR2⟩ : ∃ R : List UInt8, [UInt8.ofNat n] = R := ⟨_, rfl⟩
  have hlen : 1 = R.length := by rw [← hR2]; rfl
  have hcv := conv_lit (src := 28) (dst := 9) Tryd.underlying28 Tryd.underlying5 Tryd.underlying9 R 1 hlen #[Value.int .u8 (x)] (by rw [← hR2]; exact hcs)
  rw [hR2]
  have t0 : x < 128 := by omega
  have xlo : 0 ≤ x := by omega
  have xhi : x < 128 := by omega
  clear hcs hR hR2 hlen 
  clear hx h1 h2
  go_enter Tryd.func14, Tryd.ntmps14
  go_wp2_with fail
  go_ret
  exact ⟨rfl, by (repeat' (first | exact Below.refl _ _ | assumption | refine gr_drew ?_ | refine gr_drewN ?_ _ | refine gr_alloc ?_ _ | refine gr_set ?_ ?_ _ | refine gr_call ?_ (by assumption)) <;> (try (simp; done)) <;> (try (simp; omega)) <;> (try omega))⟩
theorem put_2 (n : Nat) (h1 : 128 ≤ n) (h2 : n < 2048) (w : World) :
    Calls Tryd.prog 14 #[.int .i64 (n : Int)] w fun e w' => e = .returned (.string ⟨(putL n).toArray⟩) ∧ Below w.heap.size w w' := by
  have hR : putL n = [UInt8.ofNat (192 + n / 64), UInt8.ofNat (128 + n % 64)] := by
    unfold putL
    rw [if_neg (by omega), if_pos (by omega)]
  obtain ⟨x, hx⟩ : ∃ x : Int, x = (n : Int) := ⟨_, rfl⟩
  rw [hR, ← hx]
  have hand1 := and63 (n) (x) (by omega) (by omega)
  obtain ⟨r1, hr1⟩ : ∃ r, (n) % 64 = r := ⟨_, rfl⟩
  have hrb1 : r1 < 64 := by omega
  rw [hr1] at hand1
  have hcs : #[Value.int .u8 (192 + x / 64), Value.int .u8 (128 + (r1 : Int))] = cellsOf [UInt8.ofNat (192 + n / 64), UInt8.ofNat (128 + n % 64)] := by
    unfold cellsOf
    simp only [List.map_cons, List.map_nil]
    rw [byte_of (192 + n / 64) (192 + x / 64) (by omega) (by omega), byte_of (128 + n % 64) (128 + (r1 : Int)) (by omega) (by omega)]
  obtain ⟨R, hR2⟩ : ∃ R : List UInt8, [UInt8.ofNat (192 + n / 64), UInt8.ofNat (128 + n % 64)] = R := ⟨_, rfl⟩
  have hlen : 2 = R.length := by rw [← hR2]; rfl
  have hcv := conv_lit (src := 28) (dst := 9) Tryd.underlying28 Tryd.underlying5 Tryd.underlying9 R 2 hlen #[Value.int .u8 (192 + x / 64), Value.int .u8 (128 + (r1 : Int))] (by rw [← hR2]; exact hcs)
  rw [hR2]
  have t0 : ¬ x < 128 := by omega
  have t1 : x < 2048 := by omega
  have xlo : 128 ≤ x := by omega
  have xhi : x < 2048 := by omega
  clear hcs hR hR2 hlen hr1
  clear hx h1 h2
  go_enter Tryd.func14, Tryd.ntmps14
  go_wp2_with fail
  go_ret
  exact ⟨rfl, by (repeat' (first | exact Below.refl _ _ | assumption | refine gr_drew ?_ | refine gr_drewN ?_ _ | refine gr_alloc ?_ _ | refine gr_set ?_ ?_ _ | refine gr_call ?_ (by assumption)) <;> (try (simp; done)) <;> (try (simp; omega)) <;> (try omega))⟩
theorem put_3 (n : Nat) (h1 : 2048 ≤ n) (h2 : n < 65536) (w : World) :
    Calls Tryd.prog 14 #[.int .i64 (n : Int)] w fun e w' => e = .returned (.string ⟨(putL n).toArray⟩) ∧ Below w.heap.size w w' := by
  have hR : putL n = [UInt8.ofNat (224 + n / 4096), UInt8.ofNat (128 + n / 64 % 64), UInt8.ofNat (128 + n % 64)] := by
    unfold putL
    rw [if_neg (by omega), if_neg (by omega), if_pos (by omega)]
  obtain ⟨x, hx⟩ : ∃ x : Int, x = (n : Int) := ⟨_, rfl⟩
  rw [hR, ← hx]
  have hand1 := and63 (n / 64) (x / 64) (by omega) (by omega)
  obtain ⟨r1, hr1⟩ : ∃ r, (n / 64) % 64 = r := ⟨_, rfl⟩
  have hrb1 : r1 < 64 := by omega
  rw [hr1] at hand1
  have hand2 := and63 (n) (x) (by omega) (by omega)
  obtain ⟨r2, hr2⟩ : ∃ r, (n) % 64 = r := ⟨_, rfl⟩
  have hrb2 : r2 < 64 := by omega
  rw [hr2] at hand2
  have hcs : #[Value.int .u8 (224 + x / 4096), Value.int .u8 (128 + (r1 : Int)), Value.int .u8 (128 + (r2 : Int))] = cellsOf [UInt8.ofNat (224 + n / 4096), UInt8.ofNat (128 + n / 64 % 64), UInt8.ofNat (128 + n % 64)] := by
    unfold cellsOf
    simp only [List.map_cons, List.map_nil]
    rw [byte_of (224 + n / 4096) (224 + x / 4096) (by omega) (by omega), byte_of (128 + n / 64 % 64) (128 + (r1 : Int)) (by omega) (by omega), byte_of (128 + n % 64) (128 + (r2 : Int)) (by omega) (by omega)]
  obtain ⟨R, hR2⟩ : ∃ R : List UInt8, [UInt8.ofNat (224 + n / 4096), UInt8.ofNat (128 + n / 64 % 64), UInt8.ofNat (128 + n % 64)] = R := ⟨_, rfl⟩
  have hlen : 3 = R.length := by rw [← hR2]; rfl
  have hcv := conv_lit (src := 28) (dst := 9) Tryd.underlying28 Tryd.underlying5 Tryd.underlying9 R 3 hlen #[Value.int .u8 (224 + x / 4096), Value.int .u8 (128 + (r1 : Int)), Value.int .u8 (128 + (r2 : Int))] (by rw [← hR2]; exact hcs)
  rw [hR2]
  have t0 : ¬ x < 128 := by omega
  have t1 : ¬ x < 2048 := by omega
  have t2 : x < 65536 := by omega
  have xlo : 2048 ≤ x := by omega
  have xhi : x < 65536 := by omega
  clear hcs hR hR2 hlen hr1 hr2
  clear hx h1 h2
  go_enter Tryd.func14, Tryd.ntmps14
  go_wp2_with fail
  go_ret
  exact ⟨rfl, by (repeat' (first | exact Below.refl _ _ | assumption | refine gr_drew ?_ | refine gr_drewN ?_ _ | refine gr_alloc ?_ _ | refine gr_set ?_ ?_ _ | refine gr_call ?_ (by assumption)) <;> (try (simp; done)) <;> (try (simp; omega)) <;> (try omega))⟩
theorem put_4 (n : Nat) (h1 : 65536 ≤ n) (h2 : n < 2097152) (w : World) :
    Calls Tryd.prog 14 #[.int .i64 (n : Int)] w fun e w' => e = .returned (.string ⟨(putL n).toArray⟩) ∧ Below w.heap.size w w' := by
  have hR : putL n = [UInt8.ofNat (240 + n / 262144), UInt8.ofNat (128 + n / 4096 % 64), UInt8.ofNat (128 + n / 64 % 64), UInt8.ofNat (128 + n % 64)] := by
    unfold putL
    rw [if_neg (by omega), if_neg (by omega), if_neg (by omega)]
  obtain ⟨x, hx⟩ : ∃ x : Int, x = (n : Int) := ⟨_, rfl⟩
  rw [hR, ← hx]
  have hand1 := and63 (n / 4096) (x / 4096) (by omega) (by omega)
  obtain ⟨r1, hr1⟩ : ∃ r, (n / 4096) % 64 = r := ⟨_, rfl⟩
  have hrb1 : r1 < 64 := by omega
  rw [hr1] at hand1
  have hand2 := and63 (n / 64) (x / 64) (by omega) (by omega)
  obtain ⟨r2, hr2⟩ : ∃ r, (n / 64) % 64 = r := ⟨_, rfl⟩
  have hrb2 : r2 < 64 := by omega
  rw [hr2] at hand2
  have hand3 := and63 (n) (x) (by omega) (by omega)
  obtain ⟨r3, hr3⟩ : ∃ r, (n) % 64 = r := ⟨_, rfl⟩
  have hrb3 : r3 < 64 := by omega
  rw [hr3] at hand3
  have hcs : #[Value.int .u8 (240 + x / 262144), Value.int .u8 (128 + (r1 : Int)), Value.int .u8 (128 + (r2 : Int)), Value.int .u8 (128 + (r3 : Int))] = cellsOf [UInt8.ofNat (240 + n / 262144), UInt8.ofNat (128 + n / 4096 % 64), UInt8.ofNat (128 + n / 64 % 64), UInt8.ofNat (128 + n % 64)] := by
    unfold cellsOf
    simp only [List.map_cons, List.map_nil]
    rw [byte_of (240 + n / 262144) (240 + x / 262144) (by omega) (by omega), byte_of (128 + n / 4096 % 64) (128 + (r1 : Int)) (by omega) (by omega), byte_of (128 + n / 64 % 64) (128 + (r2 : Int)) (by omega) (by omega), byte_of (128 + n % 64) (128 + (r3 : Int)) (by omega) (by omega)]
  obtain ⟨R, hR2⟩ : ∃ R : List UInt8, [UInt8.ofNat (240 + n / 262144), UInt8.ofNat (128 + n / 4096 % 64), UInt8.ofNat (128 + n / 64 % 64), UInt8.ofNat (128 + n % 64)] = R := ⟨_, rfl⟩
  have hlen : 4 = R.length := by rw [← hR2]; rfl
  have hcv := conv_lit (src := 28) (dst := 9) Tryd.underlying28 Tryd.underlying5 Tryd.underlying9 R 4 hlen #[Value.int .u8 (240 + x / 262144), Value.int .u8 (128 + (r1 : Int)), Value.int .u8 (128 + (r2 : Int)), Value.int .u8 (128 + (r3 : Int))] (by rw [← hR2]; exact hcs)
  rw [hR2]
  have t0 : ¬ x < 128 := by omega
  have t1 : ¬ x < 2048 := by omega
  have t2 : ¬ x < 65536 := by omega
  have xlo : 65536 ≤ x := by omega
  have xhi : x < 2097152 := by omega
  clear hcs hR hR2 hlen hr1 hr2 hr3
  clear hx h1 h2
  go_enter Tryd.func14, Tryd.ntmps14
  go_wp2_with fail
  go_ret
  exact ⟨rfl, by (repeat' (first | exact Below.refl _ _ | assumption | refine gr_drew ?_ | refine gr_drewN ?_ _ | refine gr_alloc ?_ _ | refine gr_set ?_ ?_ _ | refine gr_call ?_ (by assumption)) <;> (try (simp; done)) <;> (try (simp; omega)) <;> (try omega))⟩
end Go.Proofs.YthmmcmpbpfnocaaDoor
