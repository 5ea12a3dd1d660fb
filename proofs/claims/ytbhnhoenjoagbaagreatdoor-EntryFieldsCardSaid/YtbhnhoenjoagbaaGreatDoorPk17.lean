/- Bundle of 2 texts. -/
import Derived.Test.YtbhnhoenjoagbaaGreatDoorPk16
import Derived.Test.YtbhnhoenjoagbaaGreatDoorPk12
import Derived.Test.YtbhnhoenjoagbaaGreatDoorPk04
import Derived.Lib.Bytealg
import Derived.Lib.Strings
/- Walks over package caps: the numbers and the bytes of capabilities; the document's four bytes of a number. -/
namespace Go.Proofs.YtbhnhoenjoagbaaGreatDoor.CapsW
open Go.RowKit
open CapsM
set_option linter.unusedVariables false
attribute [local irreducible] Row At

def u32E : Elt Nat where
  t := 64
  st := 152
  k := 1
  z := .int .u32 0
  bytes := 4
  enc n := [.int .u32 (n : Int)]
  len _ := rfl
  one n u h := by
    rw [List.mem_singleton.1 h]
    rfl
  pos := by decide
  und := Tryz.underlying152
  inf := by kernel_rfl
  zk := rfl
  small := by decide

theorem nums_two (p i : Nat) (e : Bool) (r : Int) : nums ⟨2, p, i, e, r⟩ = [first ⟨2, p, i, e, r⟩, p % 4294967296, i % 4294967296, p / 4294967296, i / 4294967296] := by unfold nums; rw [if_neg (by simp)]
theorem nums_three (p i : Nat) (e : Bool) (r : Nat) : nums ⟨3, p, i, e, r⟩ = [first ⟨3, p, i, e, r⟩, p % 4294967296, i % 4294967296, p / 4294967296, i / 4294967296] ++ [r] := by unfold nums; rw [if_pos rfl]; rfl
theorem row_five (w : World) (B a b c d e : Nat) (hB : B ≤ w.heap.size) (cs : Array Value) (h : cs = #[.int .u32 (a : Int), .int .u32 (b : Int), .int .u32 (c : Int), .int .u32 (d : Int), .int .u32 (e : Int)]) :
    Row u32E B (.slice (some ⟨w.heap.size, 0, none⟩) 5 5) [a, b, c, d, e] (w.alloc (.cells cs 64)) := by
  subst h
  exact lit_row (E := u32E) w [a, b, c, d, e] _ B 5 rfl hB (by simp) rfl
theorem five_eq {n p i : Nat} {F : Int} (h : (n : Int) = F) : (#[.int .u32 F, .int .u32 ((p : Int) % 4294967296), .int .u32 ((i : Int) % 4294967296), .int .u32 ((p : Int) / 4294967296), .int .u32 ((i : Int) / 4294967296)] : Array Value) = #[.int .u32 (n : Int), .int .u32 ((p % 4294967296 : Nat) : Int), .int .u32 ((i % 4294967296 : Nat) : Int), .int .u32 ((p / 4294967296 : Nat) : Int), .int .u32 ((i / 4294967296 : Nat) : Int)] := by
  subst h
  rfl
theorem row_two (w : World) (B p i : Nat) (e : Bool) (r : Int) (hB : B ≤ w.heap.size) (G : Nat) (hG : w.heap.size = G) (F : Int) (hF : F = if e then 33554433 else 33554432) :
    Row u32E B (.slice (some ⟨G, 0, none⟩) 5 5) [first ⟨2, p, i, e, r⟩, p % 4294967296, i % 4294967296, p / 4294967296, i / 4294967296] (w.alloc (.cells #[.int .u32 F, .int .u32 ((p : Int) % 4294967296), .int .u32 ((i : Int) % 4294967296), .int .u32 ((p : Int) / 4294967296), .int .u32 ((i : Int) / 4294967296)] 64)) :=
  hG ▸ row_five w B _ _ _ _ _ hB _ (five_eq (show (first ⟨2, p, i, e, r⟩ : Int) = F by unfold first; simp only; rw [hF]; split <;> omega))
theorem row_three (w : World) (B p i : Nat) (e : Bool) (r : Int) (hB : B ≤ w.heap.size) (G : Nat) (hG : w.heap.size = G) (F : Int) (hF : F = if e then 50331649 else 50331648) :
    Row u32E B (.slice (some ⟨G, 0, none⟩) 5 5) [first ⟨3, p, i, e, r⟩, p % 4294967296, i % 4294967296, p / 4294967296, i / 4294967296] (w.alloc (.cells #[.int .u32 F, .int .u32 ((p : Int) % 4294967296), .int .u32 ((i : Int) % 4294967296), .int .u32 ((p : Int) / 4294967296), .int .u32 ((i : Int) / 4294967296)] 64)) :=
  hG ▸ row_five w B _ _ _ _ _ hB _ (five_eq (show (first ⟨3, p, i, e, r⟩ : Int) = F by unfold first; simp only; rw [hF]; split <;> omega))
theorem row_one (w : World) (B a : Nat) (hB : B ≤ w.heap.size) (G : Nat) (hG : w.heap.size = G) : Row u32E B (.slice (some ⟨G, 0, none⟩) 1 1) [a] (w.alloc (.cells #[.int .u32 (a : Int)] 64)) :=
  hG ▸ lit_row (E := u32E) w [a] _ B 1 rfl hB (by simp) rfl
theorem or2 : bits .or .u32 33554432 1 = 33554433 := by decide +kernel
theorem or3 : bits .or .u32 50331648 1 = 50331649 := by decide +kernel
set_option maxHeartbeats 800000 in
theorem numbers_any (c : Cap) (hf : Fits c) (hm : may c = true) (hv : c.v ≠ 0) (w : World) :
    Calls Tryz.prog 142 #[capV c] w fun e w' => (∃ v, e = .returned v ∧ Row u32E w.heap.size v (nums c) w') ∧ Below w.heap.size w w' := by
  obtain ⟨v, p, i, e, r⟩ := c
  have hr := may_root hm
  obtain ⟨hp, hi⟩ := hf
  unfold capV
  simp only at hv hr hp hi ⊢
  rcases may_ver hm with h | h | h
  · exact absurd h hv
  · simp only at h
    subst h
    clear hm hv
    obtain rfl : r = 0 := hr.2.2 rfl
    rw [nums_two]
    have hor := or2
    have R := fun (W : World) (h : w.heap.size ≤ W.heap.size) (G : Nat) (hG : W.heap.size = G) (F : Int) (hF : F = if e then 33554433 else 33554432) => row_two W w.heap.size p i e 0 h G hG F hF
    generalize [first ⟨2, p, i, e, 0⟩, p % 4294967296, i % 4294967296, p / 4294967296, i / 4294967296] = l at *
    rcases e with _ | _
    all_goals
      go_enter Tryz.func142, Tryz.ntmps142
      go_wp2_with fail
      go_ret
      refine ⟨⟨.slice (some ⟨w.heap.size + 1, 0, none⟩) 5 5, rfl, R (w.alloc _) (by simp) _ (by simp) _ ?_⟩, by (repeat' (first | exact Below.refl _ _ | assumption | refine gr_drew ?_ | refine gr_drewN ?_ _ | refine gr_alloc ?_ _ | refine gr_set ?_ ?_ _ | refine gr_call ?_ (by assumption)) <;> (try (simp; done)) <;> (try (simp; omega)) <;> (try omega))⟩
      rfl
  · simp only at h
    subst h
    clear hm hv
    obtain ⟨k, rfl⟩ : ∃ k : Nat, r = (k : Int) := ⟨r.toNat, by omega⟩
    have hk : (k : Int) % 4294967296 = (k : Int) := by omega
    clear hr
    rw [nums_three]
    have hor := or3
    have R := fun (W : World) (h : w.heap.size ≤ W.heap.size) (G : Nat) (hG : W.heap.size = G) (F : Int) (hF : F = if e then 50331649 else 50331648) => row_three W w.heap.size p i e k h G hG F hF
    have hlen : ([first ⟨3, p, i, e, (k : Int)⟩, p % 4294967296, i % 4294967296, p / 4294967296, i / 4294967296]).length + ([k]).length ≤ 1000000 := by simp
    generalize [first ⟨3, p, i, e, (k : Int)⟩, p % 4294967296, i % 4294967296, p / 4294967296, i / 4294967296] = l at *
    rcases e with _ | _
    all_goals
      go_enter Tryz.func142, Tryz.ntmps142
      go_wp2_with (at_builtin; refine wp_append_at u32E rfl _ _ rfl w.heap.size (.slice (some ⟨w.heap.size + 1, 0, none⟩) 5 5) (.slice (some ⟨w.heap.size + 1 + 1, 0, none⟩) 1 1) l [k] _ rfl ((R (w.alloc _) (by simp) _ (by simp) _ ?_).alloc _) rfl ((row_one ((w.alloc _).alloc _) w.heap.size k (by simp; omega) _ (by simp)).at) hlen (by simp; omega) ?_)
      intro v' w' h1 h2 h3 h4
      go_wp2_with fail
      go_ret
      exact ⟨⟨_, rfl, h1⟩, Below.trans (by (repeat' (first | exact Below.refl _ _ | assumption | refine gr_drew ?_ | refine gr_drewN ?_ _ | refine gr_alloc ?_ _ | refine gr_set ?_ ?_ _ | refine gr_call ?_ (by assumption)) <;> (try (simp; done)) <;> (try (simp; omega)) <;> (try omega))) h2⟩

theorem u32_look {v : Value} {l : List Nat} {w : World} (h : At u32E v l w) : ∃ p cap, v = .slice p l.length cap ∧ l.length ≤ cap ∧ ∀ j (h : j < l.length), ∃ g off, p = some ⟨g, off, none⟩ ∧ g < w.heap.size ∧ w.cell? ⟨g, off + j, none⟩ = some (.int .u32 (l[j] : Int)) := by
  by_cases hl : l = []
  · obtain ⟨p, cap, h1, h2⟩ := h.shape
    exact ⟨p, cap, h1, h2, fun j hj => by subst hl; simp at hj⟩
  · obtain ⟨g, off, cap, h1, h2, h3, h4⟩ := h.open hl
    refine ⟨_, cap, h1, h2, fun j hj => ⟨g, off, rfl, h3, ?_⟩⟩
    have e : off + (j * u32E.k + 0) = off + j := by show off + (j * 1 + 0) = _; omega
    have a0 := h4 j hj 0 _ rfl
    rw [e] at a0
    exact a0
theorem nums_lt {c : Cap} (hf : Fits c) (hm : may c = true) (hv : c.v ≠ 0) : ∀ n ∈ nums c, n < 4294967296 := by
  obtain ⟨hp, hi⟩ := hf
  have hr := may_root hm
  have hfst := first_lt (c := c) (by rcases may_ver hm with h | h | h; exact absurd h hv; exact .inl h; exact .inr h)
  intro n hn
  unfold nums at hn
  simp only [List.mem_cons] at hn
  rcases hn with rfl | rfl | rfl | rfl | rfl | hn
  · exact hfst
  · omega
  · omega
  · omega
  · omega
  · split at hn
    · rw [List.mem_singleton] at hn
      omega
    · cases hn
theorem bytesOf_take {l : List Nat} {i : Nat} (h : i < l.length) : bytesOf (l.take (i + 1)) = bytesOf (l.take i) ++ four l[i] := by
  unfold bytesOf
  rw [List.take_succ_eq_append_getElem h, List.flatMap_append]
  simp
theorem four_take (n : Nat) (j : Nat) (hj : j < 4) : (four n).take (j + 1) = (four n).take j ++ [UInt8.ofNat (n / 256 ^ j)] := by
  have : j = 0 ∨ j = 1 ∨ j = 2 ∨ j = 3 := by omega
  rcases this with rfl | rfl | rfl | rfl
  · simp [four]
  · rfl
  · rfl
  · rfl

set_option maxHeartbeats 1600000 in
theorem Put_any (c : Cap) (hf : Fits c) (w : World) :
    Calls Tryz.prog 71 #[capV c] w fun e w' => e = .returned (.string (strOf (putL c))) ∧ Below w.heap.size w w' := by
  have hmay := May_any c
  by_cases hm : may c = true
  · rw [hm] at hmay
    by_cases hv : c.v = 0
    · have t0 : (c.v == 0) = true := by simpa using hv
      have HE := Lib.hid (show putL c = [] from putL_none (by simp [hv]))
      obtain ⟨v, p, i, e, r⟩ := c
      unfold capV at hmay ⊢
      simp only at t0 hmay ⊢
      have Hm := Lib.hid hmay
      clear hmay hm hv hf
      go_enter Tryz.func71, Tryz.ntmps71
      go_wp2_with fail
      refine (Hm.out _).mono ?_
      rintro e w1 ⟨rfl, hb1⟩
      have : w1.cell? ⟨w.heap.size, 0, none⟩ = some (.int .i64 v) := cell_kept hb1 (by simp [go_sem])
      go_wp2_with fail
      go_ret
      exact ⟨by rw [HE.out]; rfl, by (repeat' (first | exact Below.refl _ _ | assumption | refine gr_drew ?_ | refine gr_drewN ?_ _ | refine gr_alloc ?_ _ | refine gr_set ?_ ?_ _ | refine gr_call ?_ (by assumption)) <;> (try (simp; done)) <;> (try (simp; omega)) <;> (try omega))⟩
    · have t0 : (c.v == 0) = false := by simpa using hv
      have hnum := numbers_any c hf hm hv
      have hlt := nums_lt hf hm hv
      have HE := Lib.hid (show putL c = bytesOf (nums c) by unfold putL; rw [if_pos ⟨hm, hv⟩])
      have hz : (nums c).length ≤ 6 := by rw [nums_length]; split <;> omega
      generalize nums c = l at *
      obtain ⟨v, p, i, e, r⟩ := c
      unfold capV at hmay hnum ⊢
      simp only at t0 hmay hnum ⊢
      have Hm := Lib.hid hmay
      have Hn := Lib.hid hnum
      obtain ⟨z, hzl⟩ : ∃ z, l.length = z := ⟨_, rfl⟩
      have Hz := Lib.hid hzl
      rw [hzl] at hz
      have Hlt := Lib.hid hlt
      clear hmay hm hv hf hnum hzl hlt
      go_enter Tryz.func71, Tryz.ntmps71
      go_wp2_with fail
      refine (Hm.out _).mono ?_
      rintro e1 w1 ⟨rfl, hb1⟩
      have c0 : w1.cell? ⟨w.heap.size, 0, none⟩ = some (.int .i64 v) := cell_kept hb1 (by simp [go_sem])
      have c1 : w1.cell? ⟨w.heap.size, 1, none⟩ = some (.int .u64 p) := cell_kept hb1 (by simp [go_sem])
      have c2 : w1.cell? ⟨w.heap.size, 2, none⟩ = some (.int .u64 i) := cell_kept hb1 (by simp [go_sem])
      have c3 : w1.cell? ⟨w.heap.size, 3, none⟩ = some (.bool e) := cell_kept hb1 (by simp [go_sem])
      have c4 : w1.cell? ⟨w.heap.size, 4, none⟩ = some (.int .i64 r) := cell_kept hb1 (by simp [go_sem])
      have hbl1 : Below w.heap.size w w1 := gr_call (by (repeat' (first | exact Below.refl _ _ | assumption | refine gr_drew ?_ | refine gr_drewN ?_ _ | refine gr_alloc ?_ _ | refine gr_set ?_ ?_ _ | refine gr_call ?_ (by assumption)) <;> (try (simp; done)) <;> (try (simp; omega)) <;> (try omega))) hb1
      clear hb1 Hm
      go_wp2_with fail
      refine (Hn.out _).mono ?_
      rintro e2 w2 ⟨⟨sv, rfl, hR⟩, hb2⟩
      have hbl2 := gr_call hbl1 hb2
      obtain ⟨ad, cap, rfl, hcap, hcell⟩ := u32_look hR.at
      rw [Hz.out] at hcap ⊢
      have Hcell := Lib.hid hcell
      clear hcell hR hb2 hbl1 c0 c1 c2 c3 c4 Hn
      go_wp2_with fail
      go_loopw [3, 17] (fun ov iv wr => ∃ k : Nat, iv = .int .i64 (k : Int) ∧ k ≤ z ∧ BRow w2.heap.size ov (bytesOf (l.take k)) wr ∧ Below w2.heap.size w2 wr) (fun _ iv _ => z - (intOf iv).toNat)
      case atStart => exact ⟨0, rfl, by omega, BRow.nil _ _, Below.refl _ _⟩
      case round =>
        obtain ⟨k, rfl, hk, hB, hbm⟩ := hrel
        rename World => wr
        by_cases hlt : k < z
        · have hlt' : decide ((k : Int) < (z : Int)) = true := decide_eq_true (by omega)
          have hlt2 : decide (k < z) = true := decide_eq_true hlt
          have hk' : k < l.length := by rw [Hz.out]; exact hlt
          obtain ⟨g, off, rfl, hg, d0⟩ := Hcell.out k hk'
          replace d0 := cell_kept hbm d0
          have hn := Hlt.out _ (List.getElem_mem hk')
          have HT := Lib.hid (bytesOf_take hk')
          have hol : (bytesOf (l.take k)).length ≤ 24 := by rw [bytesOf_length, List.length_take]; omega
          generalize l[k] = n at *
          generalize bytesOf (l.take k) = out at *
          clear Hcell
          go_wp2_with fail
          go_loopw [3, 5, 21] (fun ov nv jv wx => ∃ j m : Nat, jv = .int .i64 (j : Int) ∧ j ≤ 4 ∧ nv = .int .u32 (m : Int) ∧ m < 4294967296 ∧ Hid (m = n / 256 ^ j) ∧ BRow w2.heap.size ov (out ++ (four n).take j) wx ∧ Below w2.heap.size w2 wx) (fun _ _ jv _ => 4 - (intOf jv).toNat)
          case atStart => exact ⟨0, n, rfl, by omega, rfl, hn, Lib.hid (by simp), by simpa using hB, hbm⟩
          case round =>
            clear hB hbm
            obtain ⟨j, m, rfl, hj, rfl, hm4, HM, hB, hbm⟩ := hrel
            by_cases hj4 : j < 4
            · have hj' : decide ((j : Int) < 4) = true := decide_eq_true (by omega)
              have hj2 : decide (j < 4) = true := decide_eq_true hj4
              have HA := Lib.hid (show (out ++ (four n).take j) ++ [UInt8.ofNat m] = out ++ (four n).take (j + 1) by rw [four_take n j hj4, HM.out, List.append_assoc])
              have hl1 : (out ++ (four n).take j).length + [UInt8.ofNat m].length ≤ 1000000 := by simp; omega
              have harr : (#[.int .u8 ((m : Int) % 256)] : Array Value).toList = Lib.byteCells [UInt8.ofNat m] := by simp [Lib.byteCells]
              have hsz := hbm.size
              generalize out ++ (four n).take j = o1 at *
              go_wp2_with (at_builtin; refine wp_append rfl _ _ rfl w2.heap.size _ o1 _ [UInt8.ofNat m] #[.int .u8 ((m : Int) % 256)] harr rfl (by exact hB) rfl hl1 hsz ?_)
              intro v' w' h1 h2
              rw [HA.out] at h1
              have hbm' := hbm.trans h2
              clear hB hbm h2 harr
              go_wp2_with fail
              go_roundw
              case rel => exact ⟨j + 1, m / 256, rfl, by omega, rfl, by omega, Lib.hid (by rw [HM.out, Nat.pow_succ, Nat.div_div_eq_div_mul]), h1, hbm'⟩
              case measure => simp only [intOf]; omega
            · have hj' : decide ((j : Int) < 4) = false := decide_eq_false (by omega)
              have hj2 : decide (j < 4) = false := decide_eq_false hj4
              have HA := Lib.hid (show out ++ (four n).take j = bytesOf (l.take (k + 1)) by rw [HT.out, List.take_of_length_le (by rw [four_length]; omega)])
              rw [HA.out] at hB
              go_wp2_with fail
              go_roundw
              case rel => exact ⟨k + 1, rfl, by omega, hB, hbm⟩
              case measure => simp only [intOf]; omega
        · have hlt' : decide ((k : Int) < (z : Int)) = false := decide_eq_false (by omega)
          have hlt2 : decide (k < z) = false := decide_eq_false hlt
          have hT : bytesOf (l.take k) = bytesOf l := by rw [List.take_of_length_le (by rw [Hz.out]; omega)]
          rw [hT, ← HE.out] at hB
          have hcv := hB.str
          clear hT hB
          go_wp2_with fail
          go_ret
          exact ⟨rfl, gr_call hbl2 hbm⟩
  · have hm' : may c = false := by simpa using hm
    rw [hm'] at hmay
    have HE := Lib.hid (show putL c = [] from putL_none (by simp [hm']))
    obtain ⟨v, p, i, e, r⟩ := c
    unfold capV at hmay ⊢
    simp only at hmay ⊢
    have Hm := Lib.hid hmay
    clear hmay hm hm' hf
    go_enter Tryz.func71, Tryz.ntmps71
    go_wp2_with fail
    refine (Hm.out _).mono ?_
    rintro e w1 ⟨rfl, hb1⟩
    go_wp2_with fail
    go_ret
    exact ⟨by rw [HE.out]; rfl, by (repeat' (first | exact Below.refl _ _ | assumption | refine gr_drew ?_ | refine gr_drewN ?_ _ | refine gr_alloc ?_ _ | refine gr_set ?_ ?_ _ | refine gr_call ?_ (by assumption)) <;> (try (simp; done)) <;> (try (simp; omega)) <;> (try omega))⟩
end Go.Proofs.YtbhnhoenjoagbaaGreatDoor.CapsW

/- Base64 as the document has it, in plain Lean: what Put writes, what is read back, and that each is the other's way back. -/
namespace Go.Proofs.YtbhnhoenjoagbaaGreatDoor.SixM

def letters : List UInt8 := [65, 66, 67, 68, 69, 70, 71, 72, 73, 74, 75, 76, 77, 78, 79, 80, 81, 82, 83, 84, 85, 86, 87, 88, 89, 90, 97, 98, 99, 100, 101, 102, 103, 104, 105, 106, 107, 108, 109, 110, 111, 112, 113, 114, 115, 116, 117, 118, 119, 120, 121, 122, 48, 49, 50, 51, 52, 53, 54, 55, 56, 57, 43, 47]
def L (n : Nat) : UInt8 := letters.getD n 0
def num (c : UInt8) : Option Nat := letters.findIdx? (· == c)

def p3 : List UInt8 → List UInt8
  | [] => []
  | [a] => [L (a.toNat / 4), L (a.toNat % 4 * 16), 61, 61]
  | [a, b] => [L (a.toNat / 4), L (a.toNat % 4 * 16 + b.toNat / 16), L (b.toNat % 16 * 4), 61]
  | a :: b :: c :: r => L (a.toNat / 4) :: L (a.toNat % 4 * 16 + b.toNat / 16) :: L (b.toNat % 16 * 4 + c.toNat / 64) :: L (c.toNat % 64) :: p3 r

def emitL (h r : Nat) : List UInt8 := if 6 ≤ h then L (r / 2 ^ (h - 6) % 64) :: emitL (h - 6) r else []
termination_by h
def flush (h r : Nat) : List UInt8 := if 0 < h then [L (r * 2 ^ (6 - h) % 4294967296 % 64)] else []
def body (h r : Nat) : List UInt8 → List UInt8
  | [] => flush h r
  | b :: bs => emitL (h + 8) ((r * 256 + b.toNat) % 4294967296) ++ body ((h + 8) % 6) ((r * 256 + b.toNat) % 4294967296) bs
def fill (l : List UInt8) : List UInt8 := l ++ List.replicate ((4 - l.length % 4) % 4) 61

theorem emit8 (r : Nat) : emitL 8 r = [L (r / 4 % 64)] := by unfold emitL; rw [if_pos (by decide)]; unfold emitL; rw [if_neg (by decide)]
theorem emit10 (r : Nat) : emitL 10 r = [L (r / 16 % 64)] := by unfold emitL; rw [if_pos (by decide)]; unfold emitL; rw [if_neg (by decide)]
theorem emit12 (r : Nat) : emitL 12 r = [L (r / 64 % 64), L (r % 64)] := by
  unfold emitL; rw [if_pos (by decide)]; unfold emitL; rw [if_pos (by decide)]; unfold emitL; rw [if_neg (by decide)]
  simp

theorem p3_ind {P : List UInt8 → Prop} (h0 : P []) (h1 : ∀ a, P [a]) (h2 : ∀ a b, P [a, b]) (h3 : ∀ a b c r, P r → P (a :: b :: c :: r)) : ∀ l, P l
  | [] => h0
  | [a] => h1 a
  | [a, b] => h2 a b
  | a :: b :: c :: r => h3 a b c r (p3_ind h0 h1 h2 h3 r)

theorem step1 (r : Nat) (a : Nat) (ha : a < 256) : (r * 256 + a) % 4294967296 / 4 % 64 = a / 4 ∧ (r * 256 + a) % 4294967296 % 256 = a := by omega
theorem step2 (x b : Nat) (hb : b < 256) : (x * 256 + b) % 4294967296 / 16 % 64 = x % 4 * 16 + b / 16 ∧ (x * 256 + b) % 4294967296 % 65536 = x % 256 * 256 + b := by omega
theorem step3 (x c : Nat) (hc : c < 256) : (x * 256 + c) % 4294967296 / 64 % 64 = x % 16 * 4 + c / 64 ∧ (x * 256 + c) % 4294967296 % 64 = c % 64 := by omega
theorem body_cons {h r x : Nat} {b : UInt8} (hx : (r * 256 + b.toNat) % 4294967296 = x) (bs : List UInt8) : body h r (b :: bs) = emitL (h + 8) x ++ body ((h + 8) % 6) x bs := by subst hx; rfl
theorem body_nil (h r : Nat) : body h r [] = flush h r := rfl
theorem flush2 (x : Nat) : flush 2 x = [L (x * 16 % 4294967296 % 64)] := rfl
theorem flush4 (x : Nat) : flush 4 x = [L (x * 4 % 4294967296 % 64)] := rfl
theorem body1 (r : Nat) (a : UInt8) : body 0 r [a] = [L (a.toNat / 4), L (a.toNat % 4 * 16)] := by
  obtain ⟨e1, e2⟩ := step1 r a.toNat a.toNat_lt
  obtain ⟨x, hx⟩ : ∃ x, (r * 256 + a.toNat) % 4294967296 = x := ⟨_, rfl⟩
  rw [hx] at e1 e2
  rw [body_cons hx, show (0 : Nat) + 8 = 8 from rfl, show (8 : Nat) % 6 = 2 from rfl, emit8, body_nil, flush2, e1, show x * 16 % 4294967296 % 64 = a.toNat % 4 * 16 by omega]
  rfl
theorem body2 (r : Nat) (a b : UInt8) : body 0 r [a, b] = [L (a.toNat / 4), L (a.toNat % 4 * 16 + b.toNat / 16), L (b.toNat % 16 * 4)] := by
  obtain ⟨e1, e2⟩ := step1 r a.toNat a.toNat_lt
  obtain ⟨x, hx⟩ : ∃ x, (r * 256 + a.toNat) % 4294967296 = x := ⟨_, rfl⟩
  rw [hx] at e1 e2
  obtain ⟨e3, e4⟩ := step2 x b.toNat b.toNat_lt
  obtain ⟨y, hy⟩ : ∃ y, (x * 256 + b.toNat) % 4294967296 = y := ⟨_, rfl⟩
  rw [hy] at e3 e4
  rw [body_cons hx, show (0 : Nat) + 8 = 8 from rfl, show (8 : Nat) % 6 = 2 from rfl, emit8, body_cons hy, show (2 : Nat) + 8 = 10 from rfl, show (10 : Nat) % 6 = 4 from rfl, emit10, body_nil, flush4, e1, e3, show y * 4 % 4294967296 % 64 = b.toNat % 16 * 4 by omega, show x % 4 = a.toNat % 4 by omega]
  rfl
theorem body3 (r : Nat) (a b c : UInt8) (l : List UInt8) : ∃ r', body 0 r (a :: b :: c :: l) = L (a.toNat / 4) :: L (a.toNat % 4 * 16 + b.toNat / 16) :: L (b.toNat % 16 * 4 + c.toNat / 64) :: L (c.toNat % 64) :: body 0 r' l := by
  obtain ⟨e1, e2⟩ := step1 r a.toNat a.toNat_lt
  obtain ⟨x, hx⟩ : ∃ x, (r * 256 + a.toNat) % 4294967296 = x := ⟨_, rfl⟩
  rw [hx] at e1 e2
  obtain ⟨e3, e4⟩ := step2 x b.toNat b.toNat_lt
  obtain ⟨y, hy⟩ : ∃ y, (x * 256 + b.toNat) % 4294967296 = y := ⟨_, rfl⟩
  rw [hy] at e3 e4
  obtain ⟨e5, e6⟩ := step3 y c.toNat c.toNat_lt
  obtain ⟨z, hz⟩ : ∃ z, (y * 256 + c.toNat) % 4294967296 = z := ⟨_, rfl⟩
  rw [hz] at e5 e6
  refine ⟨z, ?_⟩
  rw [body_cons hx, show (0 : Nat) + 8 = 8 from rfl, show (8 : Nat) % 6 = 2 from rfl, emit8, body_cons hy, show (2 : Nat) + 8 = 10 from rfl, show (10 : Nat) % 6 = 4 from rfl, emit10, body_cons hz, show (4 : Nat) + 8 = 12 from rfl, show (12 : Nat) % 6 = 0 from rfl, emit12, e1, e3, e5, e6, show x % 4 = a.toNat % 4 by omega, show y % 16 = b.toNat % 16 by omega]
  rfl
theorem fill4 (a b c d : UInt8) (l : List UInt8) : fill (a :: b :: c :: d :: l) = a :: b :: c :: d :: fill l := by
  unfold fill
  have : (4 - (a :: b :: c :: d :: l).length % 4) % 4 = (4 - l.length % 4) % 4 := by simp only [List.length_cons]; omega
  rw [this]; rfl
theorem put_eq (l : List UInt8) : ∀ r, fill (body 0 r l) = p3 l := by
  induction l using p3_ind with
  | h0 => intro r; simp [body, flush, fill, p3]
  | h1 a => intro r; rw [body1]; rfl
  | h2 a b => intro r; rw [body2]; rfl
  | h3 a b c l ih => intro r; obtain ⟨r', h⟩ := body3 r a b c l; rw [h, fill4, ih, p3]

theorem p3_length (l : List UInt8) : (p3 l).length = (l.length + 2) / 3 * 4 := by
  induction l using p3_ind with
  | h0 => rfl
  | h1 a => simp [p3]
  | h2 a b => simp [p3]
  | h3 a b c l ih => simp only [p3, List.length_cons, ih]; omega
def dec (h r : Nat) : List UInt8 → Option (List UInt8)
  | [] => if r % 2 ^ h = 0 then some [] else none
  | c :: cs => match num c with
    | none => none
    | some k => if 8 ≤ h + 6 then (dec (h - 2) ((r * 64 + k) % 4294967296) cs).map (UInt8.ofNat ((r * 64 + k) % 4294967296 / 2 ^ (h - 2)) :: ·)
      else dec (h + 6) ((r * 64 + k) % 4294967296) cs
def unfill (t : List UInt8) : Option (List UInt8) := if t.length % 4 = 0 then some (Lib.trimSuffix (Lib.trimSuffix t [61]) [61]) else none
def get (t : List UInt8) : Option (List UInt8) := (unfill t).bind (dec 0 0)

def rdec (h n : Nat) : List UInt8 → List UInt8
  | [] => []
  | c :: cs => match num c with
    | none => rdec h n cs
    | some k => if 8 ≤ h + 6 then UInt8.ofNat ((n * 64 + k) % 1048576 / 2 ^ (h - 2)) :: rdec (h - 2) ((n * 64 + k) % 1048576) cs else rdec (h + 6) ((n * 64 + k) % 1048576) cs
end Go.Proofs.YtbhnhoenjoagbaaGreatDoor.SixM
