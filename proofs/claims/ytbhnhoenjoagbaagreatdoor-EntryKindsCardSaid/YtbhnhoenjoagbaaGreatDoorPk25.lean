/- Bundle of 6 texts. -/
import Derived.Test.YtbhnhoenjoagbaaGreatDoorPk24
import Derived.Test.YtbhnhoenjoagbaaGreatDoorPk23
import Derived.Test.YtbhnhoenjoagbaaGreatDoorPk22
import Derived.Test.YtbhnhoenjoagbaaGreatDoorPk21
import Derived.Test.YtbhnhoenjoagbaaGreatDoorPk10
import Derived.Test.YtbhnhoenjoagbaaGreatDoorChecked
import Derived.Deep.QuietTactic
import Derived.BigQuiet
import Derived.Outline
/- Which kinds bear what: the five nodes of the law MetaKinds. -/
namespace Go.Proofs.YtbhnhoenjoagbaaGreatDoor
open MetaM
namespace MetaM
def kAny (k : Int) : Prop := k = 1 ∨ k = 3 ∨ k = 4 ∨ k = 5 ∨ k = 6 ∨ k = 7
def withDfl (n : Int) (l : List AclM.Ace) : Mt := ⟨n, 1, 2, 0, 0, [], l, [], ⟨0, 0, 0, false, 0⟩, 0⟩
def withCap (n : Int) : Mt := ⟨n, 1, 2, 0, 0, [], [], [], ⟨2, 0, 0, false, 0⟩, 0⟩
def withAcl (n : Int) (l : List AclM.Ace) : Mt := ⟨n, 1, 2, 0, 0, l, [], [], ⟨0, 0, 0, false, 0⟩, 0⟩
def withFlags (n : Int) : Mt := ⟨n, 1, 2, 0, 0, [], [], [], ⟨0, 0, 0, false, 0⟩, 1⟩
theorem mode_ok {n : Int} (h0 : 0 ≤ n) (h1 : n ≤ 4095) : modeOk n = true := by unfold modeOk; rw [decide_eq_true h0, decide_eq_true h1]; rfl
end MetaM
end Go.Proofs.YtbhnhoenjoagbaaGreatDoor

/- Metadata by numbers, as a function of the numbers. -/
namespace Go.Proofs.YtbhnhoenjoagbaaGreatDoor
open Go.RowKit
open MetaM
set_option linter.unusedVariables false
namespace MetaM
def numK (zs : List Int) (len : Nat) (i : Nat) : Int := if i < len then zs.getD i 0 else 0
def xatK (zs : List Int) (len : Nat) : List XatM.Xa := if 12 < len then XatW.madeX (zs.drop 12) (len - 12) else []
def modeK (zs : List Int) (len : Nat) : Int := numK zs len 0 * 16 + numK zs len 1 % 16
def capK (zs : List Int) (len : Nat) (k : Int) : CapsM.Cap :=
  if k = 1 ∧ numK zs len 10 % 3 = 0 ∧ 10 < len then mkC (numK zs len 8).toNat (numK zs len 9 * 1099511627776).toNat (zs.getD 10 0).toNat (numK zs len 11).toNat else ⟨0, 0, 0, false, 0⟩
def aclK (zs : List Int) (len : Nat) (n : Int) : List AclM.Ace := if numK zs len 7 % 2 = 1 then AclW.madeL (zs.drop 8) (len - 8) (n % 512) else []
def dflK (zs : List Int) (len : Nat) (k : Int) : List AclM.Ace := if k = 6 ∧ 2 ≤ numK zs len 7 % 4 then AclW.madeL (zs.drop (min len 9)) (len - min len 9) (numK zs len 9) else []
def madeM (zs : List Int) (len : Nat) (k : Int) : Mt :=
  if k = 3 then ⟨511, numK zs len 2 % 6, numK zs len 3 % 6, numK zs len 4 * 1000 - 50000, numK zs len 5 % 2 * 500000000, [], [], xatK zs len, ⟨0, 0, 0, false, 0⟩, 0⟩
  else ⟨modeK zs len, numK zs len 2 % 6, numK zs len 3 % 6, numK zs len 4 * 1000 - 50000, numK zs len 5 % 2 * 500000000, aclK zs len (modeK zs len), dflK zs len k, xatK zs len, capK zs len k, numK zs len 6 % 16⟩
end MetaM
theorem IsRow.tail {k : IntKind} {w : World} {b off len cap : Nat} {zs : List Int} (h : IsRow k w (some ⟨b, off, none⟩) len cap zs) (n : Nat) (hn : n ≤ len) :
    IsRow k w (some ⟨b, off + n, none⟩) (len - n) (cap - n) (zs.drop n) := by
  rcases h with ⟨h, _⟩ | ⟨x, hx, hl, hm, hz, hc, hw⟩
  · cases h
  · cases hx
    refine .inr ⟨_, rfl, by omega, by omega, by simp [hz], fun i hi => ?_, fun q hq => hw q (List.mem_of_mem_drop hq)⟩
    have := hc (n + i) (by simp at hi; omega)
    have e : (zs.drop n).getD i 0 = zs.getD (n + i) 0 := by simp [List.getD_eq_getElem?_getD, List.getElem?_drop]
    rw [e]
    have e2 : (⟨b, off + n, none⟩ : Addr).add i = (⟨b, off, none⟩ : Addr).add (n + i) := by
      by_cases h1 : i = 0 <;> by_cases h2 : n = 0 <;> simp [Addr.add, Nat.add_assoc, h1, h2]
    rw [e2]
    exact this
end Go.Proofs.YtbhnhoenjoagbaaGreatDoor

/- What is made by numbers may be said of its kind; with one thing turned it may not. -/
namespace Go.Proofs.YtbhnhoenjoagbaaGreatDoor
open Go.RowKit
open MetaM
set_option linter.unusedVariables false
namespace MetaM
def XOk (l : List XatM.Xa) : Prop := l.length ≤ 6 ∧ XatM.mayL l = true ∧ ∀ x ∈ l, x.2.length ≤ 19
def AOk (l : List AclM.Ace) (md : Int) : Prop := l.length ≤ 32 ∧ aclOk l md = true
def DOk (l : List AclM.Ace) (k : Int) : Prop := l.length ≤ 32 ∧ dflOk l k = true
theorem acl_ok {l : List AclM.Ace} {md N : Int} (h : AclM.may l = true) (h2 : AclW.modeL l = N) (h3 : N = md % 512) : AOk l md :=
  ⟨AclW.may_len h, by unfold aclOk; rw [h, h2, h3, decide_eq_true rfl]; simp⟩
theorem dfl_ok {l : List AclM.Ace} {k : Int} (h : AclM.may l = true) (h2 : k = 6) : DOk l k :=
  ⟨AclW.may_len h, by unfold dflOk; rw [h, decide_eq_true h2]; simp⟩
theorem cap_ok (zs : List Int) (len : Nat) (k : Int) (h : numK zs len 11 ≤ 255) : capOk (capK zs len k) k = true := by
  unfold capK
  split
  · rename_i hc
    unfold capOk
    rw [mk_may _ _ _ _ (by omega), decide_eq_true hc.1]
    simp
  · rfl
theorem id_ok {n : Int} (h0 : 0 ≤ n) (h1 : n ≤ 5) : idOk n = true := by unfold idOk; rw [decide_eq_true h0, decide_eq_true (by omega)]; rfl
theorem made_sym {u g s n : Int} {xs : List XatM.Xa} (hu : 0 ≤ u ∧ u ≤ 5) (hg : 0 ≤ g ∧ g ≤ 5) (hs : stampOk s n = true) (hx : XatM.mayL xs = true) :
    mayM ⟨511, u, g, s, n, [], [], xs, ⟨0, 0, 0, false, 0⟩, 0⟩ 3 = true := by
  unfold mayM
  simp only
  rw [id_ok hu.1 hu.2, id_ok hg.1 hg.2, hs, hx]
  rfl
theorem kind_in {k : Int} (hk : kAny k) : kindIn k = true := by
  rcases hk with rfl | rfl | rfl | rfl | rfl | rfl <;> rfl
theorem made_any {md u g s n f k : Int} {al dl : List AclM.Ace} {xs : List XatM.Xa} {c : CapsM.Cap} (hk : kAny k) (h3 : k ≠ 3) (hm : 0 ≤ md ∧ md ≤ 4095) (hu : 0 ≤ u ∧ u ≤ 5) (hg : 0 ≤ g ∧ g ≤ 5) (hs : stampOk s n = true)
    (ha : aclOk al md = true) (hd : dflOk dl k = true) (hx : XatM.mayL xs = true) (hc : capOk c k = true) (hf : 0 ≤ f ∧ f ≤ 15) : mayM ⟨md, u, g, s, n, al, dl, xs, c, f⟩ k = true := by
  unfold mayM
  simp only
  rw [kind_in hk, mode_ok hm.1 hm.2, id_ok hu.1 hu.2, id_ok hg.1 hg.2, hs, ha, hd, hx, hc, show flagsOk f = true by unfold flagsOk; rw [decide_eq_true hf.1, decide_eq_true hf.2]; rfl]
  unfold symOk
  rw [decide_eq_true h3]
  rfl
theorem stamp_ok {s n : Int} (hs : -100000 ≤ s ∧ s ≤ 1000000) (hn : 0 ≤ n ∧ n ≤ 500000000) : stampOk s n = true := by
  unfold stampOk
  rw [decide_eq_true (by omega), decide_eq_true (by omega), decide_eq_true hn.1, decide_eq_true (by omega)]
  rfl
theorem same_eq {m n : Mt} (h : sameM m n = true) : m = n := by
  obtain ⟨mode, uid, gid, sec, nano, acl, dfl, xat, ⟨cv, cp, ci, ce, cr⟩, flags⟩ := m
  obtain ⟨mode', uid', gid', sec', nano', acl', dfl', xat', ⟨cv', cp', ci', ce', cr'⟩, flags'⟩ := n
  unfold sameM AclW.sameL at h
  simp only [Bool.and_eq_true, decide_eq_true_eq] at h
  obtain ⟨⟨⟨⟨⟨⟨⟨⟨h1, h2⟩, h3⟩, h4, h5⟩, h6⟩, h7⟩, h8⟩, h9, h10, h11, h12, h13⟩, h14⟩ := h
  subst h1 h2 h3 h4 h5 h6 h7 h8 h9 h10 h11 h12 h13 h14
  rfl
theorem same_self (m : Mt) : sameM m m = true := by
  unfold sameM AclW.sameL
  simp
theorem other {m n : Mt} {k : Int} (h1 : mayM m k = true) (h2 : mayM n k = false) : sameM m n = false := by
  rcases h : sameM m n with _ | _
  · rfl
  · rw [same_eq h, h2] at h1; cases h1
end MetaM
end Go.Proofs.YtbhnhoenjoagbaaGreatDoor

/- Entries by numbers may be. -/
namespace Go.Proofs.YtbhnhoenjoagbaaGreatDoor
open Go.RowKit
open MetaM PathM
set_option linter.unusedVariables false
namespace EntM

theorem short_acl {l : List AclM.Ace} (h : AclM.may l = true) : (AclM.textL l).length ≤ 1000 := by have := AclM.text_len h; omega
theorem short_of {m : Mt} {k : Int} (h : mayM m k = true) (h1 : m.xat.length ≤ 12) (h2 : ∀ x ∈ m.xat, x.2.length ≤ 700) : Short m := by
  unfold mayM at h
  simp only [Bool.and_eq_true] at h
  obtain ⟨⟨⟨⟨⟨⟨⟨⟨⟨⟨_, _⟩, hu⟩, hg⟩, hs⟩, hf⟩, hx⟩, ha⟩, hd⟩, _⟩, _⟩ := h
  unfold idOk at hu hg
  unfold stampOk at hs
  unfold flagsOk at hf
  simp only [Bool.and_eq_true, decide_eq_true_eq] at hu hg hs hf
  refine ⟨by omega, by omega, fun _ => ?_, fun hn => ?_, fun hn => ?_, ?_, hx, h2, h1⟩
  · have := (StampW.StampM.text_len m.sec m.nano (by unfold StampW.StampM.mayF; simp only [Bool.and_eq_true, decide_eq_true_eq]; omega)).2
    omega
  · unfold aclOk at ha
    simp only [Bool.or_eq_true, Bool.and_eq_true] at ha
    rcases ha with ha | ha
    · exact absurd (List.length_eq_zero_iff.1 (of_decide_eq_true ha)) hn
    · exact short_acl ha.1
  · unfold dflOk at hd
    simp only [Bool.or_eq_true, Bool.and_eq_true] at hd
    rcases hd with hd | hd
    · exact absurd (List.length_eq_zero_iff.1 (of_decide_eq_true hd)) hn
    · exact short_acl hd.2
  · unfold FlagsW.FlagsM.textI
    rw [if_pos hf]
    have := FlagsW.FlagsM.text_len (n := m.flags.toNat) (by omega)
    omega
theorem short_zero : Short zeroM := by
  refine ⟨by decide, by decide, fun h => absurd h (by decide), fun h => absurd rfl h, fun h => absurd rfl h, by decide +kernel, rfl, by simp [zeroM, plainM], by simp [zeroM, plainM]⟩
theorem made_may {e : En} (hp : pathOk e.path.data.toList = true) (hps : e.path.size ≤ 1000) (hk : 1 ≤ e.kind ∧ e.kind ≤ 7) (hm : metaOk e = true) (hs : Short e.m) (hb : bodyOk e = true) (ht : targetOk e = true) (hts : e.target.size ≤ 1000) : mayE e = true := by
  unfold mayE
  rw [hp, hm, hb, ht, recs_ok hs hps hts, decide_eq_true hk.1, decide_eq_true hk.2]
  rfl
structure MadeE (e : En) (P : ByteArray) (k : Int) (m : Mt) : Prop where
  path : e.path = P
  kind : e.kind = k
  met : e.m = m
  data : e.data.size ≤ 800 ∧ (k ≠ 1 → e.data.size = 0)
  target : targetOk e = true ∧ e.target.size ≤ 1000
  major : numOk e.major = true ∧ (dev k = false → e.major = 0)
  minor : numOk e.minor = true ∧ (dev k = false → e.minor = 0)
theorem MadeE.may {e : En} {P : ByteArray} {k : Int} {m : Mt} (h : MadeE e P k m) (hP : pathOk P.data.toList = true) (hPs : P.size ≤ 1000) (hk : 1 ≤ k ∧ k ≤ 7) (hm : if k = 2 then m = zeroM else mayM m k = true) (hs : Short m) : mayE e = true := by
  have hb : bodyOk e = true := by
    unfold bodyOk
    rw [decide_eq_true (show e.data.size ≤ 65536 by have := h.data.1; omega), h.major.1, h.minor.1, h.kind]
    have hd : (decide (k = 1) || decide (e.data.size = 0)) = true := by
      by_cases h1 : k = 1
      · rw [decide_eq_true h1]; rfl
      · rw [decide_eq_true (h.data.2 h1)]; simp
    rw [hd]
    rcases hv : dev k with _ | _
    · rw [decide_eq_true (h.major.2 hv), decide_eq_true (h.minor.2 hv)]; rfl
    · rfl
  refine made_may (by rw [h.path]; exact hP) (by rw [h.path]; exact hPs) (by rw [h.kind]; exact hk) ?_ (by rw [h.met]; exact hs) hb h.target.1 h.target.2
  unfold metaOk
  rw [h.kind, h.met]
  by_cases h2 : k = 2
  · rw [if_pos h2] at hm ⊢
    rw [hm]
    exact same_self _
  · rw [if_neg h2] at hm ⊢
    exact hm
end EntM
end Go.Proofs.YtbhnhoenjoagbaaGreatDoor

/- The laws of stage 15: names and paths by numbers. -/
namespace Go.Proofs.YtbhnhoenjoagbaaGreatDoor
open Go.RowKit
open PathM
set_option linter.unusedVariables false

theorem app_list (S T : ByteArray) : (S ++ T).data.toList = S.data.toList ++ T.data.toList := by simp [ByteArray.data_append]
theorem app_size (S T : ByteArray) : (S ++ T).size = S.size + T.size := by simp [ByteArray.size_append]
theorem list_size (S : ByteArray) : S.data.toList.length = S.size := by simp
structure NB (b : List UInt8) : Prop where
  len : b.length ≤ 4
  pos : b.length ≠ 0
  zero : (0 : UInt8) ∉ b
  stroke : (47 : UInt8) ∉ b
  point : b.head? ≠ some 46
theorem NB.name {b : List UInt8} (h : NB b) {i : Nat} (hi : i ≤ 66) : NG (b ++ List.replicate i 122) := by
  have hr : ∀ c : UInt8, c ≠ 122 → c ∉ List.replicate i 122 := fun c hc hm => hc (List.eq_of_mem_replicate hm)
  refine ⟨?_, ?_, ?_, ?_⟩
  · have := h.len; simp; omega
  · intro hm; rcases List.mem_append.1 hm with hm | hm
    · exact h.zero hm
    · exact hr 0 (by decide) hm
  · intro hm; rcases List.mem_append.1 hm with hm | hm
    · exact h.stroke hm
    · exact hr 47 (by decide) hm
  · rcases hb : b with _ | ⟨x, r⟩
    · exact absurd (by rw [hb]; rfl) h.pos
    · have hx : x ≠ 46 := by have := h.point; rw [hb] at this; simpa using this
      have hl := h.len
      rw [hb] at hl
      simp at hl
      simp [nameOk, hx]
      omega

set_option maxHeartbeats 1600000 in
theorem name_any (n : Int) (h0 : 0 ≤ n) (h1 : n ≤ 255) (w : World) :
    Calls Tryz.prog 48 #[.int .u8 n] w fun e w' => (∃ S, e = .returned (.string S) ∧ NG S.data.toList) ∧ Below w.heap.size w w' := by
  obtain ⟨W0, hW0⟩ : ∃ W, w.alloc (.cells #[.string ⟨#[97]⟩, .string ⟨#[98]⟩, .string ⟨#[100, 105, 114]⟩, .string ⟨#[120, 32, 121]⟩, .string ⟨#[255]⟩, .string ⟨#[108, 111, 110, 103]⟩, .string ⟨#[195, 164]⟩, .string ⟨#[99]⟩] 9) = W := ⟨_, rfl⟩
  have hbl : Below w.heap.size w W0 := by rw [← hW0]; exact gr_alloc (Below.refl _ _) _
  obtain ⟨B, hc, hB⟩ : ∃ B : ByteArray, W0.cell? ⟨w.heap.size, (n % 8).toNat, none⟩ = some (.string B) ∧ NB B.data.toList := by
    rw [← hW0, World.cell?_alloc_at (w := w) _ _ w.heap.size _ rfl]
    have hk6 : n % 8 = 0 ∨ n % 8 = 1 ∨ n % 8 = 2 ∨ n % 8 = 3 ∨ n % 8 = 4 ∨ n % 8 = 5 ∨ n % 8 = 6 ∨ n % 8 = 7 := by omega
    rcases hk6 with e | e | e | e | e | e | e | e <;> rw [e] <;> exact ⟨_, rfl, by constructor <;> decide⟩
  have hBs : B.size ≤ 4 + 0 := by have := hB.len; simpa using this
  have HB := Lib.hid hB
  clear hB
  by_cases h2 : 200 ≤ n
  · have e1 : decide (200 ≤ n) = true := decide_eq_true h2
    go_enter Tryz.func48, Tryz.ntmps48
    go_wp2_with fail
    clear hc hW0
    go_loopw [4, 5] (fun sv iv wr => ∃ (i : Nat) (S : ByteArray), sv = .string S ∧ iv = .int .i64 (i : Int) ∧ (i : Int) ≤ n - 190 ∧ S.size ≤ 4 + i ∧ Below w.heap.size w wr ∧ Hid (S.data.toList = B.data.toList ++ List.replicate i 122)) (fun _ iv _ => (n - 190).toNat - (intOf iv).toNat)
    case atStart => exact ⟨0, B, rfl, rfl, by omega, hBs, hbl, Lib.hid (by simp)⟩
    case round =>
      clear hbl
      obtain ⟨i, S, rfl, rfl, hi, hsz, hbl, HS⟩ := hrel
      rename World => wr
      have w1 : IntKind.i64.wrap n = n := by rw [IntKind.wrap_i64]; omega
      have w2 : IntKind.i64.wrap (n - 190) = n - 190 := by rw [IntKind.wrap_i64]; omega
      by_cases hlt : (i : Int) < n - 190
      · have f1 : decide ((i : Int) < n - 190) = true := decide_eq_true hlt
        have w3 : IntKind.i64.wrap ((i : Int) + 1) = (i : Int) + 1 := by rw [IntKind.wrap_i64]; omega
        have HS2 : Hid ((S ++ ⟨#[122]⟩).data.toList = B.data.toList ++ List.replicate (i + 1) 122) := Lib.hid (by rw [app_list, HS.out, List.append_assoc, List.replicate_succ'])
        clear HS
        go_wp2_with fail
        go_roundw
        case rel => exact ⟨i + 1, _, rfl, rfl, by omega, by rw [app_size]; have : (⟨#[122]⟩ : ByteArray).size = 1 := rfl; omega, hbl, HS2⟩
        case measure => simp only [intOf]; omega
      · have f1 : decide ((i : Int) < n - 190) = false := decide_eq_false hlt
        go_wp2_with fail
        go_ret
        exact ⟨⟨S, rfl, by rw [HS.out]; exact HB.out.name (by omega)⟩, hbl⟩
  · have e1 : decide (200 ≤ n) = false := decide_eq_false h2
    go_enter Tryz.func48, Tryz.ntmps48
    go_wp2_with fail
    go_ret
    exact ⟨⟨B, rfl, by have := HB.out.name (i := 0) (by omega); simpa using this⟩, hbl⟩

set_option maxHeartbeats 1600000 in
theorem path15_head (a : Option Addr) (len cap : Nat) (zs : List Int) (w : World) (hr : IsRow .u8 w a len cap zs) (hlen : len ≤ 9223372036854775807) :
    Calls Tryz.prog 17 #[.slice a len cap] w fun e w' => (∃ S n, e = .returned (.string S) ∧ n ≤ 8 ∧ (PG S.data.toList n ∧ S.data.toList.head? = some 112)) ∧ Below w.heap.size w w' := by
  have Hopen := Lib.hid (fun h => IsRow.open hr h)
  clear hr
  go_enter Tryz.func17, Tryz.ntmps17
  go_wp2_with fail
  go_loopw [3, 4] (fun sv iv wr => ∃ (i : Nat) (S : ByteArray), sv = .string S ∧ iv = .int .i64 (i : Int) ∧ i ≤ 8 ∧ i ≤ len ∧ S.size ≤ 1000 ∧ Below w.heap.size w wr ∧ Hid (PG S.data.toList i ∧ S.data.toList.head? = some 112)) (fun _ iv _ => 8 - (intOf iv).toNat)
  case atStart => exact ⟨0, _, rfl, rfl, by omega, by omega, by decide, Below.refl _ _, Lib.hid ⟨PG.start, rfl⟩⟩
  case round =>
    obtain ⟨i, S, rfl, rfl, hi, hil, hsz, hbl, HS⟩ := hrel
    rename World => wr
    by_cases hc : i < len ∧ i < 8
    · obtain ⟨b, off, rfl, hb, hlc, hcells⟩ := Hopen.out (by omega)
      obtain ⟨c0, wf0⟩ := hcells i hc.1
      replace c0 := cell_kept hbl c0
      have e1 : decide ((i : Int) < (len : Int)) = true := decide_eq_true (by omega)
      have e2 : decide ((i : Int) < 8) = true := decide_eq_true (by omega)
      have e3 := hc.1
      have w3 : IntKind.i64.wrap ((i : Int) + 1) = (i : Int) + 1 := by rw [IntKind.wrap_i64]; omega
      have e4 : (i : Int) < (len : Int) := by omega
      generalize zs.getD i 0 = x at *
      have hx : 0 ≤ x ∧ x ≤ 255 := by simpa [Lit.wf, IntKind.min, IntKind.max, IntKind.signed, IntKind.bits] using wf0
      have HN := Lib.hid (fun W => name_any x hx.1 hx.2 W)
      clear hcells wf0 Hopen hx
      go_wp2_with fail
      refine (HN.out _).mono ?_
      rintro e w2 ⟨⟨N, rfl, hN⟩, hb2⟩
      have HS2 : Hid (PG ((S ++ ⟨#[47]⟩) ++ N).data.toList (i + 1) ∧ ((S ++ ⟨#[47]⟩) ++ N).data.toList.head? = some 112) := Lib.hid (by
        have := HS.out.1.more hN
        have h2 := HS.out.2
        rw [app_list, app_list, List.append_assoc]
        refine ⟨this, ?_⟩
        rw [List.head?_append, h2]
        rfl)
      have hNs : N.size ≤ 70 := by have := hN.len; simpa using this
      have hsz2 : ((S ++ ⟨#[47]⟩) ++ N).size ≤ 1000 := by have h := HS2.out.1.len; rw [list_size] at h; omega
      replace hbl := gr_call hbl hb2
      clear HS HN hN hb2 c0
      go_wp2_with fail
      go_roundw
      case rel => exact ⟨i + 1, _, rfl, rfl, by omega, by omega, hsz2, hbl, HS2⟩
      case measure => simp only [intOf]; omega
    · have hcond : (decide ((i : Int) < (len : Int)) = false) ∨ (decide ((i : Int) < (len : Int)) = true ∧ decide ((i : Int) < 8) = false) := by
        by_cases h1 : i < len
        · exact .inr ⟨decide_eq_true (by omega), decide_eq_false (by omega)⟩
        · exact .inl (decide_eq_false (by omega))
      rcases hcond with hcond | ⟨hcond, hcond2⟩
      · go_wp2_with fail
        all_goals (go_ret; exact ⟨⟨S, i, rfl, hi, HS.out⟩, hbl⟩)
      · go_wp2_with fail
        all_goals (go_ret; exact ⟨⟨S, i, rfl, hi, HS.out⟩, hbl⟩)
end Go.Proofs.YtbhnhoenjoagbaaGreatDoor

/- Fourteen cells stored. -/
namespace Go.Proofs.YtbhnhoenjoagbaaGreatDoor
open Go.RowKit
open MetaM
set_option linter.unusedVariables false

def put14 (w : World) (h : Nat) (c0 c1 c2 c3 c4 c5 c6 c7 c8 c9 c10 c11 c12 c13 : Value) : World := ((((((((((((((w.setCell ⟨h, 0, none⟩ (c0)).setCell ⟨h, 1, none⟩ (c1)).setCell ⟨h, 2, none⟩ (c2)).setCell ⟨h, 3, none⟩ (c3)).setCell ⟨h, 4, none⟩ (c4)).setCell ⟨h, 5, none⟩ (c5)).setCell ⟨h, 6, none⟩ (c6)).setCell ⟨h, 7, none⟩ (c7)).setCell ⟨h, 8, none⟩ (c8)).setCell ⟨h, 9, none⟩ (c9)).setCell ⟨h, 10, none⟩ (c10)).setCell ⟨h, 11, none⟩ (c11)).setCell ⟨h, 12, none⟩ (c12)).setCell ⟨h, 13, none⟩ (c13))
theorem list14a {cs : Array Value} (h : cs.size = 14) : ∃ c0 c1 c2 c3 c4 c5 c6 c7 c8 c9 c10 c11 c12 c13, cs = #[c0, c1, c2, c3, c4, c5, c6, c7, c8, c9, c10, c11, c12, c13] := by
  obtain ⟨l⟩ := cs
  match l, h with
  | [c0, c1, c2, c3, c4, c5, c6, c7, c8, c9, c10, c11, c12, c13], _ => exact ⟨c0, c1, c2, c3, c4, c5, c6, c7, c8, c9, c10, c11, c12, c13, rfl⟩
theorem put14_is {w : World} {h : Nat} {t : TypeId} {cs : Array Value} (hb : BlkIs w h t cs) (hs : cs.size = 14) (c0 c1 c2 c3 c4 c5 c6 c7 c8 c9 c10 c11 c12 c13 : Value) : BlkIs (put14 w h c0 c1 c2 c3 c4 c5 c6 c7 c8 c9 c10 c11 c12 c13) h t #[c0, c1, c2, c3, c4, c5, c6, c7, c8, c9, c10, c11, c12, c13] := by
  obtain ⟨d0, d1, d2, d3, d4, d5, d6, d7, d8, d9, d10, d11, d12, d13, rfl⟩ := list14a hs
  have k := (((((((((((((hb.put 0 c0).put 1 c1).put 2 c2).put 3 c3).put 4 c4).put 5 c5).put 6 c6).put 7 c7).put 8 c8).put 9 c9).put 10 c10).put 11 c11).put 12 c12).put 13 c13
  simp only [List.setIfInBounds_toArray, List.set_cons_zero, List.set_cons_succ] at k
  unfold put14
  exact k
theorem put14_other {w : World} {h g : Nat} {t : TypeId} {cs : Array Value} (hb : BlkIs w g t cs) (hn : g ≠ h) (c0 c1 c2 c3 c4 c5 c6 c7 c8 c9 c10 c11 c12 c13 : Value) : BlkIs (put14 w h c0 c1 c2 c3 c4 c5 c6 c7 c8 c9 c10 c11 c12 c13) g t cs :=
  (((((((((((((hb.other (p := ⟨h, 0, none⟩) hn c0).other (p := ⟨h, 1, none⟩) hn c1).other (p := ⟨h, 2, none⟩) hn c2).other (p := ⟨h, 3, none⟩) hn c3).other (p := ⟨h, 4, none⟩) hn c4).other (p := ⟨h, 5, none⟩) hn c5).other (p := ⟨h, 6, none⟩) hn c6).other (p := ⟨h, 7, none⟩) hn c7).other (p := ⟨h, 8, none⟩) hn c8).other (p := ⟨h, 9, none⟩) hn c9).other (p := ⟨h, 10, none⟩) hn c10).other (p := ⟨h, 11, none⟩) hn c11).other (p := ⟨h, 12, none⟩) hn c12).other (p := ⟨h, 13, none⟩) hn c13
theorem put14_below {a w : World} {h : Nat} (hb : Below a.heap.size a w) (hh : a.heap.size ≤ h) (c0 c1 c2 c3 c4 c5 c6 c7 c8 c9 c10 c11 c12 c13 : Value) : Below a.heap.size a (put14 w h c0 c1 c2 c3 c4 c5 c6 c7 c8 c9 c10 c11 c12 c13) :=
  gr_set (gr_set (gr_set (gr_set (gr_set (gr_set (gr_set (gr_set (gr_set (gr_set (gr_set (gr_set (gr_set (gr_set hb (p := ⟨h, 0, none⟩) hh c0) (p := ⟨h, 1, none⟩) hh c1) (p := ⟨h, 2, none⟩) hh c2) (p := ⟨h, 3, none⟩) hh c3) (p := ⟨h, 4, none⟩) hh c4) (p := ⟨h, 5, none⟩) hh c5) (p := ⟨h, 6, none⟩) hh c6) (p := ⟨h, 7, none⟩) hh c7) (p := ⟨h, 8, none⟩) hh c8) (p := ⟨h, 9, none⟩) hh c9) (p := ⟨h, 10, none⟩) hh c10) (p := ⟨h, 11, none⟩) hh c11) (p := ⟨h, 12, none⟩) hh c12) (p := ⟨h, 13, none⟩) hh c13
end Go.Proofs.YtbhnhoenjoagbaaGreatDoor
