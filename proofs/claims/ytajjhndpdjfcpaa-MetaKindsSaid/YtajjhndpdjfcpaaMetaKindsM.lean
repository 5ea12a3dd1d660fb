/- Which kinds bear what: the five nodes of the law MetaKinds. -/
import Derived.Test.YtajjhndpdjfcpaaWMetaLists
namespace Go.Proofs.Ytajjhndpdjfcpaa
open MetaM
namespace MetaM
def kAny (k : Int) : Prop := k = 1 ∨ k = 3 ∨ k = 4 ∨ k = 5 ∨ k = 6 ∨ k = 7
def withDfl (n : Int) (l : List AclM.Ace) : Mt := ⟨n, 1, 2, 0, 0, [], l, [], ⟨0, 0, 0, false, 0⟩, 0⟩
def withCap (n : Int) : Mt := ⟨n, 1, 2, 0, 0, [], [], [], ⟨2, 0, 0, false, 0⟩, 0⟩
def withAcl (n : Int) (l : List AclM.Ace) : Mt := ⟨n, 1, 2, 0, 0, l, [], [], ⟨0, 0, 0, false, 0⟩, 0⟩
def withFlags (n : Int) : Mt := ⟨n, 1, 2, 0, 0, [], [], [], ⟨0, 0, 0, false, 0⟩, 1⟩
theorem mode_ok {n : Int} (h0 : 0 ≤ n) (h1 : n ≤ 4095) : modeOk n = true := by unfold modeOk; rw [decide_eq_true h0, decide_eq_true h1]; rfl
theorem cap_two : CapsM.may ⟨2, 0, 0, false, 0⟩ = true := rfl
theorem k_plain {n k : Int} (h0 : 0 ≤ n) (h1 : n ≤ 4095) (hk : kAny k) : mayM (plainM n 1 2) k = (!(k == 3) || n == 511) := by
  rcases hk with rfl | rfl | rfl | rfl | rfl | rfl <;> simp [mayM, plainM, xat_nil, cap_zero, mode_ok h0 h1, kindIn, idOk, stampOk, flagsOk, aclOk, dflOk, capOk, symOk]
  by_cases h : n = 511 <;> simp [h]
theorem k_dfl {n k : Int} {l : List AclM.Ace} (h0 : 0 ≤ n) (h1 : n ≤ 4095) (hk : kAny k) (hl : AclM.may l = true) : mayM (withDfl n l) k = (k == 6) := by
  have h2 := AclW.may_two hl
  have h3 : l ≠ [] := fun e => by rw [e] at h2; simp at h2
  rcases hk with rfl | rfl | rfl | rfl | rfl | rfl <;> simp [mayM, withDfl, xat_nil, cap_zero, mode_ok h0 h1, kindIn, idOk, stampOk, flagsOk, aclOk, dflOk, capOk, symOk, hl, h3]
theorem k_cap {n k : Int} (h0 : 0 ≤ n) (h1 : n ≤ 4095) (hk : kAny k) : mayM (withCap n) k = (k == 1) := by
  rcases hk with rfl | rfl | rfl | rfl | rfl | rfl <;> simp [mayM, withCap, xat_nil, cap_two, mode_ok h0 h1, kindIn, idOk, stampOk, flagsOk, aclOk, dflOk, capOk, symOk]
theorem k_acl {n k : Int} {l : List AclM.Ace} (h0 : 0 ≤ n) (h1 : n ≤ 4095) (hk : kAny k) (hl : AclM.may l = true) (hm : AclW.modeL l = n % 512) : mayM (withAcl n l) k = (!(k == 3)) := by
  have h2 := AclW.may_two hl
  have h3 : l ≠ [] := fun e => by rw [e] at h2; simp at h2
  rcases hk with rfl | rfl | rfl | rfl | rfl | rfl <;> simp [mayM, withAcl, xat_nil, cap_zero, mode_ok h0 h1, kindIn, idOk, stampOk, flagsOk, aclOk, dflOk, capOk, symOk, hl, h3, hm]
theorem k_flags {n k : Int} (h0 : 0 ≤ n) (h1 : n ≤ 4095) (hk : kAny k) : mayM (withFlags n) k = (!(k == 3)) := by
  rcases hk with rfl | rfl | rfl | rfl | rfl | rfl <;> simp [mayM, withFlags, xat_nil, cap_zero, mode_ok h0 h1, kindIn, idOk, stampOk, flagsOk, aclOk, dflOk, capOk, symOk]
end MetaM
end Go.Proofs.Ytajjhndpdjfcpaa
