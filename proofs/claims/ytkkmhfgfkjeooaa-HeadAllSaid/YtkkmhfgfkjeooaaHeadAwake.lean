/- A header's block is told again; the law's awake; Split, Join. -/
import Derived.Test.YtkkmhfgfkjeooaaHeadGet
import Derived.Laws.Tables
namespace Go.Proofs.Ytkkmhfgfkjeooaa
open Go.RowKit
open HeadM NumM
set_option linter.unusedVariables false

theorem err_any (x : Int) (w : World) :
    Calls Try.prog 18 #[.int .i64 x] w fun e w' => e = .returned (.int .i64 x) ∧ w = w' := by
  go_enter Try.func18, Try.ntmps18
  go_wp2_with fail
  go_ret
  exact ⟨rfl, rfl⟩

theorem not_zeros {b : List UInt8} (h : cut b 257 265 = magicL) : b ≠ List.replicate 512 0 := by
  intro e
  rw [e] at h
  have h2 : cut (List.replicate 512 0) 257 265 = List.replicate 8 0 := by
    unfold cut
    rw [List.take_replicate, List.drop_replicate]
    rfl
  rw [h2] at h
  exact absurd h (by decide)
theorem getE_put {h : Hd} (H : mayH h = true) (I : Ints h) (r : List UInt8) : getE (putL h ++ r) = (h, 0) := by
  have hl := put_length H
  have ht : (putL h ++ r).take 512 = putL h := List.take_left' hl
  unfold getE
  rw [if_neg (by rw [List.length_append, hl]; omega), ht, if_neg (not_zeros (stands H).c10), if_pos (ok_put H I), guess_put H I]
theorem getE_zeros : getE (List.replicate 512 0) = (zeroH, 2) := by
  have ht : (List.replicate 512 (0 : UInt8)).take 512 = List.replicate 512 0 := List.take_of_length_le (by rw [List.length_replicate]; exact Nat.le_refl _)
  unfold getE
  rw [if_neg (by rw [List.length_replicate]; omega), ht, if_pos rfl]

/-- The header of the law's example. -/
def exH : Hd := { name := ⟨#[97]⟩, mode := 420, uid := 0, gid := 0, size := 0, mtime := 0, typ := 48, link := ⟨#[]⟩, uname := ⟨#[]⟩, gname := ⟨#[]⟩, major := 0, minor := 0, pre := ⟨#[]⟩ }
theorem exH_may : mayH exH = true := by kernel_rfl
theorem exH_ints : Ints exH := by constructor <;> decide

theorem buildEx (w : World) :
    (Instr.build 23 #[(0, .string ⟨#[97]⟩), (1, .int .i64 420), (6, .int .u8 48)]).run Try.prog w =
      .ok (.agg #[.string exH.name, .int .i64 exH.mode, .int .i64 exH.uid, .int .i64 exH.gid, .int .i64 exH.size, .int .i64 exH.mtime, .int .u8 (exH.typ.toNat : Int), .string exH.link, .string exH.uname, .string exH.gname, .int .i64 exH.major, .int .i64 exH.minor, .string exH.pre]) w := run_build w _ _ _ (by kernel_rfl)

end Go.Proofs.Ytkkmhfgfkjeooaa
