/- What the walks over wide lists lean on in memory: one of the library's variables; and the library's calls. -/
import Derived.Test.YtikdpoekjfbpaaaDoorWideAny
import Derived.Lib.SplitLaws
namespace Go.Proofs.YtikdpoekjfbpaaaDoor
open Go.RowKit
open WideM
open AclM (cutAt cutAt_cons cutAt_ne cutAt_none cutAt_one mem_cut)
set_option linter.unusedVariables false

/-- MaxLen holds some integer. -/
structure Amb (w : World) : Prop where
  len : ∃ m, w.cell? ⟨0, 0, none⟩ = some (.int .i64 m)
theorem Amb.on {w w' : World} (h : Amb w) (hb : Below w.heap.size w w') : Amb w' := by
  obtain ⟨m, hm⟩ := h.len
  exact ⟨⟨m, cell_kept hb hm⟩⟩

theorem cutAt_sum (c : UInt8) : ∀ (s : List UInt8), (cutAt c s).length ≤ s.length + 1 ∧ ∀ p ∈ cutAt c s, p.length ≤ s.length
  | [] => by simp [cutAt]
  | x :: r => by
    obtain ⟨h1, h2⟩ := cutAt_sum c r
    rw [cutAt_cons]
    by_cases hx : x = c
    · rw [if_pos hx]
      refine ⟨by simp only [List.length_cons]; omega, fun p hp => ?_⟩
      rcases List.mem_cons.1 hp with rfl | hp
      · simp
      · have := h2 p hp; simp only [List.length_cons]; omega
    · rw [if_neg hx]
      rcases hc : cutAt c r with _ | ⟨q, ps⟩
      · exact absurd hc (cutAt_ne _ _)
      · rw [hc] at h1 h2
        refine ⟨by simp only [List.length_cons] at h1 ⊢; omega, fun p hp => ?_⟩
        rcases List.mem_cons.1 hp with rfl | hp
        · have := h2 q (by simp); simp only [List.length_cons]; omega
        · have := h2 p (by simp [hp]); simp only [List.length_cons]; omega
theorem clone_any (s : ByteArray) (w : World) (hs : s.size ≤ 281474976710656) :
    Calls Tryd.prog 41 #[.string s] w fun e w' => e = .returned (.string s) ∧ Below w.heap.size w w' := by
  have h := Lib.hid (fun w => Tryd.stringslite_Clone s w hs)
  go_enter Tryd.func41, Tryd.ntmps41
  go_wp2_with fail
  refine (h.out _).mono ?_
  rintro e w1 ⟨rfl, hb1⟩
  go_wp2_with fail
  go_ret
  exact ⟨rfl, hb1⟩
theorem split_any (s : ByteArray) (c : UInt8) (S : ByteArray) (hS : S = ⟨#[c]⟩) (w : World) (hA : Amb w) (hs : s.size < 4294967281) :
    Calls Tryd.prog 30 #[.string s, .string S] w fun e w' => (∃ v, e = .returned v ∧ Row strE w.heap.size v (cutAt c s.data.toList) w') ∧ Below w.heap.size w w' := by
  subst hS
  obtain ⟨m, hm⟩ := hA.len
  refine (Tryd.strings_Split s ⟨#[c]⟩ m w hs hm (Nat.le_refl 1)).mono fun _ _ ⟨he, hw⟩ => ?_
  have hd := Lib.splitB_data ⟨#[c]⟩ 0 (Lib.countB s ⟨#[c]⟩) s
  have hc : Lib.countB s ⟨#[c]⟩ = Lib.count s.data.toList [c] := rfl
  have hsp := AclM.lib_split c _ s.data.toList (Nat.le_refl _)
  rw [hc] at hd
  have hd2 : (Lib.splitB ⟨#[c]⟩ 0 (Lib.countB s ⟨#[c]⟩) s).map (·.data.toList) = cutAt c s.data.toList := by rw [hc, hd]; exact hsp
  have hlen := Lib.splitB_all ⟨#[c]⟩ (Nat.le_refl 1) 0 _ s rfl
  have hbig : (cutAt c s.data.toList).length ≤ 4294967281 := by
    have := (cutAt_sum c s.data.toList).1
    rw [len_list] at this
    omega
  generalize Lib.splitB ⟨#[c]⟩ 0 (Lib.countB s ⟨#[c]⟩) s = ps at hd2 hw hlen
  rw [← hlen] at he
  subst he hw
  have hps : ps.length = (cutAt c s.data.toList).length := by rw [← hd2, List.length_map]
  have hcs : ∀ (qs : List ByteArray), (qs.map Value.string) = cellsE strE (qs.map (·.data.toList)) := by
    intro qs
    induction qs with
    | nil => rfl
    | cons q qs ih =>
      rw [List.map_cons, List.map_cons, ih]
      show _ = [Value.string (strOf q.data.toList)] ++ _
      rw [strOf_self]
      rfl
  refine ⟨⟨_, rfl, ?_⟩, gr_alloc (Below.refl _ _) _⟩
  have e : (ps.map Value.string).toArray = (cellsE strE (cutAt c s.data.toList)).toArray := by rw [hcs, hd2]
  rw [e, hps]
  have := World.ownsRow_lit (e := strE.t) (size := strE.k) w (cellsE strE (cutAt c s.data.toList)).toArray (cutAt c s.data.toList).length (Nat.le_refl _) (by unfold maxLen; omega) (by rw [List.size_toArray, cellsE_length])
  exact this
end Go.Proofs.YtikdpoekjfbpaaaDoor
