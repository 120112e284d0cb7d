/-
  The document's answer: the contract of suretyref.Run, for every program.
-/
import Derived.Test.YtamiichlbmllcaaGreatDoorRefRun
namespace Go.Proofs.YtamiichlbmllcaaGreatDoor
open Go.RowKit
set_option maxHeartbeats 1000000 in
set_option maxRecDepth 100000 in
theorem refRun_wrong (l : List I5) (v : Value) (r : Nat → Int) (f : Int) (w : World) (h : Slc w v l) (hr : (rightR l).1 = 1) :
    Calls Tryz.prog 84 #[v, regsV r, .int .i64 f] w fun e w' => ∃ u, e = .returned (.tuple #[O4.zero.val, u, .int .i64 1]) ∧ OwnV w' w.heap.size u [] ∧ Below w.heap.size w w' := by
  have HSL := hide h
  clear h
  unfold regsV
  go_enter Tryz.func84, Tryz.ntmps84
  go_wp2_with fail
  generalize hW : (w.alloc (.cells #[.int .i64 (r 0), .int .i64 (r 1), .int .i64 (r 2), .int .i64 (r 3), .int .i64 (r 4), .int .i64 (r 5), .int .i64 (r 6), .int .i64 (r 7)] 42)).alloc (.cells #[.int .i64 0, .int .i64 0, .int .i64 0, .int .i64 0] 53) = w1
  have hH : w1.heap[w.heap.size + 1]? = some (.cells #[.int .i64 0, .int .i64 0, .int .i64 0, .int .i64 0] 53 (0, 0)) := by
    rw [← hW]
    have := heap_alloc_new (w.alloc (.cells #[.int .i64 (r 0), .int .i64 (r 1), .int .i64 (r 2), .int .i64 (r 3), .int .i64 (r 4), .int .i64 (r 5), .int .i64 (r 6), .int .i64 (r 7)] 42)) (.cells #[.int .i64 0, .int .i64 0, .int .i64 0, .int .i64 0] 53)
    simpa using this
  have hb1 : Below w.heap.size w w1 := by rw [← hW]; exact ((belA _ _).alloc (by simp) _)
  have hs1 := HSL.out.below hb1 (Nat.le_refl _)
  have hlt := lt_of_block hH
  refine (refRight_any l _ w1 hs1).mono ?_
  rintro e w2 ⟨rfl, hb2⟩
  rw [hr]
  obtain ⟨z0, z1, z2, z3, f0, f1, f2, f3⟩ := four_of ((hb2.block _ hlt).trans hH)
  have HB2 := hide (hb1.trans (hb2.mono hb1.size))
  clear hW hs1 hb2 hb1 hH hr
  go_wp2
  exact bodyPost_ret (v := .tuple #[O4.zero.val, .slice none 0 0, .int .i64 1]) (by simp [results, Tryz.results84, go_sem, z0, z1, z2, z3, O4.val, O4.zero]) rfl ⟨_, rfl, World.ownsRow_nil _ _ _ _, below_set4 HB2.out (by omega) _ _ _ _ _ _ _ _⟩
theorem refRun_any (l : List I5) (v : Value) (r : Nat → Int) (f : Int) (w : World) (h : Slc w v l) :
    Calls Tryz.prog 84 #[v, regsV r, .int .i64 f] w fun e w' => ∃ u, e = .returned (.tuple #[(runOE l r f).val, u, .int .i64 (rightR l).1]) ∧ OwnV w' w.heap.size u (runVE l r f) ∧ Below w.heap.size w w' := by
  rcases rightR_or l with hr | hr
  · have hl := right_all hr
    unfold runOE runVE
    rw [if_pos hr, if_pos hr, hr]
    rcases h with ⟨_, rfl⟩ | ⟨b, off, cap, rfl, h1, h2⟩
    · exact absurd hl.1 (by simp)
    · exact refRun_right l b off cap r f w h1 h2 hr hl
  · have hne : rightR l ≠ (0, 0) := fun h => by rw [h] at hr; simp at hr
    unfold runOE runVE
    rw [if_neg hne, if_neg hne, hr]
    exact refRun_wrong l v r f w h hr
end Go.Proofs.YtamiichlbmllcaaGreatDoor
