/-
  The contract of surety.Trace, for every program.
-/
import Derived.Test.YtkihfcdmdofjhaaGreatDoorTraceW
namespace Go.Proofs.YtkihfcdmdofjhaaGreatDoor
open Go.RowKit
set_option maxHeartbeats 1000000 in
set_option maxRecDepth 100000 in
theorem Trace_any (l : List I5) (v : Value) (r : Nat → Int) (f : Int) (w : World) (hs : Shapes w) (h : Slc w v l) :
    Calls Tryz.prog 34 #[v, regsV r, .int .i64 f] w fun e w' => ∃ u, e = .returned (.tuple #[u, .int .i64 (rightR l).1]) ∧ OwnV w' w.heap.size u (runVE l r f) ∧ Below w.heap.size w w' := by
  have HSL := hide h
  clear h
  have HRV : Hid (regsV r = .agg #[.int .i64 (r 0), .int .i64 (r 1), .int .i64 (r 2), .int .i64 (r 3), .int .i64 (r 4), .int .i64 (r 5), .int .i64 (r 6), .int .i64 (r 7)]) := hide rfl
  obtain ⟨V, hV⟩ : ∃ V, V = runVE l r f := ⟨_, rfl⟩
  rw [← hV]
  have HV := hide hV
  clear hV
  obtain ⟨E, hE⟩ : ∃ E, E = (rightR l).1 := ⟨_, rfl⟩
  rw [← hE]
  have HE := hide hE
  clear hE
  rw [HRV.out]
  go_enter Tryz.func34, Tryz.ntmps34
  go_wp2_with fail
  rw [← HRV.out]
  generalize hW : w.alloc (.cells #[.int .i64 (r 0), .int .i64 (r 1), .int .i64 (r 2), .int .i64 (r 3), .int .i64 (r 4), .int .i64 (r 5), .int .i64 (r 6), .int .i64 (r 7)] 41) = w1
  have hR : w1.heap[w.heap.size]? = some (.cells #[.int .i64 (r 0), .int .i64 (r 1), .int .i64 (r 2), .int .i64 (r 3), .int .i64 (r 4), .int .i64 (r 5), .int .i64 (r 6), .int .i64 (r 7)] 41 (0, 0)) := by
    rw [← hW]
    exact heap_alloc_new _ _
  have hb1 : Below w.heap.size w w1 := by rw [← hW]; exact belA _ _
  have hs1 := HSL.out.below hb1 (Nat.le_refl _)
  have hsh := hs.below hb1 hs.1
  have hlt := lt_of_block hR
  have HRR := hide hR
  have HB1 := hide hb1
  clear hW hb1 HSL hR hs
  refine (codeRight_any l v w1 hsh hs1).mono ?_
  rintro e w2 ⟨rfl, hb2⟩
  have hs2 := hide (hs1.below hb2 (Nat.le_refl _))
  obtain ⟨r0, r1, r2, r3, r4, r5, r6, r7⟩ := rbox ((hb2.block _ hlt).trans HRR.out)
  have HB2 := hide (HB1.out.trans (hb2.mono HB1.out.size))
  have hsz2 := hb2.size
  clear hb2 hs1
  rcases rightR_or l with hr | hr
  · have hV2 := HV.out
    unfold runVE at hV2
    rw [if_pos hr] at hV2
    have HV2 := hide hV2
    have HE2 := HE.out
    rw [hr] at HE2
    simp only at HE2
    subst HE2
    have HAF := hide (right_all hr)
    rw [hr]
    clear hV2 hr
    go_wp2_with fail
    rw [← HRV.out]
    refine (traM_any l v r f w2 hs2.out HAF.out).mono ?_
    rintro e w3 ⟨u, rfl, ho3, hb3⟩
    rw [← HV2.out] at ho3
    obtain ⟨ua, uc, rfl⟩ := own_any_len ho3
    have HF := hide (And.intro (own_low ho3 (show w.heap.size ≤ w2.heap.size from HB2.out.size)) (HB2.out.trans (hb3.mono HB2.out.size)))
    clear hb3 ho3
    go_wp2
    go_ret2
    exact ⟨_, rfl, HF.out.1, HF.out.2⟩
  · have hV2 := HV.out
    unfold runVE at hV2
    rw [if_neg (by intro h; rw [h] at hr; simp at hr)] at hV2
    have HV2 := hide hV2
    have HE2 := HE.out
    rw [hr] at HE2
    subst HE2
    rw [hr]
    clear hV2 hr
    go_wp2
    go_ret2
    exact ⟨_, rfl, by rw [HV2.out]; exact World.ownsRow_nil _ _ _ _, HB2.out⟩
end Go.Proofs.YtkihfcdmdofjhaaGreatDoor
