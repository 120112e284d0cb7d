import Derived.Test.YtamiichlbmllcaaGreatDoorTArm
/-
  Places: contracts of ranges.With and (ranges.Place).LiesIn; how a state goes on.
-/
namespace Go.Proofs.YtamiichlbmllcaaGreatDoor
open Go.RowKit
theorem only_c (n : Int) (w : World) : Calls Tryz.prog 165 #[.int .i64 n] w fun e w' => e = .returned (.agg (rgC ⟨n, n⟩)) ∧ Below w.heap.size w w' := only_any n w
theorem all_c (w : World) : Calls Tryz.prog 179 #[] w fun e w' => e = .returned (.agg (rgC allR)) ∧ Below w.heap.size w w' := all_any w
set_option maxHeartbeats 1600000 in
set_option maxRecDepth 100000 in
theorem with_any (s : Nat → R2) (w : World) : Calls Tryz.prog 102 #[.agg (stC s)] w fun e w' => e = .returned (.agg (plC true s)) ∧ Below w.heap.size w w' := by
  have hk := Kn.nil [] w
  go_enter Tryz.func102, Tryz.ntmps102
  go_wp2_with (first | ((with_reducible show wpList _ _ _ _ _ _); (first | (refine wS hk ?_; simp only [Act.put, pw]) | (refine wN hk ?_; clear hk; intro w1 hk; simp only [Act.put, pw]) | (refine wT hk ?_; clear hk; intro w1 hk; simp only [Act.put]))))
  exact post_1 rfl (by rfl) (hk.at (by with_reducible repeat (first | exact List.mem_cons_self | apply List.mem_cons_of_mem))) (rowT_of (by rfl)) (by rfl) rfl ⟨rfl, hk.mod.below⟩
set_option maxHeartbeats 1600000 in
set_option maxRecDepth 100000 in
theorem halt_flow (s : Nat → R2) (w : World) : Calls Tryz.prog 205 #[.agg #[], .agg (stC s)] w fun e w' => e = .returned (.tuple #[.agg (plC false zeroS), .agg (plC false zeroS)]) ∧ Below w.heap.size w w' := by
  have hk := Kn.nil [] w
  go_enter Tryz.func205, Tryz.ntmps205
  go_wp2_with (first | ((with_reducible show wpList _ _ _ _ _ _); (first | (refine wS hk ?_; simp only [Act.put, pw]) | (refine wN hk ?_; clear hk; intro w1 hk; simp only [Act.put, pw]) | (refine wT hk ?_; clear hk; intro w1 hk; simp only [Act.put]))))
  exact post_2 rfl (by rfl) (hk.at (by with_reducible repeat (first | exact List.mem_cons_self | apply List.mem_cons_of_mem))) (rowT_of (by rfl)) (by rfl) (by rfl) (hk.at (by with_reducible repeat (first | exact List.mem_cons_self | apply List.mem_cons_of_mem))) (rowT_of (by rfl)) (by rfl) rfl ⟨rfl, hk.mod.below⟩
set_option maxHeartbeats 1600000 in
set_option maxRecDepth 100000 in
theorem goOn_any (s : Nat → R2) (w : World) : Calls Tryz.prog 166 #[.agg (stC s)] w fun e w' => e = .returned (.tuple #[.agg (plC true s), .agg (plC false zeroS)]) ∧ Below w.heap.size w w' := by
  have hk := Kn.nil [] w
  go_enter Tryz.func166, Tryz.ntmps166
  go_wp2_with (first | (go_at_call 102; refine (with_any _ _).mono ?_; rintro e w1 ⟨rfl, hb⟩; replace hk := hk.call hb; clear hb) | ((with_reducible show wpList _ _ _ _ _ _); (first | (refine wS hk ?_; simp only [Act.put, pw]) | (refine wN hk ?_; clear hk; intro w1 hk; simp only [Act.put, pw]) | (refine wT hk ?_; clear hk; intro w1 hk; simp only [Act.put]))))
  exact post_2 rfl (by rfl) (hk.at (by with_reducible repeat (first | exact List.mem_cons_self | apply List.mem_cons_of_mem))) (rowT_of (by rfl)) (by rfl) (by rfl) (hk.at (by with_reducible repeat (first | exact List.mem_cons_self | apply List.mem_cons_of_mem))) (rowT_of (by rfl)) (by rfl) rfl ⟨rfl, hk.mod.below⟩
end Go.Proofs.YtamiichlbmllcaaGreatDoor
