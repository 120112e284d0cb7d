/-
  suretyref.first: the errors ahead of the pass.
-/
import Derived.Test.YtamiichlbmllcaaDoorRfA
import Derived.Test.YtamiichlbmllcaaDoorRefA
import Derived.Test.YtamiichlbmllcaaDoorRegL
namespace Go.Proofs.YtamiichlbmllcaaDoor
open Go.RowKit
set_option maxHeartbeats 1000000 in
set_option maxRecDepth 100000 in
theorem rf_first_no (l : List I5) (e : Nat → R2) (p q : Int) (hr : rightR l = (p, q)) (hp : ¬ p = 0) (v : Value) (w : World) (h : Slc w v l) : Calls Tryd.prog 26 #[v, .agg (stC e)] w fun r w' => r = .returned (.tuple #[.int .i64 p, .int .i64 q]) ∧ Below w.heap.size w w' := by
  have hk := Kn.nil [] w
  have HV := hide h
  have HR := hide hr
  clear h hr
  go_enter Tryd.func26, Tryd.ntmps26
  go_wp2_with (first | (go_at_call 42; refine (refRight_any l _ _ (HV.out.below hk.mod.below (Nat.le_refl _))).mono ?_; rintro e w1 ⟨rfl, hb⟩; replace hk := hk.call hb; clear hb; rw [HR.out]) | ((with_reducible show wpList _ _ _ _ _ _); (first | ((with_reducible show wpList _ _ _ (⟨_, _, _, _, _, some _⟩ :: _) _ _); refine wpList_skip (by rfl) ?_; simp only [Act.put, List.setIfInBounds_toArray, List.set_cons_succ, List.set_cons_zero]) | ((first | refine wBuild hk ?_ | refine wFieldZ hk ?_ | refine wField0 hk ?_ | refine wField hk ?_ | refine wIndexA0 hk ?_ | refine wIndexS0 hk ?_ | refine wIndexA hk ?_ | refine wIndexS hk ?_ | refine wLoadR hk ?_ | refine wLoad1 hk ?_ | refine wOldR hk ?_ | refine wOld1 hk ?_ | refine wOldC hk ?_ | refine wOldG hk ?_ | refine wAssertY hk ?_ | refine wAssertN hk ?_); simp only [Act.put, List.setIfInBounds_toArray, List.set_cons_succ, List.set_cons_zero]) | ((first | refine wBox hk ?_ | refine wBox1I hk ?_ | refine wBox1B hk ?_ | refine wBox1S hk ?_ | refine wBox1P hk ?_ | refine wBox1F hk ?_ | refine wAllocR hk ?_ | refine wAlloc1 hk ?_ | refine wMake hk ?_); clear hk; intro w1 hk; simp only [Act.put, List.setIfInBounds_toArray, List.set_cons_succ, List.set_cons_zero]) | ((first | refine wStoreR hk ?_ | refine wStore1I hk ?_ | refine wStore1B hk ?_ | refine wStore1S hk ?_ | refine wStore1P hk ?_ | refine wStore1F hk ?_); clear hk; intro w1 hk; simp only [Act.put]))))
  go_ret2
  exact ⟨rfl, hk.mod.below⟩
set_option maxHeartbeats 1000000 in
set_option maxRecDepth 100000 in
theorem rf_first_st (l : List I5) (e : Nat → R2) (hr : rightR l = (0, 0)) (B : Bool) (hB : isStR e = B) (v : Value) (w : World) (h : Slc w v l) : Calls Tryd.prog 26 #[v, .agg (stC e)] w fun r w' => r = .returned (.tuple #[.int .i64 (if B then 0 else 3), .int .i64 0]) ∧ Below w.heap.size w w' := by
  have hk := Kn.nil [] w
  have HV := hide h
  have HR := hide hr
  have HB := hide hB
  clear h hr hB
  cases B
  all_goals
    go_enter Tryd.func26, Tryd.ntmps26
    go_wp2_with (first | (first | (go_at_call 42; refine (refRight_any l _ _ (HV.out.below hk.mod.below (Nat.le_refl _))).mono ?_; rintro e w1 ⟨rfl, hb⟩; replace hk := hk.call hb; clear hb; rw [HR.out]) | ((go_at_call 28; refine (rf_empty _ _).mono ?_; rintro e w1 ⟨rfl, hb⟩; replace hk := hk.call hb; clear hb); rw [HB.out])) | ((with_reducible show wpList _ _ _ _ _ _); (first | ((with_reducible show wpList _ _ _ (⟨_, _, _, _, _, some _⟩ :: _) _ _); refine wpList_skip (by rfl) ?_; simp only [Act.put, List.setIfInBounds_toArray, List.set_cons_succ, List.set_cons_zero]) | ((first | refine wBuild hk ?_ | refine wFieldZ hk ?_ | refine wField0 hk ?_ | refine wField hk ?_ | refine wIndexA0 hk ?_ | refine wIndexS0 hk ?_ | refine wIndexA hk ?_ | refine wIndexS hk ?_ | refine wLoadR hk ?_ | refine wLoad1 hk ?_ | refine wOldR hk ?_ | refine wOld1 hk ?_ | refine wOldC hk ?_ | refine wOldG hk ?_ | refine wAssertY hk ?_ | refine wAssertN hk ?_); simp only [Act.put, List.setIfInBounds_toArray, List.set_cons_succ, List.set_cons_zero]) | ((first | refine wBox hk ?_ | refine wBox1I hk ?_ | refine wBox1B hk ?_ | refine wBox1S hk ?_ | refine wBox1P hk ?_ | refine wBox1F hk ?_ | refine wAllocR hk ?_ | refine wAlloc1 hk ?_ | refine wMake hk ?_); clear hk; intro w1 hk; simp only [Act.put, List.setIfInBounds_toArray, List.set_cons_succ, List.set_cons_zero]) | ((first | refine wStoreR hk ?_ | refine wStore1I hk ?_ | refine wStore1B hk ?_ | refine wStore1S hk ?_ | refine wStore1P hk ?_ | refine wStore1F hk ?_); clear hk; intro w1 hk; simp only [Act.put]))))
    go_ret2
    exact ⟨rfl, hk.mod.below⟩
end Go.Proofs.YtamiichlbmllcaaDoor
