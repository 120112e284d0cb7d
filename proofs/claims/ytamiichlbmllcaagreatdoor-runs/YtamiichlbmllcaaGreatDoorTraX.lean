/-
  The contract of surety.Trace, for every program.
-/
import Derived.Test.YtamiichlbmllcaaGreatDoorTraceW
namespace Go.Proofs.YtamiichlbmllcaaGreatDoor
open Go.RowKit
set_option maxHeartbeats 1000000 in
set_option maxRecDepth 100000 in
theorem Trace_any (l : List I5) (v : Value) (r : Nat → Int) (f : Int) (w : World) (hs : Shapes w) (h : Slc w v l) :
    Calls Tryz.prog 25 #[v, regsV r, .int .i64 f] w fun e w' => ∃ u, e = .returned (.tuple #[u, .int .i64 (rightR l).1]) ∧ OwnV w' w.heap.size u (runVE l r f) ∧ Below w.heap.size w w' := by
  have hk := Kn.nil [] w
  have HS := hide hs
  have HV := hide h
  clear hs h
  rcases rightR_or l with hr | hr
  · have e1 : runVE l r f = runV l r f := by unfold runVE; rw [if_pos hr]
    rw [e1]
    have HAF := hide (right_all hr)
    have e2 : (rightR l).1 = 0 := by rw [hr]
    rw [e2]
    clear e1
    unfold regsV
    go_enter Tryz.func25, Tryz.ntmps25
    go_wp2_with (first | (go_at_call 41; refine (codeRight_any l v _ (HS.out.below hk.mod.below HS.out.1) (HV.out.below hk.mod.below (Nat.le_refl _))).mono ?_; rintro e w1 ⟨rfl, hb⟩; replace hk := hk.call hb; clear hb; rw [hr]) | ((with_reducible show wpList _ _ _ _ _ _); (first | ((with_reducible show wpList _ _ _ (⟨_, _, _, _, _, some _⟩ :: _) _ _); refine wpList_skip (by rfl) ?_; simp only [Act.put, List.setIfInBounds_toArray, List.set_cons_succ, List.set_cons_zero]) | ((first | refine wBuild hk ?_ | refine wFieldZ hk ?_ | refine wField0 hk ?_ | refine wField hk ?_ | refine wIndexA0 hk ?_ | refine wIndexS0 hk ?_ | refine wIndexA hk ?_ | refine wIndexS hk ?_ | refine wLoadR hk ?_ | refine wLoad1 hk ?_ | refine wOldR hk ?_ | refine wOld1 hk ?_ | refine wOldC hk ?_ | refine wOldG hk ?_ | refine wAssertY hk ?_ | refine wAssertN hk ?_); simp only [Act.put, List.setIfInBounds_toArray, List.set_cons_succ, List.set_cons_zero]) | ((first | refine wBox hk ?_ | refine wBox1I hk ?_ | refine wBox1B hk ?_ | refine wBox1S hk ?_ | refine wBox1P hk ?_ | refine wBox1F hk ?_ | refine wAllocR hk ?_ | refine wAlloc1 hk ?_ | refine wMake hk ?_); clear hk; intro w1 hk; simp only [Act.put, List.setIfInBounds_toArray, List.set_cons_succ, List.set_cons_zero]) | ((first | refine wStoreR hk ?_ | refine wStore1I hk ?_ | refine wStore1B hk ?_ | refine wStore1S hk ?_ | refine wStore1P hk ?_ | refine wStore1F hk ?_); clear hk; intro w1 hk; simp only [Act.put]))))
    (refine wp_regK hk (.op 0 (.op 2 (.op 3 (.op 1 (.op 4 (.op 5 (.op 6 .nil))))))) (fun i => decide (i < 7)) mixT (by decide) (by kernel_rfl) (by kernel_rfl) ?_; clear hk; intro w1 hk)
    (repeat ((first | refine sMove hk ?_ | refine sAssign hk ?_ | refine sExtract hk ?_ | refine sFieldZ hk ?_ | refine sField0 hk ?_ | refine sField hk ?_ | refine sIndexA0 hk ?_ | refine sIndexS0 hk ?_ | refine sIndexA hk ?_ | refine sIndexS hk ?_ | refine sLoadR hk ?_ | refine sLoad1 hk ?_ | refine sOldR hk ?_ | refine sOld1 hk ?_ | refine sOldC hk ?_ | refine sOldG hk ?_ | refine sBuild hk ?_ | refine sPickT hk ?_ | refine sPickF hk ?_ | refine sSkip hk ?_ | refine sSkipA hk ?_); simp only [Act.put, List.setIfInBounds_toArray, List.set_cons_succ, List.set_cons_zero]))
    (refine sCall ?_; intro K hK; go_step; refine (progOf_at l v _ (HV.out.below hk.mod.below (Nat.le_refl _)) HAF.out.1 HAF.out.2.1).mono ?_; rintro e w1 ⟨pb, cap, rfl, hp, hpb, hb⟩; replace hk := hk.call hb; clear hb; refine hK _ _ (fun _ => hk) ?_; clear hK K)
    have hz1 := hk.mod.size
    (refine sCall ?_; intro K hK; go_step; refine (traM_any l (runner_plain HAF.out) pb cap r trivial f _ hp).mono ?_; rintro e w1 ⟨u, rfl, ho, hb⟩; replace hk := hk.call hb; clear hb; obtain ⟨ua, uc, rfl⟩ := own_any_len ho; have HO := hide (own_low ho hz1); clear ho; refine hK _ _ (fun _ => hk) ?_; clear hK K)
    (repeat ((first | refine sMove hk ?_ | refine sAssign hk ?_ | refine sExtract hk ?_ | refine sFieldZ hk ?_ | refine sField0 hk ?_ | refine sField hk ?_ | refine sIndexA0 hk ?_ | refine sIndexS0 hk ?_ | refine sIndexA hk ?_ | refine sIndexS hk ?_ | refine sLoadR hk ?_ | refine sLoad1 hk ?_ | refine sOldR hk ?_ | refine sOld1 hk ?_ | refine sOldC hk ?_ | refine sOldG hk ?_ | refine sBuild hk ?_ | refine sPickT hk ?_ | refine sPickF hk ?_ | refine sSkip hk ?_ | refine sSkipA hk ?_); simp only [Act.put, List.setIfInBounds_toArray, List.set_cons_succ, List.set_cons_zero]))
    refine tNil ?_
    go_wp2_with (first | ((with_reducible show wpList _ _ _ _ _ _); (first | ((with_reducible show wpList _ _ _ (⟨_, _, _, _, _, some _⟩ :: _) _ _); refine wpList_skip (by rfl) ?_; simp only [Act.put, List.setIfInBounds_toArray, List.set_cons_succ, List.set_cons_zero]) | ((first | refine wBuild hk ?_ | refine wFieldZ hk ?_ | refine wField0 hk ?_ | refine wField hk ?_ | refine wIndexA0 hk ?_ | refine wIndexS0 hk ?_ | refine wIndexA hk ?_ | refine wIndexS hk ?_ | refine wLoadR hk ?_ | refine wLoad1 hk ?_ | refine wOldR hk ?_ | refine wOld1 hk ?_ | refine wOldC hk ?_ | refine wOldG hk ?_ | refine wAssertY hk ?_ | refine wAssertN hk ?_); simp only [Act.put, List.setIfInBounds_toArray, List.set_cons_succ, List.set_cons_zero]) | ((first | refine wBox hk ?_ | refine wBox1I hk ?_ | refine wBox1B hk ?_ | refine wBox1S hk ?_ | refine wBox1P hk ?_ | refine wBox1F hk ?_ | refine wAllocR hk ?_ | refine wAlloc1 hk ?_ | refine wMake hk ?_); clear hk; intro w1 hk; simp only [Act.put, List.setIfInBounds_toArray, List.set_cons_succ, List.set_cons_zero]) | ((first | refine wStoreR hk ?_ | refine wStore1I hk ?_ | refine wStore1B hk ?_ | refine wStore1S hk ?_ | refine wStore1P hk ?_ | refine wStore1F hk ?_); clear hk; intro w1 hk; simp only [Act.put]))))
    go_ret2
    exact ⟨_, rfl, HO.out, hk.mod.below⟩
  · have e1 : runVE l r f = [] := by unfold runVE; rw [if_neg (by intro h; rw [h] at hr; simp at hr)]
    rw [e1, hr]
    clear e1
    unfold regsV
    go_enter Tryz.func25, Tryz.ntmps25
    go_wp2_with (first | (go_at_call 41; refine (codeRight_any l v _ (HS.out.below hk.mod.below HS.out.1) (HV.out.below hk.mod.below (Nat.le_refl _))).mono ?_; rintro e w1 ⟨rfl, hb⟩; replace hk := hk.call hb; clear hb; rw [hr]) | ((with_reducible show wpList _ _ _ _ _ _); (first | ((with_reducible show wpList _ _ _ (⟨_, _, _, _, _, some _⟩ :: _) _ _); refine wpList_skip (by rfl) ?_; simp only [Act.put, List.setIfInBounds_toArray, List.set_cons_succ, List.set_cons_zero]) | ((first | refine wBuild hk ?_ | refine wFieldZ hk ?_ | refine wField0 hk ?_ | refine wField hk ?_ | refine wIndexA0 hk ?_ | refine wIndexS0 hk ?_ | refine wIndexA hk ?_ | refine wIndexS hk ?_ | refine wLoadR hk ?_ | refine wLoad1 hk ?_ | refine wOldR hk ?_ | refine wOld1 hk ?_ | refine wOldC hk ?_ | refine wOldG hk ?_ | refine wAssertY hk ?_ | refine wAssertN hk ?_); simp only [Act.put, List.setIfInBounds_toArray, List.set_cons_succ, List.set_cons_zero]) | ((first | refine wBox hk ?_ | refine wBox1I hk ?_ | refine wBox1B hk ?_ | refine wBox1S hk ?_ | refine wBox1P hk ?_ | refine wBox1F hk ?_ | refine wAllocR hk ?_ | refine wAlloc1 hk ?_ | refine wMake hk ?_); clear hk; intro w1 hk; simp only [Act.put, List.setIfInBounds_toArray, List.set_cons_succ, List.set_cons_zero]) | ((first | refine wStoreR hk ?_ | refine wStore1I hk ?_ | refine wStore1B hk ?_ | refine wStore1S hk ?_ | refine wStore1P hk ?_ | refine wStore1F hk ?_); clear hk; intro w1 hk; simp only [Act.put]))))
    go_ret2
    exact ⟨_, rfl, World.ownsRow_nil _ _ _ _, hk.mod.below⟩
end Go.Proofs.YtamiichlbmllcaaGreatDoor
