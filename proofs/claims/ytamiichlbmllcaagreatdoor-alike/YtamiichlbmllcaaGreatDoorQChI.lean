import Derived.Test.YtamiichlbmllcaaGreatDoorQChG
/-
  One step of a pass that checks, way by way: (proof.route).step.
-/
namespace Go.Proofs.YtamiichlbmllcaaGreatDoor
open Go.RowKit
set_option maxHeartbeats 2000000 in
set_option maxRecDepth 100000 in
theorem stepCF (l : List I5) (hl : AllFit l) (pb pc mb sb : Nat) (cl : Nat → Option St) (m : Nat) (hm : m < l.length) (come : Option St) (w : World) (hP : ProgC w pb iVal l) (hM : At w mb (bosA l.length (markB l)) 4) (_ : At w sb (plsA l.length cl) 174) (hmk : markB l m = false) (hh : come.isSome = true) (_ : St.ok (stO come) ∧ St.in64 (stO come)) (hd : (dangR (insAt l m) (stO come) != 0) = true) :
    Calls Tryz.prog 103 #[.agg #[.slice (some ⟨pb, 0, none⟩) l.length pc, .slice (some ⟨mb, 0, none⟩) l.length l.length, .slice (some ⟨sb, 0, none⟩) l.length l.length], .int .i64 m, .agg (plC come.isSome (stO come)), .iface 121 (.agg #[.slice (some ⟨pb, 0, none⟩) l.length pc, .slice (some ⟨mb, 0, none⟩) l.length l.length, .slice (some ⟨sb, 0, none⟩) l.length l.length])] w fun e w' => e = .returned (.tuple #[.agg (plC false zeroS), .int .i64 (dangR (insAt l m) (stO come))]) ∧ Below w.heap.size w w' := by
  have hk := Kn.nil [] w
  have HP := hide hP
  clear hP
  have q1 := mTakes
  have q2 := mDanger
  have q3 := cTakes
  have q4 := cDanger
  go_enter Tryz.func103, Tryz.ntmps103
  go_wp2_with (first | (first | (go_at_call 147; refine (takes_ck _ _ _ _ _ cl _ (by first | exact hm | exact hk2) _ _ _ (hS.of (hk.mod.block _ hS.lt List.not_mem_nil))).mono ?_; rintro e w1 ⟨rfl, hb⟩; replace hk := hk.call hb; clear hb) | (go_at_call 146; refine (danger_ck l hl _ _ _ _ m hm _ _ (HP.out.mod hk.mod List.not_mem_nil m hm)).mono ?_; rintro e w1 ⟨rfl, hb⟩; replace hk := hk.call hb; clear hb) | (go_at_call 119; refine (flow_c _ _ (hl.fit hm) _ _ _ _ hm _ hok.1 hok.2 _ (HP.out.mod hk.mod List.not_mem_nil m hm)).mono ?_; rintro e w1 ⟨rfl, hb⟩; replace hk := hk.call hb; clear hb) | (go_at_call 101; refine (target_any _ _ (hl.fit hm) _ _ _ _ hm _ (HP.out.mod hk.mod List.not_mem_nil m hm)).mono ?_; rintro e w1 ⟨rfl, hb⟩; replace hk := hk.call hb; clear hb)) | ((with_reducible show wpList _ _ _ _ _ _); (first | ((with_reducible show wpList _ _ _ (⟨_, _, _, _, _, some _⟩ :: _) _ _); refine wpList_skip (by rfl) ?_; simp only [Act.put, List.setIfInBounds_toArray, List.set_cons_succ, List.set_cons_zero]) | ((first | refine wBuild hk ?_ | refine wFieldZ hk ?_ | refine wField0 hk ?_ | refine wField hk ?_ | refine wIndexA0 hk ?_ | refine wIndexS0 hk ?_ | refine wIndexA hk ?_ | refine wIndexS hk ?_ | refine wLoadR hk ?_ | refine wLoad1 hk ?_ | refine wOldR hk ?_ | refine wOld1 hk ?_ | refine wOldC hk ?_ | refine wOldG hk ?_ | refine wAssertY hk ?_ | refine wAssertN hk ?_); simp only [Act.put, List.setIfInBounds_toArray, List.set_cons_succ, List.set_cons_zero]; (try rw [hmk]); (try rw [hh])) | ((first | refine wBox hk ?_ | refine wBox1I hk ?_ | refine wBox1B hk ?_ | refine wBox1S hk ?_ | refine wBox1P hk ?_ | refine wBox1F hk ?_ | refine wAllocR hk ?_ | refine wAlloc1 hk ?_ | refine wMake hk ?_); clear hk; intro w1 hk; simp only [Act.put, List.setIfInBounds_toArray, List.set_cons_succ, List.set_cons_zero]) | ((first | refine wStoreR hk ?_ | refine wStore1I hk ?_ | refine wStore1B hk ?_ | refine wStore1S hk ?_ | refine wStore1P hk ?_ | refine wStore1F hk ?_); clear hk; intro w1 hk; simp only [Act.put]))))
  exact post_c1 rfl (by rfl) (hk.at (by with_reducible repeat (first | exact List.mem_cons_self | apply List.mem_cons_of_mem))) (rowT_of (by rfl)) (by rfl) (by rfl) rfl ⟨rfl, hk.mod.below⟩
set_option maxHeartbeats 2000000 in
set_option maxRecDepth 100000 in
theorem stepDF (l : List I5) (hl : AllFit l) (pb pc mb sb : Nat) (cl : Nat → Option St) (m : Nat) (hm : m < l.length) (come : Option St) (w : World) (hP : ProgC w pb iVal l) (hM : At w mb (bosA l.length (markB l)) 4) (hS : At w sb (plsA l.length cl) 174) (hmk : markB l m = false) (hh : come.isSome = true) (hok : St.ok (stO come) ∧ St.in64 (stO come)) (hd : dangR (insAt l m) (stO come) = 0) (hj : jumpsB (insAt l m) = true) (k : Nat) (hk1 : targI (insAt l m) = k) (hk2 : k < l.length) (hf : liesP (flowFar (insAt l m) (stO come)).isSome (stO (flowFar (insAt l m) (stO come))) (cl k) = false) :
    Calls Tryz.prog 103 #[.agg #[.slice (some ⟨pb, 0, none⟩) l.length pc, .slice (some ⟨mb, 0, none⟩) l.length l.length, .slice (some ⟨sb, 0, none⟩) l.length l.length], .int .i64 m, .agg (plC come.isSome (stO come)), .iface 121 (.agg #[.slice (some ⟨pb, 0, none⟩) l.length pc, .slice (some ⟨mb, 0, none⟩) l.length l.length, .slice (some ⟨sb, 0, none⟩) l.length l.length])] w fun e w' => e = .returned (.tuple #[.agg (plC false zeroS), .int .i64 (5)]) ∧ Below w.heap.size w w' := by
  have hk := Kn.nil [] w
  have HP := hide hP
  clear hP
  have q1 := mTakes
  have q2 := mDanger
  have q3 := cTakes
  have q4 := cDanger
  go_enter Tryz.func103, Tryz.ntmps103
  go_wp2_with (first | (first | (go_at_call 147; refine (takes_ck _ _ _ _ _ cl _ (by first | exact hm | exact hk2) _ _ _ (hS.of (hk.mod.block _ hS.lt List.not_mem_nil))).mono ?_; rintro e w1 ⟨rfl, hb⟩; replace hk := hk.call hb; clear hb; (try rw [hf])) | (go_at_call 146; refine (danger_ck l hl _ _ _ _ m hm _ _ (HP.out.mod hk.mod List.not_mem_nil m hm)).mono ?_; rintro e w1 ⟨rfl, hb⟩; replace hk := hk.call hb; clear hb; rw [hd]) | (go_at_call 119; refine (flow_c _ _ (hl.fit hm) _ _ _ _ hm _ hok.1 hok.2 _ (HP.out.mod hk.mod List.not_mem_nil m hm)).mono ?_; rintro e w1 ⟨rfl, hb⟩; replace hk := hk.call hb; clear hb) | (go_at_call 101; refine (target_any _ _ (hl.fit hm) _ _ _ _ hm _ (HP.out.mod hk.mod List.not_mem_nil m hm)).mono ?_; rintro e w1 ⟨rfl, hb⟩; replace hk := hk.call hb; clear hb; rw [hj, hk1])) | ((with_reducible show wpList _ _ _ _ _ _); (first | ((with_reducible show wpList _ _ _ (⟨_, _, _, _, _, some _⟩ :: _) _ _); refine wpList_skip (by rfl) ?_; simp only [Act.put, List.setIfInBounds_toArray, List.set_cons_succ, List.set_cons_zero]) | ((first | refine wBuild hk ?_ | refine wFieldZ hk ?_ | refine wField0 hk ?_ | refine wField hk ?_ | refine wIndexA0 hk ?_ | refine wIndexS0 hk ?_ | refine wIndexA hk ?_ | refine wIndexS hk ?_ | refine wLoadR hk ?_ | refine wLoad1 hk ?_ | refine wOldR hk ?_ | refine wOld1 hk ?_ | refine wOldC hk ?_ | refine wOldG hk ?_ | refine wAssertY hk ?_ | refine wAssertN hk ?_); simp only [Act.put, List.setIfInBounds_toArray, List.set_cons_succ, List.set_cons_zero]; (try rw [hmk]); (try rw [hh])) | ((first | refine wBox hk ?_ | refine wBox1I hk ?_ | refine wBox1B hk ?_ | refine wBox1S hk ?_ | refine wBox1P hk ?_ | refine wBox1F hk ?_ | refine wAllocR hk ?_ | refine wAlloc1 hk ?_ | refine wMake hk ?_); clear hk; intro w1 hk; simp only [Act.put, List.setIfInBounds_toArray, List.set_cons_succ, List.set_cons_zero]) | ((first | refine wStoreR hk ?_ | refine wStore1I hk ?_ | refine wStore1B hk ?_ | refine wStore1S hk ?_ | refine wStore1P hk ?_ | refine wStore1F hk ?_); clear hk; intro w1 hk; simp only [Act.put]))))
  exact post_c1 rfl (by rfl) (hk.at (by with_reducible repeat (first | exact List.mem_cons_self | apply List.mem_cons_of_mem))) (rowT_of (by rfl)) (by rfl) (by rfl) rfl ⟨rfl, hk.mod.below⟩
set_option maxHeartbeats 2000000 in
set_option maxRecDepth 100000 in
theorem stepEF (l : List I5) (hl : AllFit l) (pb pc mb sb : Nat) (cl : Nat → Option St) (m : Nat) (hm : m < l.length) (come : Option St) (w : World) (hP : ProgC w pb iVal l) (hM : At w mb (bosA l.length (markB l)) 4) (hS : At w sb (plsA l.length cl) 174) (hmk : markB l m = false) (hh : come.isSome = true) (hok : St.ok (stO come) ∧ St.in64 (stO come)) (hd : dangR (insAt l m) (stO come) = 0) (hj : jumpsB (insAt l m) = true) (k : Nat) (hk1 : targI (insAt l m) = k) (hk2 : k < l.length) (hf : liesP (flowFar (insAt l m) (stO come)).isSome (stO (flowFar (insAt l m) (stO come))) (cl k) = true) :
    Calls Tryz.prog 103 #[.agg #[.slice (some ⟨pb, 0, none⟩) l.length pc, .slice (some ⟨mb, 0, none⟩) l.length l.length, .slice (some ⟨sb, 0, none⟩) l.length l.length], .int .i64 m, .agg (plC come.isSome (stO come)), .iface 121 (.agg #[.slice (some ⟨pb, 0, none⟩) l.length pc, .slice (some ⟨mb, 0, none⟩) l.length l.length, .slice (some ⟨sb, 0, none⟩) l.length l.length])] w fun e w' => e = .returned (.tuple #[.agg (plC (flowOn (insAt l m) (stO come)).isSome (stO (flowOn (insAt l m) (stO come)))), .int .i64 (0)]) ∧ Below w.heap.size w w' := by
  have hk := Kn.nil [] w
  have HP := hide hP
  clear hP
  have q1 := mTakes
  have q2 := mDanger
  have q3 := cTakes
  have q4 := cDanger
  go_enter Tryz.func103, Tryz.ntmps103
  go_wp2_with (first | (first | (go_at_call 147; refine (takes_ck _ _ _ _ _ cl _ (by first | exact hm | exact hk2) _ _ _ (hS.of (hk.mod.block _ hS.lt List.not_mem_nil))).mono ?_; rintro e w1 ⟨rfl, hb⟩; replace hk := hk.call hb; clear hb; (try rw [hf])) | (go_at_call 146; refine (danger_ck l hl _ _ _ _ m hm _ _ (HP.out.mod hk.mod List.not_mem_nil m hm)).mono ?_; rintro e w1 ⟨rfl, hb⟩; replace hk := hk.call hb; clear hb; rw [hd]) | (go_at_call 119; refine (flow_c _ _ (hl.fit hm) _ _ _ _ hm _ hok.1 hok.2 _ (HP.out.mod hk.mod List.not_mem_nil m hm)).mono ?_; rintro e w1 ⟨rfl, hb⟩; replace hk := hk.call hb; clear hb) | (go_at_call 101; refine (target_any _ _ (hl.fit hm) _ _ _ _ hm _ (HP.out.mod hk.mod List.not_mem_nil m hm)).mono ?_; rintro e w1 ⟨rfl, hb⟩; replace hk := hk.call hb; clear hb; rw [hj, hk1])) | ((with_reducible show wpList _ _ _ _ _ _); (first | ((with_reducible show wpList _ _ _ (⟨_, _, _, _, _, some _⟩ :: _) _ _); refine wpList_skip (by rfl) ?_; simp only [Act.put, List.setIfInBounds_toArray, List.set_cons_succ, List.set_cons_zero]) | ((first | refine wBuild hk ?_ | refine wFieldZ hk ?_ | refine wField0 hk ?_ | refine wField hk ?_ | refine wIndexA0 hk ?_ | refine wIndexS0 hk ?_ | refine wIndexA hk ?_ | refine wIndexS hk ?_ | refine wLoadR hk ?_ | refine wLoad1 hk ?_ | refine wOldR hk ?_ | refine wOld1 hk ?_ | refine wOldC hk ?_ | refine wOldG hk ?_ | refine wAssertY hk ?_ | refine wAssertN hk ?_); simp only [Act.put, List.setIfInBounds_toArray, List.set_cons_succ, List.set_cons_zero]; (try rw [hmk]); (try rw [hh])) | ((first | refine wBox hk ?_ | refine wBox1I hk ?_ | refine wBox1B hk ?_ | refine wBox1S hk ?_ | refine wBox1P hk ?_ | refine wBox1F hk ?_ | refine wAllocR hk ?_ | refine wAlloc1 hk ?_ | refine wMake hk ?_); clear hk; intro w1 hk; simp only [Act.put, List.setIfInBounds_toArray, List.set_cons_succ, List.set_cons_zero]) | ((first | refine wStoreR hk ?_ | refine wStore1I hk ?_ | refine wStore1B hk ?_ | refine wStore1S hk ?_ | refine wStore1P hk ?_ | refine wStore1F hk ?_); clear hk; intro w1 hk; simp only [Act.put]))))
  exact post_c1 rfl (by rfl) (hk.at (by with_reducible repeat (first | exact List.mem_cons_self | apply List.mem_cons_of_mem))) (rowT_of (by rfl)) (by rfl) (by rfl) rfl ⟨rfl, hk.mod.below⟩
set_option maxHeartbeats 2000000 in
set_option maxRecDepth 100000 in
theorem stepGF (l : List I5) (hl : AllFit l) (pb pc mb sb : Nat) (cl : Nat → Option St) (m : Nat) (hm : m < l.length) (come : Option St) (w : World) (hP : ProgC w pb iVal l) (hM : At w mb (bosA l.length (markB l)) 4) (_ : At w sb (plsA l.length cl) 174) (hmk : markB l m = false) (hh : come.isSome = true) (hok : St.ok (stO come) ∧ St.in64 (stO come)) (hd : dangR (insAt l m) (stO come) = 0) (hj : jumpsB (insAt l m) = false) :
    Calls Tryz.prog 103 #[.agg #[.slice (some ⟨pb, 0, none⟩) l.length pc, .slice (some ⟨mb, 0, none⟩) l.length l.length, .slice (some ⟨sb, 0, none⟩) l.length l.length], .int .i64 m, .agg (plC come.isSome (stO come)), .iface 121 (.agg #[.slice (some ⟨pb, 0, none⟩) l.length pc, .slice (some ⟨mb, 0, none⟩) l.length l.length, .slice (some ⟨sb, 0, none⟩) l.length l.length])] w fun e w' => e = .returned (.tuple #[.agg (plC (flowOn (insAt l m) (stO come)).isSome (stO (flowOn (insAt l m) (stO come)))), .int .i64 (0)]) ∧ Below w.heap.size w w' := by
  have hk := Kn.nil [] w
  have HP := hide hP
  clear hP
  have q1 := mTakes
  have q2 := mDanger
  have q3 := cTakes
  have q4 := cDanger
  go_enter Tryz.func103, Tryz.ntmps103
  go_wp2_with (first | (first | (go_at_call 147; refine (takes_ck _ _ _ _ _ cl _ (by first | exact hm | exact hk2) _ _ _ (hS.of (hk.mod.block _ hS.lt List.not_mem_nil))).mono ?_; rintro e w1 ⟨rfl, hb⟩; replace hk := hk.call hb; clear hb) | (go_at_call 146; refine (danger_ck l hl _ _ _ _ m hm _ _ (HP.out.mod hk.mod List.not_mem_nil m hm)).mono ?_; rintro e w1 ⟨rfl, hb⟩; replace hk := hk.call hb; clear hb; rw [hd]) | (go_at_call 119; refine (flow_c _ _ (hl.fit hm) _ _ _ _ hm _ hok.1 hok.2 _ (HP.out.mod hk.mod List.not_mem_nil m hm)).mono ?_; rintro e w1 ⟨rfl, hb⟩; replace hk := hk.call hb; clear hb) | (go_at_call 101; refine (target_any _ _ (hl.fit hm) _ _ _ _ hm _ (HP.out.mod hk.mod List.not_mem_nil m hm)).mono ?_; rintro e w1 ⟨rfl, hb⟩; replace hk := hk.call hb; clear hb; rw [hj])) | ((with_reducible show wpList _ _ _ _ _ _); (first | ((with_reducible show wpList _ _ _ (⟨_, _, _, _, _, some _⟩ :: _) _ _); refine wpList_skip (by rfl) ?_; simp only [Act.put, List.setIfInBounds_toArray, List.set_cons_succ, List.set_cons_zero]) | ((first | refine wBuild hk ?_ | refine wFieldZ hk ?_ | refine wField0 hk ?_ | refine wField hk ?_ | refine wIndexA0 hk ?_ | refine wIndexS0 hk ?_ | refine wIndexA hk ?_ | refine wIndexS hk ?_ | refine wLoadR hk ?_ | refine wLoad1 hk ?_ | refine wOldR hk ?_ | refine wOld1 hk ?_ | refine wOldC hk ?_ | refine wOldG hk ?_ | refine wAssertY hk ?_ | refine wAssertN hk ?_); simp only [Act.put, List.setIfInBounds_toArray, List.set_cons_succ, List.set_cons_zero]; (try rw [hmk]); (try rw [hh])) | ((first | refine wBox hk ?_ | refine wBox1I hk ?_ | refine wBox1B hk ?_ | refine wBox1S hk ?_ | refine wBox1P hk ?_ | refine wBox1F hk ?_ | refine wAllocR hk ?_ | refine wAlloc1 hk ?_ | refine wMake hk ?_); clear hk; intro w1 hk; simp only [Act.put, List.setIfInBounds_toArray, List.set_cons_succ, List.set_cons_zero]) | ((first | refine wStoreR hk ?_ | refine wStore1I hk ?_ | refine wStore1B hk ?_ | refine wStore1S hk ?_ | refine wStore1P hk ?_ | refine wStore1F hk ?_); clear hk; intro w1 hk; simp only [Act.put]))))
  exact post_c1 rfl (by rfl) (hk.at (by with_reducible repeat (first | exact List.mem_cons_self | apply List.mem_cons_of_mem))) (rowT_of (by rfl)) (by rfl) (by rfl) rfl ⟨rfl, hk.mod.below⟩
end Go.Proofs.YtamiichlbmllcaaGreatDoor
/-
  A pass that checks: the contract of (proof.route).pass.
-/
namespace Go.Proofs.YtamiichlbmllcaaGreatDoor
open Go.RowKit
/-- a step of Check's pass: the error, and what goes on -/
def stepC (p : List I5) (cl : Nat → Option St) (n : Nat) (come : Option St) : Int × Option St :=
  if markB p n && !liesO come (cl n) then (5, none)
  else match (if markB p n then cl n else come) with
    | none => (0, none)
    | some s => if dangR (insAt p n) s ≠ 0 then (dangR (insAt p n) s, none)
      else if decide (9 ≤ (insAt p n).o) && !liesO (flowFar (insAt p n) s) (cl (insAt p n).k.toNat) then (5, none)
      else (0, flowOn (insAt p n) s)
/-- the pass: so many instructions are left -/
def passC (p : List I5) (cl : Nat → Option St) : Nat → Nat → Option St → Int × Nat
  | 0, n, come => if come.isSome then (8, n) else (0, 0)
  | k + 1, n, come => if (stepC p cl n come).1 ≠ 0 then ((stepC p cl n come).1, n) else passC p cl k (n + 1) (stepC p cl n come).2
def OkO (x : Option St) : Prop := ∀ s, x = some s → s.ok ∧ s.in64
theorem some_of {x : Option St} (h : x.isSome = true) : x = some (stO x) := by
  cases x with
  | none => cases h
  | some s => rfl
theorem none_of {x : Option St} (h : x.isSome = false) : x = none := by
  cases x with
  | none => rfl
  | some s => cases h
theorem step_ck (l : List I5) (hl : AllFit l) (pb pc mb sb : Nat) (cl : Nat → Option St) (m : Nat) (hm : m < l.length) (come : Option St) (w : World) (hP : ProgC w pb iVal l) (hM : At w mb (bosA l.length (markB l)) 4) (hS : At w sb (plsA l.length cl) 174) (hcl : ∀ k, OkO (cl k)) (hco : OkO come) : Calls Tryz.prog 103 #[.agg #[.slice (some ⟨pb, 0, none⟩) l.length pc, .slice (some ⟨mb, 0, none⟩) l.length l.length, .slice (some ⟨sb, 0, none⟩) l.length l.length], .int .i64 m, .agg (plC come.isSome (stO come)), .iface 121 (.agg #[.slice (some ⟨pb, 0, none⟩) l.length pc, .slice (some ⟨mb, 0, none⟩) l.length l.length, .slice (some ⟨sb, 0, none⟩) l.length l.length])] w fun e w' => e = .returned (.tuple #[.agg (plC (stepC l cl m come).2.isSome (stO (stepC l cl m come).2)), .int .i64 (stepC l cl m come).1]) ∧ Below w.heap.size w w' := by
  cases hmk : markB l m with
  | true =>
    cases hL : liesO come (cl m) with
    | false =>
      have e : stepC l cl m come = (5, none) := by unfold stepC; simp [hmk, hL]
      rw [e]
      exact stepA l hl pb pc mb sb cl m hm come w hP hM hS hmk (by rw [liesP_eq]; exact hL)
    | true =>
      have hL' : liesP come.isSome (stO come) (cl m) = true := by rw [liesP_eq]; exact hL
      cases hh : (cl m).isSome with
      | false =>
        have e : stepC l cl m come = (0, none) := by unfold stepC; rw [hmk, hL]; simp only [Bool.true_and, Bool.not_true, Bool.false_eq_true, if_false, if_true]; rw [none_of hh]
        rw [e]
        exact stepBT l hl pb pc mb sb cl m hm come w hP hM hS hmk hL' hh
      | true =>
        have hs := some_of hh
        have hok := hcl m _ hs
        have e0 : stepC l cl m come = if dangR (insAt l m) (stO (cl m)) ≠ 0 then (dangR (insAt l m) (stO (cl m)), none) else if decide (9 ≤ (insAt l m).o) && !liesO (flowFar (insAt l m) (stO (cl m))) (cl (insAt l m).k.toNat) then (5, none) else (0, flowOn (insAt l m) (stO (cl m))) := by
          unfold stepC; rw [hmk, hL]; simp only [Bool.true_and, Bool.not_true, Bool.false_eq_true, if_false, if_true]; rw [hs]; rfl
        by_cases hd : dangR (insAt l m) (stO (cl m)) = 0
        · cases hj : jumpsB (insAt l m) with
          | false =>
            have e : stepC l cl m come = (0, flowOn (insAt l m) (stO (cl m))) := by rw [e0, if_neg (by simp [hd])]; unfold jumpsB at hj; simp [hj]
            rw [e]
            exact stepGT l hl pb pc mb sb cl m hm come w hP hM hS hmk hL' hh hok hd hj
          | true =>
            obtain ⟨k, hk1, hk2⟩ := hl.targ hm hj
            have hkk : (insAt l m).k.toNat = k := by unfold targI at hk1; unfold jumpsB at hj; simp only [decide_eq_true_eq] at hj; rw [if_pos hj] at hk1; omega
            cases hf : liesO (flowFar (insAt l m) (stO (cl m))) (cl k) with
            | false =>
              have e : stepC l cl m come = (5, none) := by rw [e0, if_neg (by simp [hd]), hkk]; unfold jumpsB at hj; simp [hj, hf]
              rw [e]
              exact stepDT l hl pb pc mb sb cl m hm come w hP hM hS hmk hL' hh hok hd hj k hk1 hk2 (by rw [liesP_eq]; exact hf)
            | true =>
              have e : stepC l cl m come = (0, flowOn (insAt l m) (stO (cl m))) := by rw [e0, if_neg (by simp [hd]), hkk]; unfold jumpsB at hj; simp [hf]
              rw [e]
              exact stepET l hl pb pc mb sb cl m hm come w hP hM hS hmk hL' hh hok hd hj k hk1 hk2 (by rw [liesP_eq]; exact hf)
        · have e : stepC l cl m come = (dangR (insAt l m) (stO (cl m)), none) := by rw [e0, if_pos hd]
          rw [e]
          exact stepCT l hl pb pc mb sb cl m hm come w hP hM hS hmk hL' hh hok (by simpa using hd)
  | false =>
    cases hh : come.isSome with
    | false =>
      have e : stepC l cl m come = (0, none) := by unfold stepC; simp [hmk, none_of hh]
      rw [e, ← hh]
      exact stepBF l hl pb pc mb sb cl m hm come w hP hM hS hmk hh
    | true =>
      have hs := some_of hh
      have hok := hco _ hs
      have e0 : stepC l cl m come = if dangR (insAt l m) (stO come) ≠ 0 then (dangR (insAt l m) (stO come), none) else if decide (9 ≤ (insAt l m).o) && !liesO (flowFar (insAt l m) (stO come)) (cl (insAt l m).k.toNat) then (5, none) else (0, flowOn (insAt l m) (stO come)) := by
        unfold stepC; rw [hmk]; simp only [Bool.false_and, Bool.false_eq_true, if_false]; rw [hs]; rfl
      rw [← hh]
      by_cases hd : dangR (insAt l m) (stO come) = 0
      · cases hj : jumpsB (insAt l m) with
        | false =>
          have e : stepC l cl m come = (0, flowOn (insAt l m) (stO come)) := by rw [e0, if_neg (by simp [hd])]; unfold jumpsB at hj; simp [hj]
          rw [e]
          exact stepGF l hl pb pc mb sb cl m hm come w hP hM hS hmk hh hok hd hj
        | true =>
          obtain ⟨k, hk1, hk2⟩ := hl.targ hm hj
          have hkk : (insAt l m).k.toNat = k := by unfold targI at hk1; unfold jumpsB at hj; simp only [decide_eq_true_eq] at hj; rw [if_pos hj] at hk1; omega
          cases hf : liesO (flowFar (insAt l m) (stO come)) (cl k) with
          | false =>
            have e : stepC l cl m come = (5, none) := by rw [e0, if_neg (by simp [hd]), hkk]; unfold jumpsB at hj; simp [hj, hf]
            rw [e]
            exact stepDF l hl pb pc mb sb cl m hm come w hP hM hS hmk hh hok hd hj k hk1 hk2 (by rw [liesP_eq]; exact hf)
          | true =>
            have e : stepC l cl m come = (0, flowOn (insAt l m) (stO come)) := by rw [e0, if_neg (by simp [hd]), hkk]; unfold jumpsB at hj; simp [hf]
            rw [e]
            exact stepEF l hl pb pc mb sb cl m hm come w hP hM hS hmk hh hok hd hj k hk1 hk2 (by rw [liesP_eq]; exact hf)
      · have e : stepC l cl m come = (dangR (insAt l m) (stO come), none) := by rw [e0, if_pos hd]
        rw [e]
        exact stepCF l hl pb pc mb sb cl m hm come w hP hM hS hmk hh hok (by simpa using hd)
end Go.Proofs.YtamiichlbmllcaaGreatDoor
