import Derived.Test.YtamiichlbmllcaaGreatDoorTChG
/-
  One step of a pass that checks, way by way: (proof.route).step.
-/
namespace Go.Proofs.YtamiichlbmllcaaGreatDoor
open Go.RowKit
set_option maxHeartbeats 8000000 in
set_option maxRecDepth 100000 in
theorem stepCF (l : List I5) (hl : AllFit l) (pb pc mb sb : Nat) (cl : Nat → Option St) (m : Nat) (hm : m < l.length) (come : Option St) (w : World) (hP : ProgC w pb iVal l) (hM : At w mb (bosA l.length (markB l)) 4) (_ : At w sb (plsA l.length cl) 174) (hmk : markB l m = false) (hh : come.isSome = true) (_ : St.ok (stO come) ∧ St.in64 (stO come)) (hd : (dangR (insAt l m) (stO come) != 0) = true) :
    Calls Tryz.prog 103 #[.agg #[.slice (some ⟨pb, 0, none⟩) l.length pc, .slice (some ⟨mb, 0, none⟩) l.length l.length, .slice (some ⟨sb, 0, none⟩) l.length l.length], .int .i64 m, .agg (plC come.isSome (stO come)), .iface 121 (.agg #[.slice (some ⟨pb, 0, none⟩) l.length pc, .slice (some ⟨mb, 0, none⟩) l.length l.length, .slice (some ⟨sb, 0, none⟩) l.length l.length])] w fun e w' => e = .returned (.tuple #[.agg (plC false zeroS), .int .i64 (dangR (insAt l m) (stO come))]) ∧ Below w.heap.size w w' := by
  have hk := Kn.nil [] w
  have HP := hide hP
  clear hP
  have q1 := mTakes
  have q2 := mDanger
  have q3 := cTakes
  have q4 := cDanger
  go_enter Tryz.func103, Tryz.ntmps103
  go_wp2_with (first | (first | (go_at_call 147; refine (takes_ck _ _ _ _ _ cl _ (by first | exact hm | exact hk2) _ _ _ (hS.of (hk.mod.block _ hS.lt List.not_mem_nil))).mono ?_; rintro e w1 ⟨rfl, hb⟩; replace hk := hk.call hb; clear hb) | (go_at_call 146; refine (danger_ck l hl _ _ _ _ m hm _ _ (HP.out.mod hk.mod List.not_mem_nil m hm)).mono ?_; rintro e w1 ⟨rfl, hb⟩; replace hk := hk.call hb; clear hb) | (go_at_call 119; refine (flow_c _ _ (hl.fit hm) _ _ _ _ hm _ hok.1 hok.2 _ (HP.out.mod hk.mod List.not_mem_nil m hm)).mono ?_; rintro e w1 ⟨rfl, hb⟩; replace hk := hk.call hb; clear hb) | (go_at_call 101; refine (target_any _ _ (hl.fit hm) _ _ _ _ hm _ (HP.out.mod hk.mod List.not_mem_nil m hm)).mono ?_; rintro e w1 ⟨rfl, hb⟩; replace hk := hk.call hb; clear hb)) | ((with_reducible show wpList _ _ _ _ _ _); (first | (refine wS hk ?_; simp only [Act.put, pw]; (try rw [hmk]); (try rw [hh])) | (refine wN hk ?_; clear hk; intro w1 hk; simp only [Act.put, pw]) | (refine wT hk ?_; clear hk; intro w1 hk; simp only [Act.put]))))
  exact post_c1 rfl (by rfl) (hk.at (by with_reducible repeat (first | exact List.mem_cons_self | apply List.mem_cons_of_mem))) (rowT_of (by rfl)) (by rfl) (by rfl) rfl ⟨rfl, hk.mod.below⟩
set_option maxHeartbeats 8000000 in
set_option maxRecDepth 100000 in
theorem stepDF (l : List I5) (hl : AllFit l) (pb pc mb sb : Nat) (cl : Nat → Option St) (m : Nat) (hm : m < l.length) (come : Option St) (w : World) (hP : ProgC w pb iVal l) (hM : At w mb (bosA l.length (markB l)) 4) (hS : At w sb (plsA l.length cl) 174) (hmk : markB l m = false) (hh : come.isSome = true) (hok : St.ok (stO come) ∧ St.in64 (stO come)) (hd : dangR (insAt l m) (stO come) = 0) (hj : jumpsB (insAt l m) = true) (k : Nat) (hk1 : targI (insAt l m) = k) (hk2 : k < l.length) (hf : liesP (flowFar (insAt l m) (stO come)).isSome (stO (flowFar (insAt l m) (stO come))) (cl k) = false) :
    Calls Tryz.prog 103 #[.agg #[.slice (some ⟨pb, 0, none⟩) l.length pc, .slice (some ⟨mb, 0, none⟩) l.length l.length, .slice (some ⟨sb, 0, none⟩) l.length l.length], .int .i64 m, .agg (plC come.isSome (stO come)), .iface 121 (.agg #[.slice (some ⟨pb, 0, none⟩) l.length pc, .slice (some ⟨mb, 0, none⟩) l.length l.length, .slice (some ⟨sb, 0, none⟩) l.length l.length])] w fun e w' => e = .returned (.tuple #[.agg (plC false zeroS), .int .i64 (5)]) ∧ Below w.heap.size w w' := by
  have hk := Kn.nil [] w
  have HP := hide hP
  clear hP
  have q1 := mTakes
  have q2 := mDanger
  have q3 := cTakes
  have q4 := cDanger
  go_enter Tryz.func103, Tryz.ntmps103
  go_wp2_with (first | (first | (go_at_call 147; refine (takes_ck _ _ _ _ _ cl _ (by first | exact hm | exact hk2) _ _ _ (hS.of (hk.mod.block _ hS.lt List.not_mem_nil))).mono ?_; rintro e w1 ⟨rfl, hb⟩; replace hk := hk.call hb; clear hb; (try rw [hf])) | (go_at_call 146; refine (danger_ck l hl _ _ _ _ m hm _ _ (HP.out.mod hk.mod List.not_mem_nil m hm)).mono ?_; rintro e w1 ⟨rfl, hb⟩; replace hk := hk.call hb; clear hb; rw [hd]) | (go_at_call 119; refine (flow_c _ _ (hl.fit hm) _ _ _ _ hm _ hok.1 hok.2 _ (HP.out.mod hk.mod List.not_mem_nil m hm)).mono ?_; rintro e w1 ⟨rfl, hb⟩; replace hk := hk.call hb; clear hb) | (go_at_call 101; refine (target_any _ _ (hl.fit hm) _ _ _ _ hm _ (HP.out.mod hk.mod List.not_mem_nil m hm)).mono ?_; rintro e w1 ⟨rfl, hb⟩; replace hk := hk.call hb; clear hb; rw [hj, hk1])) | ((with_reducible show wpList _ _ _ _ _ _); (first | (refine wS hk ?_; simp only [Act.put, pw]; (try rw [hmk]); (try rw [hh])) | (refine wN hk ?_; clear hk; intro w1 hk; simp only [Act.put, pw]) | (refine wT hk ?_; clear hk; intro w1 hk; simp only [Act.put]))))
  exact post_c1 rfl (by rfl) (hk.at (by with_reducible repeat (first | exact List.mem_cons_self | apply List.mem_cons_of_mem))) (rowT_of (by rfl)) (by rfl) (by rfl) rfl ⟨rfl, hk.mod.below⟩
set_option maxHeartbeats 8000000 in
set_option maxRecDepth 100000 in
theorem stepEF (l : List I5) (hl : AllFit l) (pb pc mb sb : Nat) (cl : Nat → Option St) (m : Nat) (hm : m < l.length) (come : Option St) (w : World) (hP : ProgC w pb iVal l) (hM : At w mb (bosA l.length (markB l)) 4) (hS : At w sb (plsA l.length cl) 174) (hmk : markB l m = false) (hh : come.isSome = true) (hok : St.ok (stO come) ∧ St.in64 (stO come)) (hd : dangR (insAt l m) (stO come) = 0) (hj : jumpsB (insAt l m) = true) (k : Nat) (hk1 : targI (insAt l m) = k) (hk2 : k < l.length) (hf : liesP (flowFar (insAt l m) (stO come)).isSome (stO (flowFar (insAt l m) (stO come))) (cl k) = true) :
    Calls Tryz.prog 103 #[.agg #[.slice (some ⟨pb, 0, none⟩) l.length pc, .slice (some ⟨mb, 0, none⟩) l.length l.length, .slice (some ⟨sb, 0, none⟩) l.length l.length], .int .i64 m, .agg (plC come.isSome (stO come)), .iface 121 (.agg #[.slice (some ⟨pb, 0, none⟩) l.length pc, .slice (some ⟨mb, 0, none⟩) l.length l.length, .slice (some ⟨sb, 0, none⟩) l.length l.length])] w fun e w' => e = .returned (.tuple #[.agg (plC (flowOn (insAt l m) (stO come)).isSome (stO (flowOn (insAt l m) (stO come)))), .int .i64 (0)]) ∧ Below w.heap.size w w' := by
  have hk := Kn.nil [] w
  have HP := hide hP
  clear hP
  have q1 := mTakes
  have q2 := mDanger
  have q3 := cTakes
  have q4 := cDanger
  go_enter Tryz.func103, Tryz.ntmps103
  go_wp2_with (first | (first | (go_at_call 147; refine (takes_ck _ _ _ _ _ cl _ (by first | exact hm | exact hk2) _ _ _ (hS.of (hk.mod.block _ hS.lt List.not_mem_nil))).mono ?_; rintro e w1 ⟨rfl, hb⟩; replace hk := hk.call hb; clear hb; (try rw [hf])) | (go_at_call 146; refine (danger_ck l hl _ _ _ _ m hm _ _ (HP.out.mod hk.mod List.not_mem_nil m hm)).mono ?_; rintro e w1 ⟨rfl, hb⟩; replace hk := hk.call hb; clear hb; rw [hd]) | (go_at_call 119; refine (flow_c _ _ (hl.fit hm) _ _ _ _ hm _ hok.1 hok.2 _ (HP.out.mod hk.mod List.not_mem_nil m hm)).mono ?_; rintro e w1 ⟨rfl, hb⟩; replace hk := hk.call hb; clear hb) | (go_at_call 101; refine (target_any _ _ (hl.fit hm) _ _ _ _ hm _ (HP.out.mod hk.mod List.not_mem_nil m hm)).mono ?_; rintro e w1 ⟨rfl, hb⟩; replace hk := hk.call hb; clear hb; rw [hj, hk1])) | ((with_reducible show wpList _ _ _ _ _ _); (first | (refine wS hk ?_; simp only [Act.put, pw]; (try rw [hmk]); (try rw [hh])) | (refine wN hk ?_; clear hk; intro w1 hk; simp only [Act.put, pw]) | (refine wT hk ?_; clear hk; intro w1 hk; simp only [Act.put]))))
  exact post_c1 rfl (by rfl) (hk.at (by with_reducible repeat (first | exact List.mem_cons_self | apply List.mem_cons_of_mem))) (rowT_of (by rfl)) (by rfl) (by rfl) rfl ⟨rfl, hk.mod.below⟩
set_option maxHeartbeats 8000000 in
set_option maxRecDepth 100000 in
theorem stepGF (l : List I5) (hl : AllFit l) (pb pc mb sb : Nat) (cl : Nat → Option St) (m : Nat) (hm : m < l.length) (come : Option St) (w : World) (hP : ProgC w pb iVal l) (hM : At w mb (bosA l.length (markB l)) 4) (_ : At w sb (plsA l.length cl) 174) (hmk : markB l m = false) (hh : come.isSome = true) (hok : St.ok (stO come) ∧ St.in64 (stO come)) (hd : dangR (insAt l m) (stO come) = 0) (hj : jumpsB (insAt l m) = false) :
    Calls Tryz.prog 103 #[.agg #[.slice (some ⟨pb, 0, none⟩) l.length pc, .slice (some ⟨mb, 0, none⟩) l.length l.length, .slice (some ⟨sb, 0, none⟩) l.length l.length], .int .i64 m, .agg (plC come.isSome (stO come)), .iface 121 (.agg #[.slice (some ⟨pb, 0, none⟩) l.length pc, .slice (some ⟨mb, 0, none⟩) l.length l.length, .slice (some ⟨sb, 0, none⟩) l.length l.length])] w fun e w' => e = .returned (.tuple #[.agg (plC (flowOn (insAt l m) (stO come)).isSome (stO (flowOn (insAt l m) (stO come)))), .int .i64 (0)]) ∧ Below w.heap.size w w' := by
  have hk := Kn.nil [] w
  have HP := hide hP
  clear hP
  have q1 := mTakes
  have q2 := mDanger
  have q3 := cTakes
  have q4 := cDanger
  go_enter Tryz.func103, Tryz.ntmps103
  go_wp2_with (first | (first | (go_at_call 147; refine (takes_ck _ _ _ _ _ cl _ (by first | exact hm | exact hk2) _ _ _ (hS.of (hk.mod.block _ hS.lt List.not_mem_nil))).mono ?_; rintro e w1 ⟨rfl, hb⟩; replace hk := hk.call hb; clear hb) | (go_at_call 146; refine (danger_ck l hl _ _ _ _ m hm _ _ (HP.out.mod hk.mod List.not_mem_nil m hm)).mono ?_; rintro e w1 ⟨rfl, hb⟩; replace hk := hk.call hb; clear hb; rw [hd]) | (go_at_call 119; refine (flow_c _ _ (hl.fit hm) _ _ _ _ hm _ hok.1 hok.2 _ (HP.out.mod hk.mod List.not_mem_nil m hm)).mono ?_; rintro e w1 ⟨rfl, hb⟩; replace hk := hk.call hb; clear hb) | (go_at_call 101; refine (target_any _ _ (hl.fit hm) _ _ _ _ hm _ (HP.out.mod hk.mod List.not_mem_nil m hm)).mono ?_; rintro e w1 ⟨rfl, hb⟩; replace hk := hk.call hb; clear hb; rw [hj])) | ((with_reducible show wpList _ _ _ _ _ _); (first | (refine wS hk ?_; simp only [Act.put, pw]; (try rw [hmk]); (try rw [hh])) | (refine wN hk ?_; clear hk; intro w1 hk; simp only [Act.put, pw]) | (refine wT hk ?_; clear hk; intro w1 hk; simp only [Act.put]))))
  exact post_c1 rfl (by rfl) (hk.at (by with_reducible repeat (first | exact List.mem_cons_self | apply List.mem_cons_of_mem))) (rowT_of (by rfl)) (by rfl) (by rfl) rfl ⟨rfl, hk.mod.below⟩
end Go.Proofs.YtamiichlbmllcaaGreatDoor
