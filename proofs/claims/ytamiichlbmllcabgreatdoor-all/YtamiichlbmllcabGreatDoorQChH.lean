import Derived.Test.YtamiichlbmllcabGreatDoorQChG
set_option maxRecDepth 100000
set_option maxHeartbeats 32000000
namespace Go.Proofs.YtamiichlbmllcabGreatDoor
open Go.RowKit
theorem stepCF (l : List I5) (hl : AllFit l) (pb pc mb sb : Nat) (cl : Nat -> Option St) (m : Nat) (hm : m < l.length) (come : Option St) (w : World) (hP : ProgC w pb iVal l) (hM : At w mb (bosA l.length (markB l)) 4) (_ : At w sb (plsA l.length cl) 190) (hmk : markB l m = false) (hh : come.isSome = true) (_ : St.ok (stO come) /\ St.in64 (stO come)) (hd : (dangR (insAt l m) (stO come) != 0) = true) :
 Calls Tryz.prog 84 #[.agg #[.slice (some ⟨pb, 0, none⟩) l.length pc, .slice (some ⟨mb, 0, none⟩) l.length l.length, .slice (some ⟨sb, 0, none⟩) l.length l.length], .int .i64 m, .agg (plC come.isSome (stO come)), .iface 125 (.agg #[.slice (some ⟨pb, 0, none⟩) l.length pc, .slice (some ⟨mb, 0, none⟩) l.length l.length, .slice (some ⟨sb, 0, none⟩) l.length l.length])] w fun e w' => e = .returned (.tuple #[.agg (plC false zeroS), .int .i64 (dangR (insAt l m) (stO come))]) /\ Below w.heap.size w w' := by
 have hk := Kn.nil [] w
 have HP := hide hP
 clear hP
 have q1 := mTakes
 have q2 := mDanger
 have q3 := cTakes
 have q4 := cDanger
 go_enter Tryz.func84, Tryz.ntmps84
 go_wp2_with (first | (first | (go_at_call 126; refine (takes_ck _ _ _ _ _ cl _ (by first | exact hm | exact hk2) _ _ _ (hS.of (hk.mod.block _ hS.lt List.not_mem_nil))).mono ?_; rintro e w1 ⟨rfl, hb⟩; replace hk := hk.call hb; clear hb) | (go_at_call 125; refine (danger_ck l hl _ _ _ _ m hm _ _ (HP.out.mod hk.mod List.not_mem_nil m hm)).mono ?_; rintro e w1 ⟨rfl, hb⟩; replace hk := hk.call hb; clear hb) | (go_at_call 97; refine (flow_c _ _ (hl.fit hm) _ _ _ _ hm _ hok.1 hok.2 _ (HP.out.mod hk.mod List.not_mem_nil m hm)).mono ?_; rintro e w1 ⟨rfl, hb⟩; replace hk := hk.call hb; clear hb) | (go_at_call 82; refine (target_any _ _ (hl.fit hm) _ _ _ _ hm _ (HP.out.mod hk.mod List.not_mem_nil m hm)).mono ?_; rintro e w1 ⟨rfl, hb⟩; replace hk := hk.call hb; clear hb)) | ((with_reducible apply gL); (first | (refine wS hk ?_; simp only [pw]; (try rw [hmk]); (try rw [hh])) | (refine wN hk ?_; clear hk; intro w1 hk; simp only [pw]))))
 exact post_c1 rfl (by rfl) (hk.at mm) (rowT_of (by rfl)) (by rfl) (by rfl) rfl ⟨rfl, hk.mod.below⟩
theorem stepDF (l : List I5) (hl : AllFit l) (pb pc mb sb : Nat) (cl : Nat -> Option St) (m : Nat) (hm : m < l.length) (come : Option St) (w : World) (hP : ProgC w pb iVal l) (hM : At w mb (bosA l.length (markB l)) 4) (hS : At w sb (plsA l.length cl) 190) (hmk : markB l m = false) (hh : come.isSome = true) (hok : St.ok (stO come) /\ St.in64 (stO come)) (hd : dangR (insAt l m) (stO come) = 0) (hj : jumpsB (insAt l m) = true) (k : Nat) (hk1 : targI (insAt l m) = k) (hk2 : k < l.length) (hf : liesP (flowFar (insAt l m) (stO come)).isSome (stO (flowFar (insAt l m) (stO come))) (cl k) = false) :
 Calls Tryz.prog 84 #[.agg #[.slice (some ⟨pb, 0, none⟩) l.length pc, .slice (some ⟨mb, 0, none⟩) l.length l.length, .slice (some ⟨sb, 0, none⟩) l.length l.length], .int .i64 m, .agg (plC come.isSome (stO come)), .iface 125 (.agg #[.slice (some ⟨pb, 0, none⟩) l.length pc, .slice (some ⟨mb, 0, none⟩) l.length l.length, .slice (some ⟨sb, 0, none⟩) l.length l.length])] w fun e w' => e = .returned (.tuple #[.agg (plC false zeroS), .int .i64 (5)]) /\ Below w.heap.size w w' := by
 have hk := Kn.nil [] w
 have HP := hide hP
 clear hP
 have q1 := mTakes
 have q2 := mDanger
 have q3 := cTakes
 have q4 := cDanger
 go_enter Tryz.func84, Tryz.ntmps84
 go_wp2_with (first | (first | (go_at_call 126; refine (takes_ck _ _ _ _ _ cl _ (by first | exact hm | exact hk2) _ _ _ (hS.of (hk.mod.block _ hS.lt List.not_mem_nil))).mono ?_; rintro e w1 ⟨rfl, hb⟩; replace hk := hk.call hb; clear hb; (try rw [hf])) | (go_at_call 125; refine (danger_ck l hl _ _ _ _ m hm _ _ (HP.out.mod hk.mod List.not_mem_nil m hm)).mono ?_; rintro e w1 ⟨rfl, hb⟩; replace hk := hk.call hb; clear hb; rw [hd]) | (go_at_call 97; refine (flow_c _ _ (hl.fit hm) _ _ _ _ hm _ hok.1 hok.2 _ (HP.out.mod hk.mod List.not_mem_nil m hm)).mono ?_; rintro e w1 ⟨rfl, hb⟩; replace hk := hk.call hb; clear hb) | (go_at_call 82; refine (target_any _ _ (hl.fit hm) _ _ _ _ hm _ (HP.out.mod hk.mod List.not_mem_nil m hm)).mono ?_; rintro e w1 ⟨rfl, hb⟩; replace hk := hk.call hb; clear hb; rw [hj, hk1])) | ((with_reducible apply gL); (first | (refine wS hk ?_; simp only [pw]; (try rw [hmk]); (try rw [hh])) | (refine wN hk ?_; clear hk; intro w1 hk; simp only [pw]))))
 exact post_c1 rfl (by rfl) (hk.at mm) (rowT_of (by rfl)) (by rfl) (by rfl) rfl ⟨rfl, hk.mod.below⟩
theorem stepEF (l : List I5) (hl : AllFit l) (pb pc mb sb : Nat) (cl : Nat -> Option St) (m : Nat) (hm : m < l.length) (come : Option St) (w : World) (hP : ProgC w pb iVal l) (hM : At w mb (bosA l.length (markB l)) 4) (hS : At w sb (plsA l.length cl) 190) (hmk : markB l m = false) (hh : come.isSome = true) (hok : St.ok (stO come) /\ St.in64 (stO come)) (hd : dangR (insAt l m) (stO come) = 0) (hj : jumpsB (insAt l m) = true) (k : Nat) (hk1 : targI (insAt l m) = k) (hk2 : k < l.length) (hf : liesP (flowFar (insAt l m) (stO come)).isSome (stO (flowFar (insAt l m) (stO come))) (cl k) = true) :
 Calls Tryz.prog 84 #[.agg #[.slice (some ⟨pb, 0, none⟩) l.length pc, .slice (some ⟨mb, 0, none⟩) l.length l.length, .slice (some ⟨sb, 0, none⟩) l.length l.length], .int .i64 m, .agg (plC come.isSome (stO come)), .iface 125 (.agg #[.slice (some ⟨pb, 0, none⟩) l.length pc, .slice (some ⟨mb, 0, none⟩) l.length l.length, .slice (some ⟨sb, 0, none⟩) l.length l.length])] w fun e w' => e = .returned (.tuple #[.agg (plC (flowOn (insAt l m) (stO come)).isSome (stO (flowOn (insAt l m) (stO come)))), .int .i64 (0)]) /\ Below w.heap.size w w' := by
 have hk := Kn.nil [] w
 have HP := hide hP
 clear hP
 have q1 := mTakes
 have q2 := mDanger
 have q3 := cTakes
 have q4 := cDanger
 go_enter Tryz.func84, Tryz.ntmps84
 go_wp2_with (first | (first | (go_at_call 126; refine (takes_ck _ _ _ _ _ cl _ (by first | exact hm | exact hk2) _ _ _ (hS.of (hk.mod.block _ hS.lt List.not_mem_nil))).mono ?_; rintro e w1 ⟨rfl, hb⟩; replace hk := hk.call hb; clear hb; (try rw [hf])) | (go_at_call 125; refine (danger_ck l hl _ _ _ _ m hm _ _ (HP.out.mod hk.mod List.not_mem_nil m hm)).mono ?_; rintro e w1 ⟨rfl, hb⟩; replace hk := hk.call hb; clear hb; rw [hd]) | (go_at_call 97; refine (flow_c _ _ (hl.fit hm) _ _ _ _ hm _ hok.1 hok.2 _ (HP.out.mod hk.mod List.not_mem_nil m hm)).mono ?_; rintro e w1 ⟨rfl, hb⟩; replace hk := hk.call hb; clear hb) | (go_at_call 82; refine (target_any _ _ (hl.fit hm) _ _ _ _ hm _ (HP.out.mod hk.mod List.not_mem_nil m hm)).mono ?_; rintro e w1 ⟨rfl, hb⟩; replace hk := hk.call hb; clear hb; rw [hj, hk1])) | ((with_reducible apply gL); (first | (refine wS hk ?_; simp only [pw]; (try rw [hmk]); (try rw [hh])) | (refine wN hk ?_; clear hk; intro w1 hk; simp only [pw]))))
 exact post_c1 rfl (by rfl) (hk.at mm) (rowT_of (by rfl)) (by rfl) (by rfl) rfl ⟨rfl, hk.mod.below⟩
theorem stepGF (l : List I5) (hl : AllFit l) (pb pc mb sb : Nat) (cl : Nat -> Option St) (m : Nat) (hm : m < l.length) (come : Option St) (w : World) (hP : ProgC w pb iVal l) (hM : At w mb (bosA l.length (markB l)) 4) (_ : At w sb (plsA l.length cl) 190) (hmk : markB l m = false) (hh : come.isSome = true) (hok : St.ok (stO come) /\ St.in64 (stO come)) (hd : dangR (insAt l m) (stO come) = 0) (hj : jumpsB (insAt l m) = false) :
 Calls Tryz.prog 84 #[.agg #[.slice (some ⟨pb, 0, none⟩) l.length pc, .slice (some ⟨mb, 0, none⟩) l.length l.length, .slice (some ⟨sb, 0, none⟩) l.length l.length], .int .i64 m, .agg (plC come.isSome (stO come)), .iface 125 (.agg #[.slice (some ⟨pb, 0, none⟩) l.length pc, .slice (some ⟨mb, 0, none⟩) l.length l.length, .slice (some ⟨sb, 0, none⟩) l.length l.length])] w fun e w' => e = .returned (.tuple #[.agg (plC (flowOn (insAt l m) (stO come)).isSome (stO (flowOn (insAt l m) (stO come)))), .int .i64 (0)]) /\ Below w.heap.size w w' := by
 have hk := Kn.nil [] w
 have HP := hide hP
 clear hP
 have q1 := mTakes
 have q2 := mDanger
 have q3 := cTakes
 have q4 := cDanger
 go_enter Tryz.func84, Tryz.ntmps84
 go_wp2_with (first | (first | (go_at_call 126; refine (takes_ck _ _ _ _ _ cl _ (by first | exact hm | exact hk2) _ _ _ (hS.of (hk.mod.block _ hS.lt List.not_mem_nil))).mono ?_; rintro e w1 ⟨rfl, hb⟩; replace hk := hk.call hb; clear hb) | (go_at_call 125; refine (danger_ck l hl _ _ _ _ m hm _ _ (HP.out.mod hk.mod List.not_mem_nil m hm)).mono ?_; rintro e w1 ⟨rfl, hb⟩; replace hk := hk.call hb; clear hb; rw [hd]) | (go_at_call 97; refine (flow_c _ _ (hl.fit hm) _ _ _ _ hm _ hok.1 hok.2 _ (HP.out.mod hk.mod List.not_mem_nil m hm)).mono ?_; rintro e w1 ⟨rfl, hb⟩; replace hk := hk.call hb; clear hb) | (go_at_call 82; refine (target_any _ _ (hl.fit hm) _ _ _ _ hm _ (HP.out.mod hk.mod List.not_mem_nil m hm)).mono ?_; rintro e w1 ⟨rfl, hb⟩; replace hk := hk.call hb; clear hb; rw [hj])) | ((with_reducible apply gL); (first | (refine wS hk ?_; simp only [pw]; (try rw [hmk]); (try rw [hh])) | (refine wN hk ?_; clear hk; intro w1 hk; simp only [pw]))))
 exact post_c1 rfl (by rfl) (hk.at mm) (rowT_of (by rfl)) (by rfl) (by rfl) rfl ⟨rfl, hk.mod.below⟩
end Go.Proofs.YtamiichlbmllcabGreatDoor
