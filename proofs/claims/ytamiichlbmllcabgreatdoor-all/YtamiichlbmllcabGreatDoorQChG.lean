import Derived.Test.YtamiichlbmllcabGreatDoorQChF
set_option maxRecDepth 100000
set_option maxHeartbeats 32000000
namespace Go.Proofs.YtamiichlbmllcabGreatDoor
open Go.RowKit
theorem post_c1 {P : Program} {fn : Func} {R : Ending -> World -> Prop} {a : Act} {w : World} {s b n s' : Nat} {ty t : TypeId} {A : Array Value} {v : Value} (hf : fn.results = #[.cell s ty, .tmp s']) (hs : a.tmps.getD s undef = .pointer (some ⟨b, 0, none⟩)) (hat : At w b A t) (hT : RowT P ty n) (hn : A.size = n)
 (hs' : a.tmps.getD s' undef = v) (hd : a.defers = []) (hR : R (.returned (.tuple #[.agg A, v])) w) : bodyPost P fn R .ret a w := by
 refine bodyPost_ret (v := .tuple #[.agg A, v]) ?_ hd hR
 rw [Array.getD_eq_getD_getElem?] at hs hs'
 simp [results, hf, hs, hs', asAddr, run_resA hat hT hn]
theorem stepA (l : List I5) (_ : AllFit l) (pb pc mb sb : Nat) (cl : Nat -> Option St) (m : Nat) (hm : m < l.length) (come : Option St) (w : World) (hP : ProgC w pb iVal l) (hM : At w mb (bosA l.length (markB l)) 4) (hS : At w sb (plsA l.length cl) 190) (hmk : markB l m = true) (hL : liesP come.isSome (stO come) (cl m) = false) :
 Calls Tryz.prog 84 #[.agg #[.slice (some ⟨pb, 0, none⟩) l.length pc, .slice (some ⟨mb, 0, none⟩) l.length l.length, .slice (some ⟨sb, 0, none⟩) l.length l.length], .int .i64 m, .agg (plC come.isSome (stO come)), .iface 125 (.agg #[.slice (some ⟨pb, 0, none⟩) l.length pc, .slice (some ⟨mb, 0, none⟩) l.length l.length, .slice (some ⟨sb, 0, none⟩) l.length l.length])] w fun e w' => e = .returned (.tuple #[.agg (plC false zeroS), .int .i64 (5)]) /\ Below w.heap.size w w' := by
 have hk := Kn.nil [] w
 have HP := hide hP
 clear hP
 have q1 := mTakes
 have q2 := mDanger
 have q3 := cTakes
 have q4 := cDanger
 go_enter Tryz.func84, Tryz.ntmps84
 go_wp2_with (first | (first | (go_at_call 126; refine (takes_ck _ _ _ _ _ cl _ (by first | exact hm | exact hk2) _ _ _ (hS.of (hk.mod.block _ hS.lt List.not_mem_nil))).mono ?_; rintro e w1 ⟨rfl, hb⟩; replace hk := hk.call hb; clear hb; (try rw [hL])) | (go_at_call 125; refine (danger_ck l hl _ _ _ _ m hm _ _ (HP.out.mod hk.mod List.not_mem_nil m hm)).mono ?_; rintro e w1 ⟨rfl, hb⟩; replace hk := hk.call hb; clear hb) | (go_at_call 97; refine (flow_c _ _ (hl.fit hm) _ _ _ _ hm _ hok.1 hok.2 _ (HP.out.mod hk.mod List.not_mem_nil m hm)).mono ?_; rintro e w1 ⟨rfl, hb⟩; replace hk := hk.call hb; clear hb) | (go_at_call 82; refine (target_any _ _ (hl.fit hm) _ _ _ _ hm _ (HP.out.mod hk.mod List.not_mem_nil m hm)).mono ?_; rintro e w1 ⟨rfl, hb⟩; replace hk := hk.call hb; clear hb)) | ((with_reducible apply gL); (first | (refine wS hk ?_; simp only [pw]; (try rw [hmk]); (try rw [hL])) | (refine wN hk ?_; clear hk; intro w1 hk; simp only [pw]))))
 exact post_c1 rfl (by rfl) (hk.at mm) (rowT_of (by rfl)) (by rfl) (by rfl) rfl ⟨rfl, hk.mod.below⟩
theorem stepBT (l : List I5) (_ : AllFit l) (pb pc mb sb : Nat) (cl : Nat -> Option St) (m : Nat) (hm : m < l.length) (come : Option St) (w : World) (hP : ProgC w pb iVal l) (hM : At w mb (bosA l.length (markB l)) 4) (hS : At w sb (plsA l.length cl) 190) (hmk : markB l m = true) (hL : liesP come.isSome (stO come) (cl m) = true) (hh : (cl m).isSome = false) :
 Calls Tryz.prog 84 #[.agg #[.slice (some ⟨pb, 0, none⟩) l.length pc, .slice (some ⟨mb, 0, none⟩) l.length l.length, .slice (some ⟨sb, 0, none⟩) l.length l.length], .int .i64 m, .agg (plC come.isSome (stO come)), .iface 125 (.agg #[.slice (some ⟨pb, 0, none⟩) l.length pc, .slice (some ⟨mb, 0, none⟩) l.length l.length, .slice (some ⟨sb, 0, none⟩) l.length l.length])] w fun e w' => e = .returned (.tuple #[.agg (plC false zeroS), .int .i64 (0)]) /\ Below w.heap.size w w' := by
 have hk := Kn.nil [] w
 have HP := hide hP
 clear hP
 have q1 := mTakes
 have q2 := mDanger
 have q3 := cTakes
 have q4 := cDanger
 go_enter Tryz.func84, Tryz.ntmps84
 go_wp2_with (first | (first | (go_at_call 126; refine (takes_ck _ _ _ _ _ cl _ (by first | exact hm | exact hk2) _ _ _ (hS.of (hk.mod.block _ hS.lt List.not_mem_nil))).mono ?_; rintro e w1 ⟨rfl, hb⟩; replace hk := hk.call hb; clear hb; (try rw [hL])) | (go_at_call 125; refine (danger_ck l hl _ _ _ _ m hm _ _ (HP.out.mod hk.mod List.not_mem_nil m hm)).mono ?_; rintro e w1 ⟨rfl, hb⟩; replace hk := hk.call hb; clear hb) | (go_at_call 97; refine (flow_c _ _ (hl.fit hm) _ _ _ _ hm _ hok.1 hok.2 _ (HP.out.mod hk.mod List.not_mem_nil m hm)).mono ?_; rintro e w1 ⟨rfl, hb⟩; replace hk := hk.call hb; clear hb) | (go_at_call 82; refine (target_any _ _ (hl.fit hm) _ _ _ _ hm _ (HP.out.mod hk.mod List.not_mem_nil m hm)).mono ?_; rintro e w1 ⟨rfl, hb⟩; replace hk := hk.call hb; clear hb)) | ((with_reducible apply gL); (first | (refine wS hk ?_; simp only [pw]; (try rw [hmk]); (try rw [hL]); (try rw [hh])) | (refine wN hk ?_; clear hk; intro w1 hk; simp only [pw]))))
 exact post_c1 rfl (by rfl) (hk.at mm) (rowT_of (by rfl)) (by rfl) (by rfl) rfl ⟨rfl, hk.mod.below⟩
theorem stepCT (l : List I5) (hl : AllFit l) (pb pc mb sb : Nat) (cl : Nat -> Option St) (m : Nat) (hm : m < l.length) (come : Option St) (w : World) (hP : ProgC w pb iVal l) (hM : At w mb (bosA l.length (markB l)) 4) (hS : At w sb (plsA l.length cl) 190) (hmk : markB l m = true) (hL : liesP come.isSome (stO come) (cl m) = true) (hh : (cl m).isSome = true) (_ : St.ok (stO (cl m)) /\ St.in64 (stO (cl m))) (hd : (dangR (insAt l m) (stO (cl m)) != 0) = true) :
 Calls Tryz.prog 84 #[.agg #[.slice (some ⟨pb, 0, none⟩) l.length pc, .slice (some ⟨mb, 0, none⟩) l.length l.length, .slice (some ⟨sb, 0, none⟩) l.length l.length], .int .i64 m, .agg (plC come.isSome (stO come)), .iface 125 (.agg #[.slice (some ⟨pb, 0, none⟩) l.length pc, .slice (some ⟨mb, 0, none⟩) l.length l.length, .slice (some ⟨sb, 0, none⟩) l.length l.length])] w fun e w' => e = .returned (.tuple #[.agg (plC false zeroS), .int .i64 (dangR (insAt l m) (stO (cl m)))]) /\ Below w.heap.size w w' := by
 have hk := Kn.nil [] w
 have HP := hide hP
 clear hP
 have q1 := mTakes
 have q2 := mDanger
 have q3 := cTakes
 have q4 := cDanger
 go_enter Tryz.func84, Tryz.ntmps84
 go_wp2_with (first | (first | (go_at_call 126; refine (takes_ck _ _ _ _ _ cl _ (by first | exact hm | exact hk2) _ _ _ (hS.of (hk.mod.block _ hS.lt List.not_mem_nil))).mono ?_; rintro e w1 ⟨rfl, hb⟩; replace hk := hk.call hb; clear hb; (try rw [hL])) | (go_at_call 125; refine (danger_ck l hl _ _ _ _ m hm _ _ (HP.out.mod hk.mod List.not_mem_nil m hm)).mono ?_; rintro e w1 ⟨rfl, hb⟩; replace hk := hk.call hb; clear hb) | (go_at_call 97; refine (flow_c _ _ (hl.fit hm) _ _ _ _ hm _ hok.1 hok.2 _ (HP.out.mod hk.mod List.not_mem_nil m hm)).mono ?_; rintro e w1 ⟨rfl, hb⟩; replace hk := hk.call hb; clear hb) | (go_at_call 82; refine (target_any _ _ (hl.fit hm) _ _ _ _ hm _ (HP.out.mod hk.mod List.not_mem_nil m hm)).mono ?_; rintro e w1 ⟨rfl, hb⟩; replace hk := hk.call hb; clear hb)) | ((with_reducible apply gL); (first | (refine wS hk ?_; simp only [pw]; (try rw [hmk]); (try rw [hL]); (try rw [hh])) | (refine wN hk ?_; clear hk; intro w1 hk; simp only [pw]))))
 exact post_c1 rfl (by rfl) (hk.at mm) (rowT_of (by rfl)) (by rfl) (by rfl) rfl ⟨rfl, hk.mod.below⟩
theorem stepDT (l : List I5) (hl : AllFit l) (pb pc mb sb : Nat) (cl : Nat -> Option St) (m : Nat) (hm : m < l.length) (come : Option St) (w : World) (hP : ProgC w pb iVal l) (hM : At w mb (bosA l.length (markB l)) 4) (hS : At w sb (plsA l.length cl) 190) (hmk : markB l m = true) (hL : liesP come.isSome (stO come) (cl m) = true) (hh : (cl m).isSome = true) (hok : St.ok (stO (cl m)) /\ St.in64 (stO (cl m))) (hd : dangR (insAt l m) (stO (cl m)) = 0) (hj : jumpsB (insAt l m) = true) (k : Nat) (hk1 : targI (insAt l m) = k) (hk2 : k < l.length) (hf : liesP (flowFar (insAt l m) (stO (cl m))).isSome (stO (flowFar (insAt l m) (stO (cl m)))) (cl k) = false) :
 Calls Tryz.prog 84 #[.agg #[.slice (some ⟨pb, 0, none⟩) l.length pc, .slice (some ⟨mb, 0, none⟩) l.length l.length, .slice (some ⟨sb, 0, none⟩) l.length l.length], .int .i64 m, .agg (plC come.isSome (stO come)), .iface 125 (.agg #[.slice (some ⟨pb, 0, none⟩) l.length pc, .slice (some ⟨mb, 0, none⟩) l.length l.length, .slice (some ⟨sb, 0, none⟩) l.length l.length])] w fun e w' => e = .returned (.tuple #[.agg (plC false zeroS), .int .i64 (5)]) /\ Below w.heap.size w w' := by
 have hk := Kn.nil [] w
 have HP := hide hP
 clear hP
 have q1 := mTakes
 have q2 := mDanger
 have q3 := cTakes
 have q4 := cDanger
 go_enter Tryz.func84, Tryz.ntmps84
 go_wp2_with (first | (first | (go_at_call 126; refine (takes_ck _ _ _ _ _ cl _ (by first | exact hm | exact hk2) _ _ _ (hS.of (hk.mod.block _ hS.lt List.not_mem_nil))).mono ?_; rintro e w1 ⟨rfl, hb⟩; replace hk := hk.call hb; clear hb; (try rw [hL]); (try rw [hf])) | (go_at_call 125; refine (danger_ck l hl _ _ _ _ m hm _ _ (HP.out.mod hk.mod List.not_mem_nil m hm)).mono ?_; rintro e w1 ⟨rfl, hb⟩; replace hk := hk.call hb; clear hb; rw [hd]) | (go_at_call 97; refine (flow_c _ _ (hl.fit hm) _ _ _ _ hm _ hok.1 hok.2 _ (HP.out.mod hk.mod List.not_mem_nil m hm)).mono ?_; rintro e w1 ⟨rfl, hb⟩; replace hk := hk.call hb; clear hb) | (go_at_call 82; refine (target_any _ _ (hl.fit hm) _ _ _ _ hm _ (HP.out.mod hk.mod List.not_mem_nil m hm)).mono ?_; rintro e w1 ⟨rfl, hb⟩; replace hk := hk.call hb; clear hb; rw [hj, hk1])) | ((with_reducible apply gL); (first | (refine wS hk ?_; simp only [pw]; (try rw [hmk]); (try rw [hL]); (try rw [hh])) | (refine wN hk ?_; clear hk; intro w1 hk; simp only [pw]))))
 exact post_c1 rfl (by rfl) (hk.at mm) (rowT_of (by rfl)) (by rfl) (by rfl) rfl ⟨rfl, hk.mod.below⟩
theorem stepET (l : List I5) (hl : AllFit l) (pb pc mb sb : Nat) (cl : Nat -> Option St) (m : Nat) (hm : m < l.length) (come : Option St) (w : World) (hP : ProgC w pb iVal l) (hM : At w mb (bosA l.length (markB l)) 4) (hS : At w sb (plsA l.length cl) 190) (hmk : markB l m = true) (hL : liesP come.isSome (stO come) (cl m) = true) (hh : (cl m).isSome = true) (hok : St.ok (stO (cl m)) /\ St.in64 (stO (cl m))) (hd : dangR (insAt l m) (stO (cl m)) = 0) (hj : jumpsB (insAt l m) = true) (k : Nat) (hk1 : targI (insAt l m) = k) (hk2 : k < l.length) (hf : liesP (flowFar (insAt l m) (stO (cl m))).isSome (stO (flowFar (insAt l m) (stO (cl m)))) (cl k) = true) :
 Calls Tryz.prog 84 #[.agg #[.slice (some ⟨pb, 0, none⟩) l.length pc, .slice (some ⟨mb, 0, none⟩) l.length l.length, .slice (some ⟨sb, 0, none⟩) l.length l.length], .int .i64 m, .agg (plC come.isSome (stO come)), .iface 125 (.agg #[.slice (some ⟨pb, 0, none⟩) l.length pc, .slice (some ⟨mb, 0, none⟩) l.length l.length, .slice (some ⟨sb, 0, none⟩) l.length l.length])] w fun e w' => e = .returned (.tuple #[.agg (plC (flowOn (insAt l m) (stO (cl m))).isSome (stO (flowOn (insAt l m) (stO (cl m))))), .int .i64 (0)]) /\ Below w.heap.size w w' := by
 have hk := Kn.nil [] w
 have HP := hide hP
 clear hP
 have q1 := mTakes
 have q2 := mDanger
 have q3 := cTakes
 have q4 := cDanger
 go_enter Tryz.func84, Tryz.ntmps84
 go_wp2_with (first | (first | (go_at_call 126; refine (takes_ck _ _ _ _ _ cl _ (by first | exact hm | exact hk2) _ _ _ (hS.of (hk.mod.block _ hS.lt List.not_mem_nil))).mono ?_; rintro e w1 ⟨rfl, hb⟩; replace hk := hk.call hb; clear hb; (try rw [hL]); (try rw [hf])) | (go_at_call 125; refine (danger_ck l hl _ _ _ _ m hm _ _ (HP.out.mod hk.mod List.not_mem_nil m hm)).mono ?_; rintro e w1 ⟨rfl, hb⟩; replace hk := hk.call hb; clear hb; rw [hd]) | (go_at_call 97; refine (flow_c _ _ (hl.fit hm) _ _ _ _ hm _ hok.1 hok.2 _ (HP.out.mod hk.mod List.not_mem_nil m hm)).mono ?_; rintro e w1 ⟨rfl, hb⟩; replace hk := hk.call hb; clear hb) | (go_at_call 82; refine (target_any _ _ (hl.fit hm) _ _ _ _ hm _ (HP.out.mod hk.mod List.not_mem_nil m hm)).mono ?_; rintro e w1 ⟨rfl, hb⟩; replace hk := hk.call hb; clear hb; rw [hj, hk1])) | ((with_reducible apply gL); (first | (refine wS hk ?_; simp only [pw]; (try rw [hmk]); (try rw [hL]); (try rw [hh])) | (refine wN hk ?_; clear hk; intro w1 hk; simp only [pw]))))
 exact post_c1 rfl (by rfl) (hk.at mm) (rowT_of (by rfl)) (by rfl) (by rfl) rfl ⟨rfl, hk.mod.below⟩
theorem stepGT (l : List I5) (hl : AllFit l) (pb pc mb sb : Nat) (cl : Nat -> Option St) (m : Nat) (hm : m < l.length) (come : Option St) (w : World) (hP : ProgC w pb iVal l) (hM : At w mb (bosA l.length (markB l)) 4) (hS : At w sb (plsA l.length cl) 190) (hmk : markB l m = true) (hL : liesP come.isSome (stO come) (cl m) = true) (hh : (cl m).isSome = true) (hok : St.ok (stO (cl m)) /\ St.in64 (stO (cl m))) (hd : dangR (insAt l m) (stO (cl m)) = 0) (hj : jumpsB (insAt l m) = false) :
 Calls Tryz.prog 84 #[.agg #[.slice (some ⟨pb, 0, none⟩) l.length pc, .slice (some ⟨mb, 0, none⟩) l.length l.length, .slice (some ⟨sb, 0, none⟩) l.length l.length], .int .i64 m, .agg (plC come.isSome (stO come)), .iface 125 (.agg #[.slice (some ⟨pb, 0, none⟩) l.length pc, .slice (some ⟨mb, 0, none⟩) l.length l.length, .slice (some ⟨sb, 0, none⟩) l.length l.length])] w fun e w' => e = .returned (.tuple #[.agg (plC (flowOn (insAt l m) (stO (cl m))).isSome (stO (flowOn (insAt l m) (stO (cl m))))), .int .i64 (0)]) /\ Below w.heap.size w w' := by
 have hk := Kn.nil [] w
 have HP := hide hP
 clear hP
 have q1 := mTakes
 have q2 := mDanger
 have q3 := cTakes
 have q4 := cDanger
 go_enter Tryz.func84, Tryz.ntmps84
 go_wp2_with (first | (first | (go_at_call 126; refine (takes_ck _ _ _ _ _ cl _ (by first | exact hm | exact hk2) _ _ _ (hS.of (hk.mod.block _ hS.lt List.not_mem_nil))).mono ?_; rintro e w1 ⟨rfl, hb⟩; replace hk := hk.call hb; clear hb; (try rw [hL])) | (go_at_call 125; refine (danger_ck l hl _ _ _ _ m hm _ _ (HP.out.mod hk.mod List.not_mem_nil m hm)).mono ?_; rintro e w1 ⟨rfl, hb⟩; replace hk := hk.call hb; clear hb; rw [hd]) | (go_at_call 97; refine (flow_c _ _ (hl.fit hm) _ _ _ _ hm _ hok.1 hok.2 _ (HP.out.mod hk.mod List.not_mem_nil m hm)).mono ?_; rintro e w1 ⟨rfl, hb⟩; replace hk := hk.call hb; clear hb) | (go_at_call 82; refine (target_any _ _ (hl.fit hm) _ _ _ _ hm _ (HP.out.mod hk.mod List.not_mem_nil m hm)).mono ?_; rintro e w1 ⟨rfl, hb⟩; replace hk := hk.call hb; clear hb; rw [hj])) | ((with_reducible apply gL); (first | (refine wS hk ?_; simp only [pw]; (try rw [hmk]); (try rw [hL]); (try rw [hh])) | (refine wN hk ?_; clear hk; intro w1 hk; simp only [pw]))))
 exact post_c1 rfl (by rfl) (hk.at mm) (rowT_of (by rfl)) (by rfl) (by rfl) rfl ⟨rfl, hk.mod.below⟩
theorem stepBF (l : List I5) (_ : AllFit l) (pb pc mb sb : Nat) (cl : Nat -> Option St) (m : Nat) (hm : m < l.length) (come : Option St) (w : World) (hP : ProgC w pb iVal l) (hM : At w mb (bosA l.length (markB l)) 4) (_ : At w sb (plsA l.length cl) 190) (hmk : markB l m = false) (hh : come.isSome = false) :
 Calls Tryz.prog 84 #[.agg #[.slice (some ⟨pb, 0, none⟩) l.length pc, .slice (some ⟨mb, 0, none⟩) l.length l.length, .slice (some ⟨sb, 0, none⟩) l.length l.length], .int .i64 m, .agg (plC come.isSome (stO come)), .iface 125 (.agg #[.slice (some ⟨pb, 0, none⟩) l.length pc, .slice (some ⟨mb, 0, none⟩) l.length l.length, .slice (some ⟨sb, 0, none⟩) l.length l.length])] w fun e w' => e = .returned (.tuple #[.agg (plC false zeroS), .int .i64 (0)]) /\ Below w.heap.size w w' := by
 have hk := Kn.nil [] w
 have HP := hide hP
 clear hP
 have q1 := mTakes
 have q2 := mDanger
 have q3 := cTakes
 have q4 := cDanger
 go_enter Tryz.func84, Tryz.ntmps84
 go_wp2_with (first | (first | (go_at_call 126; refine (takes_ck _ _ _ _ _ cl _ (by first | exact hm | exact hk2) _ _ _ (hS.of (hk.mod.block _ hS.lt List.not_mem_nil))).mono ?_; rintro e w1 ⟨rfl, hb⟩; replace hk := hk.call hb; clear hb) | (go_at_call 125; refine (danger_ck l hl _ _ _ _ m hm _ _ (HP.out.mod hk.mod List.not_mem_nil m hm)).mono ?_; rintro e w1 ⟨rfl, hb⟩; replace hk := hk.call hb; clear hb) | (go_at_call 97; refine (flow_c _ _ (hl.fit hm) _ _ _ _ hm _ hok.1 hok.2 _ (HP.out.mod hk.mod List.not_mem_nil m hm)).mono ?_; rintro e w1 ⟨rfl, hb⟩; replace hk := hk.call hb; clear hb) | (go_at_call 82; refine (target_any _ _ (hl.fit hm) _ _ _ _ hm _ (HP.out.mod hk.mod List.not_mem_nil m hm)).mono ?_; rintro e w1 ⟨rfl, hb⟩; replace hk := hk.call hb; clear hb)) | ((with_reducible apply gL); (first | (refine wS hk ?_; simp only [pw]; (try rw [hmk]); (try rw [hh])) | (refine wN hk ?_; clear hk; intro w1 hk; simp only [pw]))))
 exact post_c1 rfl (by rfl) (hk.at mm) (rowT_of (by rfl)) (by rfl) (by rfl) rfl ⟨rfl, hk.mod.below⟩
end Go.Proofs.YtamiichlbmllcabGreatDoor
