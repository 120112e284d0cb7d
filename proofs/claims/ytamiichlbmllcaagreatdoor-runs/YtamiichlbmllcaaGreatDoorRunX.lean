/-
  The contract of surety.Run, for every program.
-/
import Derived.Test.YtamiichlbmllcaaGreatDoorRunW
import Derived.Test.YtamiichlbmllcaaGreatDoorMath
import Derived.Test.YtamiichlbmllcaaGreatDoorArm
namespace Go.Proofs.YtamiichlbmllcaaGreatDoor
open Go.RowKit
theorem right_all {l : List I5} (h : rightR l = (0, 0)) : AllFit l := by
  unfold rightR at h
  by_cases hl : l.length = 0 ∨ 64 < l.length
  · rw [if_pos hl] at h; simp at h
  · rw [if_neg hl] at h
    refine ⟨by omega, by omega, fun i hi => ?_⟩
    cases hb : badFrom l l.length with
    | some j => rw [hb] at h; simp at h
    | none =>
      unfold badFrom at hb
      rw [List.findIdx?_eq_none_iff] at hb
      have := hb l[i] (List.getElem_mem hi)
      simpa using this
def runOE (l : List I5) (r : Nat → Int) (f : Int) : O4 := if rightR l = (0, 0) then runO l r f else O4.zero
def runVE (l : List I5) (r : Nat → Int) (f : Int) : List V9 := if rightR l = (0, 0) then runV l r f else []
theorem wp_regD {P : Program} {id : Nat} {l : List Oper} {Q : Exit → Act → World → Prop} {a : Act} {w : World} {M : List Nat} {w0 : World} {r0 : Nat × Array Value × TypeId} {L : RowL} (hk : Kn M w0 w (r0 :: L)) (t : OT) (F : Nat → Bool) (hm : P.follows .mixedOrders = true) (hn : t.size ≤ l.length) (hsel : Region.noSelect l.toArray = true)
    (hv : okT l.toArray F t (Array.replicate l.length false) = true) (h : ∀ w1, Kn M w0 w1 (r0 :: L) → wpT P l Q F (fun wx => Kn M w0 wx L) t a w1) : (Code.region id l.toArray true).wp P Q a w := wp_regS hk _ t F hm hn hsel hv h
theorem build_out0 (w : World) : (Instr.build 53 [].toArray).run Tryz.prog w = .ok (.agg #[.int .i64 0, .int .i64 0, .int .i64 0, .int .i64 0]) w := run_build w _ _ _ (by kernel_rfl)
theorem post_c1r {P : Program} {fn : Func} {R : Ending → World → Prop} {a : Act} {w : World} {s b n s' : Nat} {ty t : TypeId} {A : Array Value} {v : Value} (hf : fn.results = #[.cell s ty, .tmp s']) (hs : a.tmps.getD s undef = .pointer (some ⟨b, 0, none⟩)) (hat : At w b A t) (hT : RowT P ty n) (hn : A.size = n)
    (hs' : a.tmps.getD s' undef = v) (hd : a.defers = []) (hR : R (.returned (.tuple #[.agg A, v])) w) : bodyPost P fn R .ret a w := by
  refine bodyPost_ret (v := .tuple #[.agg A, v]) ?_ hd hR
  rw [Array.getD_eq_getD_getElem?] at hs hs'
  simp [results, hf, hs, hs', asAddr, run_resA hat hT hn]
theorem progOf_at (l : List I5) (v : Value) (w : World) (h : Slc w v l) (hl : 0 < l.length) (hl2 : l.length ≤ 64) : Calls Tryz.prog 43 #[v] w fun e w' => ∃ pb cap, e = .returned (.slice (some ⟨pb, 0, none⟩) l.length cap) ∧ ProgAt w' pb iVal l ∧ w.heap.size ≤ pb ∧ Below w.heap.size w w' := by
  refine (progOf_any l v w h hl hl2).mono ?_
  rintro e w' ⟨pv, rfl, ho, hb⟩
  obtain ⟨pb, cap, rfl, h1, h2⟩ := own_shape ho hl
  exact ⟨pb, cap, rfl, ⟨h2, fun pc hpc => ho.cell pc hpc⟩, h1, hb⟩
set_option maxHeartbeats 1000000 in
set_option maxRecDepth 100000 in
theorem Run_any (l : List I5) (v : Value) (r : Nat → Int) (f : Int) (w : World) (hs : Shapes w) (h : Slc w v l) :
    Calls Tryz.prog 23 #[v, regsV r, .int .i64 f] w fun e w' => e = .returned (.tuple #[(runOE l r f).val, .int .i64 (rightR l).1]) ∧ Below w.heap.size w w' := by
  have hk := Kn.nil [] w
  have HS := hide hs
  have HV := hide h
  clear hs h
  have hbo := build_out0
  rcases rightR_or l with hr | hr
  · have e1 : runOE l r f = runO l r f := by unfold runOE; rw [if_pos hr]
    rw [e1]
    have HAF := hide (right_all hr)
    have e2 : (rightR l).1 = 0 := by rw [hr]
    rw [e2]
    clear e1
    unfold regsV O4.val
    go_enter Tryz.func23, Tryz.ntmps23
    go_wp2_with (first | (go_at_call 41; refine (codeRight_any l v _ (HS.out.below hk.mod.below HS.out.1) (HV.out.below hk.mod.below (Nat.le_refl _))).mono ?_; rintro e w1 ⟨rfl, hb⟩; replace hk := hk.call hb; clear hb; rw [hr]) | ((with_reducible show wpList _ _ _ _ _ _); (first | ((with_reducible show wpList _ _ _ (⟨_, _, _, _, _, some _⟩ :: _) _ _); refine wpList_skip (by rfl) ?_; simp only [Act.put, List.setIfInBounds_toArray, List.set_cons_succ, List.set_cons_zero]) | ((first | refine wBuild hk ?_ | refine wFieldZ hk ?_ | refine wField0 hk ?_ | refine wField hk ?_ | refine wIndexA0 hk ?_ | refine wIndexS0 hk ?_ | refine wIndexA hk ?_ | refine wIndexS hk ?_ | refine wLoadR hk ?_ | refine wLoad1 hk ?_ | refine wOldR hk ?_ | refine wOld1 hk ?_ | refine wOldC hk ?_ | refine wOldG hk ?_ | refine wAssertY hk ?_ | refine wAssertN hk ?_); simp only [Act.put, List.setIfInBounds_toArray, List.set_cons_succ, List.set_cons_zero]) | ((first | refine wBox hk ?_ | refine wBox1I hk ?_ | refine wBox1B hk ?_ | refine wBox1S hk ?_ | refine wBox1P hk ?_ | refine wBox1F hk ?_ | refine wAllocR hk ?_ | refine wAlloc1 hk ?_ | refine wMake hk ?_); clear hk; intro w1 hk; simp only [Act.put, List.setIfInBounds_toArray, List.set_cons_succ, List.set_cons_zero]) | ((first | refine wStoreR hk ?_ | refine wStore1I hk ?_ | refine wStore1B hk ?_ | refine wStore1S hk ?_ | refine wStore1P hk ?_ | refine wStore1F hk ?_); clear hk; intro w1 hk; simp only [Act.put]))))
    refine wp_regD hk (.op 0 (.op 2 (.op 3 (.op 1 (.op 4 (.op 5 (.op 6 .nil))))))) (fun i => decide (i < 5)) mixT (by decide) (by kernel_rfl) (by kernel_rfl) ?_
    clear hk
    intro w1 hk
    (repeat ((first | refine sMove hk.drop ?_ | refine sAssign hk.drop ?_ | refine sExtract hk.drop ?_ | refine sFieldZ hk.drop ?_ | refine sField0 hk.drop ?_ | refine sField hk.drop ?_ | refine sIndexA0 hk.drop ?_ | refine sIndexS0 hk.drop ?_ | refine sIndexA hk.drop ?_ | refine sIndexS hk.drop ?_ | refine sLoadR hk.drop ?_ | refine sLoad1 hk.drop ?_ | refine sOldR hk.drop ?_ | refine sOld1 hk.drop ?_ | refine sOldC hk.drop ?_ | refine sOldG hk.drop ?_ | refine sBuild hk.drop ?_ | refine sPickT hk.drop ?_ | refine sPickF hk.drop ?_ | refine sSkip hk.drop ?_ | refine sSkipA hk.drop ?_); simp only [Act.put, List.setIfInBounds_toArray, List.set_cons_succ, List.set_cons_zero]))
    (refine sCall ?_; intro K hK; go_step; refine (progOf_at l v _ (HV.out.below hk.mod.below (Nat.le_refl _)) HAF.out.1 HAF.out.2.1).mono ?_; rintro e w1 ⟨pb, cap, rfl, hp, hpb, hb⟩; replace hk := hk.call hb; clear hb; refine hK _ _ (fun _ => hk.drop) ?_; clear hK K)
    (refine sCall ?_; intro K hK; go_step; refine (runM_any l (runner_plain HAF.out) pb cap r trivial f _ hp).mono ?_; rintro e w1 ⟨rfl, hb⟩; replace hk := hk.call hb; clear hb; refine hK _ _ (fun _ => hk.drop) ?_; clear hK K)
    unfold O4.val
    (refine sStore hk ?_; clear hk; intro w1 hk; refine ⟨fun h => absurd h (by decide), ?_⟩; simp only [Act.put])
    (repeat ((first | refine sMove hk.drop ?_ | refine sAssign hk.drop ?_ | refine sExtract hk.drop ?_ | refine sFieldZ hk.drop ?_ | refine sField0 hk.drop ?_ | refine sField hk.drop ?_ | refine sIndexA0 hk.drop ?_ | refine sIndexS0 hk.drop ?_ | refine sIndexA hk.drop ?_ | refine sIndexS hk.drop ?_ | refine sLoadR hk.drop ?_ | refine sLoad1 hk.drop ?_ | refine sOldR hk.drop ?_ | refine sOld1 hk.drop ?_ | refine sOldC hk.drop ?_ | refine sOldG hk.drop ?_ | refine sBuild hk.drop ?_ | refine sPickT hk.drop ?_ | refine sPickF hk.drop ?_ | refine sSkip hk.drop ?_ | refine sSkipA hk.drop ?_); simp only [Act.put, List.setIfInBounds_toArray, List.set_cons_succ, List.set_cons_zero]))
    refine tNil ?_
    go_wp2_with (first | ((with_reducible show wpList _ _ _ _ _ _); (first | ((with_reducible show wpList _ _ _ (⟨_, _, _, _, _, some _⟩ :: _) _ _); refine wpList_skip (by rfl) ?_; simp only [Act.put, List.setIfInBounds_toArray, List.set_cons_succ, List.set_cons_zero]) | ((first | refine wBuild hk ?_ | refine wFieldZ hk ?_ | refine wField0 hk ?_ | refine wField hk ?_ | refine wIndexA0 hk ?_ | refine wIndexS0 hk ?_ | refine wIndexA hk ?_ | refine wIndexS hk ?_ | refine wLoadR hk ?_ | refine wLoad1 hk ?_ | refine wOldR hk ?_ | refine wOld1 hk ?_ | refine wOldC hk ?_ | refine wOldG hk ?_ | refine wAssertY hk ?_ | refine wAssertN hk ?_); simp only [Act.put, List.setIfInBounds_toArray, List.set_cons_succ, List.set_cons_zero]) | ((first | refine wBox hk ?_ | refine wBox1I hk ?_ | refine wBox1B hk ?_ | refine wBox1S hk ?_ | refine wBox1P hk ?_ | refine wBox1F hk ?_ | refine wAllocR hk ?_ | refine wAlloc1 hk ?_ | refine wMake hk ?_); clear hk; intro w1 hk; simp only [Act.put, List.setIfInBounds_toArray, List.set_cons_succ, List.set_cons_zero]) | ((first | refine wStoreR hk ?_ | refine wStore1I hk ?_ | refine wStore1B hk ?_ | refine wStore1S hk ?_ | refine wStore1P hk ?_ | refine wStore1F hk ?_); clear hk; intro w1 hk; simp only [Act.put]))))
    exact post_c1r rfl (by rfl) (hk.at (by with_reducible repeat (first | exact List.mem_cons_self | apply List.mem_cons_of_mem))) (rowT_of (by rfl)) (by rfl) (by rfl) rfl ⟨rfl, hk.mod.below⟩
  · have e1 : runOE l r f = O4.zero := by unfold runOE; rw [if_neg (by intro h; rw [h] at hr; simp at hr)]
    rw [e1, hr]
    clear e1
    unfold regsV O4.val O4.zero
    go_enter Tryz.func23, Tryz.ntmps23
    go_wp2_with (first | (first | (go_at_call 41; refine (codeRight_any l v _ (HS.out.below hk.mod.below HS.out.1) (HV.out.below hk.mod.below (Nat.le_refl _))).mono ?_; rintro e w1 ⟨rfl, hb⟩; replace hk := hk.call hb; clear hb; rw [hr]) | ((with_reducible show wpList _ _ _ (⟨_, .build _ _, _, _, _, _⟩ :: _) _ _); refine wl1 (by rfl) (oBuild (by rfl) (hbo _) ?_); simp only [Act.put, List.setIfInBounds_toArray, List.set_cons_succ, List.set_cons_zero])) | ((with_reducible show wpList _ _ _ _ _ _); (first | ((with_reducible show wpList _ _ _ (⟨_, _, _, _, _, some _⟩ :: _) _ _); refine wpList_skip (by rfl) ?_; simp only [Act.put, List.setIfInBounds_toArray, List.set_cons_succ, List.set_cons_zero]) | ((first | refine wBuild hk ?_ | refine wFieldZ hk ?_ | refine wField0 hk ?_ | refine wField hk ?_ | refine wIndexA0 hk ?_ | refine wIndexS0 hk ?_ | refine wIndexA hk ?_ | refine wIndexS hk ?_ | refine wLoadR hk ?_ | refine wLoad1 hk ?_ | refine wOldR hk ?_ | refine wOld1 hk ?_ | refine wOldC hk ?_ | refine wOldG hk ?_ | refine wAssertY hk ?_ | refine wAssertN hk ?_); simp only [Act.put, List.setIfInBounds_toArray, List.set_cons_succ, List.set_cons_zero]) | ((first | refine wBox hk ?_ | refine wBox1I hk ?_ | refine wBox1B hk ?_ | refine wBox1S hk ?_ | refine wBox1P hk ?_ | refine wBox1F hk ?_ | refine wAllocR hk ?_ | refine wAlloc1 hk ?_ | refine wMake hk ?_); clear hk; intro w1 hk; simp only [Act.put, List.setIfInBounds_toArray, List.set_cons_succ, List.set_cons_zero]) | ((first | refine wStoreR hk ?_ | refine wStore1I hk ?_ | refine wStore1B hk ?_ | refine wStore1S hk ?_ | refine wStore1P hk ?_ | refine wStore1F hk ?_); clear hk; intro w1 hk; simp only [Act.put]))))
    exact post_c1r rfl (by rfl) (hk.at (by with_reducible repeat (first | exact List.mem_cons_self | apply List.mem_cons_of_mem))) (rowT_of (by rfl)) (by rfl) (by rfl) rfl ⟨rfl, hk.mod.below⟩
end Go.Proofs.YtamiichlbmllcaaGreatDoor
