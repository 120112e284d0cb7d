/-
  ranges.AreIn, surety.Compile and (*surety.Thread).Run.
-/
import Derived.Test.YtamiichlbmllcaaGreatDoorQRunX
namespace Go.Proofs.YtamiichlbmllcaaGreatDoor
open Go.RowKit
def areR (r : Nat → Int) (s : St) : Bool := (List.range 8).all fun j => hasR (s j) (r j)
theorem areR_no {r : Nat → Int} {s : St} {n : Nat} (hn : n < 8) (h : hasR (s n) (r n) = false) : areR r s = false := by
  rw [Bool.eq_false_iff]
  intro h2
  have := List.all_eq_true.1 h2 n (List.mem_range.2 hn)
  rw [h] at this
  cases this
theorem areR_yes {r : Nat → Int} {s : St} (h : ∀ n, n < 8 → hasR (s n) (r n) = true) : areR r s = true := List.all_eq_true.2 fun n hn => h n (List.mem_range.1 hn)
set_option maxHeartbeats 2000000 in
set_option maxRecDepth 100000 in
theorem areIn_any (r : Nat → Int) (s : St) (w : World) : Calls Tryz.prog 49 #[.agg (rgsC r), .agg (stC s)] w fun e w' => e = .returned (.bool (areR r s)) ∧ Below w.heap.size w w' := by
  have hk := Kn.nil [] w
  have HI := hide (idx_st s)
  go_enter Tryz.func49, Tryz.ntmps49
  go_wp2_with (first | ((with_reducible show wpList _ _ _ (⟨some 2, _, _, _, _, _⟩ :: _) _ _); refine wBox hk ?_; clear hk; intro wa hk; simp only [Act.put, List.setIfInBounds_toArray, List.set_cons_succ, List.set_cons_zero]) | ((with_reducible show wpList _ _ _ _ _ _); (first | ((with_reducible show wpList _ _ _ (⟨_, _, _, _, _, some _⟩ :: _) _ _); refine wpList_skip (by rfl) ?_; simp only [Act.put, List.setIfInBounds_toArray, List.set_cons_succ, List.set_cons_zero]) | ((first | refine wBuild hk ?_ | refine wFieldZ hk ?_ | refine wField0 hk ?_ | refine wField hk ?_ | refine wIndexA0 hk ?_ | refine wIndexS0 hk ?_ | refine wIndexA hk ?_ | refine wIndexS hk ?_ | refine wLoadR hk ?_ | refine wLoad1 hk ?_ | refine wOldR hk ?_ | refine wOld1 hk ?_ | refine wOldC hk ?_ | refine wOldG hk ?_ | refine wAssertY hk ?_ | refine wAssertN hk ?_); simp only [Act.put, List.setIfInBounds_toArray, List.set_cons_succ, List.set_cons_zero]) | ((first | refine wBox hk ?_ | refine wBox1I hk ?_ | refine wBox1B hk ?_ | refine wBox1S hk ?_ | refine wBox1P hk ?_ | refine wBox1F hk ?_ | refine wAllocR hk ?_ | refine wAlloc1 hk ?_ | refine wMake hk ?_); clear hk; intro w1 hk; simp only [Act.put, List.setIfInBounds_toArray, List.set_cons_succ, List.set_cons_zero]) | ((first | refine wStoreR hk ?_ | refine wStore1I hk ?_ | refine wStore1B hk ?_ | refine wStore1S hk ?_ | refine wStore1P hk ?_ | refine wStore1F hk ?_); clear hk; intro w1 hk; simp only [Act.put]))))
  go_loopw [8] (fun j wr => ∃ n : Nat, n ≤ 8 ∧ j = .int .i64 n ∧ (∀ i, i < n → hasR (s i) (r i) = true) ∧ Kn [] w wr [(wa.heap.size, stC s, 30), (w.heap.size, rgsC r, 42)]) (fun j _ => 8 - (intOf j).toNat)
  case atStart => exact ⟨0, by omega, rfl, fun i hi => by omega, hk⟩
  case round =>
    clear hk
    obtain ⟨n, hn, rfl, hall, hk⟩ := hrel
    have HA := hide hall
    clear hall
    by_cases hlt : n < 8
    · have hx : ∀ w, (Instr.index 30 (.agg (stC s)) (.int .i64 n)).run Tryz.prog w = .ok (.agg (rgC (s n))) w := HI.out n hlt
      cases hh : hasR (s n) (r n) with
      | false =>
        have HE : Hid (areR r s = false) := hide (areR_no hlt hh)
        have HH := hide hh
        clear hh
        go_wp2_with (first | ((with_reducible show wpList _ _ _ _ _ _); (first | ((with_reducible show wpList _ _ _ (⟨_, _, _, _, _, some _⟩ :: _) _ _); refine wpList_skip (by rfl) ?_; simp only [Act.put, List.setIfInBounds_toArray, List.set_cons_succ, List.set_cons_zero]) | ((first | refine wBuild hk ?_ | refine wFieldZ hk ?_ | refine wField0 hk ?_ | refine wField hk ?_ | refine wIndexA0 hk ?_ | refine wIndexS0 hk ?_ | refine wIndexA hk ?_ | refine wIndexS hk ?_ | refine wLoadR hk ?_ | refine wLoad1 hk ?_ | refine wOldR hk ?_ | refine wOld1 hk ?_ | refine wOldC hk ?_ | refine wOldG hk ?_ | refine wAssertY hk ?_ | refine wAssertN hk ?_); simp only [Act.put, List.setIfInBounds_toArray, List.set_cons_succ, List.set_cons_zero]) | ((first | refine wBox hk ?_ | refine wBox1I hk ?_ | refine wBox1B hk ?_ | refine wBox1S hk ?_ | refine wBox1P hk ?_ | refine wBox1F hk ?_ | refine wAllocR hk ?_ | refine wAlloc1 hk ?_ | refine wMake hk ?_); clear hk; intro w1 hk; simp only [Act.put, List.setIfInBounds_toArray, List.set_cons_succ, List.set_cons_zero]) | ((first | refine wStoreR hk ?_ | refine wStore1I hk ?_ | refine wStore1B hk ?_ | refine wStore1S hk ?_ | refine wStore1P hk ?_ | refine wStore1F hk ?_); clear hk; intro w1 hk; simp only [Act.put]))))
        (refine wp_regK hk (.op 0 (.op 1 (.op 2 (.op 3 (.op 4 (.op 5 .nil)))))) (fun i => decide (i < 6)) mixT (by decide) (by kernel_rfl) (by kernel_rfl) ?_; clear hk; intro w1 hk)
        (repeat ((first | refine vMoveI hk ?_ | refine vMoveB hk ?_ | refine vAssignI hk ?_ | refine vAssignB hk ?_ | refine sMove hk ?_ | refine sAssign hk ?_ | refine sExtract hk ?_ | refine sFieldZ hk ?_ | refine sField0 hk ?_ | refine sField hk ?_ | refine sIndexA0 hk ?_ | refine sIndexS0 hk ?_ | refine sIndexA hk ?_ | refine sIndexS hk ?_ | refine sLoadR hk ?_ | refine sLoad1 hk ?_ | refine sOldR hk ?_ | refine sOld1 hk ?_ | refine sOldC hk ?_ | refine sOldG hk ?_ | refine sBuild hk ?_ | refine sPickT hk ?_ | refine sPickF hk ?_ | refine sLss hk ?_ | refine sLeq hk ?_ | refine sGtr hk ?_ | refine sGeq hk ?_ | refine sEql hk ?_ | refine sNot hk ?_ | refine sSkip hk ?_ | refine sSkipA hk ?_); simp only [Act.put, List.setIfInBounds_toArray, List.set_cons_succ, List.set_cons_zero]))
        (refine sCall ?_; intro K hK; go_step; go_at_call 75; refine (has_c _ _ _).mono ?_; rintro e w1 ⟨rfl, hb⟩; replace hk := hk.call hb; clear hb; refine hK _ _ (fun _ => by first | exact hk | exact hk.drop | exact hk.drop.drop | exact hk.mid | exact hk.pick13 | exact hk.pick4) ?_; clear hK K)
        rw [HH.out]
        (repeat ((first | refine vMoveI hk ?_ | refine vMoveB hk ?_ | refine vAssignI hk ?_ | refine vAssignB hk ?_ | refine sMove hk ?_ | refine sAssign hk ?_ | refine sExtract hk ?_ | refine sFieldZ hk ?_ | refine sField0 hk ?_ | refine sField hk ?_ | refine sIndexA0 hk ?_ | refine sIndexS0 hk ?_ | refine sIndexA hk ?_ | refine sIndexS hk ?_ | refine sLoadR hk ?_ | refine sLoad1 hk ?_ | refine sOldR hk ?_ | refine sOld1 hk ?_ | refine sOldC hk ?_ | refine sOldG hk ?_ | refine sBuild hk ?_ | refine sPickT hk ?_ | refine sPickF hk ?_ | refine sLss hk ?_ | refine sLeq hk ?_ | refine sGtr hk ?_ | refine sGeq hk ?_ | refine sEql hk ?_ | refine sNot hk ?_ | refine sSkip hk ?_ | refine sSkipA hk ?_); simp only [Act.put, List.setIfInBounds_toArray, List.set_cons_succ, List.set_cons_zero]))
        refine tNil ?_
        go_wp2_with (first | ((with_reducible show wpList _ _ _ _ _ _); (first | ((with_reducible show wpList _ _ _ (⟨_, _, _, _, _, some _⟩ :: _) _ _); refine wpList_skip (by rfl) ?_; simp only [Act.put, List.setIfInBounds_toArray, List.set_cons_succ, List.set_cons_zero]) | ((first | refine wBuild hk ?_ | refine wFieldZ hk ?_ | refine wField0 hk ?_ | refine wField hk ?_ | refine wIndexA0 hk ?_ | refine wIndexS0 hk ?_ | refine wIndexA hk ?_ | refine wIndexS hk ?_ | refine wLoadR hk ?_ | refine wLoad1 hk ?_ | refine wOldR hk ?_ | refine wOld1 hk ?_ | refine wOldC hk ?_ | refine wOldG hk ?_ | refine wAssertY hk ?_ | refine wAssertN hk ?_); simp only [Act.put, List.setIfInBounds_toArray, List.set_cons_succ, List.set_cons_zero]) | ((first | refine wBox hk ?_ | refine wBox1I hk ?_ | refine wBox1B hk ?_ | refine wBox1S hk ?_ | refine wBox1P hk ?_ | refine wBox1F hk ?_ | refine wAllocR hk ?_ | refine wAlloc1 hk ?_ | refine wMake hk ?_); clear hk; intro w1 hk; simp only [Act.put, List.setIfInBounds_toArray, List.set_cons_succ, List.set_cons_zero]) | ((first | refine wStoreR hk ?_ | refine wStore1I hk ?_ | refine wStore1B hk ?_ | refine wStore1S hk ?_ | refine wStore1P hk ?_ | refine wStore1F hk ?_); clear hk; intro w1 hk; simp only [Act.put]))))
        go_ret
        exact ⟨ret_bool HE.out.symm, hk.mod.below⟩
      | true =>
        have HH := hide hh
        clear hh
        go_wp2_with (first | ((with_reducible show wpList _ _ _ _ _ _); (first | ((with_reducible show wpList _ _ _ (⟨_, _, _, _, _, some _⟩ :: _) _ _); refine wpList_skip (by rfl) ?_; simp only [Act.put, List.setIfInBounds_toArray, List.set_cons_succ, List.set_cons_zero]) | ((first | refine wBuild hk ?_ | refine wFieldZ hk ?_ | refine wField0 hk ?_ | refine wField hk ?_ | refine wIndexA0 hk ?_ | refine wIndexS0 hk ?_ | refine wIndexA hk ?_ | refine wIndexS hk ?_ | refine wLoadR hk ?_ | refine wLoad1 hk ?_ | refine wOldR hk ?_ | refine wOld1 hk ?_ | refine wOldC hk ?_ | refine wOldG hk ?_ | refine wAssertY hk ?_ | refine wAssertN hk ?_); simp only [Act.put, List.setIfInBounds_toArray, List.set_cons_succ, List.set_cons_zero]) | ((first | refine wBox hk ?_ | refine wBox1I hk ?_ | refine wBox1B hk ?_ | refine wBox1S hk ?_ | refine wBox1P hk ?_ | refine wBox1F hk ?_ | refine wAllocR hk ?_ | refine wAlloc1 hk ?_ | refine wMake hk ?_); clear hk; intro w1 hk; simp only [Act.put, List.setIfInBounds_toArray, List.set_cons_succ, List.set_cons_zero]) | ((first | refine wStoreR hk ?_ | refine wStore1I hk ?_ | refine wStore1B hk ?_ | refine wStore1S hk ?_ | refine wStore1P hk ?_ | refine wStore1F hk ?_); clear hk; intro w1 hk; simp only [Act.put]))))
        (refine wp_regK hk (.op 0 (.op 1 (.op 2 (.op 3 (.op 4 (.op 5 .nil)))))) (fun i => decide (i < 6)) mixT (by decide) (by kernel_rfl) (by kernel_rfl) ?_; clear hk; intro w1 hk)
        (repeat ((first | refine vMoveI hk ?_ | refine vMoveB hk ?_ | refine vAssignI hk ?_ | refine vAssignB hk ?_ | refine sMove hk ?_ | refine sAssign hk ?_ | refine sExtract hk ?_ | refine sFieldZ hk ?_ | refine sField0 hk ?_ | refine sField hk ?_ | refine sIndexA0 hk ?_ | refine sIndexS0 hk ?_ | refine sIndexA hk ?_ | refine sIndexS hk ?_ | refine sLoadR hk ?_ | refine sLoad1 hk ?_ | refine sOldR hk ?_ | refine sOld1 hk ?_ | refine sOldC hk ?_ | refine sOldG hk ?_ | refine sBuild hk ?_ | refine sPickT hk ?_ | refine sPickF hk ?_ | refine sLss hk ?_ | refine sLeq hk ?_ | refine sGtr hk ?_ | refine sGeq hk ?_ | refine sEql hk ?_ | refine sNot hk ?_ | refine sSkip hk ?_ | refine sSkipA hk ?_); simp only [Act.put, List.setIfInBounds_toArray, List.set_cons_succ, List.set_cons_zero]))
        (refine sCall ?_; intro K hK; go_step; go_at_call 75; refine (has_c _ _ _).mono ?_; rintro e w1 ⟨rfl, hb⟩; replace hk := hk.call hb; clear hb; refine hK _ _ (fun _ => by first | exact hk | exact hk.drop | exact hk.drop.drop | exact hk.mid | exact hk.pick13 | exact hk.pick4) ?_; clear hK K)
        rw [HH.out]
        (repeat ((first | refine vMoveI hk ?_ | refine vMoveB hk ?_ | refine vAssignI hk ?_ | refine vAssignB hk ?_ | refine sMove hk ?_ | refine sAssign hk ?_ | refine sExtract hk ?_ | refine sFieldZ hk ?_ | refine sField0 hk ?_ | refine sField hk ?_ | refine sIndexA0 hk ?_ | refine sIndexS0 hk ?_ | refine sIndexA hk ?_ | refine sIndexS hk ?_ | refine sLoadR hk ?_ | refine sLoad1 hk ?_ | refine sOldR hk ?_ | refine sOld1 hk ?_ | refine sOldC hk ?_ | refine sOldG hk ?_ | refine sBuild hk ?_ | refine sPickT hk ?_ | refine sPickF hk ?_ | refine sLss hk ?_ | refine sLeq hk ?_ | refine sGtr hk ?_ | refine sGeq hk ?_ | refine sEql hk ?_ | refine sNot hk ?_ | refine sSkip hk ?_ | refine sSkipA hk ?_); simp only [Act.put, List.setIfInBounds_toArray, List.set_cons_succ, List.set_cons_zero]))
        refine tNil ?_
        go_wp2_with (first | ((with_reducible show wpList _ _ _ _ _ _); (first | ((with_reducible show wpList _ _ _ (⟨_, _, _, _, _, some _⟩ :: _) _ _); refine wpList_skip (by rfl) ?_; simp only [Act.put, List.setIfInBounds_toArray, List.set_cons_succ, List.set_cons_zero]) | ((first | refine wBuild hk ?_ | refine wFieldZ hk ?_ | refine wField0 hk ?_ | refine wField hk ?_ | refine wIndexA0 hk ?_ | refine wIndexS0 hk ?_ | refine wIndexA hk ?_ | refine wIndexS hk ?_ | refine wLoadR hk ?_ | refine wLoad1 hk ?_ | refine wOldR hk ?_ | refine wOld1 hk ?_ | refine wOldC hk ?_ | refine wOldG hk ?_ | refine wAssertY hk ?_ | refine wAssertN hk ?_); simp only [Act.put, List.setIfInBounds_toArray, List.set_cons_succ, List.set_cons_zero]) | ((first | refine wBox hk ?_ | refine wBox1I hk ?_ | refine wBox1B hk ?_ | refine wBox1S hk ?_ | refine wBox1P hk ?_ | refine wBox1F hk ?_ | refine wAllocR hk ?_ | refine wAlloc1 hk ?_ | refine wMake hk ?_); clear hk; intro w1 hk; simp only [Act.put, List.setIfInBounds_toArray, List.set_cons_succ, List.set_cons_zero]) | ((first | refine wStoreR hk ?_ | refine wStore1I hk ?_ | refine wStore1B hk ?_ | refine wStore1S hk ?_ | refine wStore1P hk ?_ | refine wStore1F hk ?_); clear hk; intro w1 hk; simp only [Act.put]))))
        go_roundw
        case rel => exact ⟨n + 1, by omega, by go_num, fun i hi => by rcases Nat.lt_succ_iff_lt_or_eq.1 hi with h | h; exact HA.out i h; subst h; exact HH.out, hk.drop⟩
        case measure => simp [intOf]; omega
    · have HE : Hid (areR r s = true) := hide (areR_yes fun i hi => HA.out i (by omega))
      go_wp2_with (first | ((with_reducible show wpList _ _ _ _ _ _); (first | ((with_reducible show wpList _ _ _ (⟨_, _, _, _, _, some _⟩ :: _) _ _); refine wpList_skip (by rfl) ?_; simp only [Act.put, List.setIfInBounds_toArray, List.set_cons_succ, List.set_cons_zero]) | ((first | refine wBuild hk ?_ | refine wFieldZ hk ?_ | refine wField0 hk ?_ | refine wField hk ?_ | refine wIndexA0 hk ?_ | refine wIndexS0 hk ?_ | refine wIndexA hk ?_ | refine wIndexS hk ?_ | refine wLoadR hk ?_ | refine wLoad1 hk ?_ | refine wOldR hk ?_ | refine wOld1 hk ?_ | refine wOldC hk ?_ | refine wOldG hk ?_ | refine wAssertY hk ?_ | refine wAssertN hk ?_); simp only [Act.put, List.setIfInBounds_toArray, List.set_cons_succ, List.set_cons_zero]) | ((first | refine wBox hk ?_ | refine wBox1I hk ?_ | refine wBox1B hk ?_ | refine wBox1S hk ?_ | refine wBox1P hk ?_ | refine wBox1F hk ?_ | refine wAllocR hk ?_ | refine wAlloc1 hk ?_ | refine wMake hk ?_); clear hk; intro w1 hk; simp only [Act.put, List.setIfInBounds_toArray, List.set_cons_succ, List.set_cons_zero]) | ((first | refine wStoreR hk ?_ | refine wStore1I hk ?_ | refine wStore1B hk ?_ | refine wStore1S hk ?_ | refine wStore1P hk ?_ | refine wStore1F hk ?_); clear hk; intro w1 hk; simp only [Act.put]))))
      go_ret
      exact ⟨ret_bool HE.out.symm, hk.mod.below⟩
/-- a thread's cells -/
def thC (b c n : Nat) (s : St) : Array Value := #[.slice (some ⟨b, 0, none⟩) n c, .int .i64 (s 0).lo, .int .i64 (s 0).hi, .int .i64 (s 1).lo, .int .i64 (s 1).hi, .int .i64 (s 2).lo, .int .i64 (s 2).hi, .int .i64 (s 3).lo, .int .i64 (s 3).hi, .int .i64 (s 4).lo, .int .i64 (s 4).hi, .int .i64 (s 5).lo, .int .i64 (s 5).hi, .int .i64 (s 6).lo, .int .i64 (s 6).hi, .int .i64 (s 7).lo, .int .i64 (s 7).hi]
theorem ex_th (b c n : Nat) (s : St) : (thC b c n s).extract 1 (1 + 16) = stC s := by kernel_rfl
theorem build_th (b c n : Nat) (s : St) (w : World) : (Instr.build 97 [(0, .slice (some ⟨b, 0, none⟩) n c), (1, .agg (stC s))].toArray).run Tryz.prog w = .ok (.agg (thC b c n s)) w := run_build w _ _ _ (by kernel_rfl)
/-- a thread of a program that was taken -/
structure ThreadAt (w : World) (t : Nat) (l : List I5) (e : St) (base : Nat) : Prop where
  ex : ∃ pb cap, At w t (thC pb cap l.length e) 97 ∧ ProgAt w pb sVal l ∧ base ≤ pb ∧ pb ≠ t
  low : base ≤ t
set_option maxHeartbeats 2000000 in
set_option maxRecDepth 100000 in
theorem compile_no (l : List I5) (e : St) (cl : List C2) (h64 : In64 l e cl) (hcl : cl.length < 4000000000000) (v cv : Value) (w : World) (hs : Shapes w) (h : Slc w v l) (hc : SlcC w cv cl) (hne : (scheckR l e cl).1 ≠ 0) :
    Calls Tryz.prog 28 #[v, .agg (stC e), cv] w fun r w' => r = .returned (.tuple #[.pointer none, .int .i64 (scheckR l e cl).1, .int .i64 (scheckR l e cl).2]) ∧ Below w.heap.size w w' := by
  have hk := Kn.nil [] w
  have HS := hide hs
  have HV := hide h
  have HC := hide hc
  have H64 := hide h64
  obtain ⟨a, cap, rfl⟩ := h.len
  obtain ⟨PE, PN, hPS⟩ : ∃ PE PN, scheckR l e cl = (PE, PN) := ⟨_, _, rfl⟩
  rw [hPS] at hne ⊢
  have HPS := hide hPS
  have hn2 : (PE == 0) = false := by rw [beq_eq_false_iff_ne]; exact hne
  have hn3 : (PE != 0) = true := by rw [bne_iff_ne]; exact hne
  clear hs h hc h64 hPS
  go_enter Tryz.func28, Tryz.ntmps28
  go_wp2_with (first | (go_at_call 22; refine (SCheck_any l e cl H64.out hcl _ cv _ (HS.out.below hk.mod.below HS.out.1) (HV.out.below hk.mod.below (Nat.le_refl _)) (HC.out.below hk.mod.below (Nat.le_refl _))).mono ?_; rintro x w1 ⟨rfl, hb⟩; replace hk := hk.call hb; clear hb; rw [HPS.out]) | ((with_reducible show wpList _ _ _ _ _ _); (first | ((with_reducible show wpList _ _ _ (⟨_, _, _, _, _, some _⟩ :: _) _ _); refine wpList_skip (by rfl) ?_; simp only [Act.put, List.setIfInBounds_toArray, List.set_cons_succ, List.set_cons_zero]) | ((first | refine wBuild hk ?_ | refine wFieldZ hk ?_ | refine wField0 hk ?_ | refine wField hk ?_ | refine wIndexA0 hk ?_ | refine wIndexS0 hk ?_ | refine wIndexA hk ?_ | refine wIndexS hk ?_ | refine wLoadR hk ?_ | refine wLoad1 hk ?_ | refine wOldR hk ?_ | refine wOld1 hk ?_ | refine wOldC hk ?_ | refine wOldG hk ?_ | refine wAssertY hk ?_ | refine wAssertN hk ?_); simp only [Act.put, List.setIfInBounds_toArray, List.set_cons_succ, List.set_cons_zero]) | ((first | refine wBox hk ?_ | refine wBox1I hk ?_ | refine wBox1B hk ?_ | refine wBox1S hk ?_ | refine wBox1P hk ?_ | refine wBox1F hk ?_ | refine wAllocR hk ?_ | refine wAlloc1 hk ?_ | refine wMake hk ?_); clear hk; intro w1 hk; simp only [Act.put, List.setIfInBounds_toArray, List.set_cons_succ, List.set_cons_zero]) | ((first | refine wStoreR hk ?_ | refine wStore1I hk ?_ | refine wStore1B hk ?_ | refine wStore1S hk ?_ | refine wStore1P hk ?_ | refine wStore1F hk ?_); clear hk; intro w1 hk; simp only [Act.put]))))
  exact post_3 rfl rfl rfl rfl rfl ⟨rfl, hk.mod.below⟩
theorem own_progS {w : World} {base : Nat} {v : Value} {l : List I5} (h : OwnS w base v l) (hl : 0 < l.length) : ∃ pb cap A, v = .slice (some ⟨pb, 0, none⟩) l.length cap ∧ At w pb A 124 ∧ (∀ i, i < l.length → A[i]? = some (sVal (insAt l i))) ∧ base ≤ pb := by
  rcases h.2 with ⟨_, h2⟩ | ⟨g, cap, cur, rfl, h4, hh, _, _, _, h8⟩
  · omega
  · refine ⟨g, cap, cur, rfl, hh, fun i hi => ?_, h4⟩
    have h9 : (cur.toList.take (l.length * 1))[i]? = (l.map sVal)[i]? := by rw [h8]
    rw [List.getElem?_take, if_pos (by omega), List.getElem?_map, List.getElem?_eq_getElem hi, Array.getElem?_toList] at h9
    rw [h9, insAt_get hi]
    rfl
theorem progS_at {w : World} {pb : Nat} {A : Array Value} {t : TypeId} {l : List I5} (h : At w pb A t) (hA : ∀ i, i < l.length → A[i]? = some (sVal (insAt l i))) : ProgAt w pb sVal l := ⟨lt_of_block h, fun i hi => by rw [cell_of_row _ _ _ _ _ _ h]; exact hA i hi⟩
theorem ProgAt.mod {w w' : World} {pb : Nat} {vf : I5 → Value} {l : List I5} (h : ProgAt w pb vf l) (hm : Mod [] w w') : ProgAt w' pb vf l :=
  ⟨Nat.lt_of_lt_of_le h.1 hm.size, fun i hi => by rw [World.cell?_of_block (w := w) (a := ⟨pb, i, none⟩) (hm.block pb h.1 (by simp))]; exact h.2 i hi⟩
set_option maxHeartbeats 2000000 in
set_option maxRecDepth 100000 in
theorem compile_ok (l : List I5) (e : St) (cl : List C2) (h64 : In64 l e cl) (hcl : cl.length < 4000000000000) (v cv : Value) (w : World) (hs : Shapes w) (h : Slc w v l) (hc : SlcC w cv cl) (hck : scheckR l e cl = (0, 0)) (hl : AllFit l) :
    Calls Tryz.prog 28 #[v, .agg (stC e), cv] w fun r w' => ∃ t, r = .returned (.tuple #[.pointer (some ⟨t, 0, none⟩), .int .i64 0, .int .i64 0]) ∧ ThreadAt w' t l e w.heap.size ∧ Below w.heap.size w w' := by
  have hk := Kn.nil [] w
  have HS := hide hs
  have HV := hide h
  have HC := hide hc
  have H64 := hide h64
  have HL := hide hl
  obtain ⟨a, cap, rfl⟩ := h.len
  have HPS := hide hck
  clear hs h hc h64 hck hl
  go_enter Tryz.func28, Tryz.ntmps28
  go_wp2_with (first | (go_at_call 22; refine (SCheck_any l e cl H64.out hcl _ cv _ (HS.out.below hk.mod.below HS.out.1) (HV.out.below hk.mod.below (Nat.le_refl _)) (HC.out.below hk.mod.below (Nat.le_refl _))).mono ?_; rintro x w1 ⟨rfl, hb⟩; replace hk := hk.call hb; clear hb; rw [HPS.out]) | ((with_reducible show wpList _ _ _ _ _ _); (first | ((with_reducible show wpList _ _ _ (⟨_, _, _, _, _, some _⟩ :: _) _ _); refine wpList_skip (by rfl) ?_; simp only [Act.put, List.setIfInBounds_toArray, List.set_cons_succ, List.set_cons_zero]) | ((first | refine wBuild hk ?_ | refine wFieldZ hk ?_ | refine wField0 hk ?_ | refine wField hk ?_ | refine wIndexA0 hk ?_ | refine wIndexS0 hk ?_ | refine wIndexA hk ?_ | refine wIndexS hk ?_ | refine wLoadR hk ?_ | refine wLoad1 hk ?_ | refine wOldR hk ?_ | refine wOld1 hk ?_ | refine wOldC hk ?_ | refine wOldG hk ?_ | refine wAssertY hk ?_ | refine wAssertN hk ?_); simp only [Act.put, List.setIfInBounds_toArray, List.set_cons_succ, List.set_cons_zero]) | ((first | refine wBox hk ?_ | refine wBox1I hk ?_ | refine wBox1B hk ?_ | refine wBox1S hk ?_ | refine wBox1P hk ?_ | refine wBox1F hk ?_ | refine wAllocR hk ?_ | refine wAlloc1 hk ?_ | refine wMake hk ?_); clear hk; intro w1 hk; simp only [Act.put, List.setIfInBounds_toArray, List.set_cons_succ, List.set_cons_zero]) | ((first | refine wStoreR hk ?_ | refine wStore1I hk ?_ | refine wStore1B hk ?_ | refine wStore1S hk ?_ | refine wStore1P hk ?_ | refine wStore1F hk ?_); clear hk; intro w1 hk; simp only [Act.put]))))
  (refine wp_regK hk (.op 0 (.op 3 (.op 1 (.op 2 (.op 4 (.op 5 (.op 6 (.op 7 (.op 8 .nil))))))))) (fun i => decide (i < 6)) mixT (by decide) (by kernel_rfl) (by kernel_rfl) ?_; clear hk; intro w1 hk)
  refine sMove hk ?_; simp only [Act.put, List.setIfInBounds_toArray, List.set_cons_succ, List.set_cons_zero]
  refine sLoadR hk ?_; simp only [Act.put, List.setIfInBounds_toArray, List.set_cons_succ, List.set_cons_zero]
  refine sCall ?_; intro K hK; go_step; go_at_call 43
  refine (progOf_c l _ _ (HV.out.below hk.mod.below (Nat.le_refl _)) HL.out.1 HL.out.2.1).mono ?_
  rintro x w2 ⟨pb, pc, A, rfl, hat, hpr, hge, hb2⟩
  replace hk := hk.call hb2
  refine hK _ _ (fun _ => hk) ?_
  clear hK K hb2
  refine sCall ?_; intro K hK; go_step; go_at_call 48
  refine (sure_any l pb pc w2 hat.lt HL.out.2.1 (hpr.at hat)).mono ?_
  rintro x w3 ⟨sv, rfl, hown, hb3⟩
  have hz2 := hk.mod.size
  obtain ⟨qb, qc, B, rfl, hat3, hB, hqge⟩ := own_progS hown HL.out.1
  replace hk := hk.make hb3 hat3 hqge
  refine hK _ _ (fun _ => hk.drop) ?_
  clear hK K hb3 hown hat hpr hat3
  refine sBuild hk.drop ?_ (hb := fun wx => build_th _ _ _ _ wx); simp only [Act.put, List.setIfInBounds_toArray, List.set_cons_succ, List.set_cons_zero]
  refine tActK (by rfl) (by rfl) (by rfl) (fun K hK => oBox (A := thC qb qc l.length e) (by rfl) hk (fun w4 hk4 => hK _ _ (fun _ => hk4.drop.drop) ?_))
  simp only [Act.put, List.setIfInBounds_toArray, List.set_cons_succ, List.set_cons_zero]
  have HT : Hid (ThreadAt w4 w3.heap.size l e w.heap.size) := hide ⟨⟨qb, qc, hk4.at (by with_reducible repeat (first | exact List.mem_cons_self | apply List.mem_cons_of_mem)), progS_at (hk4.at (by with_reducible repeat (first | exact List.mem_cons_self | apply List.mem_cons_of_mem))) hB, by omega, fun e => by have := lt_of_block (hk.at (A := B) (by with_reducible repeat (first | exact List.mem_cons_self | apply List.mem_cons_of_mem))); omega⟩, hk.mod.size⟩
  have HM := hide hk4.mod
  refine sAssign hk4.drop.drop ?_; simp only [Act.put, List.setIfInBounds_toArray, List.set_cons_succ, List.set_cons_zero]
  refine vAssignI hk4.drop.drop ?_; simp only [Act.put, List.setIfInBounds_toArray, List.set_cons_succ, List.set_cons_zero]
  refine vAssignI hk4.drop.drop ?_; simp only [Act.put, List.setIfInBounds_toArray, List.set_cons_succ, List.set_cons_zero]
  refine tNil ?_
  replace hk := hk4
  clear hk4
  go_wp2_with (first | ((with_reducible show wpList _ _ _ _ _ _); (first | ((with_reducible show wpList _ _ _ (⟨_, _, _, _, _, some _⟩ :: _) _ _); refine wpList_skip (by rfl) ?_; simp only [Act.put, List.setIfInBounds_toArray, List.set_cons_succ, List.set_cons_zero]) | ((first | refine wBuild hk ?_ | refine wFieldZ hk ?_ | refine wField0 hk ?_ | refine wField hk ?_ | refine wIndexA0 hk ?_ | refine wIndexS0 hk ?_ | refine wIndexA hk ?_ | refine wIndexS hk ?_ | refine wLoadR hk ?_ | refine wLoad1 hk ?_ | refine wOldR hk ?_ | refine wOld1 hk ?_ | refine wOldC hk ?_ | refine wOldG hk ?_ | refine wAssertY hk ?_ | refine wAssertN hk ?_); simp only [Act.put, List.setIfInBounds_toArray, List.set_cons_succ, List.set_cons_zero]) | ((first | refine wBox hk ?_ | refine wBox1I hk ?_ | refine wBox1B hk ?_ | refine wBox1S hk ?_ | refine wBox1P hk ?_ | refine wBox1F hk ?_ | refine wAllocR hk ?_ | refine wAlloc1 hk ?_ | refine wMake hk ?_); clear hk; intro w1 hk; simp only [Act.put, List.setIfInBounds_toArray, List.set_cons_succ, List.set_cons_zero]) | ((first | refine wStoreR hk ?_ | refine wStore1I hk ?_ | refine wStore1B hk ?_ | refine wStore1S hk ?_ | refine wStore1P hk ?_ | refine wStore1F hk ?_); clear hk; intro w1 hk; simp only [Act.put]))))
  exact post_3 rfl rfl rfl rfl rfl ⟨_, rfl, HT.out, HM.out.below⟩
end Go.Proofs.YtamiichlbmllcaaGreatDoor
