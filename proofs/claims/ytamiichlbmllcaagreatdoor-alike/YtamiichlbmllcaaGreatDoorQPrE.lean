import Derived.Test.YtamiichlbmllcaaGreatDoorQMthD
/-
  (proof.route).step of a prover.
-/
namespace Go.Proofs.YtamiichlbmllcaaGreatDoor
open Go.RowKit
def stepH (l : List I5) (m : Nat) (v1 : PS) (here : Option St) : PS × Option St := match here with
  | none => (v1, none)
  | some s => (if 9 ≤ (insAt l m).o then takesP (backB l) v1 (insAt l m).k.toNat (flowFar (insAt l m) s) else v1, flowOn (insAt l m) s)
set_option maxHeartbeats 4000000 in
set_option maxRecDepth 100000 in
theorem step_pv (l : List I5) (hl : AllFit l) (V pb pc mb sb kb cb hb : Nat) (v : PS) (m : Nat) (hm : m < l.length) (come : Option St) (hcome : OkO come) (hW : ∀ k, OkO (v.W k)) (hcb : ∀ k, backB l k = true → v.cnt k ≤ 20) (w : World) (hB : ProvB l V pb pc mb sb kb cb hb v.cnt w) (hS : At w sb (plsA l.length v.W) 174) (hH : At w hb (bosA l.length v.chg) 4) :
    Calls Tryz.prog 103 #[.agg (rtC pb pc mb sb l.length), .int .i64 m, .agg (plC come.isSome (stO come)), .iface 132 (.pointer (some ⟨V, 0, none⟩))] w fun e w' => e = .returned (.tuple #[.agg (plC (stepP l m come v).2.isSome (stO (stepP l m come v).2)), .int .i64 0]) ∧ TakeP l.length sb hb (stepP l m come v).1 w w' := by
  have hk := Kn.two hS hH hB.nsh
  have q1 := mTakesP
  have q2 := mDangerP
  have q3 := cTakesP
  have q4 := cDangerP
  have HL := hide hl
  have HB := hide hB
  have HC := hide hcome
  have HCB := hide hcb
  have hM := hB.marks
  have hMM := hB.nM
  obtain ⟨v1, hv1⟩ : ∃ v1, (if markB l m then takesP (backB l) v m come else v) = v1 := ⟨_, rfl⟩
  obtain ⟨here, hh⟩ : ∃ here, (if markB l m then v1.W m else come) = here := ⟨_, rfl⟩
  have HCN : Hid (v1.cnt = v.cnt) := hide (by rw [← hv1]; split; exact takesP_cnt _ _ _ _; rfl)
  have HOK : Hid (OkO here) := hide (by
    rw [← hh, ← hv1]
    split
    · exact takesP_ok hW hcome m
    · exact hcome)
  have HSP : Hid (stepP l m come v = stepH l m v1 here) := hide (by
    rw [← hh, ← hv1]
    unfold stepP stepH
    cases markB l m <;> rfl)
  have HV1 := hide hv1
  have HH := hide hh
  clear hv1 hh hl hcome hW hB hS hH hcb
  go_enter Tryz.func103, Tryz.ntmps103
  go_upto_if 21 with (first | ((with_reducible show wpList _ _ _ (⟨some 4, _, _, _, _, _⟩ :: _) _ _); refine wBox hk ?_; clear hk; intro wa hk; simp only [Act.put, List.setIfInBounds_toArray, List.set_cons_succ, List.set_cons_zero]) | ((with_reducible show wpList _ _ _ (⟨some 6, _, _, _, _, _⟩ :: _) _ _); refine wBox hk ?_; clear hk; intro wb hk; simp only [Act.put, List.setIfInBounds_toArray, List.set_cons_succ, List.set_cons_zero]) | ((with_reducible show wpList _ _ _ (⟨some 8, _, _, _, _, _⟩ :: _) _ _); refine wAllocR hk ?_; clear hk; intro wd hk; simp only [Act.put, List.setIfInBounds_toArray, List.set_cons_succ, List.set_cons_zero]) | ((with_reducible show wpList _ _ _ _ _ _); (first | ((with_reducible show wpList _ _ _ (⟨_, _, _, _, _, some _⟩ :: _) _ _); refine wpList_skip (by rfl) ?_; simp only [Act.put, List.setIfInBounds_toArray, List.set_cons_succ, List.set_cons_zero]) | ((first | refine wBuild hk ?_ | refine wFieldZ hk ?_ | refine wField0 hk ?_ | refine wField hk ?_ | refine wIndexA0 hk ?_ | refine wIndexS0 hk ?_ | refine wIndexA hk ?_ | refine wIndexS hk ?_ | refine wLoadR hk ?_ | refine wLoad1 hk ?_ | refine wOldR hk ?_ | refine wOld1 hk ?_ | refine wOldC hk ?_ | refine wOldG hk ?_ | refine wAssertY hk ?_ | refine wAssertN hk ?_); simp only [Act.put, List.setIfInBounds_toArray, List.set_cons_succ, List.set_cons_zero]) | ((first | refine wBox hk ?_ | refine wBox1I hk ?_ | refine wBox1B hk ?_ | refine wBox1S hk ?_ | refine wBox1P hk ?_ | refine wBox1F hk ?_ | refine wAllocR hk ?_ | refine wAlloc1 hk ?_ | refine wMake hk ?_); clear hk; intro w1 hk; simp only [Act.put, List.setIfInBounds_toArray, List.set_cons_succ, List.set_cons_zero]) | ((first | refine wStoreR hk ?_ | refine wStore1I hk ?_ | refine wStore1B hk ?_ | refine wStore1S hk ?_ | refine wStore1P hk ?_ | refine wStore1F hk ?_); clear hk; intro w1 hk; simp only [Act.put]))))
  go_cut [8] (fun u8 wc => u8 = .pointer (some ⟨wb.heap.size, 0, none⟩) ∧ Kn [sb, hb] w wc [(wd.heap.size, plC here.isSome (stO here), 174), (wb.heap.size, plC false zeroS, 174), (wa.heap.size, plC come.isSome (stO come), 174), (w.heap.size, rtC pb pc mb sb l.length, 119), (sb, plsA l.length v1.W, 174), (hb, bosA l.length v1.chg, 4)])
  case first =>
    cases hmk : markB l m with
    | false =>
      have e1 : v1 = v := by rw [← HV1.out, hmk]; rfl
      have e2 : here = come := by rw [← HH.out, hmk]; rfl
      subst e1 e2
      go_wp2_with (first | ((with_reducible show wpList _ _ _ _ _ _); (first | ((with_reducible show wpList _ _ _ (⟨_, _, _, _, _, some _⟩ :: _) _ _); refine wpList_skip (by rfl) ?_; simp only [Act.put, List.setIfInBounds_toArray, List.set_cons_succ, List.set_cons_zero]) | ((first | refine wBuild hk ?_ | refine wFieldZ hk ?_ | refine wField0 hk ?_ | refine wField hk ?_ | refine wIndexA0 hk ?_ | refine wIndexS0 hk ?_ | refine wIndexA hk ?_ | refine wIndexS hk ?_ | refine wLoadR hk ?_ | refine wLoad1 hk ?_ | refine wOldR hk ?_ | refine wOld1 hk ?_ | refine wOldC hk ?_ | refine wOldG hk ?_ | refine wAssertY hk ?_ | refine wAssertN hk ?_); simp only [Act.put, List.setIfInBounds_toArray, List.set_cons_succ, List.set_cons_zero]) | ((first | refine wBox hk ?_ | refine wBox1I hk ?_ | refine wBox1B hk ?_ | refine wBox1S hk ?_ | refine wBox1P hk ?_ | refine wBox1F hk ?_ | refine wAllocR hk ?_ | refine wAlloc1 hk ?_ | refine wMake hk ?_); clear hk; intro w1 hk; simp only [Act.put, List.setIfInBounds_toArray, List.set_cons_succ, List.set_cons_zero]) | ((first | refine wStoreR hk ?_ | refine wStore1I hk ?_ | refine wStore1B hk ?_ | refine wStore1S hk ?_ | refine wStore1P hk ?_ | refine wStore1F hk ?_); clear hk; intro w1 hk; simp only [Act.put]))))
      go_meet
      case rel => exact ⟨rfl, hk⟩
    | true =>
      have e1 : takesP (backB l) v m come = v1 := by rw [← HV1.out, hmk]; rfl
      have e2 : v1.W m = here := by rw [← HH.out, hmk]; rfl
      subst e2
      have HE1 := hide e1
      clear e1
      go_wp2_with (first | (go_at_call 155; refine (takes_pv l.length m hm V pb pc mb sb kb cb hb (backB l) v come HB.out.nsh HB.out.nV HB.out.nK HB.out.nC _ (HB.out.mod hk.mod).self (hk.at (by with_reducible repeat (first | exact List.mem_cons_self | apply List.mem_cons_of_mem))) (HB.out.mod hk.mod).backs (HB.out.mod hk.mod).cnts (hk.at (by with_reducible repeat (first | exact List.mem_cons_self | apply List.mem_cons_of_mem))) HC.out (HCB.out m)).mono ?_; rintro e w1 ⟨rfl, hT1, hT2, hT3⟩; replace hk := Kn.callM (Lo := [_, _, _, _]) hk hT1 hT2 hT3; simp only [List.cons_append, List.nil_append] at hk; clear hT1 hT2 hT3); rw [HE1.out] at hk | ((with_reducible show wpList _ _ _ _ _ _); (first | ((with_reducible show wpList _ _ _ (⟨_, _, _, _, _, some _⟩ :: _) _ _); refine wpList_skip (by rfl) ?_; simp only [Act.put, List.setIfInBounds_toArray, List.set_cons_succ, List.set_cons_zero]) | ((first | refine wBuild hk ?_ | refine wFieldZ hk ?_ | refine wField0 hk ?_ | refine wField hk ?_ | refine wIndexA0 hk ?_ | refine wIndexS0 hk ?_ | refine wIndexA hk ?_ | refine wIndexS hk ?_ | refine wLoadR hk ?_ | refine wLoad1 hk ?_ | refine wOldR hk ?_ | refine wOld1 hk ?_ | refine wOldC hk ?_ | refine wOldG hk ?_ | refine wAssertY hk ?_ | refine wAssertN hk ?_); simp only [Act.put, List.setIfInBounds_toArray, List.set_cons_succ, List.set_cons_zero]) | ((first | refine wBox hk ?_ | refine wBox1I hk ?_ | refine wBox1B hk ?_ | refine wBox1S hk ?_ | refine wBox1P hk ?_ | refine wBox1F hk ?_ | refine wAllocR hk ?_ | refine wAlloc1 hk ?_ | refine wMake hk ?_); clear hk; intro w1 hk; simp only [Act.put, List.setIfInBounds_toArray, List.set_cons_succ, List.set_cons_zero]) | ((first | refine wStoreR hk ?_ | refine wStore1I hk ?_ | refine wStore1B hk ?_ | refine wStore1S hk ?_ | refine wStore1P hk ?_ | refine wStore1F hk ?_); clear hk; intro w1 hk; simp only [Act.put]))))
      go_meet
      case rel => exact ⟨rfl, hk⟩
  case rest =>
    clear hk HV1 HH
    obtain ⟨rfl, hk⟩ := hcut
    cases here with
    | none =>
      have HST : Hid (stepP l m come v = (v1, none)) := hide HSP.out
      clear HSP
      go_wp2_with (first | ((with_reducible show wpList _ _ _ _ _ _); (first | ((with_reducible show wpList _ _ _ (⟨_, _, _, _, _, some _⟩ :: _) _ _); refine wpList_skip (by rfl) ?_; simp only [Act.put, List.setIfInBounds_toArray, List.set_cons_succ, List.set_cons_zero]) | ((first | refine wBuild hk ?_ | refine wFieldZ hk ?_ | refine wField0 hk ?_ | refine wField hk ?_ | refine wIndexA0 hk ?_ | refine wIndexS0 hk ?_ | refine wIndexA hk ?_ | refine wIndexS hk ?_ | refine wLoadR hk ?_ | refine wLoad1 hk ?_ | refine wOldR hk ?_ | refine wOld1 hk ?_ | refine wOldC hk ?_ | refine wOldG hk ?_ | refine wAssertY hk ?_ | refine wAssertN hk ?_); simp only [Act.put, List.setIfInBounds_toArray, List.set_cons_succ, List.set_cons_zero]) | ((first | refine wBox hk ?_ | refine wBox1I hk ?_ | refine wBox1B hk ?_ | refine wBox1S hk ?_ | refine wBox1P hk ?_ | refine wBox1F hk ?_ | refine wAllocR hk ?_ | refine wAlloc1 hk ?_ | refine wMake hk ?_); clear hk; intro w1 hk; simp only [Act.put, List.setIfInBounds_toArray, List.set_cons_succ, List.set_cons_zero]) | ((first | refine wStoreR hk ?_ | refine wStore1I hk ?_ | refine wStore1B hk ?_ | refine wStore1S hk ?_ | refine wStore1P hk ?_ | refine wStore1F hk ?_); clear hk; intro w1 hk; simp only [Act.put]))))
      exact post_c1 rfl (by rfl) (hk.at (by with_reducible repeat (first | exact List.mem_cons_self | apply List.mem_cons_of_mem))) (rowT_of (by rfl)) (by rfl) (by rfl) rfl ⟨by rw [HST.out]; rfl, by rw [HST.out]; exact ⟨hk.mod, hk.at (by with_reducible repeat (first | exact List.mem_cons_self | apply List.mem_cons_of_mem)), hk.at (by with_reducible repeat (first | exact List.mem_cons_self | apply List.mem_cons_of_mem))⟩⟩
    | some s =>
      have HSO := hide (HOK.out s rfl)
      have HFO : Hid (OkO (flowFar (insAt l m) s)) := hide fun t ht => flowFar_keeps (HL.out.regs hm) HSO.out.1 HSO.out.2 ht
      cases hj : jumpsB (insAt l m) with
      | false =>
        have HST : Hid (stepP l m come v = (v1, flowOn (insAt l m) s)) := hide (by rw [HSP.out]; unfold stepH; simp only; unfold jumpsB at hj; rw [if_neg (by simpa using hj)])
        clear HSP
        go_wp2_with (first | (first | (go_at_call 154; refine (danger_pv _ _ _ _).mono ?_; rintro e w1 ⟨rfl, hb⟩; replace hk := hk.call hb; clear hb) | (go_at_call 119; refine (flow_c (insAt l m) l.length (HL.out.fit hm) _ _ _ _ hm s HSO.out.1 HSO.out.2 _ ((HB.out.mod hk.mod).prog m hm)).mono ?_; rintro e w1 ⟨rfl, hb⟩; replace hk := hk.call hb; clear hb) | (go_at_call 101; refine (target_any (insAt l m) _ (HL.out.fit hm) _ _ _ _ hm _ ((HB.out.mod hk.mod).prog m hm)).mono ?_; rintro e w1 ⟨rfl, hb⟩; replace hk := hk.call hb; clear hb; rw [hj])) | ((with_reducible show wpList _ _ _ _ _ _); (first | ((with_reducible show wpList _ _ _ (⟨_, _, _, _, _, some _⟩ :: _) _ _); refine wpList_skip (by rfl) ?_; simp only [Act.put, List.setIfInBounds_toArray, List.set_cons_succ, List.set_cons_zero]) | ((first | refine wBuild hk ?_ | refine wFieldZ hk ?_ | refine wField0 hk ?_ | refine wField hk ?_ | refine wIndexA0 hk ?_ | refine wIndexS0 hk ?_ | refine wIndexA hk ?_ | refine wIndexS hk ?_ | refine wLoadR hk ?_ | refine wLoad1 hk ?_ | refine wOldR hk ?_ | refine wOld1 hk ?_ | refine wOldC hk ?_ | refine wOldG hk ?_ | refine wAssertY hk ?_ | refine wAssertN hk ?_); simp only [Act.put, List.setIfInBounds_toArray, List.set_cons_succ, List.set_cons_zero]) | ((first | refine wBox hk ?_ | refine wBox1I hk ?_ | refine wBox1B hk ?_ | refine wBox1S hk ?_ | refine wBox1P hk ?_ | refine wBox1F hk ?_ | refine wAllocR hk ?_ | refine wAlloc1 hk ?_ | refine wMake hk ?_); clear hk; intro w1 hk; simp only [Act.put, List.setIfInBounds_toArray, List.set_cons_succ, List.set_cons_zero]) | ((first | refine wStoreR hk ?_ | refine wStore1I hk ?_ | refine wStore1B hk ?_ | refine wStore1S hk ?_ | refine wStore1P hk ?_ | refine wStore1F hk ?_); clear hk; intro w1 hk; simp only [Act.put]))))
        exact post_c1 rfl (by rfl) (hk.at (by with_reducible repeat (first | exact List.mem_cons_self | apply List.mem_cons_of_mem))) (rowT_of (by rfl)) (by rfl) (by rfl) rfl ⟨by rw [HST.out]; rfl, by rw [HST.out]; exact ⟨hk.mod, hk.at (by with_reducible repeat (first | exact List.mem_cons_self | apply List.mem_cons_of_mem)), hk.at (by with_reducible repeat (first | exact List.mem_cons_self | apply List.mem_cons_of_mem))⟩⟩
      | true =>
        obtain ⟨k, hk1, hk2⟩ := HL.out.targ hm hj
        have hkk : (insAt l m).k.toNat = k := by
          unfold jumpsB at hj
          unfold targI at hk1
          rw [if_pos (by simpa using hj)] at hk1
          omega
        have HST : Hid (stepP l m come v = (takesP (backB l) v1 k (flowFar (insAt l m) s), flowOn (insAt l m) s)) := hide (by rw [HSP.out]; unfold stepH; simp only; unfold jumpsB at hj; rw [if_pos (by simpa using hj), hkk])
        clear HSP
        go_wp2_with (first | (first | (go_at_call 154; refine (danger_pv _ _ _ _).mono ?_; rintro e w1 ⟨rfl, hb⟩; replace hk := hk.call hb; clear hb) | (go_at_call 119; refine (flow_c (insAt l m) l.length (HL.out.fit hm) _ _ _ _ hm s HSO.out.1 HSO.out.2 _ ((HB.out.mod hk.mod).prog m hm)).mono ?_; rintro e w1 ⟨rfl, hb⟩; replace hk := hk.call hb; clear hb) | (go_at_call 101; refine (target_any (insAt l m) _ (HL.out.fit hm) _ _ _ _ hm _ ((HB.out.mod hk.mod).prog m hm)).mono ?_; rintro e w1 ⟨rfl, hb⟩; replace hk := hk.call hb; clear hb; rw [hj, hk1]) | (go_at_call 155; refine (takes_pv l.length k hk2 V pb pc mb sb kb cb hb (backB l) v1 (flowFar (insAt l m) s) HB.out.nsh HB.out.nV HB.out.nK HB.out.nC _ (HB.out.mod hk.mod).self (hk.at (by with_reducible repeat (first | exact List.mem_cons_self | apply List.mem_cons_of_mem))) (HB.out.mod hk.mod).backs (by rw [HCN.out]; exact (HB.out.mod hk.mod).cnts) (hk.at (by with_reducible repeat (first | exact List.mem_cons_self | apply List.mem_cons_of_mem))) HFO.out (by rw [HCN.out]; exact HCB.out k)).mono ?_; rintro e w1 ⟨rfl, hT1, hT2, hT3⟩; replace hk := Kn.callM (Lo := [_, _, _, _, _, _]) hk hT1 hT2 hT3; simp only [List.cons_append, List.nil_append] at hk; clear hT1 hT2 hT3)) | ((with_reducible show wpList _ _ _ _ _ _); (first | ((with_reducible show wpList _ _ _ (⟨_, _, _, _, _, some _⟩ :: _) _ _); refine wpList_skip (by rfl) ?_; simp only [Act.put, List.setIfInBounds_toArray, List.set_cons_succ, List.set_cons_zero]) | ((first | refine wBuild hk ?_ | refine wFieldZ hk ?_ | refine wField0 hk ?_ | refine wField hk ?_ | refine wIndexA0 hk ?_ | refine wIndexS0 hk ?_ | refine wIndexA hk ?_ | refine wIndexS hk ?_ | refine wLoadR hk ?_ | refine wLoad1 hk ?_ | refine wOldR hk ?_ | refine wOld1 hk ?_ | refine wOldC hk ?_ | refine wOldG hk ?_ | refine wAssertY hk ?_ | refine wAssertN hk ?_); simp only [Act.put, List.setIfInBounds_toArray, List.set_cons_succ, List.set_cons_zero]) | ((first | refine wBox hk ?_ | refine wBox1I hk ?_ | refine wBox1B hk ?_ | refine wBox1S hk ?_ | refine wBox1P hk ?_ | refine wBox1F hk ?_ | refine wAllocR hk ?_ | refine wAlloc1 hk ?_ | refine wMake hk ?_); clear hk; intro w1 hk; simp only [Act.put, List.setIfInBounds_toArray, List.set_cons_succ, List.set_cons_zero]) | ((first | refine wStoreR hk ?_ | refine wStore1I hk ?_ | refine wStore1B hk ?_ | refine wStore1S hk ?_ | refine wStore1P hk ?_ | refine wStore1F hk ?_); clear hk; intro w1 hk; simp only [Act.put]))))
        exact post_c1 rfl (by rfl) (hk.at (by with_reducible repeat (first | exact List.mem_cons_self | apply List.mem_cons_of_mem))) (rowT_of (by rfl)) (by rfl) (by rfl) rfl ⟨by rw [HST.out]; rfl, by rw [HST.out]; exact ⟨hk.mod, hk.at (by with_reducible repeat (first | exact List.mem_cons_self | apply List.mem_cons_of_mem)), hk.at (by with_reducible repeat (first | exact List.mem_cons_self | apply List.mem_cons_of_mem))⟩⟩
end Go.Proofs.YtamiichlbmllcaaGreatDoor
/-
  (proof.route).pass of a prover; (*proof.prover).count; slices.Contains.
-/
namespace Go.Proofs.YtamiichlbmllcaaGreatDoor
open Go.RowKit
set_option maxHeartbeats 2000000 in
set_option maxRecDepth 100000 in
theorem pass_pv (l : List I5) (hl : AllFit l) (h64 : ∀ i, i < l.length → I64 (insAt l i).k) (V pb pc mb sb kb cb hb : Nat) (v : PS) (e : St) (he : e.ok ∧ e.in64) (hW : ∀ k, OkO (v.W k)) (hcb : ∀ k, backB l k = true → v.cnt k ≤ 20) (w : World) (hB : ProvB l V pb pc mb sb kb cb hb v.cnt w) (hS : At w sb (plsA l.length v.W) 174) (hH : At w hb (bosA l.length v.chg) 4) :
    Calls Tryz.prog 66 #[.agg (rtC pb pc mb sb l.length), .agg (stC e), .iface 132 (.pointer (some ⟨V, 0, none⟩))] w fun x w' => (∃ a b : Int, x = .returned (.tuple #[.int .i64 a, .int .i64 b])) ∧ TakeP l.length sb hb (passP l l.length 0 (some e) v) w w' := by
  have hk := Kn.two hS hH hB.nsh
  have HL := hide hl
  have HB := hide hB
  have H64 := hide h64
  have hL : l.length ≤ 64 := hl.2.1
  have HE0 : Hid (OkO (some e)) := hide fun t ht => by cases ht; exact he
  have HW0 := hide hW
  have HCB := hide hcb
  clear hB hS hH h64 hW hcb
  go_enter Tryz.func66, Tryz.ntmps66
  go_wp2_with (first | ((with_reducible show wpList _ _ _ (⟨some 3, _, _, _, _, _⟩ :: _) _ _); refine wBox hk ?_; clear hk; intro wa hk; simp only [Act.put, List.setIfInBounds_toArray, List.set_cons_succ, List.set_cons_zero]) | (go_at_call 102; refine (with_any _ _).mono ?_; rintro e wx ⟨rfl, hb⟩; replace hk := hk.call hb; clear hb) | ((with_reducible show wpList _ _ _ _ _ _); (first | ((with_reducible show wpList _ _ _ (⟨_, _, _, _, _, some _⟩ :: _) _ _); refine wpList_skip (by rfl) ?_; simp only [Act.put, List.setIfInBounds_toArray, List.set_cons_succ, List.set_cons_zero]) | ((first | refine wBuild hk ?_ | refine wFieldZ hk ?_ | refine wField0 hk ?_ | refine wField hk ?_ | refine wIndexA0 hk ?_ | refine wIndexS0 hk ?_ | refine wIndexA hk ?_ | refine wIndexS hk ?_ | refine wLoadR hk ?_ | refine wLoad1 hk ?_ | refine wOldR hk ?_ | refine wOld1 hk ?_ | refine wOldC hk ?_ | refine wOldG hk ?_ | refine wAssertY hk ?_ | refine wAssertN hk ?_); simp only [Act.put, List.setIfInBounds_toArray, List.set_cons_succ, List.set_cons_zero]) | ((first | refine wBox hk ?_ | refine wBox1I hk ?_ | refine wBox1B hk ?_ | refine wBox1S hk ?_ | refine wBox1P hk ?_ | refine wBox1F hk ?_ | refine wAllocR hk ?_ | refine wAlloc1 hk ?_ | refine wMake hk ?_); clear hk; intro w1 hk; simp only [Act.put, List.setIfInBounds_toArray, List.set_cons_succ, List.set_cons_zero]) | ((first | refine wStoreR hk ?_ | refine wStore1I hk ?_ | refine wStore1B hk ?_ | refine wStore1S hk ?_ | refine wStore1P hk ?_ | refine wStore1F hk ?_); clear hk; intro w1 hk; simp only [Act.put]))))
  go_loopw [17] (fun j wr => ∃ (i : Nat) (come : Option St) (v' : PS), i ≤ l.length ∧ j = .int .i64 i ∧ OkO come ∧ (∀ k, OkO (v'.W k)) ∧ v'.cnt = v.cnt ∧ passP l l.length 0 (some e) v = passP l (l.length - i) i come v' ∧ Kn [sb, hb] w wr [(wx.heap.size, plC come.isSome (stO come), 174), (wa.heap.size, stC e, 30), (w.heap.size, rtC pb pc mb sb l.length, 119), (sb, plsA l.length v'.W, 174), (hb, bosA l.length v'.chg, 4)]) (fun j _ => l.length - (intOf j).toNat)
  case atStart => exact ⟨0, some e, v, by omega, rfl, HE0.out, HW0.out, rfl, rfl, hk⟩
  case round =>
    clear hk
    obtain ⟨i, come, v', hi, rfl, hc, hW, hcn, hps, hk⟩ := hrel
    have HC := hide hc
    have HW := hide hW
    have HCN := hide hcn
    have HPS := hide hps
    clear hc hW hcn hps
    by_cases hlt : i < l.length
    · have HST := hide (stepP_ok HL.out H64.out hlt HC.out HW.out)
      have HP1 : Hid (passP l (l.length - i) i come v' = passP l (l.length - (i + 1)) (i + 1) (stepP l i come v').2 (stepP l i come v').1) := hide (by rw [show l.length - i = (l.length - (i + 1)) + 1 by omega, passP])
      go_wp2_with (first | (go_at_call 103; refine (step_pv l HL.out V pb pc mb sb kb cb hb v' i hlt come HC.out HW.out (by rw [HCN.out]; exact HCB.out) _ (by rw [HCN.out]; exact HB.out.mod hk.mod) (hk.at (by with_reducible repeat (first | exact List.mem_cons_self | apply List.mem_cons_of_mem))) (hk.at (by with_reducible repeat (first | exact List.mem_cons_self | apply List.mem_cons_of_mem)))).mono ?_; rintro e w1 ⟨rfl, hT1, hT2, hT3⟩; replace hk := Kn.callM (Lo := [_, _, _]) hk hT1 hT2 hT3; simp only [List.cons_append, List.nil_append] at hk; clear hT1 hT2 hT3) | ((with_reducible show wpList _ _ _ _ _ _); (first | ((with_reducible show wpList _ _ _ (⟨_, _, _, _, _, some _⟩ :: _) _ _); refine wpList_skip (by rfl) ?_; simp only [Act.put, List.setIfInBounds_toArray, List.set_cons_succ, List.set_cons_zero]) | ((first | refine wBuild hk ?_ | refine wFieldZ hk ?_ | refine wField0 hk ?_ | refine wField hk ?_ | refine wIndexA0 hk ?_ | refine wIndexS0 hk ?_ | refine wIndexA hk ?_ | refine wIndexS hk ?_ | refine wLoadR hk ?_ | refine wLoad1 hk ?_ | refine wOldR hk ?_ | refine wOld1 hk ?_ | refine wOldC hk ?_ | refine wOldG hk ?_ | refine wAssertY hk ?_ | refine wAssertN hk ?_); simp only [Act.put, List.setIfInBounds_toArray, List.set_cons_succ, List.set_cons_zero]) | ((first | refine wBox hk ?_ | refine wBox1I hk ?_ | refine wBox1B hk ?_ | refine wBox1S hk ?_ | refine wBox1P hk ?_ | refine wBox1F hk ?_ | refine wAllocR hk ?_ | refine wAlloc1 hk ?_ | refine wMake hk ?_); clear hk; intro w1 hk; simp only [Act.put, List.setIfInBounds_toArray, List.set_cons_succ, List.set_cons_zero]) | ((first | refine wStoreR hk ?_ | refine wStore1I hk ?_ | refine wStore1B hk ?_ | refine wStore1S hk ?_ | refine wStore1P hk ?_ | refine wStore1F hk ?_); clear hk; intro w1 hk; simp only [Act.put]))))
      go_roundw
      case rel => exact ⟨i + 1, (stepP l i come v').2, (stepP l i come v').1, by omega, by go_num, HST.out.1, HST.out.2.1, HST.out.2.2.trans HCN.out, HPS.out.trans HP1.out, hk.drop⟩
      case measure => simp [intOf]; omega
    · have e1 : i = l.length := by omega
      subst e1
      have HP2 : Hid (passP l l.length 0 (some e) v = v') := hide (by rw [HPS.out, Nat.sub_self, passP])
      cases come with
      | none =>
        go_wp2_with (first | ((with_reducible show wpList _ _ _ _ _ _); (first | ((with_reducible show wpList _ _ _ (⟨_, _, _, _, _, some _⟩ :: _) _ _); refine wpList_skip (by rfl) ?_; simp only [Act.put, List.setIfInBounds_toArray, List.set_cons_succ, List.set_cons_zero]) | ((first | refine wBuild hk ?_ | refine wFieldZ hk ?_ | refine wField0 hk ?_ | refine wField hk ?_ | refine wIndexA0 hk ?_ | refine wIndexS0 hk ?_ | refine wIndexA hk ?_ | refine wIndexS hk ?_ | refine wLoadR hk ?_ | refine wLoad1 hk ?_ | refine wOldR hk ?_ | refine wOld1 hk ?_ | refine wOldC hk ?_ | refine wOldG hk ?_ | refine wAssertY hk ?_ | refine wAssertN hk ?_); simp only [Act.put, List.setIfInBounds_toArray, List.set_cons_succ, List.set_cons_zero]) | ((first | refine wBox hk ?_ | refine wBox1I hk ?_ | refine wBox1B hk ?_ | refine wBox1S hk ?_ | refine wBox1P hk ?_ | refine wBox1F hk ?_ | refine wAllocR hk ?_ | refine wAlloc1 hk ?_ | refine wMake hk ?_); clear hk; intro w1 hk; simp only [Act.put, List.setIfInBounds_toArray, List.set_cons_succ, List.set_cons_zero]) | ((first | refine wStoreR hk ?_ | refine wStore1I hk ?_ | refine wStore1B hk ?_ | refine wStore1S hk ?_ | refine wStore1P hk ?_ | refine wStore1F hk ?_); clear hk; intro w1 hk; simp only [Act.put]))))
        go_ret2
        exact ⟨⟨_, _, rfl⟩, by rw [HP2.out]; exact ⟨hk.mod, hk.at (by with_reducible repeat (first | exact List.mem_cons_self | apply List.mem_cons_of_mem)), hk.at (by with_reducible repeat (first | exact List.mem_cons_self | apply List.mem_cons_of_mem))⟩⟩
      | some s =>
        go_wp2_with (first | ((with_reducible show wpList _ _ _ _ _ _); (first | ((with_reducible show wpList _ _ _ (⟨_, _, _, _, _, some _⟩ :: _) _ _); refine wpList_skip (by rfl) ?_; simp only [Act.put, List.setIfInBounds_toArray, List.set_cons_succ, List.set_cons_zero]) | ((first | refine wBuild hk ?_ | refine wFieldZ hk ?_ | refine wField0 hk ?_ | refine wField hk ?_ | refine wIndexA0 hk ?_ | refine wIndexS0 hk ?_ | refine wIndexA hk ?_ | refine wIndexS hk ?_ | refine wLoadR hk ?_ | refine wLoad1 hk ?_ | refine wOldR hk ?_ | refine wOld1 hk ?_ | refine wOldC hk ?_ | refine wOldG hk ?_ | refine wAssertY hk ?_ | refine wAssertN hk ?_); simp only [Act.put, List.setIfInBounds_toArray, List.set_cons_succ, List.set_cons_zero]) | ((first | refine wBox hk ?_ | refine wBox1I hk ?_ | refine wBox1B hk ?_ | refine wBox1S hk ?_ | refine wBox1P hk ?_ | refine wBox1F hk ?_ | refine wAllocR hk ?_ | refine wAlloc1 hk ?_ | refine wMake hk ?_); clear hk; intro w1 hk; simp only [Act.put, List.setIfInBounds_toArray, List.set_cons_succ, List.set_cons_zero]) | ((first | refine wStoreR hk ?_ | refine wStore1I hk ?_ | refine wStore1B hk ?_ | refine wStore1S hk ?_ | refine wStore1P hk ?_ | refine wStore1F hk ?_); clear hk; intro w1 hk; simp only [Act.put]))))
        (refine wp_regK hk (.op 0 (.op 1 (.op 3 (.op 2 (.op 4 .nil))))) (fun i => decide (i < 5)) mixT (by decide) (by kernel_rfl) (by kernel_rfl) ?_; clear hk; intro w1 hk)
        (repeat ((first | refine vMoveI hk ?_ | refine vMoveB hk ?_ | refine vAssignI hk ?_ | refine vAssignB hk ?_ | refine sMove hk ?_ | refine sAssign hk ?_ | refine sExtract hk ?_ | refine sFieldZ hk ?_ | refine sField0 hk ?_ | refine sField hk ?_ | refine sIndexA0 hk ?_ | refine sIndexS0 hk ?_ | refine sIndexA hk ?_ | refine sIndexS hk ?_ | refine sLoadR hk ?_ | refine sLoad1 hk ?_ | refine sOldR hk ?_ | refine sOld1 hk ?_ | refine sOldC hk ?_ | refine sOldG hk ?_ | refine sBuild hk ?_ | refine sPickT hk ?_ | refine sPickF hk ?_ | refine sLss hk ?_ | refine sLeq hk ?_ | refine sGtr hk ?_ | refine sGeq hk ?_ | refine sEql hk ?_ | refine sNot hk ?_ | refine sSkip hk ?_ | refine sSkipA hk ?_); simp only [Act.put, List.setIfInBounds_toArray, List.set_cons_succ, List.set_cons_zero]))
        (refine sCall ?_; intro K hK; go_step; refine hK _ _ (fun _ => hk) ?_; clear hK K)
        (repeat ((first | refine vMoveI hk ?_ | refine vMoveB hk ?_ | refine vAssignI hk ?_ | refine vAssignB hk ?_ | refine sMove hk ?_ | refine sAssign hk ?_ | refine sExtract hk ?_ | refine sFieldZ hk ?_ | refine sField0 hk ?_ | refine sField hk ?_ | refine sIndexA0 hk ?_ | refine sIndexS0 hk ?_ | refine sIndexA hk ?_ | refine sIndexS hk ?_ | refine sLoadR hk ?_ | refine sLoad1 hk ?_ | refine sOldR hk ?_ | refine sOld1 hk ?_ | refine sOldC hk ?_ | refine sOldG hk ?_ | refine sBuild hk ?_ | refine sPickT hk ?_ | refine sPickF hk ?_ | refine sLss hk ?_ | refine sLeq hk ?_ | refine sGtr hk ?_ | refine sGeq hk ?_ | refine sEql hk ?_ | refine sNot hk ?_ | refine sSkip hk ?_ | refine sSkipA hk ?_); simp only [Act.put, List.setIfInBounds_toArray, List.set_cons_succ, List.set_cons_zero]))
        refine tNil ?_
        go_wp2_with (first | ((with_reducible show wpList _ _ _ _ _ _); (first | ((with_reducible show wpList _ _ _ (⟨_, _, _, _, _, some _⟩ :: _) _ _); refine wpList_skip (by rfl) ?_; simp only [Act.put, List.setIfInBounds_toArray, List.set_cons_succ, List.set_cons_zero]) | ((first | refine wBuild hk ?_ | refine wFieldZ hk ?_ | refine wField0 hk ?_ | refine wField hk ?_ | refine wIndexA0 hk ?_ | refine wIndexS0 hk ?_ | refine wIndexA hk ?_ | refine wIndexS hk ?_ | refine wLoadR hk ?_ | refine wLoad1 hk ?_ | refine wOldR hk ?_ | refine wOld1 hk ?_ | refine wOldC hk ?_ | refine wOldG hk ?_ | refine wAssertY hk ?_ | refine wAssertN hk ?_); simp only [Act.put, List.setIfInBounds_toArray, List.set_cons_succ, List.set_cons_zero]) | ((first | refine wBox hk ?_ | refine wBox1I hk ?_ | refine wBox1B hk ?_ | refine wBox1S hk ?_ | refine wBox1P hk ?_ | refine wBox1F hk ?_ | refine wAllocR hk ?_ | refine wAlloc1 hk ?_ | refine wMake hk ?_); clear hk; intro w1 hk; simp only [Act.put, List.setIfInBounds_toArray, List.set_cons_succ, List.set_cons_zero]) | ((first | refine wStoreR hk ?_ | refine wStore1I hk ?_ | refine wStore1B hk ?_ | refine wStore1S hk ?_ | refine wStore1P hk ?_ | refine wStore1F hk ?_); clear hk; intro w1 hk; simp only [Act.put]))))
        go_ret2
        exact ⟨⟨_, _, rfl⟩, by rw [HP2.out]; exact ⟨hk.mod, hk.at (by with_reducible repeat (first | exact List.mem_cons_self | apply List.mem_cons_of_mem)), hk.at (by with_reducible repeat (first | exact List.mem_cons_self | apply List.mem_cons_of_mem))⟩⟩
end Go.Proofs.YtamiichlbmllcaaGreatDoor
