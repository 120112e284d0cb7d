/-
  Marks: the contract of proof.marksOf.
-/
import Derived.Test.YtamiichlbmllcaaDoorChB
namespace Go.Proofs.YtamiichlbmllcaaDoor
open Go.RowKit
/-- a program's instructions lie in block pb, as vf has them -/
def ProgC (w : World) (pb : Nat) (vf : I5 → Value) (l : List I5) : Prop := ∀ i, i < l.length → w.cell? ⟨pb, i * 1, none⟩ = some (vf (insAt l i))
theorem ProgC.mod {w w' : World} {pb : Nat} {vf : I5 → Value} {l : List I5} {M : List Nat} (h : ProgC w pb vf l) (hm : Mod M w w') (hp : pb ∉ M) : ProgC w' pb vf l := fun i hi => by
  rw [World.cell?_of_block (w := w) (a := ⟨pb, i * 1, none⟩) (hm.block pb (World.block_lt_of_cell? w _ (h i hi)) hp)]; exact h i hi
def markB (p : List I5) (n : Nat) : Bool := p.any fun i => decide (9 ≤ i.o) && decide (i.k = n)
def mkU (l : List I5) (i : Nat) : Nat → Bool := fun m => markB (l.take i) m
theorem mkU_zero (l : List I5) : mkU l 0 = fun _ => false := rfl
theorem mkU_all (l : List I5) : mkU l l.length = markB l := by unfold mkU; rw [List.take_length]
theorem take_succ_at {l : List I5} {i : Nat} (h : i < l.length) : l.take (i + 1) = l.take i ++ [insAt l i] := by rw [insAt_get h, List.take_append_getElem h]
theorem mkU_no {l : List I5} {i : Nat} (h : i < l.length) (hj : jumpsB (insAt l i) = false) : mkU l (i + 1) = mkU l i := by
  funext m
  unfold mkU markB
  rw [take_succ_at h, List.any_append]
  unfold jumpsB at hj
  simp [hj]
theorem mkU_yes {l : List I5} {i k : Nat} (h : i < l.length) (hj : jumpsB (insAt l i) = true) (hk : targI (insAt l i) = k) : mkU l (i + 1) = updB (mkU l i) k true := by
  funext m
  unfold mkU markB updB
  rw [take_succ_at h, List.any_append]
  unfold jumpsB at hj
  unfold targI at hk
  simp only [decide_eq_true_eq] at hj
  rw [if_pos hj] at hk
  by_cases e : m = k
  · subst e; simp [hj, hk]
  · have : ¬ ((insAt l i).k = (m : Int)) := by rw [hk]; omega
    simp [this, e]
theorem AllFit.fit {l : List I5} (h : AllFit l) {i : Nat} (hi : i < l.length) : (insAt l i).fits l.length = true := by rw [insAt_get hi]; exact h.2.2 i hi
theorem AllFit.targ {l : List I5} (h : AllFit l) {i : Nat} (hi : i < l.length) (hj : jumpsB (insAt l i) = true) : ∃ k : Nat, targI (insAt l i) = k ∧ k < l.length := by
  unfold jumpsB at hj
  simp only [decide_eq_true_eq] at hj
  have := h.k hi hj
  refine ⟨(insAt l i).k.toNat, ?_, this.2⟩
  unfold targI
  rw [if_pos hj]
  omega
set_option maxHeartbeats 1000000 in
set_option maxRecDepth 100000 in
theorem marksOf_any (l : List I5) (hl : AllFit l) (pb cap : Nat) (w : World) (hp : ProgC w pb iVal l) : Calls Tryd.prog 38 #[.slice (some ⟨pb, 0, none⟩) l.length cap] w fun e w' => ∃ mb, e = .returned (.slice (some ⟨mb, 0, none⟩) l.length l.length) ∧ At w' mb (bosA l.length (markB l)) 4 ∧ w.heap.size ≤ mb ∧ Below w.heap.size w w' := by
  have hk := Kn.nil [] w
  have hn := hl.2.1
  go_enter Tryd.func38, Tryd.ntmps38
  go_wp2_with (first | ((with_reducible show wpList _ _ _ _ _ _); (first | ((with_reducible show wpList _ _ _ (⟨_, _, _, _, _, some _⟩ :: _) _ _); refine wpList_skip (by rfl) ?_; simp only [Act.put, List.setIfInBounds_toArray, List.set_cons_succ, List.set_cons_zero]) | ((first | refine wBuild hk ?_ | refine wFieldZ hk ?_ | refine wField0 hk ?_ | refine wField hk ?_ | refine wIndexA0 hk ?_ | refine wIndexS0 hk ?_ | refine wIndexA hk ?_ | refine wIndexS hk ?_ | refine wLoadR hk ?_ | refine wLoad1 hk ?_ | refine wOldR hk ?_ | refine wOld1 hk ?_ | refine wOldC hk ?_ | refine wOldG hk ?_ | refine wAssertY hk ?_ | refine wAssertN hk ?_); simp only [Act.put, List.setIfInBounds_toArray, List.set_cons_succ, List.set_cons_zero]) | ((first | refine wBox hk ?_ | refine wBox1I hk ?_ | refine wBox1B hk ?_ | refine wBox1S hk ?_ | refine wBox1P hk ?_ | refine wBox1F hk ?_ | refine wAllocR hk ?_ | refine wAlloc1 hk ?_ | refine wMake hk ?_); clear hk; intro w1 hk; simp only [Act.put, List.setIfInBounds_toArray, List.set_cons_succ, List.set_cons_zero]) | ((first | refine wStoreR hk ?_ | refine wStore1I hk ?_ | refine wStore1B hk ?_ | refine wStore1S hk ?_ | refine wStore1P hk ?_ | refine wStore1F hk ?_); clear hk; intro w1 hk; simp only [Act.put]))))
  replace hk : Kn [] w w1 [(w.heap.size, bosA l.length (mkU l 0), 4)] := hk
  go_loopw [12] (fun j wr => ∃ i : Nat, i ≤ l.length ∧ j = .int .i64 i ∧ Kn [] w wr [(w.heap.size, bosA l.length (mkU l i), 4)]) (fun j _ => l.length - (intOf j).toNat)
  case atStart => exact ⟨0, by omega, rfl, hk⟩
  case round =>
    clear hk
    obtain ⟨i, hi, rfl, hk⟩ := hrel
    by_cases hlt : i < l.length
    · have hc := hp.mod hk.mod (List.not_mem_nil) i hlt
      cases hj : jumpsB (insAt l i) with
      | false =>
        have R := hide (mkU_no hlt hj)
        go_wp2_with (first | (go_at_call 50; refine (target_any (insAt l i) _ (hl.fit hlt) _ _ _ _ hlt _ hc).mono ?_; rintro e w1 ⟨rfl, hb⟩; replace hk := hk.call hb; clear hb; rw [hj]) | ((with_reducible show wpList _ _ _ _ _ _); (first | ((with_reducible show wpList _ _ _ (⟨_, _, _, _, _, some _⟩ :: _) _ _); refine wpList_skip (by rfl) ?_; simp only [Act.put, List.setIfInBounds_toArray, List.set_cons_succ, List.set_cons_zero]) | ((first | refine wBuild hk ?_ | refine wFieldZ hk ?_ | refine wField0 hk ?_ | refine wField hk ?_ | refine wIndexA0 hk ?_ | refine wIndexS0 hk ?_ | refine wIndexA hk ?_ | refine wIndexS hk ?_ | refine wLoadR hk ?_ | refine wLoad1 hk ?_ | refine wOldR hk ?_ | refine wOld1 hk ?_ | refine wOldC hk ?_ | refine wOldG hk ?_ | refine wAssertY hk ?_ | refine wAssertN hk ?_); simp only [Act.put, List.setIfInBounds_toArray, List.set_cons_succ, List.set_cons_zero]) | ((first | refine wBox hk ?_ | refine wBox1I hk ?_ | refine wBox1B hk ?_ | refine wBox1S hk ?_ | refine wBox1P hk ?_ | refine wBox1F hk ?_ | refine wAllocR hk ?_ | refine wAlloc1 hk ?_ | refine wMake hk ?_); clear hk; intro w1 hk; simp only [Act.put, List.setIfInBounds_toArray, List.set_cons_succ, List.set_cons_zero]) | ((first | refine wStoreR hk ?_ | refine wStore1I hk ?_ | refine wStore1B hk ?_ | refine wStore1S hk ?_ | refine wStore1P hk ?_ | refine wStore1F hk ?_); clear hk; intro w1 hk; simp only [Act.put]))))
        go_roundw
        case rel => exact ⟨i + 1, by omega, by go_num, by rw [R.out]; exact hk⟩
        case measure => simp [intOf]; omega
      | true =>
        obtain ⟨k, hk1, hk2⟩ := hl.targ hlt hj
        have R := hide (mkU_yes hlt hj hk1)
        go_wp2_with (first | (go_at_call 50; refine (target_any (insAt l i) _ (hl.fit hlt) _ _ _ _ hlt _ hc).mono ?_; rintro e w1 ⟨rfl, hb⟩; replace hk := hk.call hb; clear hb; rw [hj, hk1]) | ((with_reducible show wpList _ _ _ _ _ _); (first | ((with_reducible show wpList _ _ _ (⟨_, _, _, _, _, some _⟩ :: _) _ _); refine wpList_skip (by rfl) ?_; simp only [Act.put, List.setIfInBounds_toArray, List.set_cons_succ, List.set_cons_zero]) | ((first | refine wBuild hk ?_ | refine wFieldZ hk ?_ | refine wField0 hk ?_ | refine wField hk ?_ | refine wIndexA0 hk ?_ | refine wIndexS0 hk ?_ | refine wIndexA hk ?_ | refine wIndexS hk ?_ | refine wLoadR hk ?_ | refine wLoad1 hk ?_ | refine wOldR hk ?_ | refine wOld1 hk ?_ | refine wOldC hk ?_ | refine wOldG hk ?_ | refine wAssertY hk ?_ | refine wAssertN hk ?_); simp only [Act.put, List.setIfInBounds_toArray, List.set_cons_succ, List.set_cons_zero]) | ((first | refine wBox hk ?_ | refine wBox1I hk ?_ | refine wBox1B hk ?_ | refine wBox1S hk ?_ | refine wBox1P hk ?_ | refine wBox1F hk ?_ | refine wAllocR hk ?_ | refine wAlloc1 hk ?_ | refine wMake hk ?_); clear hk; intro w1 hk; simp only [Act.put, List.setIfInBounds_toArray, List.set_cons_succ, List.set_cons_zero]) | ((first | refine wStoreR hk ?_ | refine wStore1I hk ?_ | refine wStore1B hk ?_ | refine wStore1S hk ?_ | refine wStore1P hk ?_ | refine wStore1F hk ?_); clear hk; intro w1 hk; simp only [Act.put]))))
        go_roundw
        case rel => exact ⟨i + 1, by omega, by go_num, by rw [R.out]; exact hk⟩
        case measure => simp [intOf]; omega
    · have e : i = l.length := by omega
      subst e
      rw [mkU_all] at hk
      go_wp2_with (first | ((with_reducible show wpList _ _ _ _ _ _); (first | ((with_reducible show wpList _ _ _ (⟨_, _, _, _, _, some _⟩ :: _) _ _); refine wpList_skip (by rfl) ?_; simp only [Act.put, List.setIfInBounds_toArray, List.set_cons_succ, List.set_cons_zero]) | ((first | refine wBuild hk ?_ | refine wFieldZ hk ?_ | refine wField0 hk ?_ | refine wField hk ?_ | refine wIndexA0 hk ?_ | refine wIndexS0 hk ?_ | refine wIndexA hk ?_ | refine wIndexS hk ?_ | refine wLoadR hk ?_ | refine wLoad1 hk ?_ | refine wOldR hk ?_ | refine wOld1 hk ?_ | refine wOldC hk ?_ | refine wOldG hk ?_ | refine wAssertY hk ?_ | refine wAssertN hk ?_); simp only [Act.put, List.setIfInBounds_toArray, List.set_cons_succ, List.set_cons_zero]) | ((first | refine wBox hk ?_ | refine wBox1I hk ?_ | refine wBox1B hk ?_ | refine wBox1S hk ?_ | refine wBox1P hk ?_ | refine wBox1F hk ?_ | refine wAllocR hk ?_ | refine wAlloc1 hk ?_ | refine wMake hk ?_); clear hk; intro w1 hk; simp only [Act.put, List.setIfInBounds_toArray, List.set_cons_succ, List.set_cons_zero]) | ((first | refine wStoreR hk ?_ | refine wStore1I hk ?_ | refine wStore1B hk ?_ | refine wStore1S hk ?_ | refine wStore1P hk ?_ | refine wStore1F hk ?_); clear hk; intro w1 hk; simp only [Act.put]))))
      go_ret
      exact ⟨_, rfl, hk.at (by with_reducible repeat (first | exact List.mem_cons_self | apply List.mem_cons_of_mem)), Nat.le_refl _, hk.mod.below⟩
end Go.Proofs.YtamiichlbmllcaaDoor
