/-
  The contract of suretylaw.checked: Check answers as the document asks, and what was lent is as it was.
-/
import Derived.Test.YtamiichlbmllcaaDoorRfP
import Derived.Test.YtamiichlbmllcaaDoorBackC
import Derived.Test.YtamiichlbmllcaaDoorLawN
namespace Go.Proofs.YtamiichlbmllcaaDoor
open Go.RowKit
/-- a step's cells, its state told -/
def opC (k on fu pv sv : Value) (s : St) (cv : Value) (r : Nat → Value) : Array Value :=
  #[k, on, fu, pv, sv, .int .i64 (s 0).lo, .int .i64 (s 0).hi, .int .i64 (s 1).lo, .int .i64 (s 1).hi, .int .i64 (s 2).lo, .int .i64 (s 2).hi, .int .i64 (s 3).lo, .int .i64 (s 3).hi, .int .i64 (s 4).lo, .int .i64 (s 4).hi, .int .i64 (s 5).lo, .int .i64 (s 5).hi, .int .i64 (s 6).lo, .int .i64 (s 6).hi, .int .i64 (s 7).lo, .int .i64 (s 7).hi, cv, r 0, r 1, r 2, r 3, r 4, r 5, r 6, r 7]
theorem ex_op (k on fu pv sv : Value) (s : St) (cv : Value) (r : Nat → Value) : (opC k on fu pv sv s cv r).extract 5 (5 + 16) = stC s := by kernel_rfl
theorem op_3 (k on fu pv sv : Value) (s : St) (cv : Value) (r : Nat → Value) : (opC k on fu pv sv s cv r)[3]? = some pv := rfl
theorem op_21 (k on fu pv sv : Value) (s : St) (cv : Value) (r : Nat → Value) : (opC k on fu pv sv s cv r)[21]? = some cv := rfl
theorem Kn.callB {M : List Nat} {w0 w w' : World} {L : RowL} {B : Nat} (h : Kn M w0 w L) (hb : Below B w w') (h0 : w0.heap.size ≤ B) (hL : ∀ x, x ∈ L → x.1 < B) : Kn M w0 w' L :=
  ⟨⟨hb.os.trans h.mod.os, hb.tape.trans h.mod.tape, hb.output.trans h.mod.output, Nat.le_trans h.mod.size hb.size, fun k hk hM => (hb.block k (by omega)).trans (h.mod.block k hk hM)⟩, fun x hx => ⟨by have := (h.has x hx).1; unfold At at this ⊢; rw [hb.block _ (hL x hx), this], (h.has x hx).2⟩, h.dis⟩
set_option maxHeartbeats 2000000 in
set_option maxRecDepth 100000 in
theorem checked_any (l : List I5) (e : St) (cl : List C2) (h64 : In64 l e cl) (k on fu sv : Value) (r : Nat → Value) (pv cv : Value) (w : World) (hs : Shapes w) (hp : Arg w pv l) (hlen : l.length * 40 ≤ 140737488351232) (hc : ArgC w cv cl) (hcl : cl.length * 136 ≤ 140737488351232) :
    Calls Tryd.prog 11 #[.agg (opC k on fu pv sv e cv r)] w fun x w' => x = .returned (.bool true) ∧ Below w.heap.size w w' := by
  have hk := Kn.nil [] w
  have hcl2 : cl.length < 4000000000000 := by omega
  have HS := hide hs
  have HP := hide hp
  have HC := hide hc
  have H64 := hide h64
  clear hs hp hc h64
  go_enter Tryd.func11, Tryd.ntmps11
  go_wp2_with (first | (refine wLoad1 hk ?_ (hv := op_3 _ _ _ _ _ _ _ _); simp only [Act.put, List.setIfInBounds_toArray, List.set_cons_succ, List.set_cons_zero]) | (refine wLoad1 hk ?_ (hv := op_21 _ _ _ _ _ _ _ _); simp only [Act.put, List.setIfInBounds_toArray, List.set_cons_succ, List.set_cons_zero]) | (refine wLoadR hk ?_ (hc := ex_op _ _ _ _ _ _ _ _); simp only [Act.put, List.setIfInBounds_toArray, List.set_cons_succ, List.set_cons_zero]) | ((with_reducible show wpList _ _ _ _ _ _); (first | ((with_reducible show wpList _ _ _ (⟨_, _, _, _, _, some _⟩ :: _) _ _); refine wpList_skip (by rfl) ?_; simp only [Act.put, List.setIfInBounds_toArray, List.set_cons_succ, List.set_cons_zero]) | ((first | refine wBuild hk ?_ | refine wFieldZ hk ?_ | refine wField0 hk ?_ | refine wField hk ?_ | refine wIndexA0 hk ?_ | refine wIndexS0 hk ?_ | refine wIndexA hk ?_ | refine wIndexS hk ?_ | refine wLoadR hk ?_ | refine wLoad1 hk ?_ | refine wOldR hk ?_ | refine wOld1 hk ?_ | refine wOldC hk ?_ | refine wOldG hk ?_ | refine wAssertY hk ?_ | refine wAssertN hk ?_); simp only [Act.put, List.setIfInBounds_toArray, List.set_cons_succ, List.set_cons_zero]) | ((first | refine wBox hk ?_ | refine wBox1I hk ?_ | refine wBox1B hk ?_ | refine wBox1S hk ?_ | refine wBox1P hk ?_ | refine wBox1F hk ?_ | refine wAllocR hk ?_ | refine wAlloc1 hk ?_ | refine wMake hk ?_); clear hk; intro w1 hk; simp only [Act.put, List.setIfInBounds_toArray, List.set_cons_succ, List.set_cons_zero]) | ((first | refine wStoreR hk ?_ | refine wStore1I hk ?_ | refine wStore1B hk ?_ | refine wStore1S hk ?_ | refine wStore1P hk ?_ | refine wStore1F hk ?_); clear hk; intro w1 hk; simp only [Act.put]))))
  go_at_call 16
  have hb1 := hk.mod.below
  have hn1 : w.heap.size < w1.heap.size := lt_of_block (hk.at List.mem_cons_self)
  have HP1 := hide (HP.out.below hb1 (Nat.le_refl _))
  have HC1 := hide (HC.out.below hb1 (Nat.le_refl _))
  refine (lent_any l pv w1 HP1.out hlen).mono ?_
  rintro x w2 ⟨hv, rfl, hL2, hb2⟩
  replace hk := hk.call hb2
  go_wp2_with (first | (refine wLoad1 hk ?_ (hv := op_3 _ _ _ _ _ _ _ _); simp only [Act.put, List.setIfInBounds_toArray, List.set_cons_succ, List.set_cons_zero]) | (refine wLoad1 hk ?_ (hv := op_21 _ _ _ _ _ _ _ _); simp only [Act.put, List.setIfInBounds_toArray, List.set_cons_succ, List.set_cons_zero]) | (refine wLoadR hk ?_ (hc := ex_op _ _ _ _ _ _ _ _); simp only [Act.put, List.setIfInBounds_toArray, List.set_cons_succ, List.set_cons_zero]) | ((with_reducible show wpList _ _ _ _ _ _); (first | ((with_reducible show wpList _ _ _ (⟨_, _, _, _, _, some _⟩ :: _) _ _); refine wpList_skip (by rfl) ?_; simp only [Act.put, List.setIfInBounds_toArray, List.set_cons_succ, List.set_cons_zero]) | ((first | refine wBuild hk ?_ | refine wFieldZ hk ?_ | refine wField0 hk ?_ | refine wField hk ?_ | refine wIndexA0 hk ?_ | refine wIndexS0 hk ?_ | refine wIndexA hk ?_ | refine wIndexS hk ?_ | refine wLoadR hk ?_ | refine wLoad1 hk ?_ | refine wOldR hk ?_ | refine wOld1 hk ?_ | refine wOldC hk ?_ | refine wOldG hk ?_ | refine wAssertY hk ?_ | refine wAssertN hk ?_); simp only [Act.put, List.setIfInBounds_toArray, List.set_cons_succ, List.set_cons_zero]) | ((first | refine wBox hk ?_ | refine wBox1I hk ?_ | refine wBox1B hk ?_ | refine wBox1S hk ?_ | refine wBox1P hk ?_ | refine wBox1F hk ?_ | refine wAllocR hk ?_ | refine wAlloc1 hk ?_ | refine wMake hk ?_); clear hk; intro w1 hk; simp only [Act.put, List.setIfInBounds_toArray, List.set_cons_succ, List.set_cons_zero]) | ((first | refine wStoreR hk ?_ | refine wStore1I hk ?_ | refine wStore1B hk ?_ | refine wStore1S hk ?_ | refine wStore1P hk ?_ | refine wStore1F hk ?_); clear hk; intro w1 hk; simp only [Act.put]))))
  go_at_call 17
  refine (lentC_any cl cv w2 (HC1.out.below hb2 (Nat.le_refl _)) hcl).mono ?_
  rintro x w3 ⟨hcv, rfl, hC3, hb3⟩
  have hb13 : Below w1.heap.size w1 w3 := hb2.trans (hb3.mono hb2.size)
  have hs3 : Shapes w3 := HS.out.below (hb1.trans (hb13.mono hb1.size)) HS.out.1
  have hL3 := hL2.below hb3
  have HLT : Hid (∀ k, hv.ownBlock = some k → k < w2.heap.size) := hide hL2.lt
  replace hk := hk.call hb3
  go_wp2_with (first | (refine wLoad1 hk ?_ (hv := op_3 _ _ _ _ _ _ _ _); simp only [Act.put, List.setIfInBounds_toArray, List.set_cons_succ, List.set_cons_zero]) | (refine wLoad1 hk ?_ (hv := op_21 _ _ _ _ _ _ _ _); simp only [Act.put, List.setIfInBounds_toArray, List.set_cons_succ, List.set_cons_zero]) | (refine wLoadR hk ?_ (hc := ex_op _ _ _ _ _ _ _ _); simp only [Act.put, List.setIfInBounds_toArray, List.set_cons_succ, List.set_cons_zero]) | ((with_reducible show wpList _ _ _ _ _ _); (first | ((with_reducible show wpList _ _ _ (⟨_, _, _, _, _, some _⟩ :: _) _ _); refine wpList_skip (by rfl) ?_; simp only [Act.put, List.setIfInBounds_toArray, List.set_cons_succ, List.set_cons_zero]) | ((first | refine wBuild hk ?_ | refine wFieldZ hk ?_ | refine wField0 hk ?_ | refine wField hk ?_ | refine wIndexA0 hk ?_ | refine wIndexS0 hk ?_ | refine wIndexA hk ?_ | refine wIndexS hk ?_ | refine wLoadR hk ?_ | refine wLoad1 hk ?_ | refine wOldR hk ?_ | refine wOld1 hk ?_ | refine wOldC hk ?_ | refine wOldG hk ?_ | refine wAssertY hk ?_ | refine wAssertN hk ?_); simp only [Act.put, List.setIfInBounds_toArray, List.set_cons_succ, List.set_cons_zero]) | ((first | refine wBox hk ?_ | refine wBox1I hk ?_ | refine wBox1B hk ?_ | refine wBox1S hk ?_ | refine wBox1P hk ?_ | refine wBox1F hk ?_ | refine wAllocR hk ?_ | refine wAlloc1 hk ?_ | refine wMake hk ?_); clear hk; intro w1 hk; simp only [Act.put, List.setIfInBounds_toArray, List.set_cons_succ, List.set_cons_zero]) | ((first | refine wStoreR hk ?_ | refine wStore1I hk ?_ | refine wStore1B hk ?_ | refine wStore1S hk ?_ | refine wStore1P hk ?_ | refine wStore1F hk ?_); clear hk; intro w1 hk; simp only [Act.put]))))
  go_at_call 15
  refine (SCheck_any l e cl H64.out hcl2 hv hcv w3 hs3 hL3.slc hC3.slc).mono ?_
  rintro x w4 ⟨rfl, hb4⟩
  obtain ⟨PE, PN, hPS⟩ : ∃ PE PN, scheckR l e cl = (PE, PN) := ⟨_, _, rfl⟩
  have HPS := hide hPS
  rw [hPS]
  clear hPS
  have hb14 : Below w1.heap.size w1 w4 := hb13.trans (hb4.mono hb13.size)
  have HL4 := hide (hL3.below hb4)
  have HC4 := hide (hC3.below hb4)
  have H12 := hide hb2.size
  have H24 := hide (Nat.le_trans hb3.size hb4.size)
  replace hk := hk.call hb4
  clear hL2 hL3 hC3 hs3 hb13
  go_wp2_with (first | (refine wLoad1 hk ?_ (hv := op_3 _ _ _ _ _ _ _ _); simp only [Act.put, List.setIfInBounds_toArray, List.set_cons_succ, List.set_cons_zero]) | (refine wLoad1 hk ?_ (hv := op_21 _ _ _ _ _ _ _ _); simp only [Act.put, List.setIfInBounds_toArray, List.set_cons_succ, List.set_cons_zero]) | (refine wLoadR hk ?_ (hc := ex_op _ _ _ _ _ _ _ _); simp only [Act.put, List.setIfInBounds_toArray, List.set_cons_succ, List.set_cons_zero]) | ((with_reducible show wpList _ _ _ _ _ _); (first | ((with_reducible show wpList _ _ _ (⟨_, _, _, _, _, some _⟩ :: _) _ _); refine wpList_skip (by rfl) ?_; simp only [Act.put, List.setIfInBounds_toArray, List.set_cons_succ, List.set_cons_zero]) | ((first | refine wBuild hk ?_ | refine wFieldZ hk ?_ | refine wField0 hk ?_ | refine wField hk ?_ | refine wIndexA0 hk ?_ | refine wIndexS0 hk ?_ | refine wIndexA hk ?_ | refine wIndexS hk ?_ | refine wLoadR hk ?_ | refine wLoad1 hk ?_ | refine wOldR hk ?_ | refine wOld1 hk ?_ | refine wOldC hk ?_ | refine wOldG hk ?_ | refine wAssertY hk ?_ | refine wAssertN hk ?_); simp only [Act.put, List.setIfInBounds_toArray, List.set_cons_succ, List.set_cons_zero]) | ((first | refine wBox hk ?_ | refine wBox1I hk ?_ | refine wBox1B hk ?_ | refine wBox1S hk ?_ | refine wBox1P hk ?_ | refine wBox1F hk ?_ | refine wAllocR hk ?_ | refine wAlloc1 hk ?_ | refine wMake hk ?_); clear hk; intro w1 hk; simp only [Act.put, List.setIfInBounds_toArray, List.set_cons_succ, List.set_cons_zero]) | ((first | refine wStoreR hk ?_ | refine wStore1I hk ?_ | refine wStore1B hk ?_ | refine wStore1S hk ?_ | refine wStore1P hk ?_ | refine wStore1F hk ?_); clear hk; intro w1 hk; simp only [Act.put]))))
  go_at_call 18
  refine (lawBack2 l pv hv w1.heap.size w1 w4 HL4.out HP1.out (Nat.le_refl _) hb14 hlen).mono ?_
  rintro x w5 ⟨rfl, hb5, hk5⟩
  have hb15 : Below w1.heap.size w1 w5 := hb14.trans hb5
  have HC5 : Hid (LentC w5 w2.heap.size cv hcv cl) := hide (by
    rcases HC4.out with h | ⟨a, c, g, h1, h2, h3, h4⟩
    · exact Or.inl h
    · refine Or.inr ⟨a, c, g, h1, h2, h3, ?_⟩
      unfold At at h4 ⊢
      rw [hk5 g (lt_of_block h4) (fun hh => by have := HLT.out g hh.symm; omega), h4])
  replace hk := hk.callB hb5 (by omega) (fun x hx => by simp at hx; subst hx; exact hn1)
  clear hk5
  go_wp2_with (first | (refine wLoad1 hk ?_ (hv := op_3 _ _ _ _ _ _ _ _); simp only [Act.put, List.setIfInBounds_toArray, List.set_cons_succ, List.set_cons_zero]) | (refine wLoad1 hk ?_ (hv := op_21 _ _ _ _ _ _ _ _); simp only [Act.put, List.setIfInBounds_toArray, List.set_cons_succ, List.set_cons_zero]) | (refine wLoadR hk ?_ (hc := ex_op _ _ _ _ _ _ _ _); simp only [Act.put, List.setIfInBounds_toArray, List.set_cons_succ, List.set_cons_zero]) | ((with_reducible show wpList _ _ _ _ _ _); (first | ((with_reducible show wpList _ _ _ (⟨_, _, _, _, _, some _⟩ :: _) _ _); refine wpList_skip (by rfl) ?_; simp only [Act.put, List.setIfInBounds_toArray, List.set_cons_succ, List.set_cons_zero]) | ((first | refine wBuild hk ?_ | refine wFieldZ hk ?_ | refine wField0 hk ?_ | refine wField hk ?_ | refine wIndexA0 hk ?_ | refine wIndexS0 hk ?_ | refine wIndexA hk ?_ | refine wIndexS hk ?_ | refine wLoadR hk ?_ | refine wLoad1 hk ?_ | refine wOldR hk ?_ | refine wOld1 hk ?_ | refine wOldC hk ?_ | refine wOldG hk ?_ | refine wAssertY hk ?_ | refine wAssertN hk ?_); simp only [Act.put, List.setIfInBounds_toArray, List.set_cons_succ, List.set_cons_zero]) | ((first | refine wBox hk ?_ | refine wBox1I hk ?_ | refine wBox1B hk ?_ | refine wBox1S hk ?_ | refine wBox1P hk ?_ | refine wBox1F hk ?_ | refine wAllocR hk ?_ | refine wAlloc1 hk ?_ | refine wMake hk ?_); clear hk; intro w1 hk; simp only [Act.put, List.setIfInBounds_toArray, List.set_cons_succ, List.set_cons_zero]) | ((first | refine wStoreR hk ?_ | refine wStore1I hk ?_ | refine wStore1B hk ?_ | refine wStore1S hk ?_ | refine wStore1P hk ?_ | refine wStore1F hk ?_); clear hk; intro w1 hk; simp only [Act.put]))))
  go_at_call 19
  refine (backC_any cl cv hcv w2.heap.size w1 w5 HC5.out HC1.out H12.out hb15 hcl).mono ?_
  rintro x w6 ⟨rfl, hb6⟩
  have hb16 : Below w1.heap.size w1 w6 := hb15.trans (hb6.mono H12.out)
  replace hk := hk.callB hb6 (by have := H12.out; omega) (fun x hx => by simp at hx; subst hx; have := H12.out; omega)
  go_wp2_with (first | (refine wLoad1 hk ?_ (hv := op_3 _ _ _ _ _ _ _ _); simp only [Act.put, List.setIfInBounds_toArray, List.set_cons_succ, List.set_cons_zero]) | (refine wLoad1 hk ?_ (hv := op_21 _ _ _ _ _ _ _ _); simp only [Act.put, List.setIfInBounds_toArray, List.set_cons_succ, List.set_cons_zero]) | (refine wLoadR hk ?_ (hc := ex_op _ _ _ _ _ _ _ _); simp only [Act.put, List.setIfInBounds_toArray, List.set_cons_succ, List.set_cons_zero]) | ((with_reducible show wpList _ _ _ _ _ _); (first | ((with_reducible show wpList _ _ _ (⟨_, _, _, _, _, some _⟩ :: _) _ _); refine wpList_skip (by rfl) ?_; simp only [Act.put, List.setIfInBounds_toArray, List.set_cons_succ, List.set_cons_zero]) | ((first | refine wBuild hk ?_ | refine wFieldZ hk ?_ | refine wField0 hk ?_ | refine wField hk ?_ | refine wIndexA0 hk ?_ | refine wIndexS0 hk ?_ | refine wIndexA hk ?_ | refine wIndexS hk ?_ | refine wLoadR hk ?_ | refine wLoad1 hk ?_ | refine wOldR hk ?_ | refine wOld1 hk ?_ | refine wOldC hk ?_ | refine wOldG hk ?_ | refine wAssertY hk ?_ | refine wAssertN hk ?_); simp only [Act.put, List.setIfInBounds_toArray, List.set_cons_succ, List.set_cons_zero]) | ((first | refine wBox hk ?_ | refine wBox1I hk ?_ | refine wBox1B hk ?_ | refine wBox1S hk ?_ | refine wBox1P hk ?_ | refine wBox1F hk ?_ | refine wAllocR hk ?_ | refine wAlloc1 hk ?_ | refine wMake hk ?_); clear hk; intro w1 hk; simp only [Act.put, List.setIfInBounds_toArray, List.set_cons_succ, List.set_cons_zero]) | ((first | refine wStoreR hk ?_ | refine wStore1I hk ?_ | refine wStore1B hk ?_ | refine wStore1S hk ?_ | refine wStore1P hk ?_ | refine wStore1F hk ?_); clear hk; intro w1 hk; simp only [Act.put]))))
  go_at_call 20
  refine (rf_Check l e cl H64.out hcl2 pv cv w6 (HP1.out.below hb16 (Nat.le_refl _)).1 (HC1.out.below hb16 (Nat.le_refl _)).1).mono ?_
  rintro x w7 ⟨rfl, hb7⟩
  rw [HPS.out]
  replace hk := hk.call hb7
  clear hb1 hb2 hb3 hb4 hb5 hb6 hb7 hb14 hb15 hb16
  go_wp2_with (first | (go_at_call 21; refine (num_any _ _).mono ?_; rintro x w8 ⟨rfl, rfl⟩) | ((with_reducible show wpList _ _ _ _ _ _); (first | ((with_reducible show wpList _ _ _ (⟨_, _, _, _, _, some _⟩ :: _) _ _); refine wpList_skip (by rfl) ?_; simp only [Act.put, List.setIfInBounds_toArray, List.set_cons_succ, List.set_cons_zero]) | ((first | refine wBuild hk ?_ | refine wFieldZ hk ?_ | refine wField0 hk ?_ | refine wField hk ?_ | refine wIndexA0 hk ?_ | refine wIndexS0 hk ?_ | refine wIndexA hk ?_ | refine wIndexS hk ?_ | refine wLoadR hk ?_ | refine wLoad1 hk ?_ | refine wOldR hk ?_ | refine wOld1 hk ?_ | refine wOldC hk ?_ | refine wOldG hk ?_ | refine wAssertY hk ?_ | refine wAssertN hk ?_); simp only [Act.put, List.setIfInBounds_toArray, List.set_cons_succ, List.set_cons_zero]) | ((first | refine wBox hk ?_ | refine wBox1I hk ?_ | refine wBox1B hk ?_ | refine wBox1S hk ?_ | refine wBox1P hk ?_ | refine wBox1F hk ?_ | refine wAllocR hk ?_ | refine wAlloc1 hk ?_ | refine wMake hk ?_); clear hk; intro w1 hk; simp only [Act.put, List.setIfInBounds_toArray, List.set_cons_succ, List.set_cons_zero]) | ((first | refine wStoreR hk ?_ | refine wStore1I hk ?_ | refine wStore1B hk ?_ | refine wStore1S hk ?_ | refine wStore1P hk ?_ | refine wStore1F hk ?_); clear hk; intro w1 hk; simp only [Act.put]))))
  go_ret
  exact ⟨rfl, hk.mod.below⟩
end Go.Proofs.YtamiichlbmllcaaDoor
