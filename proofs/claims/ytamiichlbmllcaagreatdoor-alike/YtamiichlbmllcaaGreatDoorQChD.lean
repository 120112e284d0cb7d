import Derived.Test.YtamiichlbmllcaaGreatDoorQChB
/-
  Marks: the contract of proof.marksOf.
-/
namespace Go.Proofs.YtamiichlbmllcaaGreatDoor
open Go.RowKit
/-- a program's instructions lie in block pb, as vf has them -/
def ProgC (w : World) (pb : Nat) (vf : I5 → Value) (l : List I5) : Prop := ∀ i, i < l.length → w.cell? ⟨pb, i * 1, none⟩ = some (vf (insAt l i))
theorem ProgC.mod {w w' : World} {pb : Nat} {vf : I5 → Value} {l : List I5} {M : List Nat} (h : ProgC w pb vf l) (hm : Mod M w w') (hp : pb ∉ M) : ProgC w' pb vf l := fun i hi => by
  rw [World.cell?_of_block (w := w) (a := ⟨pb, i * 1, none⟩) (hm.block pb (World.block_lt_of_cell? w _ (h i hi)) hp)]; exact h i hi
def markB (p : List I5) (n : Nat) : Bool := p.any fun i => decide (9 ≤ i.o) && decide (i.k = n)
def mkU (l : List I5) (i : Nat) : Nat → Bool := fun m => markB (l.take i) m
theorem mkU_zero (l : List I5) : mkU l 0 = fun _ => false := rfl
theorem mkU_all (l : List I5) : mkU l l.length = markB l := by unfold mkU; rw [List.take_length]
theorem take_succ_at {l : List I5} {i : Nat} (h : i < l.length) : l.take (i + 1) = l.take i ++ [insAt l i] := by rw [insAt_get h, List.take_append_getElem h]
theorem mkU_no {l : List I5} {i : Nat} (h : i < l.length) (hj : jumpsB (insAt l i) = false) : mkU l (i + 1) = mkU l i := by
  funext m
  unfold mkU markB
  rw [take_succ_at h, List.any_append]
  unfold jumpsB at hj
  simp [hj]
theorem mkU_yes {l : List I5} {i k : Nat} (h : i < l.length) (hj : jumpsB (insAt l i) = true) (hk : targI (insAt l i) = k) : mkU l (i + 1) = updB (mkU l i) k true := by
  funext m
  unfold mkU markB updB
  rw [take_succ_at h, List.any_append]
  unfold jumpsB at hj
  unfold targI at hk
  simp only [decide_eq_true_eq] at hj
  rw [if_pos hj] at hk
  by_cases e : m = k
  · subst e; simp [hj, hk]
  · have : ¬ ((insAt l i).k = (m : Int)) := by rw [hk]; omega
    simp [this, e]
theorem AllFit.fit {l : List I5} (h : AllFit l) {i : Nat} (hi : i < l.length) : (insAt l i).fits l.length = true := by rw [insAt_get hi]; exact h.2.2 i hi
theorem AllFit.targ {l : List I5} (h : AllFit l) {i : Nat} (hi : i < l.length) (hj : jumpsB (insAt l i) = true) : ∃ k : Nat, targI (insAt l i) = k ∧ k < l.length := by
  unfold jumpsB at hj
  simp only [decide_eq_true_eq] at hj
  have := h.k hi hj
  refine ⟨(insAt l i).k.toNat, ?_, this.2⟩
  unfold targI
  rw [if_pos hj]
  omega
set_option maxHeartbeats 1000000 in
set_option maxRecDepth 100000 in
theorem marksOf_any (l : List I5) (hl : AllFit l) (pb cap : Nat) (w : World) (hp : ProgC w pb iVal l) : Calls Tryz.prog 63 #[.slice (some ⟨pb, 0, none⟩) l.length cap] w fun e w' => ∃ mb, e = .returned (.slice (some ⟨mb, 0, none⟩) l.length l.length) ∧ At w' mb (bosA l.length (markB l)) 4 ∧ w.heap.size ≤ mb ∧ Below w.heap.size w w' := by
  have hk := Kn.nil [] w
  have hn := hl.2.1
  go_enter Tryz.func63, Tryz.ntmps63
  go_wp2_with (first | ((with_reducible show wpList _ _ _ _ _ _); (first | ((with_reducible show wpList _ _ _ (⟨_, _, _, _, _, some _⟩ :: _) _ _); refine wpList_skip (by rfl) ?_; simp only [Act.put, List.setIfInBounds_toArray, List.set_cons_succ, List.set_cons_zero]) | ((first | refine wBuild hk ?_ | refine wFieldZ hk ?_ | refine wField0 hk ?_ | refine wField hk ?_ | refine wIndexA0 hk ?_ | refine wIndexS0 hk ?_ | refine wIndexA hk ?_ | refine wIndexS hk ?_ | refine wLoadR hk ?_ | refine wLoad1 hk ?_ | refine wOldR hk ?_ | refine wOld1 hk ?_ | refine wOldC hk ?_ | refine wOldG hk ?_ | refine wAssertY hk ?_ | refine wAssertN hk ?_); simp only [Act.put, List.setIfInBounds_toArray, List.set_cons_succ, List.set_cons_zero]) | ((first | refine wBox hk ?_ | refine wBox1I hk ?_ | refine wBox1B hk ?_ | refine wBox1S hk ?_ | refine wBox1P hk ?_ | refine wBox1F hk ?_ | refine wAllocR hk ?_ | refine wAlloc1 hk ?_ | refine wMake hk ?_); clear hk; intro w1 hk; simp only [Act.put, List.setIfInBounds_toArray, List.set_cons_succ, List.set_cons_zero]) | ((first | refine wStoreR hk ?_ | refine wStore1I hk ?_ | refine wStore1B hk ?_ | refine wStore1S hk ?_ | refine wStore1P hk ?_ | refine wStore1F hk ?_); clear hk; intro w1 hk; simp only [Act.put]))))
  replace hk : Kn [] w w1 [(w.heap.size, bosA l.length (mkU l 0), 4)] := hk
  go_loopw [12] (fun j wr => ∃ i : Nat, i ≤ l.length ∧ j = .int .i64 i ∧ Kn [] w wr [(w.heap.size, bosA l.length (mkU l i), 4)]) (fun j _ => l.length - (intOf j).toNat)
  case atStart => exact ⟨0, by omega, rfl, hk⟩
  case round =>
    clear hk
    obtain ⟨i, hi, rfl, hk⟩ := hrel
    by_cases hlt : i < l.length
    · have hc := hp.mod hk.mod (List.not_mem_nil) i hlt
      cases hj : jumpsB (insAt l i) with
      | false =>
        have R := hide (mkU_no hlt hj)
        go_wp2_with (first | (go_at_call 101; refine (target_any (insAt l i) _ (hl.fit hlt) _ _ _ _ hlt _ hc).mono ?_; rintro e w1 ⟨rfl, hb⟩; replace hk := hk.call hb; clear hb; rw [hj]) | ((with_reducible show wpList _ _ _ _ _ _); (first | ((with_reducible show wpList _ _ _ (⟨_, _, _, _, _, some _⟩ :: _) _ _); refine wpList_skip (by rfl) ?_; simp only [Act.put, List.setIfInBounds_toArray, List.set_cons_succ, List.set_cons_zero]) | ((first | refine wBuild hk ?_ | refine wFieldZ hk ?_ | refine wField0 hk ?_ | refine wField hk ?_ | refine wIndexA0 hk ?_ | refine wIndexS0 hk ?_ | refine wIndexA hk ?_ | refine wIndexS hk ?_ | refine wLoadR hk ?_ | refine wLoad1 hk ?_ | refine wOldR hk ?_ | refine wOld1 hk ?_ | refine wOldC hk ?_ | refine wOldG hk ?_ | refine wAssertY hk ?_ | refine wAssertN hk ?_); simp only [Act.put, List.setIfInBounds_toArray, List.set_cons_succ, List.set_cons_zero]) | ((first | refine wBox hk ?_ | refine wBox1I hk ?_ | refine wBox1B hk ?_ | refine wBox1S hk ?_ | refine wBox1P hk ?_ | refine wBox1F hk ?_ | refine wAllocR hk ?_ | refine wAlloc1 hk ?_ | refine wMake hk ?_); clear hk; intro w1 hk; simp only [Act.put, List.setIfInBounds_toArray, List.set_cons_succ, List.set_cons_zero]) | ((first | refine wStoreR hk ?_ | refine wStore1I hk ?_ | refine wStore1B hk ?_ | refine wStore1S hk ?_ | refine wStore1P hk ?_ | refine wStore1F hk ?_); clear hk; intro w1 hk; simp only [Act.put]))))
        go_roundw
        case rel => exact ⟨i + 1, by omega, by go_num, by rw [R.out]; exact hk⟩
        case measure => simp [intOf]; omega
      | true =>
        obtain ⟨k, hk1, hk2⟩ := hl.targ hlt hj
        have R := hide (mkU_yes hlt hj hk1)
        go_wp2_with (first | (go_at_call 101; refine (target_any (insAt l i) _ (hl.fit hlt) _ _ _ _ hlt _ hc).mono ?_; rintro e w1 ⟨rfl, hb⟩; replace hk := hk.call hb; clear hb; rw [hj, hk1]) | ((with_reducible show wpList _ _ _ _ _ _); (first | ((with_reducible show wpList _ _ _ (⟨_, _, _, _, _, some _⟩ :: _) _ _); refine wpList_skip (by rfl) ?_; simp only [Act.put, List.setIfInBounds_toArray, List.set_cons_succ, List.set_cons_zero]) | ((first | refine wBuild hk ?_ | refine wFieldZ hk ?_ | refine wField0 hk ?_ | refine wField hk ?_ | refine wIndexA0 hk ?_ | refine wIndexS0 hk ?_ | refine wIndexA hk ?_ | refine wIndexS hk ?_ | refine wLoadR hk ?_ | refine wLoad1 hk ?_ | refine wOldR hk ?_ | refine wOld1 hk ?_ | refine wOldC hk ?_ | refine wOldG hk ?_ | refine wAssertY hk ?_ | refine wAssertN hk ?_); simp only [Act.put, List.setIfInBounds_toArray, List.set_cons_succ, List.set_cons_zero]) | ((first | refine wBox hk ?_ | refine wBox1I hk ?_ | refine wBox1B hk ?_ | refine wBox1S hk ?_ | refine wBox1P hk ?_ | refine wBox1F hk ?_ | refine wAllocR hk ?_ | refine wAlloc1 hk ?_ | refine wMake hk ?_); clear hk; intro w1 hk; simp only [Act.put, List.setIfInBounds_toArray, List.set_cons_succ, List.set_cons_zero]) | ((first | refine wStoreR hk ?_ | refine wStore1I hk ?_ | refine wStore1B hk ?_ | refine wStore1S hk ?_ | refine wStore1P hk ?_ | refine wStore1F hk ?_); clear hk; intro w1 hk; simp only [Act.put]))))
        go_roundw
        case rel => exact ⟨i + 1, by omega, by go_num, by rw [R.out]; exact hk⟩
        case measure => simp [intOf]; omega
    · have e : i = l.length := by omega
      subst e
      rw [mkU_all] at hk
      go_wp2_with (first | ((with_reducible show wpList _ _ _ _ _ _); (first | ((with_reducible show wpList _ _ _ (⟨_, _, _, _, _, some _⟩ :: _) _ _); refine wpList_skip (by rfl) ?_; simp only [Act.put, List.setIfInBounds_toArray, List.set_cons_succ, List.set_cons_zero]) | ((first | refine wBuild hk ?_ | refine wFieldZ hk ?_ | refine wField0 hk ?_ | refine wField hk ?_ | refine wIndexA0 hk ?_ | refine wIndexS0 hk ?_ | refine wIndexA hk ?_ | refine wIndexS hk ?_ | refine wLoadR hk ?_ | refine wLoad1 hk ?_ | refine wOldR hk ?_ | refine wOld1 hk ?_ | refine wOldC hk ?_ | refine wOldG hk ?_ | refine wAssertY hk ?_ | refine wAssertN hk ?_); simp only [Act.put, List.setIfInBounds_toArray, List.set_cons_succ, List.set_cons_zero]) | ((first | refine wBox hk ?_ | refine wBox1I hk ?_ | refine wBox1B hk ?_ | refine wBox1S hk ?_ | refine wBox1P hk ?_ | refine wBox1F hk ?_ | refine wAllocR hk ?_ | refine wAlloc1 hk ?_ | refine wMake hk ?_); clear hk; intro w1 hk; simp only [Act.put, List.setIfInBounds_toArray, List.set_cons_succ, List.set_cons_zero]) | ((first | refine wStoreR hk ?_ | refine wStore1I hk ?_ | refine wStore1B hk ?_ | refine wStore1S hk ?_ | refine wStore1P hk ?_ | refine wStore1F hk ?_); clear hk; intro w1 hk; simp only [Act.put]))))
      go_ret
      exact ⟨_, rfl, hk.at (by with_reducible repeat (first | exact List.mem_cons_self | apply List.mem_cons_of_mem)), Nat.le_refl _, hk.mod.below⟩
end Go.Proofs.YtamiichlbmllcaaGreatDoor
/-
  Claims: the contracts of proof.firstWrong and proof.layOut.
-/
namespace Go.Proofs.YtamiichlbmllcaaGreatDoor
open Go.RowKit
/-- a claim: of which instruction, and the state -/
structure C2 where
  pl : Int
  st : St
def clAt (cl : List C2) (i : Nat) : C2 := (cl[i]?).getD ⟨0, zeroS⟩
theorem clAt_get {cl : List C2} {i : Nat} (h : i < cl.length) : clAt cl i = cl[i] := by unfold clAt; rw [List.getElem?_eq_getElem h]; rfl
/-- a list of claims, wherever it lies -/
def SlcC (w : World) (v : Value) (cl : List C2) : Prop :=
  ((∃ a cap, v = .slice a 0 cap) ∧ cl = []) ∨ ∃ b off cap, v = .slice (some ⟨b, off, none⟩) cl.length cap ∧ b < w.heap.size ∧ ∀ i, i < cl.length → w.rangeAt b (off + i * 17) (clC (clAt cl i).pl (clAt cl i).st).toList
theorem SlcC.below {w w' : World} {v : Value} {cl : List C2} {B : Nat} (h : SlcC w v cl) (hb : Below B w w') (hB : w.heap.size ≤ B) : SlcC w' v cl := by
  rcases h with h | ⟨b, off, cap, h1, h2, h3⟩
  · exact Or.inl h
  · refine Or.inr ⟨b, off, cap, h1, Nat.lt_of_lt_of_le h2 hb.size, fun i hi j u hu => ?_⟩
    rw [hb.cell (p := ⟨b, _, none⟩) (Nat.lt_of_lt_of_le h2 hB)]; exact h3 i hi j u hu
/-- is a claim wrong behind one of instruction last? -/
def badC (mk : Nat → Bool) (n : Nat) (last : Int) (c : C2) : Bool := decide (c.pl ≤ last) || decide ((n : Int) ≤ c.pl) || !mk c.pl.toNat || !isStR c.st
def fwR (mk : Nat → Bool) (n : Nat) : List C2 → Int → Nat → Nat
  | [], _, i => i
  | c :: r, last, i => if badC mk n last c then i else fwR mk n r c.pl (i + 1)
theorem fwR_bad {mk : Nat → Bool} {n : Nat} {cl : List C2} {i : Nat} {last : Int} (h : i < cl.length) (hb : badC mk n last (clAt cl i) = true) : fwR mk n (cl.drop i) last i = i := by
  rw [List.drop_eq_getElem_cons h, fwR, ← clAt_get h, if_pos hb]
theorem fwR_ok {mk : Nat → Bool} {n : Nat} {cl : List C2} {i : Nat} {last : Int} (h : i < cl.length) (hb : badC mk n last (clAt cl i) = false) : fwR mk n (cl.drop i) last i = fwR mk n (cl.drop (i + 1)) (clAt cl i).pl (i + 1) := by
  rw [List.drop_eq_getElem_cons h, fwR, ← clAt_get h, if_neg (by simp [hb])]
theorem ret_nat {a b : Nat} (h : a = b) : Ending.returned (.int .i64 (a : Int)) = .returned (.int .i64 (b : Int)) := by rw [h]
set_option maxHeartbeats 1000000 in
set_option maxRecDepth 100000 in
theorem firstWrong_some (mk : Nat → Bool) (n : Nat) (mb mc : Nat) (cl : List C2) (hcl : cl.length < 4000000000000) (b off cap : Nat) (w : World) (hm : At w mb (bosA n mk) 4) (hb : b < w.heap.size) (hc : ∀ i, i < cl.length → w.rangeAt b (off + i * 17) (clC (clAt cl i).pl (clAt cl i).st).toList) :
    Calls Tryz.prog 64 #[.slice (some ⟨mb, 0, none⟩) n mc, .slice (some ⟨b, off, none⟩) cl.length cap] w fun e w' => e = .returned (.int .i64 (fwR mk n cl (-1) 0 : Nat)) ∧ Below w.heap.size w w' := by
  have hk := Kn.nil [] w
  have HC := hide hc
  clear hc
  obtain ⟨FW, hFW⟩ : ∃ FW, FW = fwR mk n cl (-1) 0 := ⟨_, rfl⟩
  rw [← hFW]
  have HF := hide hFW
  clear hFW
  go_enter Tryz.func64, Tryz.ntmps64
  go_wp2_with (first | ((with_reducible show wpList _ _ _ _ _ _); (first | ((with_reducible show wpList _ _ _ (⟨_, _, _, _, _, some _⟩ :: _) _ _); refine wpList_skip (by rfl) ?_; simp only [Act.put, List.setIfInBounds_toArray, List.set_cons_succ, List.set_cons_zero]) | ((first | refine wBuild hk ?_ | refine wFieldZ hk ?_ | refine wField0 hk ?_ | refine wField hk ?_ | refine wIndexA0 hk ?_ | refine wIndexS0 hk ?_ | refine wIndexA hk ?_ | refine wIndexS hk ?_ | refine wLoadR hk ?_ | refine wLoad1 hk ?_ | refine wOldR hk ?_ | refine wOld1 hk ?_ | refine wOldC hk ?_ | refine wOldG hk ?_ | refine wAssertY hk ?_ | refine wAssertN hk ?_); simp only [Act.put, List.setIfInBounds_toArray, List.set_cons_succ, List.set_cons_zero]) | ((first | refine wBox hk ?_ | refine wBox1I hk ?_ | refine wBox1B hk ?_ | refine wBox1S hk ?_ | refine wBox1P hk ?_ | refine wBox1F hk ?_ | refine wAllocR hk ?_ | refine wAlloc1 hk ?_ | refine wMake hk ?_); clear hk; intro w1 hk; simp only [Act.put, List.setIfInBounds_toArray, List.set_cons_succ, List.set_cons_zero]) | ((first | refine wStoreR hk ?_ | refine wStore1I hk ?_ | refine wStore1B hk ?_ | refine wStore1S hk ?_ | refine wStore1P hk ?_ | refine wStore1F hk ?_); clear hk; intro w1 hk; simp only [Act.put]))))
  go_loopw [5, 10] (fun la j wr => ∃ (i : Nat) (last : Int), i ≤ cl.length ∧ la = .int .i64 last ∧ j = .int .i64 i ∧ -1 ≤ last ∧ fwR mk n (cl.drop i) last i = FW ∧ Kn [] w wr []) (fun _ j _ => cl.length - (intOf j).toNat)
  case atStart => exact ⟨0, -1, by omega, rfl, rfl, by omega, HF.out.symm, hk⟩
  case round =>
    clear hk HF
    obtain ⟨i, last, hi, rfl, rfl, hla, hR, hk⟩ := hrel
    by_cases hlt : i < cl.length
    · have hci := HC.out i hlt
      have HR := hide hR
      clear hR
      obtain ⟨c, hcd⟩ : ∃ c, c = clAt cl i := ⟨_, rfl⟩
      rw [← hcd] at hci
      have HCD := hide hcd
      clear hcd
      have hba : ∀ B, badC mk n last c = B → badC mk n last (clAt cl i) = B := fun B h => by rw [← HCD.out]; exact h
      by_cases h1 : c.pl ≤ last
      · have RB : Hid (i = FW) := hide (by rw [← HR.out, fwR_bad hlt (hba true (by unfold badC; simp [h1]))])
        have h4 : True := trivial
        clear hba
        go_wp2_with (first | ((with_reducible show wpList _ _ _ _ _ _); (first | ((with_reducible show wpList _ _ _ (⟨_, _, _, _, _, some _⟩ :: _) _ _); refine wpList_skip (by rfl) ?_; simp only [Act.put, List.setIfInBounds_toArray, List.set_cons_succ, List.set_cons_zero]) | ((first | refine wBuild hk ?_ | refine wFieldZ hk ?_ | refine wField0 hk ?_ | refine wField hk ?_ | refine wIndexA0 hk ?_ | refine wIndexS0 hk ?_ | refine wIndexA hk ?_ | refine wIndexS hk ?_ | refine wLoadR hk ?_ | refine wLoad1 hk ?_ | refine wOldR hk ?_ | refine wOld1 hk ?_ | refine wOldC hk ?_ | refine wOldG hk ?_ | refine wAssertY hk ?_ | refine wAssertN hk ?_); simp only [Act.put, List.setIfInBounds_toArray, List.set_cons_succ, List.set_cons_zero]) | ((first | refine wBox hk ?_ | refine wBox1I hk ?_ | refine wBox1B hk ?_ | refine wBox1S hk ?_ | refine wBox1P hk ?_ | refine wBox1F hk ?_ | refine wAllocR hk ?_ | refine wAlloc1 hk ?_ | refine wMake hk ?_); clear hk; intro w1 hk; simp only [Act.put, List.setIfInBounds_toArray, List.set_cons_succ, List.set_cons_zero]) | ((first | refine wStoreR hk ?_ | refine wStore1I hk ?_ | refine wStore1B hk ?_ | refine wStore1S hk ?_ | refine wStore1P hk ?_ | refine wStore1F hk ?_); clear hk; intro w1 hk; simp only [Act.put]))))
        go_ret
        exact ⟨ret_nat RB.out, hk.mod.below⟩
      · have d1 : decide (c.pl ≤ last) = false := by simpa using h1
        obtain ⟨k, hkk⟩ : ∃ k : Nat, c.pl = k := ⟨c.pl.toNat, by omega⟩
        by_cases h2 : (n : Int) ≤ c.pl
        · have RB : Hid (i = FW) := hide (by rw [← HR.out, fwR_bad hlt (hba true (by unfold badC; simp [h2]))])
          clear hba hkk
          go_wp2_with (first | ((with_reducible show wpList _ _ _ _ _ _); (first | ((with_reducible show wpList _ _ _ (⟨_, _, _, _, _, some _⟩ :: _) _ _); refine wpList_skip (by rfl) ?_; simp only [Act.put, List.setIfInBounds_toArray, List.set_cons_succ, List.set_cons_zero]) | ((first | refine wBuild hk ?_ | refine wFieldZ hk ?_ | refine wField0 hk ?_ | refine wField hk ?_ | refine wIndexA0 hk ?_ | refine wIndexS0 hk ?_ | refine wIndexA hk ?_ | refine wIndexS hk ?_ | refine wLoadR hk ?_ | refine wLoad1 hk ?_ | refine wOldR hk ?_ | refine wOld1 hk ?_ | refine wOldC hk ?_ | refine wOldG hk ?_ | refine wAssertY hk ?_ | refine wAssertN hk ?_); simp only [Act.put, List.setIfInBounds_toArray, List.set_cons_succ, List.set_cons_zero]) | ((first | refine wBox hk ?_ | refine wBox1I hk ?_ | refine wBox1B hk ?_ | refine wBox1S hk ?_ | refine wBox1P hk ?_ | refine wBox1F hk ?_ | refine wAllocR hk ?_ | refine wAlloc1 hk ?_ | refine wMake hk ?_); clear hk; intro w1 hk; simp only [Act.put, List.setIfInBounds_toArray, List.set_cons_succ, List.set_cons_zero]) | ((first | refine wStoreR hk ?_ | refine wStore1I hk ?_ | refine wStore1B hk ?_ | refine wStore1S hk ?_ | refine wStore1P hk ?_ | refine wStore1F hk ?_); clear hk; intro w1 hk; simp only [Act.put]))))
          go_ret
          exact ⟨ret_nat RB.out, hk.mod.below⟩
        · have d2 : decide ((n : Int) ≤ c.pl) = false := by simpa using h2
          have hkn : k < n := by omega
          obtain ⟨pl, st⟩ := c
          simp only at hkk h1 h2 d1 d2 hci
          subst hkk
          cases h3 : mk k with
          | false =>
            have RB : Hid (i = FW) := hide (by rw [← HR.out, fwR_bad hlt (hba true (by unfold badC; simp [h3]))])
            clear hba
            go_wp2_with (first | ((with_reducible show wpList _ _ _ _ _ _); (first | ((with_reducible show wpList _ _ _ (⟨_, _, _, _, _, some _⟩ :: _) _ _); refine wpList_skip (by rfl) ?_; simp only [Act.put, List.setIfInBounds_toArray, List.set_cons_succ, List.set_cons_zero]) | ((first | refine wBuild hk ?_ | refine wFieldZ hk ?_ | refine wField0 hk ?_ | refine wField hk ?_ | refine wIndexA0 hk ?_ | refine wIndexS0 hk ?_ | refine wIndexA hk ?_ | refine wIndexS hk ?_ | refine wLoadR hk ?_ | refine wLoad1 hk ?_ | refine wOldR hk ?_ | refine wOld1 hk ?_ | refine wOldC hk ?_ | refine wOldG hk ?_ | refine wAssertY hk ?_ | refine wAssertN hk ?_); simp only [Act.put, List.setIfInBounds_toArray, List.set_cons_succ, List.set_cons_zero]) | ((first | refine wBox hk ?_ | refine wBox1I hk ?_ | refine wBox1B hk ?_ | refine wBox1S hk ?_ | refine wBox1P hk ?_ | refine wBox1F hk ?_ | refine wAllocR hk ?_ | refine wAlloc1 hk ?_ | refine wMake hk ?_); clear hk; intro w1 hk; simp only [Act.put, List.setIfInBounds_toArray, List.set_cons_succ, List.set_cons_zero]) | ((first | refine wStoreR hk ?_ | refine wStore1I hk ?_ | refine wStore1B hk ?_ | refine wStore1S hk ?_ | refine wStore1P hk ?_ | refine wStore1F hk ?_); clear hk; intro w1 hk; simp only [Act.put]))))
            go_ret
            exact ⟨ret_nat RB.out, hk.mod.below⟩
          | true =>
            cases h4 : isStR st with
            | false =>
              have RB : Hid (i = FW) := hide (by rw [← HR.out, fwR_bad hlt (hba true (by unfold badC; simp [h4]))])
              clear hba
              go_wp2_with (first | (go_at_call 62; refine (isState_any _ _).mono ?_; rintro e w1 ⟨rfl, hb⟩; replace hk := hk.call hb; clear hb; rw [h4]) | ((with_reducible show wpList _ _ _ _ _ _); (first | ((with_reducible show wpList _ _ _ (⟨_, _, _, _, _, some _⟩ :: _) _ _); refine wpList_skip (by rfl) ?_; simp only [Act.put, List.setIfInBounds_toArray, List.set_cons_succ, List.set_cons_zero]) | ((first | refine wBuild hk ?_ | refine wFieldZ hk ?_ | refine wField0 hk ?_ | refine wField hk ?_ | refine wIndexA0 hk ?_ | refine wIndexS0 hk ?_ | refine wIndexA hk ?_ | refine wIndexS hk ?_ | refine wLoadR hk ?_ | refine wLoad1 hk ?_ | refine wOldR hk ?_ | refine wOld1 hk ?_ | refine wOldC hk ?_ | refine wOldG hk ?_ | refine wAssertY hk ?_ | refine wAssertN hk ?_); simp only [Act.put, List.setIfInBounds_toArray, List.set_cons_succ, List.set_cons_zero]) | ((first | refine wBox hk ?_ | refine wBox1I hk ?_ | refine wBox1B hk ?_ | refine wBox1S hk ?_ | refine wBox1P hk ?_ | refine wBox1F hk ?_ | refine wAllocR hk ?_ | refine wAlloc1 hk ?_ | refine wMake hk ?_); clear hk; intro w1 hk; simp only [Act.put, List.setIfInBounds_toArray, List.set_cons_succ, List.set_cons_zero]) | ((first | refine wStoreR hk ?_ | refine wStore1I hk ?_ | refine wStore1B hk ?_ | refine wStore1S hk ?_ | refine wStore1P hk ?_ | refine wStore1F hk ?_); clear hk; intro w1 hk; simp only [Act.put]))))
              go_ret
              exact ⟨ret_nat RB.out, hk.mod.below⟩
            | true =>
              have RB : Hid (fwR mk n (cl.drop (i + 1)) k (i + 1) = FW) := hide (by rw [← HR.out, fwR_ok hlt (hba false (by unfold badC; simp only [d1, d2, Int.toNat_natCast, h3, h4]; rfl)), ← HCD.out])
              clear hba
              go_wp2_with (first | (go_at_call 62; refine (isState_any _ _).mono ?_; rintro e w1 ⟨rfl, hb⟩; replace hk := hk.call hb; clear hb; rw [h4]) | ((with_reducible show wpList _ _ _ _ _ _); (first | ((with_reducible show wpList _ _ _ (⟨_, _, _, _, _, some _⟩ :: _) _ _); refine wpList_skip (by rfl) ?_; simp only [Act.put, List.setIfInBounds_toArray, List.set_cons_succ, List.set_cons_zero]) | ((first | refine wBuild hk ?_ | refine wFieldZ hk ?_ | refine wField0 hk ?_ | refine wField hk ?_ | refine wIndexA0 hk ?_ | refine wIndexS0 hk ?_ | refine wIndexA hk ?_ | refine wIndexS hk ?_ | refine wLoadR hk ?_ | refine wLoad1 hk ?_ | refine wOldR hk ?_ | refine wOld1 hk ?_ | refine wOldC hk ?_ | refine wOldG hk ?_ | refine wAssertY hk ?_ | refine wAssertN hk ?_); simp only [Act.put, List.setIfInBounds_toArray, List.set_cons_succ, List.set_cons_zero]) | ((first | refine wBox hk ?_ | refine wBox1I hk ?_ | refine wBox1B hk ?_ | refine wBox1S hk ?_ | refine wBox1P hk ?_ | refine wBox1F hk ?_ | refine wAllocR hk ?_ | refine wAlloc1 hk ?_ | refine wMake hk ?_); clear hk; intro w1 hk; simp only [Act.put, List.setIfInBounds_toArray, List.set_cons_succ, List.set_cons_zero]) | ((first | refine wStoreR hk ?_ | refine wStore1I hk ?_ | refine wStore1B hk ?_ | refine wStore1S hk ?_ | refine wStore1P hk ?_ | refine wStore1F hk ?_); clear hk; intro w1 hk; simp only [Act.put]))))
              go_roundw
              case rel => exact ⟨i + 1, k, by omega, rfl, by go_num, by omega, RB.out, hk.drop⟩
              case measure => simp [intOf]; omega
    · have e : i = cl.length := by omega
      subst e
      rw [List.drop_length, fwR] at hR
      have HR := hide hR
      clear hR
      go_wp2_with (first | ((with_reducible show wpList _ _ _ _ _ _); (first | ((with_reducible show wpList _ _ _ (⟨_, _, _, _, _, some _⟩ :: _) _ _); refine wpList_skip (by rfl) ?_; simp only [Act.put, List.setIfInBounds_toArray, List.set_cons_succ, List.set_cons_zero]) | ((first | refine wBuild hk ?_ | refine wFieldZ hk ?_ | refine wField0 hk ?_ | refine wField hk ?_ | refine wIndexA0 hk ?_ | refine wIndexS0 hk ?_ | refine wIndexA hk ?_ | refine wIndexS hk ?_ | refine wLoadR hk ?_ | refine wLoad1 hk ?_ | refine wOldR hk ?_ | refine wOld1 hk ?_ | refine wOldC hk ?_ | refine wOldG hk ?_ | refine wAssertY hk ?_ | refine wAssertN hk ?_); simp only [Act.put, List.setIfInBounds_toArray, List.set_cons_succ, List.set_cons_zero]) | ((first | refine wBox hk ?_ | refine wBox1I hk ?_ | refine wBox1B hk ?_ | refine wBox1S hk ?_ | refine wBox1P hk ?_ | refine wBox1F hk ?_ | refine wAllocR hk ?_ | refine wAlloc1 hk ?_ | refine wMake hk ?_); clear hk; intro w1 hk; simp only [Act.put, List.setIfInBounds_toArray, List.set_cons_succ, List.set_cons_zero]) | ((first | refine wStoreR hk ?_ | refine wStore1I hk ?_ | refine wStore1B hk ?_ | refine wStore1S hk ?_ | refine wStore1P hk ?_ | refine wStore1F hk ?_); clear hk; intro w1 hk; simp only [Act.put]))))
      go_ret
      exact ⟨ret_nat HR.out, hk.mod.below⟩
end Go.Proofs.YtamiichlbmllcaaGreatDoor
