import Derived.Test.YtamiichlbmllcaaGreatDoorQKpC
import Derived.Test.YtamiichlbmllcaaGreatDoorQRunX
import Derived.Test.YtamiichlbmllcaaGreatDoorQRngE
/-
  suretykeep.chosen: registers within a state, by raw ones.
-/
namespace Go.Proofs.YtamiichlbmllcaaGreatDoor
open Go.RowKit
def choR (s : St) (r : Nat → Int) : Nat → Int := fun j => insI (s j) (r j)
def choU (s : St) (r : Nat → Int) (n : Nat) : Nat → Int := fun j => if j < n then insI (s j) (r j) else 0
theorem choU_step (s : St) (r : Nat → Int) (n : Nat) : updI (choU s r n) n (insI (s n) (r n)) = choU s r (n + 1) := by
  funext j
  unfold updI choU
  by_cases e : j = n
  · subst e; rw [if_pos rfl, if_pos (by omega)]
  · rw [if_neg e]
    by_cases h : j < n
    · rw [if_pos h, if_pos (by omega)]
    · rw [if_neg h, if_neg (by omega)]
theorem rgs_congr {r q : Nat → Int} (h : ∀ j, j < 8 → r j = q j) : rgsC r = rgsC q := by
  unfold rgsC
  rw [h 0 (by omega), h 1 (by omega), h 2 (by omega), h 3 (by omega), h 4 (by omega), h 5 (by omega), h 6 (by omega), h 7 (by omega)]
theorem cho_in {s : St} (h : s.ok) (r : Nat → Int) : inS (choR s r) s := fun j hj => insI_in (h j hj) (r j)
theorem areR_iff {r : Nat → Int} {s : St} : areR r s = true ↔ ∀ j, j < 8 → (s j).lo ≤ r j ∧ r j ≤ (s j).hi := by
  unfold areR
  rw [List.all_eq_true]
  simp [hasR]
theorem Kn.five {M : List Nat} {w0 w : World} {r0 r1 r2 r3 : Nat × Array Value × TypeId} (h : Kn M w0 w [r0, r1, r2, r3]) : Kn M w0 w [r2, r3] := h.sub (.cons _ (.cons _ (List.Sublist.refl _)))
theorem wp_reg23 {P : Program} {id : Nat} {l : List Oper} {Q : Exit → Act → World → Prop} {a : Act} {w : World} {M : List Nat} {w0 : World} {r0 r1 r2 r3 : Nat × Array Value × TypeId} (hk : Kn M w0 w [r0, r1, r2, r3]) (t : OT) (F : Nat → Bool) (hm : P.follows .mixedOrders = true) (hn : t.size ≤ l.length) (hsel : Region.noSelect l.toArray = true)
    (hv : okT l.toArray F t (Array.replicate l.length false) = true) (h : ∀ w1, Kn M w0 w1 [r0, r1, r2, r3] → wpT P l Q F (fun wx => Kn M w0 wx [r2, r3]) t a w1) : (Code.region id l.toArray true).wp P Q a w := wp_regS hk _ t F hm hn hsel hv h
set_option maxHeartbeats 2000000 in
set_option maxRecDepth 100000 in
theorem chosen_any (s : St) (hs : s.ok) (h64 : s.in64) (r : Nat → Int) (w : World) : Calls Tryz.prog 24 #[.agg (stC s), .agg (rgsC r)] w fun e w' => e = .returned (.agg (rgsC (choR s r))) ∧ Below w.heap.size w w' := by
  have hk := Kn.nil [] w
  have HS := hide hs
  have H64 := hide h64
  clear hs h64
  go_enter Tryz.func24, Tryz.ntmps24
  go_wp2_with (first | ((with_reducible show wpList _ _ _ (⟨some 2, _, _, _, _, _⟩ :: _) _ _); refine wBox hk ?_; clear hk; intro wa hk; simp only [Act.put, List.setIfInBounds_toArray, List.set_cons_succ, List.set_cons_zero]) | ((with_reducible show wpList _ _ _ (⟨some 3, _, _, _, _, _⟩ :: _) _ _); refine wBox hk ?_; clear hk; intro wb hk; simp only [Act.put, List.setIfInBounds_toArray, List.set_cons_succ, List.set_cons_zero]) | ((with_reducible show wpList _ _ _ (⟨some 4, _, _, _, _, _⟩ :: _) _ _); refine wAllocR hk ?_; clear hk; intro wd hk; simp only [Act.put, List.setIfInBounds_toArray, List.set_cons_succ, List.set_cons_zero]) | ((with_reducible show wpList _ _ _ _ _ _); (first | ((with_reducible show wpList _ _ _ (⟨_, _, _, _, _, some _⟩ :: _) _ _); refine wpList_skip (by rfl) ?_; simp only [Act.put, List.setIfInBounds_toArray, List.set_cons_succ, List.set_cons_zero]) | ((first | refine wBuild hk ?_ | refine wFieldZ hk ?_ | refine wField0 hk ?_ | refine wField hk ?_ | refine wIndexA0 hk ?_ | refine wIndexS0 hk ?_ | refine wIndexA hk ?_ | refine wIndexS hk ?_ | refine wLoadR hk ?_ | refine wLoad1 hk ?_ | refine wOldR hk ?_ | refine wOld1 hk ?_ | refine wOldC hk ?_ | refine wOldG hk ?_ | refine wAssertY hk ?_ | refine wAssertN hk ?_); simp only [Act.put, List.setIfInBounds_toArray, List.set_cons_succ, List.set_cons_zero]) | ((first | refine wBox hk ?_ | refine wBox1I hk ?_ | refine wBox1B hk ?_ | refine wBox1S hk ?_ | refine wBox1P hk ?_ | refine wBox1F hk ?_ | refine wAllocR hk ?_ | refine wAlloc1 hk ?_ | refine wMake hk ?_); clear hk; intro w1 hk; simp only [Act.put, List.setIfInBounds_toArray, List.set_cons_succ, List.set_cons_zero]) | ((first | refine wStoreR hk ?_ | refine wStore1I hk ?_ | refine wStore1B hk ?_ | refine wStore1S hk ?_ | refine wStore1P hk ?_ | refine wStore1F hk ?_); clear hk; intro w1 hk; simp only [Act.put]))))
  replace hk : Kn [] w w1 [(wd.heap.size, rgsC (choU s r 0), 42), (wb.heap.size, rgsC (fun _ => 0), 42), (wa.heap.size, rgsC r, 42), (w.heap.size, stC s, 30)] := hk
  go_loopw [6] (fun j wr => ∃ n : Nat, n ≤ 8 ∧ j = .int .i64 n ∧ Kn [] w wr [(wd.heap.size, rgsC (choU s r n), 42), (wb.heap.size, rgsC (fun _ => 0), 42), (wa.heap.size, rgsC r, 42), (w.heap.size, stC s, 30)]) (fun j _ => 8 - (intOf j).toNat)
  case atStart => exact ⟨0, by omega, rfl, hk⟩
  case round =>
    clear hk
    obtain ⟨n, hn, rfl, hk⟩ := hrel
    by_cases hlt : n < 8
    · have R := hide (choU_step s r n)
      go_wp2_with (first | ((with_reducible show wpList _ _ _ _ _ _); (first | ((with_reducible show wpList _ _ _ (⟨_, _, _, _, _, some _⟩ :: _) _ _); refine wpList_skip (by rfl) ?_; simp only [Act.put, List.setIfInBounds_toArray, List.set_cons_succ, List.set_cons_zero]) | ((first | refine wBuild hk ?_ | refine wFieldZ hk ?_ | refine wField0 hk ?_ | refine wField hk ?_ | refine wIndexA0 hk ?_ | refine wIndexS0 hk ?_ | refine wIndexA hk ?_ | refine wIndexS hk ?_ | refine wLoadR hk ?_ | refine wLoad1 hk ?_ | refine wOldR hk ?_ | refine wOld1 hk ?_ | refine wOldC hk ?_ | refine wOldG hk ?_ | refine wAssertY hk ?_ | refine wAssertN hk ?_); simp only [Act.put, List.setIfInBounds_toArray, List.set_cons_succ, List.set_cons_zero]) | ((first | refine wBox hk ?_ | refine wBox1I hk ?_ | refine wBox1B hk ?_ | refine wBox1S hk ?_ | refine wBox1P hk ?_ | refine wBox1F hk ?_ | refine wAllocR hk ?_ | refine wAlloc1 hk ?_ | refine wMake hk ?_); clear hk; intro w1 hk; simp only [Act.put, List.setIfInBounds_toArray, List.set_cons_succ, List.set_cons_zero]) | ((first | refine wStoreR hk ?_ | refine wStore1I hk ?_ | refine wStore1B hk ?_ | refine wStore1S hk ?_ | refine wStore1P hk ?_ | refine wStore1F hk ?_); clear hk; intro w1 hk; simp only [Act.put]))))
      refine wp_reg23 hk (.op 0 (.op 1 (.op 2 (.op 3 (.op 4 (.op 5 (.op 6 (.op 7 (.op 8 (.op 9 .nil)))))))))) (fun i => decide (i < 9)) mixT (by decide) (by kernel_rfl) (by kernel_rfl) ?_; clear hk; intro w1 hk
      (repeat ((first | refine vMoveI hk.five ?_ | refine vMoveB hk.five ?_ | refine vAssignI hk.five ?_ | refine vAssignB hk.five ?_ | refine sMove hk.five ?_ | refine sAssign hk.five ?_ | refine sExtract hk.five ?_ | refine sFieldZ hk.five ?_ | refine sField0 hk.five ?_ | refine sField hk.five ?_ | refine sIndexA0 hk.five ?_ | refine sIndexS0 hk.five ?_ | refine sIndexA hk.five ?_ | refine sIndexS hk.five ?_ | refine sLoadR hk.five ?_ | refine sLoad1 hk.five ?_ | refine sOldR hk.five ?_ | refine sOld1 hk.five ?_ | refine sOldC hk.five ?_ | refine sOldG hk.five ?_ | refine sBuild hk.five ?_ | refine sPickT hk.five ?_ | refine sPickF hk.five ?_ | refine sLss hk.five ?_ | refine sLeq hk.five ?_ | refine sGtr hk.five ?_ | refine sGeq hk.five ?_ | refine sEql hk.five ?_ | refine sNot hk.five ?_ | refine sSkip hk.five ?_ | refine sSkipA hk.five ?_); simp only [Act.put, List.setIfInBounds_toArray, List.set_cons_succ, List.set_cons_zero]))
      refine sCall ?_; intro K hK; go_step; go_at_call 45
      refine (inside_any _ (H64.out n hlt) (HS.out n hlt) _ _).mono ?_
      rintro e w2 ⟨rfl, hb⟩
      replace hk := hk.call hb
      refine hK _ _ (fun _ => hk.five) ?_
      clear hK K hb
      (repeat ((first | refine vMoveI hk.five ?_ | refine vMoveB hk.five ?_ | refine vAssignI hk.five ?_ | refine vAssignB hk.five ?_ | refine sMove hk.five ?_ | refine sAssign hk.five ?_ | refine sExtract hk.five ?_ | refine sFieldZ hk.five ?_ | refine sField0 hk.five ?_ | refine sField hk.five ?_ | refine sIndexA0 hk.five ?_ | refine sIndexS0 hk.five ?_ | refine sIndexA hk.five ?_ | refine sIndexS hk.five ?_ | refine sLoadR hk.five ?_ | refine sLoad1 hk.five ?_ | refine sOldR hk.five ?_ | refine sOld1 hk.five ?_ | refine sOldC hk.five ?_ | refine sOldG hk.five ?_ | refine sBuild hk.five ?_ | refine sPickT hk.five ?_ | refine sPickF hk.five ?_ | refine sLss hk.five ?_ | refine sLeq hk.five ?_ | refine sGtr hk.five ?_ | refine sGeq hk.five ?_ | refine sEql hk.five ?_ | refine sNot hk.five ?_ | refine sSkip hk.five ?_ | refine sSkipA hk.five ?_); simp only [Act.put, List.setIfInBounds_toArray, List.set_cons_succ, List.set_cons_zero]))
      refine sStore1I hk ?_ (hj := by show _ ≤ 8; omega) (hA := set_rgs _ _ _ hlt); clear hk; intro w1 hk; refine ⟨fun h => absurd h (by decide), ?_⟩; simp only [Act.put]
      refine tNil ?_
      go_wp2_with (first | ((with_reducible show wpList _ _ _ _ _ _); (first | ((with_reducible show wpList _ _ _ (⟨_, _, _, _, _, some _⟩ :: _) _ _); refine wpList_skip (by rfl) ?_; simp only [Act.put, List.setIfInBounds_toArray, List.set_cons_succ, List.set_cons_zero]) | ((first | refine wBuild hk ?_ | refine wFieldZ hk ?_ | refine wField0 hk ?_ | refine wField hk ?_ | refine wIndexA0 hk ?_ | refine wIndexS0 hk ?_ | refine wIndexA hk ?_ | refine wIndexS hk ?_ | refine wLoadR hk ?_ | refine wLoad1 hk ?_ | refine wOldR hk ?_ | refine wOld1 hk ?_ | refine wOldC hk ?_ | refine wOldG hk ?_ | refine wAssertY hk ?_ | refine wAssertN hk ?_); simp only [Act.put, List.setIfInBounds_toArray, List.set_cons_succ, List.set_cons_zero]) | ((first | refine wBox hk ?_ | refine wBox1I hk ?_ | refine wBox1B hk ?_ | refine wBox1S hk ?_ | refine wBox1P hk ?_ | refine wBox1F hk ?_ | refine wAllocR hk ?_ | refine wAlloc1 hk ?_ | refine wMake hk ?_); clear hk; intro w1 hk; simp only [Act.put, List.setIfInBounds_toArray, List.set_cons_succ, List.set_cons_zero]) | ((first | refine wStoreR hk ?_ | refine wStore1I hk ?_ | refine wStore1B hk ?_ | refine wStore1S hk ?_ | refine wStore1P hk ?_ | refine wStore1F hk ?_); clear hk; intro w1 hk; simp only [Act.put]))))
      go_roundw
      case rel => exact ⟨n + 1, by omega, by go_num, by rw [← R.out]; exact hk⟩
      case measure => simp [intOf]; omega
    · have e : n = 8 := by omega
      subst e
      have R : Hid (rgsC (choU s r 8) = rgsC (choR s r)) := hide (rgs_congr fun j hj => by unfold choU choR; rw [if_pos hj])
      rw [R.out] at hk
      go_wp2_with (first | ((with_reducible show wpList _ _ _ _ _ _); (first | ((with_reducible show wpList _ _ _ (⟨_, _, _, _, _, some _⟩ :: _) _ _); refine wpList_skip (by rfl) ?_; simp only [Act.put, List.setIfInBounds_toArray, List.set_cons_succ, List.set_cons_zero]) | ((first | refine wBuild hk ?_ | refine wFieldZ hk ?_ | refine wField0 hk ?_ | refine wField hk ?_ | refine wIndexA0 hk ?_ | refine wIndexS0 hk ?_ | refine wIndexA hk ?_ | refine wIndexS hk ?_ | refine wLoadR hk ?_ | refine wLoad1 hk ?_ | refine wOldR hk ?_ | refine wOld1 hk ?_ | refine wOldC hk ?_ | refine wOldG hk ?_ | refine wAssertY hk ?_ | refine wAssertN hk ?_); simp only [Act.put, List.setIfInBounds_toArray, List.set_cons_succ, List.set_cons_zero]) | ((first | refine wBox hk ?_ | refine wBox1I hk ?_ | refine wBox1B hk ?_ | refine wBox1S hk ?_ | refine wBox1P hk ?_ | refine wBox1F hk ?_ | refine wAllocR hk ?_ | refine wAlloc1 hk ?_ | refine wMake hk ?_); clear hk; intro w1 hk; simp only [Act.put, List.setIfInBounds_toArray, List.set_cons_succ, List.set_cons_zero]) | ((first | refine wStoreR hk ?_ | refine wStore1I hk ?_ | refine wStore1B hk ?_ | refine wStore1S hk ?_ | refine wStore1P hk ?_ | refine wStore1F hk ?_); clear hk; intro w1 hk; simp only [Act.put]))))
      exact post_1 rfl (by rfl) (hk.at (by with_reducible repeat (first | exact List.mem_cons_self | apply List.mem_cons_of_mem))) (rowT_of (by rfl)) (by rfl) rfl ⟨rfl, hk.mod.below⟩
end Go.Proofs.YtamiichlbmllcaaGreatDoor
/-
  Plain mathematics: a right program is decoded as it was; what is cut is none; a raw program is made right.
-/
namespace Go.Proofs.YtamiichlbmllcaaGreatDoor
open Go.RowKit
theorem fits_parts {i : I5} {n : Int} (h : i.fits n = true) : 0 ≤ i.o ∧ i.o < 12 ∧ regOk (nregs i.o) 0 i.a = true ∧ regOk (nregs i.o) 1 i.b = true ∧ regOk (nregs i.o) 2 i.c = true ∧ kOk (kbytes i.o) i.k n = true := by
  simp only [I5.fits, fitsB, Bool.and_eq_true, decide_eq_true_eq] at h
  obtain ⟨⟨⟨⟨⟨h1, h2⟩, h3⟩, h4⟩, h5⟩, h6⟩ := h
  exact ⟨h1, h2, h3, h4, h5, h6⟩
theorem reg_back {nr : Nat} {j : Nat} {r : Int} (h : regOk nr j r = true) : (if j < nr then ((b8 r).toNat : Int) else 0) = r := by
  unfold regOk at h
  by_cases hj : j < nr
  · rw [if_pos hj, b8_nat]
    rw [if_pos (by omega)] at h
    simp at h; omega
  · rw [if_neg hj]
    rw [if_neg (by omega)] at h
    simp at h; omega
theorem regL_enc (i : I5) (nr kb : Nat) (e : List UInt8) (j : Nat) (r : Int) (_h3 : j < 3) (hr : regN i j = r) (h : regOk nr j r = true) : regL ([b8 i.o] ++ encR i nr ++ encK i kb ++ e) nr j = r := by
  rw [← reg_back h]
  unfold regL
  by_cases hj : j < nr
  · rw [if_pos hj, if_pos hj]
    rw [List.getD_eq_getElem?_getD, List.append_assoc, List.append_assoc, List.getElem?_append_right (by simp), List.getElem?_append_left (by simp [encR]; omega)]
    simp [encR, hj, hr]
  · rw [if_neg hj, if_neg hj]
/-- M2: an instruction that was written is read again -/
theorem readI_of (i : I5) (n : Int) (e : List UInt8) (hn : n ≤ 64) (h : i.fits n = true) (hk : I64 i.k) : readI (encI i ++ e) = some (i, (encI i).length) := by
  obtain ⟨h1, h2, h3, h4, h5, h6⟩ := fits_parts h
  have hb : ((b8 i.o).toNat : Int) = i.o := by rw [b8_nat]; omega
  have hN : nrN (b8 i.o).toNat = (nregs i.o).toNat := by unfold nrN; rw [hb]
  have hK : kbN (b8 i.o).toNat = (kbytes i.o).toNat := by unfold kbN; rw [hb]
  have hr := nregs_bd i.o
  have hkb := kb_three i.o
  have hlen : (encI i).length = 1 + (nregs i.o).toNat + (kbytes i.o).toNat := by simp [encI, encR_len, encK_len]; omega
  have hnr : (((nregs i.o).toNat : Nat) : Int) = nregs i.o := by omega
  unfold readI
  have hcons : encI i ++ e = b8 i.o :: (encR i (nregs i.o).toNat ++ encK i (kbytes i.o).toNat ++ e) := by simp [encI]
  rw [hcons]
  simp only
  rw [if_neg (by omega), hN, hK, if_neg (by rw [← hcons, List.length_append, hlen]; omega), ← hcons]
  have r0 : regL (encI i ++ e) (nregs i.o).toNat 0 = i.a := regL_enc i _ _ e 0 i.a (by omega) rfl (by rw [hnr]; exact h3)
  have r1 : regL (encI i ++ e) (nregs i.o).toNat 1 = i.b := regL_enc i _ _ e 1 i.b (by omega) rfl (by rw [hnr]; exact h4)
  have r2 : regL (encI i ++ e) (nregs i.o).toNat 2 = i.c := regL_enc i _ _ e 2 i.c (by omega) rfl (by rw [hnr]; exact h5)
  have hd : ((encI i ++ e).drop (1 + (nregs i.o).toNat)).take (kbytes i.o).toNat = encK i (kbytes i.o).toNat := by
    unfold encI
    rw [List.append_assoc, List.drop_append_of_le_length (by simp [encR_len]; omega), List.drop_of_length_le (by simp [encR_len]; omega), List.nil_append, List.take_append_of_le_length (by rw [encK_len]; omega), List.take_of_length_le (by rw [encK_len]; omega)]
  have hx : i.k % 18446744073709551616 = ((i.k % 18446744073709551616).toNat : Int) := by omega
  have hkk : wrap64 (leNat (encK i (kbytes i.o).toNat)) = i.k := by
    rw [encK_nat i _ (i.k % 18446744073709551616).toNat hx]
    obtain ⟨k1, k2⟩ := hk
    unfold kOk at h6
    rcases hkb with hb8 | hb1 | hb0
    · rw [hb8, Nat.mod_eq_of_lt (by show _ < 256 ^ 8; omega)]
      exact wrap_back _ k1 k2
    · rw [hb1] at h6 ⊢
      simp at h6
      show wrap64 ((_ % 256 ^ 1 : Nat) : Int) = _
      unfold wrap64; omega
    · rw [hb0] at h6 ⊢
      simp at h6
      show wrap64 ((_ % 256 ^ 0 : Nat) : Int) = _
      rw [h6, Nat.pow_zero, Nat.mod_one]; unfold wrap64; omega
  rw [r0, r1, r2, hd, hkk, hb, hlen]
theorem readN_of : ∀ (p : List I5) (n : Int) (e : List UInt8), n ≤ 64 → (∀ i ∈ p, i.fits n = true ∧ I64 i.k) → readN p.length (p.flatMap encI ++ e) = some (p, e)
  | [], _, e, _, _ => by simp [readN]
  | i :: r, n, e, hn, h => by
    have hi := h i (by simp)
    simp only [List.flatMap_cons, List.length_cons, readN, List.append_assoc]
    rw [readI_of i n _ hn hi.1 hi.2]
    simp only
    rw [List.drop_left, readN_of r n e hn fun x hx => h x (by simp [hx])]
theorem b8_small (n : Nat) (h : n ≤ 64) : (b8 (n : Int)).toNat = n := by have := b8_nat (n : Int); omega
theorem decP_tail (p : List I5) (e : List UInt8) (hr : rightR p = (0, 0)) (h64 : ∀ i ∈ p, I64 i.k) : decP (encP p ++ e) = if e = [] then some p else none := by
  obtain ⟨h1, h2, h3⟩ := right_fits hr
  have hf : ∀ i ∈ p, i.fits p.length = true ∧ I64 i.k := by
    intro i hi
    obtain ⟨j, hj, rfl⟩ := List.getElem_of_mem hi
    exact ⟨h3 j hj, h64 _ hi⟩
  unfold encP
  rw [List.cons_append]
  simp only [decP]
  rw [b8_small _ h2, readN_of p p.length e (by omega) hf]
  simp only
  by_cases he : e = []
  · rw [if_pos ⟨hr, he⟩, if_pos he]
  · rw [if_neg (fun h => he h.2), if_neg he]
theorem readI_append {l : List UInt8} {i : I5} {k : Nat} (e : List UInt8) (h : readI l = some (i, k)) : readI (l ++ e) = some (i, k) := by
  obtain ⟨_, hk2, _⟩ := readI_some h
  unfold readI at h ⊢
  cases l with
  | nil => simp at h
  | cons b r =>
    rw [List.cons_append]
    simp only at h ⊢
    split at h
    · simp at h
    · rename_i h12
      rw [if_neg h12]
      split at h
      · simp at h
      · rename_i hlen
        have hn3 := nrN_le b.toNat
        rw [if_neg (by simp only [List.length_cons, List.length_append] at hlen ⊢; omega)]
        have hreg : ∀ j, j < 3 → regL (b :: (r ++ e)) (nrN b.toNat) j = regL (b :: r) (nrN b.toNat) j := by
          intro j _
          unfold regL
          by_cases hj : j < nrN b.toNat
          · rw [if_pos hj, if_pos hj, List.getD_eq_getElem?_getD, List.getD_eq_getElem?_getD, ← List.cons_append, List.getElem?_append_left (by omega)]
          · rw [if_neg hj, if_neg hj]
        rw [hreg 0 (by omega), hreg 1 (by omega), hreg 2 (by omega), ← List.cons_append, List.drop_append_of_le_length (by omega), List.take_append_of_le_length (by rw [List.length_drop]; omega)]
        exact h
theorem readN_append : ∀ (n : Nat) (l : List UInt8) (p : List I5) (t e : List UInt8), readN n l = some (p, t) → readN n (l ++ e) = some (p, t ++ e)
  | 0, l, p, t, e, h => by simp [readN] at h ⊢; obtain ⟨rfl, rfl⟩ := h; simp
  | n + 1, l, p, t, e, h => by
    simp only [readN] at h ⊢
    cases hr : readI l with
    | none => rw [hr] at h; simp at h
    | some x =>
      obtain ⟨i, k⟩ := x
      obtain ⟨_, hk2, _⟩ := readI_some hr
      rw [hr] at h
      rw [readI_append e hr]
      simp only at h ⊢
      rw [List.drop_append_of_le_length hk2]
      cases hn : readN n (l.drop k) with
      | none => rw [hn] at h; simp at h
      | some y =>
        obtain ⟨q, t'⟩ := y
        rw [hn] at h
        simp only [Option.some.injEq, Prod.mk.injEq] at h
        obtain ⟨rfl, rfl⟩ := h
        rw [readN_append n _ _ _ e hn]
/-- M3: what is cut is none -/
theorem decP_cut (p : List I5) (m : Nat) (hr : rightR p = (0, 0)) (h64 : ∀ i ∈ p, I64 i.k) (hm : m < (encP p).length) : decP ((encP p).take m) = none := by
  obtain ⟨h1, h2, h3⟩ := right_fits hr
  cases hd : decP ((encP p).take m) with
  | none => rfl
  | some q =>
    exfalso
    match m, hm, hd with
    | 0, _, hd => simp [decP] at hd
    | m + 1, hm, hd =>
      have hf : ∀ i ∈ p, i.fits p.length = true ∧ I64 i.k := by
        intro i hi
        obtain ⟨j, hj, rfl⟩ := List.getElem_of_mem hi
        exact ⟨h3 j hj, h64 _ hi⟩
      have hfull := readN_of p p.length [] (by omega) hf
      rw [List.append_nil] at hfull
      unfold encP at hd hm
      rw [List.take_succ_cons] at hd
      simp only [decP] at hd
      rw [b8_small _ h2] at hd
      cases hn : readN p.length ((p.flatMap encI).take m) with
      | none => rw [hn] at hd; simp at hd
      | some y =>
        obtain ⟨q', t⟩ := y
        rw [hn] at hd
        simp only at hd
        split at hd
        · rename_i hc
          obtain ⟨_, rfl⟩ := hc
          have := readN_append _ _ _ _ ((p.flatMap encI).drop m) hn
          rw [List.take_append_drop, hfull] at this
          simp only [Option.some.injEq, Prod.mk.injEq, List.nil_append] at this
          have hl := congrArg List.length this.2
          simp only [List.length_nil, List.length_drop] at hl
          simp only [List.length_cons] at hm
          omega
        · simp at hd
/-- M1: what is made right is right -/
theorem mkI_fits (N : Nat) (r : I5) : (mkI N r).fits ((N : Int) + 1) = true := by
  obtain ⟨h0, h1⟩ := pickI_bd r.o 12 (by omega)
  obtain ⟨a0, a1⟩ := pickI_bd r.a 8 (by omega)
  obtain ⟨b0, b1⟩ := pickI_bd r.b 8 (by omega)
  obtain ⟨c0, c1⟩ := pickI_bd r.c 8 (by omega)
  obtain ⟨k0, k1⟩ := pickI_bd r.k ((N : Int) + 1) (by omega)
  unfold I5.fits mkI
  simp only
  generalize pickI r.o 12 = o at *
  unfold fitsB regOk kOk nregs kbytes
  rcases op_is o h0 h1 with ha | ha | ha | ha | ha | ha | ha
  · subst ha; simp
  · subst ha; simp; omega
  · subst ha; simp; omega
  · have : o = 3 ∨ o = 4 ∨ o = 5 ∨ o = 6 := by omega
    rcases this with rfl | rfl | rfl | rfl <;> simp <;> omega
  · have : o = 7 ∨ o = 8 := by omega
    rcases this with rfl | rfl <;> simp <;> omega
  · subst ha; simp; omega
  · have : o = 10 ∨ o = 11 := by omega
    rcases this with rfl | rfl <;> simp <;> omega
theorem progL_len (l : List I5) : (progL l).length = min l.length 63 + 1 := by simp [progL]; omega
theorem progL_fits (l : List I5) : ∀ i ∈ progL l, i.fits (((min l.length 63 : Nat) : Int) + 1) = true := by
  intro i hi
  unfold progL at hi
  rw [List.mem_append] at hi
  rcases hi with hi | hi
  · obtain ⟨r, hr, rfl⟩ := List.mem_map.1 hi
    exact mkI_fits _ r
  · simp at hi; subst hi; simp [I5.zero, I5.fits, fitsB, nregs, kbytes, regOk, kOk]
theorem progL_right (l : List I5) : rightR (progL l) = (0, 0) := by
  have hl := progL_len l
  apply rightR_yes
  · omega
  · omega
  · intro i hi
    rw [show ((progL l).length : Int) = ((min l.length 63 : Nat) : Int) + 1 by omega]
    exact progL_fits l _ (List.getElem_mem hi)
theorem progL_in64 (l : List I5) (h : ∀ i (h : i < l.length), l[i].in64) : ∀ i ∈ progL l, I64 i.k := by
  intro i hi
  unfold progL at hi
  rw [List.mem_append] at hi
  rcases hi with hi | hi
  · obtain ⟨r, hr, rfl⟩ := List.mem_map.1 hi
    obtain ⟨j, hj, rfl⟩ := List.getElem_of_mem (List.mem_of_mem_take hr)
    have h4 := (h j hj).2.2.2.2
    obtain ⟨k0, k1⟩ := pickI_bd l[j].k ((min l.length 63 : Nat) + 1 : Int) (by omega)
    unfold mkI I64 at *
    simp only
    split
    · exact h4
    · split <;> omega
  · simp at hi; subst hi; simp [I5.zero, I64]
end Go.Proofs.YtamiichlbmllcaaGreatDoor
