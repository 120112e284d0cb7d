/-
  proof.Prove and surety.Prove: what they answer.
-/
import Derived.Test.YtamiichlbmllcaaGreatDoorQPrJ
import Derived.Test.YtamiichlbmllcaaGreatDoorQRunM
namespace Go.Proofs.YtamiichlbmllcaaGreatDoor
open Go.RowKit
theorem own_slcC {w : World} {base n : Nat} {v : Value} {cl : List C2} (h : w.ownsRow base 78 17 v n (cl.flatMap clCells)) (hn : n = cl.length) : SlcC w v cl := by
  subst hn
  rcases h.2 with ⟨rfl, h0⟩ | ⟨g, cap, cur, rfl, _, hg, _, _, _, ht⟩
  · exact Or.inl ⟨⟨_, _, rfl⟩, List.length_eq_zero_iff.1 h0⟩
  · refine Or.inr ⟨g, 0, cap, rfl, lt_of_block hg, fun i hi j u hj => ?_⟩
    have hj17 : j < 17 := (List.getElem?_eq_some_iff.1 hj).1
    have e := flatC_get cl i j hi hj17
    rw [← ht, List.getElem?_take, if_pos (by omega), Array.getElem?_toList] at e
    rw [cell_of_row _ _ _ _ _ _ hg, show 0 + i * 17 + j = i * 17 + j by omega, e, ← Array.getElem?_toList]
    exact hj
theorem clsW_mem {n : Nat} {W : Nat → Option St} {c : C2} (h : c ∈ clsW n W) : ∃ i, i < n ∧ W i = some c.st ∧ c.pl = (i : Int) := by
  unfold clsW at h
  obtain ⟨i, hi, h2⟩ := List.mem_filterMap.1 h
  obtain ⟨s, hs, rfl⟩ := Option.map_eq_some_iff.1 h2
  exact ⟨i, List.mem_range.1 hi, hs, rfl⟩
theorem zero_cb (back : Nat → Bool) : CB back PS.zero := fun _ _ => Or.inl (by unfold PS.zero; simp)
/-- what Prove answers of a right program -/
def ProveP (l : List I5) (e : St) (cl : List C2) (er pl : Int) : Prop :=
  (isStR e = false ∧ cl = [] ∧ er = 3 ∧ pl = 0) ∨ (isStR e = true ∧ ∃ vf, Settles l e PS.zero vf ∧ (((checkR l e (clsW l.length vf.W)).1 ≠ 0 ∧ cl = [] ∧ er = (checkR l e (clsW l.length vf.W)).1 ∧ pl = ((checkR l e (clsW l.length vf.W)).2 : Int)) ∨ ((checkR l e (clsW l.length vf.W)).1 = 0 ∧ cl = clsW l.length vf.W ∧ er = 0 ∧ pl = 0)))
/-- the answer of Prove, wherever its claims lie -/
def ProveV (l : List I5) (e : St) (r : Ending) (w w' : World) : Prop := ∃ cv er pl cl, r = .returned (.tuple #[cv, .int .i64 er, .int .i64 pl]) ∧ ProveP l e cl er pl ∧ w'.ownsRow w.heap.size 78 17 cv cl.length (cl.flatMap clCells) ∧ Below w.heap.size w w'
theorem post_3 {P : Program} {fn : Func} {R : Ending → World → Prop} {a : Act} {w : World} {i j k : Nat} {x y z : Value} (hf : fn.results = #[.tmp i, .tmp j, .tmp k]) (hi : a.tmps.getD i undef = x) (hj : a.tmps.getD j undef = y) (hk : a.tmps.getD k undef = z) (hd : a.defers = []) (hR : R (.returned (.tuple #[x, y, z])) w) : bodyPost P fn R .ret a w := by
  refine bodyPost_ret (v := .tuple #[x, y, z]) ?_ hd hR
  rw [Array.getD_eq_getD_getElem?] at hi hj hk
  simp [results, hf, hi, hj, hk]
set_option maxHeartbeats 1000000 in
set_option maxRecDepth 100000 in
theorem prove_no (l : List I5) (e : St) (hst : isStR e = false) (v : Value) (w : World) (h : Slc w v l) : Calls Tryz.prog 47 #[v, .agg (stC e)] w fun r w' => ProveV l e r w w' := by
  have hk := Kn.nil [] w
  obtain ⟨a, cap, rfl⟩ := h.len
  have HE := hide hst
  clear h hst
  go_enter Tryz.func47, Tryz.ntmps47
  go_wp2_with (first | (go_at_call 62; refine (isState_any _ _).mono ?_; rintro x w1 ⟨rfl, hb⟩; replace hk := hk.call hb; clear hb; rw [HE.out]) | ((with_reducible show wpList _ _ _ _ _ _); (first | ((with_reducible show wpList _ _ _ (⟨_, _, _, _, _, some _⟩ :: _) _ _); refine wpList_skip (by rfl) ?_; simp only [Act.put, List.setIfInBounds_toArray, List.set_cons_succ, List.set_cons_zero]) | ((first | refine wBuild hk ?_ | refine wFieldZ hk ?_ | refine wField0 hk ?_ | refine wField hk ?_ | refine wIndexA0 hk ?_ | refine wIndexS0 hk ?_ | refine wIndexA hk ?_ | refine wIndexS hk ?_ | refine wLoadR hk ?_ | refine wLoad1 hk ?_ | refine wOldR hk ?_ | refine wOld1 hk ?_ | refine wOldC hk ?_ | refine wOldG hk ?_ | refine wAssertY hk ?_ | refine wAssertN hk ?_); simp only [Act.put, List.setIfInBounds_toArray, List.set_cons_succ, List.set_cons_zero]) | ((first | refine wBox hk ?_ | refine wBox1I hk ?_ | refine wBox1B hk ?_ | refine wBox1S hk ?_ | refine wBox1P hk ?_ | refine wBox1F hk ?_ | refine wAllocR hk ?_ | refine wAlloc1 hk ?_ | refine wMake hk ?_); clear hk; intro w1 hk; simp only [Act.put, List.setIfInBounds_toArray, List.set_cons_succ, List.set_cons_zero]) | ((first | refine wStoreR hk ?_ | refine wStore1I hk ?_ | refine wStore1B hk ?_ | refine wStore1S hk ?_ | refine wStore1P hk ?_ | refine wStore1F hk ?_); clear hk; intro w1 hk; simp only [Act.put]))))
  exact post_3 rfl rfl rfl rfl rfl ⟨_, _, _, [], rfl, Or.inl ⟨HE.out, rfl, rfl, rfl⟩, World.ownsRow_nil _ _ _ _, hk.mod.below⟩
set_option maxHeartbeats 2000000 in
set_option maxRecDepth 100000 in
theorem prove_st (l : List I5) (hl : AllFit l) (h64 : ∀ i, i < l.length → I64 (insAt l i).k) (e : St) (he : e.in64) (hst : isStR e = true) (v : Value) (w : World) (h : Slc w v l) : Calls Tryz.prog 47 #[v, .agg (stC e)] w fun r w' => ProveV l e r w w' := by
  have hk := Kn.nil [] w
  have HV := hide h
  obtain ⟨a, cap, rfl⟩ := h.len
  have HE := hide hst
  have HEO : Hid (e.ok ∧ e.in64) := hide ⟨ok_of_st hst, he⟩
  have HL := hide hl
  have H64 := hide h64
  clear h hst hl h64 he
  go_enter Tryz.func47, Tryz.ntmps47
  go_wp2_with (first | (go_at_call 62; refine (isState_any _ _).mono ?_; rintro x w1 ⟨rfl, hb⟩; replace hk := hk.call hb; clear hb; rw [HE.out]) | ((with_reducible show wpList _ _ _ _ _ _); (first | ((with_reducible show wpList _ _ _ (⟨_, _, _, _, _, some _⟩ :: _) _ _); refine wpList_skip (by rfl) ?_; simp only [Act.put, List.setIfInBounds_toArray, List.set_cons_succ, List.set_cons_zero]) | ((first | refine wBuild hk ?_ | refine wFieldZ hk ?_ | refine wField0 hk ?_ | refine wField hk ?_ | refine wIndexA0 hk ?_ | refine wIndexS0 hk ?_ | refine wIndexA hk ?_ | refine wIndexS hk ?_ | refine wLoadR hk ?_ | refine wLoad1 hk ?_ | refine wOldR hk ?_ | refine wOld1 hk ?_ | refine wOldC hk ?_ | refine wOldG hk ?_ | refine wAssertY hk ?_ | refine wAssertN hk ?_); simp only [Act.put, List.setIfInBounds_toArray, List.set_cons_succ, List.set_cons_zero]) | ((first | refine wBox hk ?_ | refine wBox1I hk ?_ | refine wBox1B hk ?_ | refine wBox1S hk ?_ | refine wBox1P hk ?_ | refine wBox1F hk ?_ | refine wAllocR hk ?_ | refine wAlloc1 hk ?_ | refine wMake hk ?_); clear hk; intro w1 hk; simp only [Act.put, List.setIfInBounds_toArray, List.set_cons_succ, List.set_cons_zero]) | ((first | refine wStoreR hk ?_ | refine wStore1I hk ?_ | refine wStore1B hk ?_ | refine wStore1S hk ?_ | refine wStore1P hk ?_ | refine wStore1F hk ?_); clear hk; intro w1 hk; simp only [Act.put]))))
  go_at_call 43
  refine (progOf_c l _ w1 (HV.out.below hk.mod.below (Nat.le_refl _)) HL.out.1 HL.out.2.1).mono ?_
  rintro x w2 ⟨pb, pc, A, rfl, hat, hpr, hge, hb2⟩
  have hb02 := hk.mod.below.trans (hb2.mono hk.mod.below.size)
  have HBOX : Hid (w.heap.size < w2.heap.size) := hide (by have := lt_of_block (hk.at (A := stC e) (by with_reducible repeat (first | exact List.mem_cons_self | apply List.mem_cons_of_mem))); have := hb2.size; omega)
  replace hk := hk.call hb2
  go_wp2_with (first | ((with_reducible show wpList _ _ _ _ _ _); (first | ((with_reducible show wpList _ _ _ (⟨_, _, _, _, _, some _⟩ :: _) _ _); refine wpList_skip (by rfl) ?_; simp only [Act.put, List.setIfInBounds_toArray, List.set_cons_succ, List.set_cons_zero]) | ((first | refine wBuild hk ?_ | refine wFieldZ hk ?_ | refine wField0 hk ?_ | refine wField hk ?_ | refine wIndexA0 hk ?_ | refine wIndexS0 hk ?_ | refine wIndexA hk ?_ | refine wIndexS hk ?_ | refine wLoadR hk ?_ | refine wLoad1 hk ?_ | refine wOldR hk ?_ | refine wOld1 hk ?_ | refine wOldC hk ?_ | refine wOldG hk ?_ | refine wAssertY hk ?_ | refine wAssertN hk ?_); simp only [Act.put, List.setIfInBounds_toArray, List.set_cons_succ, List.set_cons_zero]) | ((first | refine wBox hk ?_ | refine wBox1I hk ?_ | refine wBox1B hk ?_ | refine wBox1S hk ?_ | refine wBox1P hk ?_ | refine wBox1F hk ?_ | refine wAllocR hk ?_ | refine wAlloc1 hk ?_ | refine wMake hk ?_); clear hk; intro w1 hk; simp only [Act.put, List.setIfInBounds_toArray, List.set_cons_succ, List.set_cons_zero]) | ((first | refine wStoreR hk ?_ | refine wStore1I hk ?_ | refine wStore1B hk ?_ | refine wStore1S hk ?_ | refine wStore1P hk ?_ | refine wStore1F hk ?_); clear hk; intro w1 hk; simp only [Act.put]))))
  go_at_call 71
  refine (proverOf_any l HL.out pb pc w2 (hpr.at hat)).mono ?_
  rintro x w3 ⟨V, mb, sb, kb, cb, hb, rfl, hN, hb3⟩
  have hz2 := hb02.size
  have hb03 := hb02.trans (hb3.mono hz2)
  replace hk := hk.call hb3
  have HN := hide hN
  clear hN hat hpr
  go_wp2_with (first | ((with_reducible show wpList _ _ _ _ _ _); (first | ((with_reducible show wpList _ _ _ (⟨_, _, _, _, _, some _⟩ :: _) _ _); refine wpList_skip (by rfl) ?_; simp only [Act.put, List.setIfInBounds_toArray, List.set_cons_succ, List.set_cons_zero]) | ((first | refine wBuild hk ?_ | refine wFieldZ hk ?_ | refine wField0 hk ?_ | refine wField hk ?_ | refine wIndexA0 hk ?_ | refine wIndexS0 hk ?_ | refine wIndexA hk ?_ | refine wIndexS hk ?_ | refine wLoadR hk ?_ | refine wLoad1 hk ?_ | refine wOldR hk ?_ | refine wOld1 hk ?_ | refine wOldC hk ?_ | refine wOldG hk ?_ | refine wAssertY hk ?_ | refine wAssertN hk ?_); simp only [Act.put, List.setIfInBounds_toArray, List.set_cons_succ, List.set_cons_zero]) | ((first | refine wBox hk ?_ | refine wBox1I hk ?_ | refine wBox1B hk ?_ | refine wBox1S hk ?_ | refine wBox1P hk ?_ | refine wBox1F hk ?_ | refine wAllocR hk ?_ | refine wAlloc1 hk ?_ | refine wMake hk ?_); clear hk; intro w1 hk; simp only [Act.put, List.setIfInBounds_toArray, List.set_cons_succ, List.set_cons_zero]) | ((first | refine wStoreR hk ?_ | refine wStore1I hk ?_ | refine wStore1B hk ?_ | refine wStore1S hk ?_ | refine wStore1P hk ?_ | refine wStore1F hk ?_); clear hk; intro w1 hk; simp only [Act.put]))))
  go_at_call 72
  refine (settle_pv l HL.out H64.out V pb pc mb sb kb cb hb PS.zero e HEO.out (zero_inv l) (zero_cb _) (fun _ _ => rfl) w3 HN.out.blk HN.out.states HN.out.passes HN.out.changed).mono ?_
  rintro x w4 ⟨rfl, vf, hset, hm4, hS4⟩
  have hw1 : w.heap.size < w3.heap.size := lt_of_block (hk.at (A := stC e) (by with_reducible repeat (first | exact List.mem_cons_self | apply List.mem_cons_of_mem)))
  have hlw := HBOX.out
  have hlow := HN.out.low
  have hnb : w.heap.size ∉ [sb, cb, hb] := by simp only [List.mem_cons, List.not_mem_nil, or_false, not_or]; omega
  have hbox := (hk.at (A := stC e) (by with_reducible repeat (first | exact List.mem_cons_self | apply List.mem_cons_of_mem))).mod hm4 hnb
  have hself := HN.out.blk.self.mod hm4 HN.out.blk.nV
  have hmod4 : Mod [] w w4 := hk.mod.step hm4 (fun b hb => by simp only [List.mem_cons, List.not_mem_nil, or_false] at hb; rcases hb with rfl | rfl | rfl <;> exact Or.inl (by omega))
  replace hk : Kn [] w w4 [(w.heap.size, stC e, 30), (V, prC pb pc mb sb kb cb hb l.length, 137)] := ⟨hmod4, fun x hx => by
    simp only [List.mem_cons, List.not_mem_nil, or_false] at hx
    rcases hx with rfl | rfl
    · exact ⟨hbox, Or.inl (Nat.le_refl _)⟩
    · exact ⟨hself, Or.inl (by simp only; omega)⟩, by simp; omega⟩
  have HSET := hide hset
  have HPI := hide (hset.inv (HL.out.fitP H64.out) HEO.out (zero_inv l))
  have HS4 := hide hS4
  have HZ4 := hide hmod4.size
  clear hset hm4 hS4 hself hbox hb02 hb03 hz2 hge hb2 hb3 hmod4
  go_wp2_with (first | ((with_reducible show wpList _ _ _ _ _ _); (first | ((with_reducible show wpList _ _ _ (⟨_, _, _, _, _, some _⟩ :: _) _ _); refine wpList_skip (by rfl) ?_; simp only [Act.put, List.setIfInBounds_toArray, List.set_cons_succ, List.set_cons_zero]) | ((first | refine wBuild hk ?_ | refine wFieldZ hk ?_ | refine wField0 hk ?_ | refine wField hk ?_ | refine wIndexA0 hk ?_ | refine wIndexS0 hk ?_ | refine wIndexA hk ?_ | refine wIndexS hk ?_ | refine wLoadR hk ?_ | refine wLoad1 hk ?_ | refine wOldR hk ?_ | refine wOld1 hk ?_ | refine wOldC hk ?_ | refine wOldG hk ?_ | refine wAssertY hk ?_ | refine wAssertN hk ?_); simp only [Act.put, List.setIfInBounds_toArray, List.set_cons_succ, List.set_cons_zero]) | ((first | refine wBox hk ?_ | refine wBox1I hk ?_ | refine wBox1B hk ?_ | refine wBox1S hk ?_ | refine wBox1P hk ?_ | refine wBox1F hk ?_ | refine wAllocR hk ?_ | refine wAlloc1 hk ?_ | refine wMake hk ?_); clear hk; intro w1 hk; simp only [Act.put, List.setIfInBounds_toArray, List.set_cons_succ, List.set_cons_zero]) | ((first | refine wStoreR hk ?_ | refine wStore1I hk ?_ | refine wStore1B hk ?_ | refine wStore1S hk ?_ | refine wStore1P hk ?_ | refine wStore1F hk ?_); clear hk; intro w1 hk; simp only [Act.put]))))
  go_at_call 73
  refine (claimsOf_any l.length HL.out.2.1 vf.W sb l.length w4 HS4.out).mono ?_
  rintro x w5 ⟨cv, rfl, hown, hb5⟩
  obtain ⟨cl, hcl⟩ : ∃ cl, clsW l.length vf.W = cl := ⟨_, rfl⟩
  rw [hcl] at hown
  have hlen : cl.length ≤ 64 := by rw [← hcl]; exact Nat.le_trans (clsW_len _ _) HL.out.2.1
  have HIN : Hid (In64 l e cl) := hide ⟨H64.out, HEO.out.2, fun i hi => by
    obtain ⟨k, _, hk, _⟩ := clsW_mem (n := l.length) (W := vf.W) (c := clAt cl i) (by rw [hcl]; exact clAt_mem hi)
    exact (HPI.out.ok k _ hk).2⟩
  have HCL := hide hcl
  have HOWN := hide hown
  replace hk := hk.call hb5
  clear hcl hown hb5
  go_wp2_with (first | ((with_reducible show wpList _ _ _ _ _ _); (first | ((with_reducible show wpList _ _ _ (⟨_, _, _, _, _, some _⟩ :: _) _ _); refine wpList_skip (by rfl) ?_; simp only [Act.put, List.setIfInBounds_toArray, List.set_cons_succ, List.set_cons_zero]) | ((first | refine wBuild hk ?_ | refine wFieldZ hk ?_ | refine wField0 hk ?_ | refine wField hk ?_ | refine wIndexA0 hk ?_ | refine wIndexS0 hk ?_ | refine wIndexA hk ?_ | refine wIndexS hk ?_ | refine wLoadR hk ?_ | refine wLoad1 hk ?_ | refine wOldR hk ?_ | refine wOld1 hk ?_ | refine wOldC hk ?_ | refine wOldG hk ?_ | refine wAssertY hk ?_ | refine wAssertN hk ?_); simp only [Act.put, List.setIfInBounds_toArray, List.set_cons_succ, List.set_cons_zero]) | ((first | refine wBox hk ?_ | refine wBox1I hk ?_ | refine wBox1B hk ?_ | refine wBox1S hk ?_ | refine wBox1P hk ?_ | refine wBox1F hk ?_ | refine wAllocR hk ?_ | refine wAlloc1 hk ?_ | refine wMake hk ?_); clear hk; intro w1 hk; simp only [Act.put, List.setIfInBounds_toArray, List.set_cons_succ, List.set_cons_zero]) | ((first | refine wStoreR hk ?_ | refine wStore1I hk ?_ | refine wStore1B hk ?_ | refine wStore1S hk ?_ | refine wStore1P hk ?_ | refine wStore1F hk ?_); clear hk; intro w1 hk; simp only [Act.put]))))
  go_at_call 42
  refine (check_any l HL.out e cl HIN.out (by omega) _ cv w5 (HV.out.below hk.mod.below (Nat.le_refl _)) (own_slcC HOWN.out rfl)).mono ?_
  rintro x w6 ⟨rfl, hb6⟩
  replace hk := hk.call hb6
  have HO6 := hide (own_low (own_mod HOWN.out (Mod.ofBelow hb6)) HZ4.out)
  clear hb6
  obtain ⟨PE, PN, hPS⟩ : ∃ PE PN, checkR l e cl = (PE, PN) := ⟨_, _, rfl⟩
  have HPS := hide hPS
  rw [hPS]
  by_cases h0 : PE = 0
  · subst h0
    clear hPS
    go_wp2_with (first | ((with_reducible show wpList _ _ _ _ _ _); (first | ((with_reducible show wpList _ _ _ (⟨_, _, _, _, _, some _⟩ :: _) _ _); refine wpList_skip (by rfl) ?_; simp only [Act.put, List.setIfInBounds_toArray, List.set_cons_succ, List.set_cons_zero]) | ((first | refine wBuild hk ?_ | refine wFieldZ hk ?_ | refine wField0 hk ?_ | refine wField hk ?_ | refine wIndexA0 hk ?_ | refine wIndexS0 hk ?_ | refine wIndexA hk ?_ | refine wIndexS hk ?_ | refine wLoadR hk ?_ | refine wLoad1 hk ?_ | refine wOldR hk ?_ | refine wOld1 hk ?_ | refine wOldC hk ?_ | refine wOldG hk ?_ | refine wAssertY hk ?_ | refine wAssertN hk ?_); simp only [Act.put, List.setIfInBounds_toArray, List.set_cons_succ, List.set_cons_zero]) | ((first | refine wBox hk ?_ | refine wBox1I hk ?_ | refine wBox1B hk ?_ | refine wBox1S hk ?_ | refine wBox1P hk ?_ | refine wBox1F hk ?_ | refine wAllocR hk ?_ | refine wAlloc1 hk ?_ | refine wMake hk ?_); clear hk; intro w1 hk; simp only [Act.put, List.setIfInBounds_toArray, List.set_cons_succ, List.set_cons_zero]) | ((first | refine wStoreR hk ?_ | refine wStore1I hk ?_ | refine wStore1B hk ?_ | refine wStore1S hk ?_ | refine wStore1P hk ?_ | refine wStore1F hk ?_); clear hk; intro w1 hk; simp only [Act.put]))))
    exact post_3 rfl rfl rfl rfl rfl ⟨_, _, _, cl, rfl, Or.inr ⟨HE.out, vf, HSET.out, Or.inr ⟨by rw [HCL.out, HPS.out], HCL.out.symm, rfl, rfl⟩⟩, HO6.out, hk.mod.below⟩
  · have hne : (PE == 0) = false := by rw [beq_eq_false_iff_ne]; exact h0
    clear hPS
    go_wp2_with (first | ((with_reducible show wpList _ _ _ _ _ _); (first | ((with_reducible show wpList _ _ _ (⟨_, _, _, _, _, some _⟩ :: _) _ _); refine wpList_skip (by rfl) ?_; simp only [Act.put, List.setIfInBounds_toArray, List.set_cons_succ, List.set_cons_zero]) | ((first | refine wBuild hk ?_ | refine wFieldZ hk ?_ | refine wField0 hk ?_ | refine wField hk ?_ | refine wIndexA0 hk ?_ | refine wIndexS0 hk ?_ | refine wIndexA hk ?_ | refine wIndexS hk ?_ | refine wLoadR hk ?_ | refine wLoad1 hk ?_ | refine wOldR hk ?_ | refine wOld1 hk ?_ | refine wOldC hk ?_ | refine wOldG hk ?_ | refine wAssertY hk ?_ | refine wAssertN hk ?_); simp only [Act.put, List.setIfInBounds_toArray, List.set_cons_succ, List.set_cons_zero]) | ((first | refine wBox hk ?_ | refine wBox1I hk ?_ | refine wBox1B hk ?_ | refine wBox1S hk ?_ | refine wBox1P hk ?_ | refine wBox1F hk ?_ | refine wAllocR hk ?_ | refine wAlloc1 hk ?_ | refine wMake hk ?_); clear hk; intro w1 hk; simp only [Act.put, List.setIfInBounds_toArray, List.set_cons_succ, List.set_cons_zero]) | ((first | refine wStoreR hk ?_ | refine wStore1I hk ?_ | refine wStore1B hk ?_ | refine wStore1S hk ?_ | refine wStore1P hk ?_ | refine wStore1F hk ?_); clear hk; intro w1 hk; simp only [Act.put]))))
    exact post_3 rfl rfl rfl rfl rfl ⟨_, _, _, [], rfl, Or.inr ⟨HE.out, vf, HSET.out, Or.inl ⟨by rw [HCL.out, HPS.out]; exact h0, rfl, by rw [HCL.out, HPS.out], by rw [HCL.out, HPS.out]⟩⟩, World.ownsRow_nil _ _ _ _, hk.mod.below⟩
theorem prove_any (l : List I5) (hl : AllFit l) (h64 : ∀ i, i < l.length → I64 (insAt l i).k) (e : St) (he : e.in64) (v : Value) (w : World) (h : Slc w v l) : Calls Tryz.prog 47 #[v, .agg (stC e)] w fun r w' => ProveV l e r w w' := by
  cases hst : isStR e with
  | false => exact prove_no l e hst v w h
  | true => exact prove_st l hl h64 e he hst v w h
/-- what surety.Prove answers -/
def SProveP (l : List I5) (e : St) (cl : List C2) (er pl : Int) : Prop := (rightR l ≠ (0, 0) ∧ cl = [] ∧ er = (rightR l).1 ∧ pl = (rightR l).2) ∨ (rightR l = (0, 0) ∧ ProveP l e cl er pl)
def SProveV (l : List I5) (e : St) (r : Ending) (w w' : World) : Prop := ∃ cv er pl cl, r = .returned (.tuple #[cv, .int .i64 er, .int .i64 pl]) ∧ SProveP l e cl er pl ∧ w'.ownsRow w.heap.size 78 17 cv cl.length (cl.flatMap clCells) ∧ Below w.heap.size w w'
set_option maxHeartbeats 1000000 in
set_option maxRecDepth 100000 in
theorem SProve_any (l : List I5) (h64 : ∀ i, i < l.length → I64 (insAt l i).k) (e : St) (he : e.in64) (v : Value) (w : World) (hs : Shapes w) (h : Slc w v l) : Calls Tryz.prog 27 #[v, .agg (stC e)] w fun r w' => SProveV l e r w w' := by
  have hk := Kn.nil [] w
  have HS := hide hs
  have HV := hide h
  have H64 := hide h64
  have HEI := hide he
  obtain ⟨a, cap, rfl⟩ := h.len
  clear hs h h64 he
  rcases rightR_or l with hr | hr
  · have HR := hide hr
    have HAF := hide (right_fit hr)
    go_enter Tryz.func27, Tryz.ntmps27
    go_wp2_with (first | (go_at_call 41; refine (codeRight_any l _ _ (HS.out.below hk.mod.below HS.out.1) (HV.out.below hk.mod.below (Nat.le_refl _))).mono ?_; rintro x w1 ⟨rfl, hb⟩; replace hk := hk.call hb; clear hb; rw [hr]) | (go_at_call 47; refine (prove_any l HAF.out H64.out e HEI.out _ _ (HV.out.below hk.mod.below (Nat.le_refl _))).mono ?_; rintro x w2 ⟨cv, er, pl, cl, rfl, hP, hown, hb⟩; have HO := hide (own_low hown hk.mod.size); replace hk := hk.call hb; clear hb hown) | ((with_reducible show wpList _ _ _ _ _ _); (first | ((with_reducible show wpList _ _ _ (⟨_, _, _, _, _, some _⟩ :: _) _ _); refine wpList_skip (by rfl) ?_; simp only [Act.put, List.setIfInBounds_toArray, List.set_cons_succ, List.set_cons_zero]) | ((first | refine wBuild hk ?_ | refine wFieldZ hk ?_ | refine wField0 hk ?_ | refine wField hk ?_ | refine wIndexA0 hk ?_ | refine wIndexS0 hk ?_ | refine wIndexA hk ?_ | refine wIndexS hk ?_ | refine wLoadR hk ?_ | refine wLoad1 hk ?_ | refine wOldR hk ?_ | refine wOld1 hk ?_ | refine wOldC hk ?_ | refine wOldG hk ?_ | refine wAssertY hk ?_ | refine wAssertN hk ?_); simp only [Act.put, List.setIfInBounds_toArray, List.set_cons_succ, List.set_cons_zero]) | ((first | refine wBox hk ?_ | refine wBox1I hk ?_ | refine wBox1B hk ?_ | refine wBox1S hk ?_ | refine wBox1P hk ?_ | refine wBox1F hk ?_ | refine wAllocR hk ?_ | refine wAlloc1 hk ?_ | refine wMake hk ?_); clear hk; intro w1 hk; simp only [Act.put, List.setIfInBounds_toArray, List.set_cons_succ, List.set_cons_zero]) | ((first | refine wStoreR hk ?_ | refine wStore1I hk ?_ | refine wStore1B hk ?_ | refine wStore1S hk ?_ | refine wStore1P hk ?_ | refine wStore1F hk ?_); clear hk; intro w1 hk; simp only [Act.put]))))
    exact post_3 rfl rfl rfl rfl rfl ⟨_, _, _, cl, rfl, Or.inr ⟨HR.out, hP⟩, HO.out, hk.mod.below⟩
  · obtain ⟨p, q, hpq⟩ : ∃ p q, rightR l = (p, q) := ⟨_, _, rfl⟩
    rw [hpq] at hr
    simp only at hr
    subst hr
    have HR := hide hpq
    go_enter Tryz.func27, Tryz.ntmps27
    go_wp2_with (first | (go_at_call 41; refine (codeRight_any l _ _ (HS.out.below hk.mod.below HS.out.1) (HV.out.below hk.mod.below (Nat.le_refl _))).mono ?_; rintro x w1 ⟨rfl, hb⟩; replace hk := hk.call hb; clear hb; rw [hpq]) | ((with_reducible show wpList _ _ _ _ _ _); (first | ((with_reducible show wpList _ _ _ (⟨_, _, _, _, _, some _⟩ :: _) _ _); refine wpList_skip (by rfl) ?_; simp only [Act.put, List.setIfInBounds_toArray, List.set_cons_succ, List.set_cons_zero]) | ((first | refine wBuild hk ?_ | refine wFieldZ hk ?_ | refine wField0 hk ?_ | refine wField hk ?_ | refine wIndexA0 hk ?_ | refine wIndexS0 hk ?_ | refine wIndexA hk ?_ | refine wIndexS hk ?_ | refine wLoadR hk ?_ | refine wLoad1 hk ?_ | refine wOldR hk ?_ | refine wOld1 hk ?_ | refine wOldC hk ?_ | refine wOldG hk ?_ | refine wAssertY hk ?_ | refine wAssertN hk ?_); simp only [Act.put, List.setIfInBounds_toArray, List.set_cons_succ, List.set_cons_zero]) | ((first | refine wBox hk ?_ | refine wBox1I hk ?_ | refine wBox1B hk ?_ | refine wBox1S hk ?_ | refine wBox1P hk ?_ | refine wBox1F hk ?_ | refine wAllocR hk ?_ | refine wAlloc1 hk ?_ | refine wMake hk ?_); clear hk; intro w1 hk; simp only [Act.put, List.setIfInBounds_toArray, List.set_cons_succ, List.set_cons_zero]) | ((first | refine wStoreR hk ?_ | refine wStore1I hk ?_ | refine wStore1B hk ?_ | refine wStore1S hk ?_ | refine wStore1P hk ?_ | refine wStore1F hk ?_); clear hk; intro w1 hk; simp only [Act.put]))))
    exact post_3 rfl rfl rfl rfl rfl ⟨_, _, _, [], rfl, Or.inl ⟨by rw [HR.out]; simp, rfl, by rw [HR.out], by rw [HR.out]⟩, World.ownsRow_nil _ _ _ _, hk.mod.below⟩
end Go.Proofs.YtamiichlbmllcaaGreatDoor
