/-
  The contracts of (machine.Program).Danger and Flow, for every instruction that may stand in a program.
-/
import Derived.Test.YtamiichlbmllcaaGreatDoorQChA
namespace Go.Proofs.YtamiichlbmllcaaGreatDoor
open Go.RowKit
/-- what of a state goes on behind an instruction -/
def flowOn (i : I5) (s : St) : Option St :=
  if i.o = 1 then some (updS s i.a.toNat ⟨i.k, i.k⟩)
  else if i.o = 2 then some (updS s i.a.toNat (s i.b.toNat))
  else if i.o = 3 then some (updS s i.a.toNat (sumR (s i.b.toNat) (s i.c.toNat)))
  else if i.o = 4 then some (updS s i.a.toNat (difR (s i.b.toNat) (s i.c.toNat)))
  else if i.o = 5 then some (updS s i.a.toNat (prodR (s i.b.toNat) (s i.c.toNat)))
  else if i.o = 6 then some (updS s i.a.toNat (quoR (s i.b.toNat) (s i.c.toNat)))
  else if i.o = 7 then some (updS s i.a.toNat allR)
  else if i.o = 8 then some s
  else if i.o = 10 then (if i.a = i.b then some s else narrR s i.a.toNat ⟨max (s i.a.toNat).lo (s i.b.toNat).lo, (s i.a.toNat).hi⟩ i.b.toNat ⟨(s i.b.toNat).lo, min (s i.b.toNat).hi (s i.a.toNat).hi⟩)
  else if i.o = 11 then (if i.a = i.b then none else if oneR (s i.a.toNat) (s i.b.toNat) then none else some s)
  else none
/-- what of a state goes to K -/
def flowFar (i : I5) (s : St) : Option St :=
  if i.o = 9 then some s
  else if i.o = 10 then (if i.a = i.b then none else if (s i.b.toNat).hi = -9223372036854775808 ∨ (s i.a.toNat).lo = 9223372036854775807 then none
    else narrR s i.a.toNat ⟨(s i.a.toNat).lo, min (s i.a.toNat).hi ((s i.b.toNat).hi - 1)⟩ i.b.toNat ⟨max (s i.b.toNat).lo ((s i.a.toNat).lo + 1), (s i.b.toNat).hi⟩)
  else if i.o = 11 then (if i.a = i.b then some s else narrR s i.a.toNat (comR (s i.a.toNat) (s i.b.toNat)) i.b.toNat (comR (s i.a.toNat) (s i.b.toNat)))
  else none
/-- what may go wrong -/
def dangR (i : I5) (s : St) : Int :=
  if i.o = 6 then (if hasR (s i.c.toNat) 0 then 6 else 0)
  else if i.o = 7 then (if inRg (s i.b.toNat) ⟨0, 15⟩ then 0 else 7)
  else if i.o = 8 then (if inRg (s i.a.toNat) ⟨0, 15⟩ then 0 else 7)
  else 0
def St.in64 (s : St) : Prop := ∀ j, j < 8 → (s j).in64
def St.ok (s : St) : Prop := ∀ j, j < 8 → (s j).lo ≤ (s j).hi
theorem ret_i64 {a b : Int} (h : a = b) : Ending.returned (.int .i64 a) = .returned (.int .i64 b) := by rw [h]
theorem danger_any (i : I5) (N : Nat) (hfit : i.fits N = true) (pb cap n at_ : Nat) (hat : at_ < n) (s : St) (w : World) (hi : w.cell? ⟨pb, at_ * 1, none⟩ = some (iVal i)) : Calls Tryz.prog 148 #[.slice (some ⟨pb, 0, none⟩) n cap, .int .i64 at_, .agg (stC s)] w fun e w' => e = .returned (.int .i64 (dangR i s)) ∧ Below w.heap.size w w' := by
  have hc := fit_cases hfit
  obtain ⟨op, a, b, c, k⟩ := i
  simp only at hc
  rcases hc with rfl | ⟨rfl, _⟩ | ⟨rfl, _⟩ | ⟨rfl, _⟩ | ⟨rfl, _⟩ | ⟨rfl, _⟩ | ⟨rfl, ha, hb, hc⟩ | ⟨rfl, ha, hb⟩ | ⟨rfl, ha, hb⟩ | ⟨rfl, _⟩ | ⟨rfl, _⟩ | ⟨rfl, _⟩
  · exact danger_no 199 _ (by decide) (by decide) (by decide) pb cap n at_ hat s w hi
  · exact danger_no 183 _ (by decide) (by decide) (by decide) pb cap n at_ hat s w hi
  · exact danger_no 185 _ (by decide) (by decide) (by decide) pb cap n at_ hat s w hi
  · exact danger_no 187 _ (by decide) (by decide) (by decide) pb cap n at_ hat s w hi
  · exact danger_no 188 _ (by decide) (by decide) (by decide) pb cap n at_ hat s w hi
  · exact danger_no 189 _ (by decide) (by decide) (by decide) pb cap n at_ hat s w hi
  · obtain ⟨c, hc', rfl⟩ := hc.nat
    cases hB : hasR (s c) 0 with
    | true => exact (danger_div6 a b c hc' pb cap n at_ hat s hB w hi).mono fun e w' ⟨h1, h2⟩ => ⟨h1.trans (ret_i64 (by unfold dangR; simp [hB])), h2⟩
    | false => exact (danger_div0 a b c hc' pb cap n at_ hat s hB w hi).mono fun e w' ⟨h1, h2⟩ => ⟨h1.trans (ret_i64 (by unfold dangR; simp [hB])), h2⟩
  · obtain ⟨b, hb', rfl⟩ := hb.nat
    exact danger_load a b hb' pb cap n at_ hat s w hi
  · obtain ⟨a, ha', rfl⟩ := ha.nat
    exact danger_store a b ha' pb cap n at_ hat s w hi
  · exact danger_no 194 _ (by decide) (by decide) (by decide) pb cap n at_ hat s w hi
  · exact danger_no 196 _ (by decide) (by decide) (by decide) pb cap n at_ hat s w hi
  · exact danger_no 197 _ (by decide) (by decide) (by decide) pb cap n at_ hat s w hi
set_option maxHeartbeats 1000000 in
set_option maxRecDepth 100000 in
theorem flow_gen (T f : Nat) (v : Value) (b1 b2 : Bool) (s1 s2 : St) (pb cap n at_ : Nat) (hat : at_ < n) (s : St) (w : World) (hi : w.cell? ⟨pb, at_ * 1, none⟩ = some (.iface T v))
    (hm : ∀ w, (method 367 T v "surety/machine.flow").run Tryz.prog w = .ok (f, v) w)
    (hcf : ∀ w, (callFunc f #[v, .agg (stC s)]).run Tryz.prog w = .ok (.enter f #[v, .agg (stC s)]) w)
    (hcall : Hid (∀ w1, Calls Tryz.prog f #[v, .agg (stC s)] w1 fun e w' => e = .returned (.tuple #[.agg (plC b1 s1), .agg (plC b2 s2)]) ∧ Below w1.heap.size w1 w')) :
    Calls Tryz.prog 119 #[.slice (some ⟨pb, 0, none⟩) n cap, .int .i64 at_, .agg (stC s)] w fun e w' => e = .returned (.tuple #[.agg (plC b1 s1), .agg (plC b2 s2)]) ∧ Below w.heap.size w w' := by
  have hk := Kn.nil [] w
  go_enter Tryz.func119, Tryz.ntmps119
  go_wp2_with (first | ((with_reducible show wpList _ _ _ _ _ _); (first | ((with_reducible show wpList _ _ _ (⟨_, _, _, _, _, some _⟩ :: _) _ _); refine wpList_skip (by rfl) ?_; simp only [Act.put, List.setIfInBounds_toArray, List.set_cons_succ, List.set_cons_zero]) | ((first | refine wBuild hk ?_ | refine wFieldZ hk ?_ | refine wField0 hk ?_ | refine wField hk ?_ | refine wIndexA0 hk ?_ | refine wIndexS0 hk ?_ | refine wIndexA hk ?_ | refine wIndexS hk ?_ | refine wLoadR hk ?_ | refine wLoad1 hk ?_ | refine wOldR hk ?_ | refine wOld1 hk ?_ | refine wOldC hk ?_ | refine wOldG hk ?_ | refine wAssertY hk ?_ | refine wAssertN hk ?_); simp only [Act.put, List.setIfInBounds_toArray, List.set_cons_succ, List.set_cons_zero]) | ((first | refine wBox hk ?_ | refine wBox1I hk ?_ | refine wBox1B hk ?_ | refine wBox1S hk ?_ | refine wBox1P hk ?_ | refine wBox1F hk ?_ | refine wAllocR hk ?_ | refine wAlloc1 hk ?_ | refine wMake hk ?_); clear hk; intro w1 hk; simp only [Act.put, List.setIfInBounds_toArray, List.set_cons_succ, List.set_cons_zero]) | ((first | refine wStoreR hk ?_ | refine wStore1I hk ?_ | refine wStore1B hk ?_ | refine wStore1S hk ?_ | refine wStore1P hk ?_ | refine wStore1F hk ?_); clear hk; intro w1 hk; simp only [Act.put]))))
  (refine wp_regK hk (.op 0 (.op 1 (.op 2 (.op 3 (.op 4 (.op 5 (.op 6 (.op 7 (.op 8 (.op 9 .nil)))))))))) (fun i => decide (i < 8)) mixT (by decide) (by kernel_rfl) (by kernel_rfl) ?_; clear hk; intro w1 hk)
  (repeat ((first | refine sMove hk ?_ | refine sAssign hk ?_ | refine sExtract hk ?_ | refine sFieldZ hk ?_ | refine sField0 hk ?_ | refine sField hk ?_ | refine sIndexA0 hk ?_ | refine sIndexS0 hk ?_ | refine sIndexA hk ?_ | refine sIndexS hk ?_ | refine sLoadR hk ?_ | refine sLoad1 hk ?_ | refine sOldR hk ?_ | refine sOld1 hk ?_ | refine sOldC hk ?_ | refine sOldG hk ?_ | refine sBuild hk ?_ | refine sPickT hk ?_ | refine sPickF hk ?_ | refine sLss hk ?_ | refine sLeq hk ?_ | refine sGtr hk ?_ | refine sGeq hk ?_ | refine sEql hk ?_ | refine sNot hk ?_ | refine sSkip hk ?_ | refine sSkipA hk ?_); simp only [Act.put, List.setIfInBounds_toArray, List.set_cons_succ, List.set_cons_zero]))
  (refine sCall ?_; intro K hK; go_step; refine (hcall.out _).mono ?_; rintro e w1 ⟨rfl, hb⟩; replace hk := hk.call hb; clear hb; refine hK _ _ (fun _ => hk) ?_; clear hK K)
  (repeat ((first | refine sMove hk ?_ | refine sAssign hk ?_ | refine sExtract hk ?_ | refine sFieldZ hk ?_ | refine sField0 hk ?_ | refine sField hk ?_ | refine sIndexA0 hk ?_ | refine sIndexS0 hk ?_ | refine sIndexA hk ?_ | refine sIndexS hk ?_ | refine sLoadR hk ?_ | refine sLoad1 hk ?_ | refine sOldR hk ?_ | refine sOld1 hk ?_ | refine sOldC hk ?_ | refine sOldG hk ?_ | refine sBuild hk ?_ | refine sPickT hk ?_ | refine sPickF hk ?_ | refine sLss hk ?_ | refine sLeq hk ?_ | refine sGtr hk ?_ | refine sGeq hk ?_ | refine sEql hk ?_ | refine sNot hk ?_ | refine sSkip hk ?_ | refine sSkipA hk ?_); simp only [Act.put, List.setIfInBounds_toArray, List.set_cons_succ, List.set_cons_zero]))
  (refine sStore hk ?_; clear hk; intro w1 hk; refine ⟨fun h => absurd h (by decide), ?_⟩; simp only [Act.put])
  (refine sStore hk ?_; clear hk; intro w1 hk; refine ⟨fun h => absurd h (by decide), ?_⟩; simp only [Act.put])
  refine tNil ?_
  go_wp2_with (first | ((with_reducible show wpList _ _ _ _ _ _); (first | ((with_reducible show wpList _ _ _ (⟨_, _, _, _, _, some _⟩ :: _) _ _); refine wpList_skip (by rfl) ?_; simp only [Act.put, List.setIfInBounds_toArray, List.set_cons_succ, List.set_cons_zero]) | ((first | refine wBuild hk ?_ | refine wFieldZ hk ?_ | refine wField0 hk ?_ | refine wField hk ?_ | refine wIndexA0 hk ?_ | refine wIndexS0 hk ?_ | refine wIndexA hk ?_ | refine wIndexS hk ?_ | refine wLoadR hk ?_ | refine wLoad1 hk ?_ | refine wOldR hk ?_ | refine wOld1 hk ?_ | refine wOldC hk ?_ | refine wOldG hk ?_ | refine wAssertY hk ?_ | refine wAssertN hk ?_); simp only [Act.put, List.setIfInBounds_toArray, List.set_cons_succ, List.set_cons_zero]) | ((first | refine wBox hk ?_ | refine wBox1I hk ?_ | refine wBox1B hk ?_ | refine wBox1S hk ?_ | refine wBox1P hk ?_ | refine wBox1F hk ?_ | refine wAllocR hk ?_ | refine wAlloc1 hk ?_ | refine wMake hk ?_); clear hk; intro w1 hk; simp only [Act.put, List.setIfInBounds_toArray, List.set_cons_succ, List.set_cons_zero]) | ((first | refine wStoreR hk ?_ | refine wStore1I hk ?_ | refine wStore1B hk ?_ | refine wStore1S hk ?_ | refine wStore1P hk ?_ | refine wStore1F hk ?_); clear hk; intro w1 hk; simp only [Act.put]))))
  exact post_2 rfl (by rfl) (hk.at (by with_reducible repeat (first | exact List.mem_cons_self | apply List.mem_cons_of_mem))) (rowT_of (by rfl)) (by rfl) (by rfl) (hk.at (by with_reducible repeat (first | exact List.mem_cons_self | apply List.mem_cons_of_mem))) (rowT_of (by rfl)) (by rfl) rfl ⟨rfl, hk.mod.below⟩
def FlowP (i : I5) (s : St) : Value := .tuple #[.agg (plC (flowOn i s).isSome (stO (flowOn i s))), .agg (plC (flowFar i s).isSome (stO (flowFar i s)))]
theorem flow_any (i : I5) (N : Nat) (hfit : i.fits N = true) (pb cap n at_ : Nat) (hat : at_ < n) (s : St) (hok : s.ok) (h64 : s.in64) (w : World) (hi : w.cell? ⟨pb, at_ * 1, none⟩ = some (iVal i)) : Calls Tryz.prog 119 #[.slice (some ⟨pb, 0, none⟩) n cap, .int .i64 at_, .agg (stC s)] w fun e w' => e = .returned (FlowP i s) ∧ Below w.heap.size w w' := by
  have hc := fit_cases hfit
  obtain ⟨op, a, b, c, k⟩ := i
  simp only at hc
  rcases hc with rfl | ⟨rfl, ha⟩ | ⟨rfl, ha, hb⟩ | ⟨rfl, ha, hb, hc⟩ | ⟨rfl, ha, hb, hc⟩ | ⟨rfl, ha, hb, hc⟩ | ⟨rfl, ha, hb, hc⟩ | ⟨rfl, ha, hb⟩ | ⟨rfl, ha, hb⟩ | ⟨rfl, hk0, hk1⟩ | ⟨rfl, ha, hb, hk0, hk1⟩ | ⟨rfl, ha, hb, hk0, hk1⟩
  · exact flow_gen 199 205 (.agg #[]) false false (zeroS) (zeroS) pb cap n at_ hat s w hi (fun _ => by kernel_rfl) (fun _ => by kernel_rfl) (hide fun w1 => halt_flow s w1)
  · obtain ⟨a, ha8, rfl⟩ := ha.nat
    exact flow_gen 183 163 (.agg #[.int .i64 a, .int .i64 k]) true false (updS s a ⟨k, k⟩) (zeroS) pb cap n at_ hat s w hi (fun _ => by kernel_rfl) (fun _ => by kernel_rfl) (hide fun w1 => set_flow a k ha8 s w1)
  · obtain ⟨a, ha8, rfl⟩ := ha.nat
    obtain ⟨b, hb8, rfl⟩ := hb.nat
    exact flow_gen 185 168 (.agg #[.int .i64 a, .int .i64 b]) true false (updS s a (s b)) (zeroS) pb cap n at_ hat s w hi (fun _ => by kernel_rfl) (fun _ => by kernel_rfl) (hide fun w1 => move_flow a b ha8 hb8 s w1)
  · obtain ⟨a, ha8, rfl⟩ := ha.nat
    obtain ⟨b, hb8, rfl⟩ := hb.nat
    obtain ⟨c, hc8, rfl⟩ := hc.nat
    exact flow_gen 187 170 (.agg #[.int .i64 a, .int .i64 b, .int .i64 c]) true false (updS s a (sumR (s b) (s c))) (zeroS) pb cap n at_ hat s w hi (fun _ => by kernel_rfl) (fun _ => by kernel_rfl) (hide fun w1 => add_flow a b c ha8 hb8 hc8 s h64 w1)
  · obtain ⟨a, ha8, rfl⟩ := ha.nat
    obtain ⟨b, hb8, rfl⟩ := hb.nat
    obtain ⟨c, hc8, rfl⟩ := hc.nat
    exact flow_gen 188 181 (.agg #[.int .i64 a, .int .i64 b, .int .i64 c]) true false (updS s a (difR (s b) (s c))) (zeroS) pb cap n at_ hat s w hi (fun _ => by kernel_rfl) (fun _ => by kernel_rfl) (hide fun w1 => sub_flow a b c ha8 hb8 hc8 s h64 w1)
  · obtain ⟨a, ha8, rfl⟩ := ha.nat
    obtain ⟨b, hb8, rfl⟩ := hb.nat
    obtain ⟨c, hc8, rfl⟩ := hc.nat
    exact flow_gen 189 185 (.agg #[.int .i64 a, .int .i64 b, .int .i64 c]) true false (updS s a (prodR (s b) (s c))) (zeroS) pb cap n at_ hat s w hi (fun _ => by kernel_rfl) (fun _ => by kernel_rfl) (hide fun w1 => mul_flow a b c ha8 hb8 hc8 s w1)
  · obtain ⟨a, ha8, rfl⟩ := ha.nat
    obtain ⟨b, hb8, rfl⟩ := hb.nat
    obtain ⟨c, hc8, rfl⟩ := hc.nat
    exact flow_gen 190 189 (.agg #[.int .i64 a, .int .i64 b, .int .i64 c]) true false (updS s a (quoR (s b) (s c))) (zeroS) pb cap n at_ hat s w hi (fun _ => by kernel_rfl) (fun _ => by kernel_rfl) (hide fun w1 => div_flow a b c ha8 hb8 hc8 s hok w1)
  · obtain ⟨a, ha8, rfl⟩ := ha.nat
    obtain ⟨b, hb8, rfl⟩ := hb.nat
    exact flow_gen 191 192 (.agg #[.int .i64 a, .int .i64 b]) true false (updS s a allR) (zeroS) pb cap n at_ hat s w hi (fun _ => by kernel_rfl) (fun _ => by kernel_rfl) (hide fun w1 => load_flow a b ha8 s w1)
  · obtain ⟨a, ha8, rfl⟩ := ha.nat
    obtain ⟨b, hb8, rfl⟩ := hb.nat
    exact flow_gen 192 195 (.agg #[.int .i64 a, .int .i64 b]) true false (s) (zeroS) pb cap n at_ hat s w hi (fun _ => by kernel_rfl) (fun _ => by kernel_rfl) (hide fun w1 => store_flow a b s w1)
  · exact flow_gen 194 197 (.agg #[.int .i64 k]) false true (zeroS) (s) pb cap n at_ hat s w hi (fun _ => by kernel_rfl) (fun _ => by kernel_rfl) (hide fun w1 => jump_flow k s w1)
  · obtain ⟨a, ha8, rfl⟩ := ha.nat
    obtain ⟨b, hb8, rfl⟩ := hb.nat
    by_cases hab : a = b
    · subst hab
      have e1 : FlowP ⟨10, a, a, c, k⟩ s = .tuple #[.agg (plC true s), .agg (plC false zeroS)] := by unfold FlowP flowOn flowFar; simp [stO]
      rw [e1]
      exact flow_gen 196 199 (.agg #[.int .i64 a, .int .i64 a, .int .i64 k]) true false s zeroS pb cap n at_ hat s w hi (fun _ => by kernel_rfl) (fun _ => by kernel_rfl) (hide fun w1 => less_one a k s w1)
    · have hne : ¬ ((a : Int) = (b : Int)) := by omega
      have hb1 := h64 b hb8
      have ha1 := h64 a ha8
      unfold R2.in64 I64 at hb1 ha1
      by_cases hB : (s b).hi = -9223372036854775808
      · have e1 : flowFar ⟨10, a, b, c, k⟩ s = none := by unfold flowFar; simp [hne, hB]
        have e2 : flowOn ⟨10, a, b, c, k⟩ s = narrR s a ⟨max (s a).lo (s b).lo, (s a).hi⟩ b ⟨(s b).lo, min (s b).hi (s a).hi⟩ := by unfold flowOn; simp [hne]
        unfold FlowP
        rw [e1, e2]
        exact flow_gen 196 199 (.agg #[.int .i64 a, .int .i64 b, .int .i64 k]) _ false _ zeroS pb cap n at_ hat s w hi (fun _ => by kernel_rfl) (fun _ => by kernel_rfl) (hide fun w1 => less_noB a b k ha8 hb8 hab s (by simpa using hB) w1)
      · by_cases hA : (s a).lo = 9223372036854775807
        · have e1 : flowFar ⟨10, a, b, c, k⟩ s = none := by unfold flowFar; simp [hne, hA]
          have e2 : flowOn ⟨10, a, b, c, k⟩ s = narrR s a ⟨max (s a).lo (s b).lo, (s a).hi⟩ b ⟨(s b).lo, min (s b).hi (s a).hi⟩ := by unfold flowOn; simp [hne]
          unfold FlowP
          rw [e1, e2]
          exact flow_gen 196 199 (.agg #[.int .i64 a, .int .i64 b, .int .i64 k]) _ false _ zeroS pb cap n at_ hat s w hi (fun _ => by kernel_rfl) (fun _ => by kernel_rfl) (hide fun w1 => less_noA a b k ha8 hb8 hab s (by simpa using hB) (by simpa using hA) w1)
        · have e1 : flowFar ⟨10, a, b, c, k⟩ s = narrR s a ⟨(s a).lo, min (s a).hi ((s b).hi - 1)⟩ b ⟨max (s b).lo ((s a).lo + 1), (s b).hi⟩ := by unfold flowFar; simp [hne, hA, hB]
          have e2 : flowOn ⟨10, a, b, c, k⟩ s = narrR s a ⟨max (s a).lo (s b).lo, (s a).hi⟩ b ⟨(s b).lo, min (s b).hi (s a).hi⟩ := by unfold flowOn; simp [hne]
          unfold FlowP
          rw [e1, e2]
          exact flow_gen 196 199 (.agg #[.int .i64 a, .int .i64 b, .int .i64 k]) _ _ _ _ pb cap n at_ hat s w hi (fun _ => by kernel_rfl) (fun _ => by kernel_rfl) (hide fun w1 => less_both a b k ha8 hb8 hab s (by simpa using hB) (by simpa using hA) (by omega) (by omega) (by omega) (by omega) w1)
  · obtain ⟨a, ha8, rfl⟩ := ha.nat
    obtain ⟨b, hb8, rfl⟩ := hb.nat
    by_cases hab : a = b
    · subst hab
      have e1 : FlowP ⟨11, a, a, c, k⟩ s = .tuple #[.agg (plC false zeroS), .agg (plC true s)] := by unfold FlowP flowOn flowFar; simp [stO]
      rw [e1]
      exact flow_gen 197 202 (.agg #[.int .i64 a, .int .i64 a, .int .i64 k]) false true zeroS s pb cap n at_ hat s w hi (fun _ => by kernel_rfl) (fun _ => by kernel_rfl) (hide fun w1 => same_one a k s w1)
    · have hne : ¬ ((a : Int) = (b : Int)) := by omega
      have e1 : flowFar ⟨11, a, b, c, k⟩ s = narrR s a (comR (s a) (s b)) b (comR (s a) (s b)) := by unfold flowFar; simp [hne]
      cases hO : oneR (s a) (s b) with
      | true =>
        have e2 : flowOn ⟨11, a, b, c, k⟩ s = none := by unfold flowOn; simp [hO]
        unfold FlowP
        rw [e1, e2]
        exact flow_gen 197 202 (.agg #[.int .i64 a, .int .i64 b, .int .i64 k]) false _ zeroS _ pb cap n at_ hat s w hi (fun _ => by kernel_rfl) (fun _ => by kernel_rfl) (hide fun w1 => same_alone a b k ha8 hb8 hab s hO w1)
      | false =>
        have e2 : flowOn ⟨11, a, b, c, k⟩ s = some s := by unfold flowOn; simp [hne, hO]
        unfold FlowP
        rw [e1, e2]
        exact flow_gen 197 202 (.agg #[.int .i64 a, .int .i64 b, .int .i64 k]) true _ s _ pb cap n at_ hat s w hi (fun _ => by kernel_rfl) (fun _ => by kernel_rfl) (hide fun w1 => same_both a b k ha8 hb8 hab s hO w1)
end Go.Proofs.YtamiichlbmllcaaGreatDoor
