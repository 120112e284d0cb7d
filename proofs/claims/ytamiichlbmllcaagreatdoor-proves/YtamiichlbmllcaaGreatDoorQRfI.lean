import Derived.Test.YtamiichlbmllcaaGreatDoorQChA
import Derived.Test.YtamiichlbmllcaaGreatDoorQRegL
import Derived.Test.YtamiichlbmllcaaGreatDoorQRfA
/-
  The contracts of (machine.Program).Danger and Flow, for every instruction that may stand in a program.
-/
namespace Go.Proofs.YtamiichlbmllcaaGreatDoor
open Go.RowKit
/-- what of a state goes on behind an instruction -/
def flowOn (i : I5) (s : St) : Option St :=
  if i.o = 1 then some (updS s i.a.toNat ⟨i.k, i.k⟩)
  else if i.o = 2 then some (updS s i.a.toNat (s i.b.toNat))
  else if i.o = 3 then some (updS s i.a.toNat (sumR (s i.b.toNat) (s i.c.toNat)))
  else if i.o = 4 then some (updS s i.a.toNat (difR (s i.b.toNat) (s i.c.toNat)))
  else if i.o = 5 then some (updS s i.a.toNat (prodR (s i.b.toNat) (s i.c.toNat)))
  else if i.o = 6 then some (updS s i.a.toNat (quoR (s i.b.toNat) (s i.c.toNat)))
  else if i.o = 7 then some (updS s i.a.toNat allR)
  else if i.o = 8 then some s
  else if i.o = 10 then (if i.a = i.b then some s else narrR s i.a.toNat ⟨max (s i.a.toNat).lo (s i.b.toNat).lo, (s i.a.toNat).hi⟩ i.b.toNat ⟨(s i.b.toNat).lo, min (s i.b.toNat).hi (s i.a.toNat).hi⟩)
  else if i.o = 11 then (if i.a = i.b then none else if oneR (s i.a.toNat) (s i.b.toNat) then none else some s)
  else none
/-- what of a state goes to K -/
def flowFar (i : I5) (s : St) : Option St :=
  if i.o = 9 then some s
  else if i.o = 10 then (if i.a = i.b then none else if (s i.b.toNat).hi = -9223372036854775808 ∨ (s i.a.toNat).lo = 9223372036854775807 then none
    else narrR s i.a.toNat ⟨(s i.a.toNat).lo, min (s i.a.toNat).hi ((s i.b.toNat).hi - 1)⟩ i.b.toNat ⟨max (s i.b.toNat).lo ((s i.a.toNat).lo + 1), (s i.b.toNat).hi⟩)
  else if i.o = 11 then (if i.a = i.b then some s else narrR s i.a.toNat (comR (s i.a.toNat) (s i.b.toNat)) i.b.toNat (comR (s i.a.toNat) (s i.b.toNat)))
  else none
/-- what may go wrong -/
def dangR (i : I5) (s : St) : Int :=
  if i.o = 6 then (if hasR (s i.c.toNat) 0 then 6 else 0)
  else if i.o = 7 then (if inRg (s i.b.toNat) ⟨0, 15⟩ then 0 else 7)
  else if i.o = 8 then (if inRg (s i.a.toNat) ⟨0, 15⟩ then 0 else 7)
  else 0
def St.in64 (s : St) : Prop := ∀ j, j < 8 → (s j).in64
def St.ok (s : St) : Prop := ∀ j, j < 8 → (s j).lo ≤ (s j).hi
theorem ret_i64 {a b : Int} (h : a = b) : Ending.returned (.int .i64 a) = .returned (.int .i64 b) := by rw [h]
theorem danger_any (i : I5) (N : Nat) (hfit : i.fits N = true) (pb cap n at_ : Nat) (hat : at_ < n) (s : St) (w : World) (hi : w.cell? ⟨pb, at_ * 1, none⟩ = some (iVal i)) : Calls Tryz.prog 148 #[.slice (some ⟨pb, 0, none⟩) n cap, .int .i64 at_, .agg (stC s)] w fun e w' => e = .returned (.int .i64 (dangR i s)) ∧ Below w.heap.size w w' := by
  have hc := fit_cases hfit
  obtain ⟨op, a, b, c, k⟩ := i
  simp only at hc
  rcases hc with rfl | ⟨rfl, _⟩ | ⟨rfl, _⟩ | ⟨rfl, _⟩ | ⟨rfl, _⟩ | ⟨rfl, _⟩ | ⟨rfl, ha, hb, hc⟩ | ⟨rfl, ha, hb⟩ | ⟨rfl, ha, hb⟩ | ⟨rfl, _⟩ | ⟨rfl, _⟩ | ⟨rfl, _⟩
  · exact danger_no 199 _ (by decide) (by decide) (by decide) pb cap n at_ hat s w hi
  · exact danger_no 183 _ (by decide) (by decide) (by decide) pb cap n at_ hat s w hi
  · exact danger_no 185 _ (by decide) (by decide) (by decide) pb cap n at_ hat s w hi
  · exact danger_no 187 _ (by decide) (by decide) (by decide) pb cap n at_ hat s w hi
  · exact danger_no 188 _ (by decide) (by decide) (by decide) pb cap n at_ hat s w hi
  · exact danger_no 189 _ (by decide) (by decide) (by decide) pb cap n at_ hat s w hi
  · obtain ⟨c, hc', rfl⟩ := hc.nat
    cases hB : hasR (s c) 0 with
    | true => exact (danger_div6 a b c hc' pb cap n at_ hat s hB w hi).mono fun e w' ⟨h1, h2⟩ => ⟨h1.trans (ret_i64 (by unfold dangR; simp [hB])), h2⟩
    | false => exact (danger_div0 a b c hc' pb cap n at_ hat s hB w hi).mono fun e w' ⟨h1, h2⟩ => ⟨h1.trans (ret_i64 (by unfold dangR; simp [hB])), h2⟩
  · obtain ⟨b, hb', rfl⟩ := hb.nat
    exact danger_load a b hb' pb cap n at_ hat s w hi
  · obtain ⟨a, ha', rfl⟩ := ha.nat
    exact danger_store a b ha' pb cap n at_ hat s w hi
  · exact danger_no 194 _ (by decide) (by decide) (by decide) pb cap n at_ hat s w hi
  · exact danger_no 196 _ (by decide) (by decide) (by decide) pb cap n at_ hat s w hi
  · exact danger_no 197 _ (by decide) (by decide) (by decide) pb cap n at_ hat s w hi
set_option maxHeartbeats 1000000 in
set_option maxRecDepth 100000 in
theorem flow_gen (T f : Nat) (v : Value) (b1 b2 : Bool) (s1 s2 : St) (pb cap n at_ : Nat) (hat : at_ < n) (s : St) (w : World) (hi : w.cell? ⟨pb, at_ * 1, none⟩ = some (.iface T v))
    (hm : ∀ w, (method 367 T v "surety/machine.flow").run Tryz.prog w = .ok (f, v) w)
    (hcf : ∀ w, (callFunc f #[v, .agg (stC s)]).run Tryz.prog w = .ok (.enter f #[v, .agg (stC s)]) w)
    (hcall : Hid (∀ w1, Calls Tryz.prog f #[v, .agg (stC s)] w1 fun e w' => e = .returned (.tuple #[.agg (plC b1 s1), .agg (plC b2 s2)]) ∧ Below w1.heap.size w1 w')) :
    Calls Tryz.prog 119 #[.slice (some ⟨pb, 0, none⟩) n cap, .int .i64 at_, .agg (stC s)] w fun e w' => e = .returned (.tuple #[.agg (plC b1 s1), .agg (plC b2 s2)]) ∧ Below w.heap.size w w' := by
  have hk := Kn.nil [] w
  go_enter Tryz.func119, Tryz.ntmps119
  go_wp2_with (first | ((with_reducible show wpList _ _ _ _ _ _); (first | (refine wS hk ?_; simp only [Act.put, pw]) | (refine wN hk ?_; clear hk; intro w1 hk; simp only [Act.put, pw]) | (refine wT hk ?_; clear hk; intro w1 hk; simp only [Act.put]))))
  (refine wp_regK hk (.op 0 (.op 1 (.op 2 (.op 3 (.op 4 (.op 5 (.op 6 (.op 7 (.op 8 (.op 9 .nil)))))))))) (fun i => decide (i < 8)) mixT (by decide) (by kernel_rfl) (by kernel_rfl) ?_; clear hk; intro w1 hk)
  (repeat (refine sS hk ?_; simp only [Act.put, pw]))
  (refine sCall ?_; intro K hK; go_step; refine (hcall.out _).mono ?_; rintro e w1 ⟨rfl, hb⟩; replace hk := hk.call hb; clear hb; refine hK _ _ (fun _ => hk) ?_; clear hK K)
  (repeat (refine sS hk ?_; simp only [Act.put, pw]))
  (refine sStore hk ?_; clear hk; intro w1 hk; refine ⟨fun h => absurd h (by decide), ?_⟩; simp only [Act.put])
  (refine sStore hk ?_; clear hk; intro w1 hk; refine ⟨fun h => absurd h (by decide), ?_⟩; simp only [Act.put])
  refine tNil ?_
  go_wp2_with (first | ((with_reducible show wpList _ _ _ _ _ _); (first | (refine wS hk ?_; simp only [Act.put, pw]) | (refine wN hk ?_; clear hk; intro w1 hk; simp only [Act.put, pw]) | (refine wT hk ?_; clear hk; intro w1 hk; simp only [Act.put]))))
  exact post_2 rfl (by rfl) (hk.at (by with_reducible repeat (first | exact List.mem_cons_self | apply List.mem_cons_of_mem))) (rowT_of (by rfl)) (by rfl) (by rfl) (hk.at (by with_reducible repeat (first | exact List.mem_cons_self | apply List.mem_cons_of_mem))) (rowT_of (by rfl)) (by rfl) rfl ⟨rfl, hk.mod.below⟩
def FlowP (i : I5) (s : St) : Value := .tuple #[.agg (plC (flowOn i s).isSome (stO (flowOn i s))), .agg (plC (flowFar i s).isSome (stO (flowFar i s)))]
theorem flow_any (i : I5) (N : Nat) (hfit : i.fits N = true) (pb cap n at_ : Nat) (hat : at_ < n) (s : St) (hok : s.ok) (h64 : s.in64) (w : World) (hi : w.cell? ⟨pb, at_ * 1, none⟩ = some (iVal i)) : Calls Tryz.prog 119 #[.slice (some ⟨pb, 0, none⟩) n cap, .int .i64 at_, .agg (stC s)] w fun e w' => e = .returned (FlowP i s) ∧ Below w.heap.size w w' := by
  have hc := fit_cases hfit
  obtain ⟨op, a, b, c, k⟩ := i
  simp only at hc
  rcases hc with rfl | ⟨rfl, ha⟩ | ⟨rfl, ha, hb⟩ | ⟨rfl, ha, hb, hc⟩ | ⟨rfl, ha, hb, hc⟩ | ⟨rfl, ha, hb, hc⟩ | ⟨rfl, ha, hb, hc⟩ | ⟨rfl, ha, hb⟩ | ⟨rfl, ha, hb⟩ | ⟨rfl, hk0, hk1⟩ | ⟨rfl, ha, hb, hk0, hk1⟩ | ⟨rfl, ha, hb, hk0, hk1⟩
  · exact flow_gen 199 205 (.agg #[]) false false (zeroS) (zeroS) pb cap n at_ hat s w hi (fun _ => by kernel_rfl) (fun _ => by kernel_rfl) (hide fun w1 => halt_flow s w1)
  · obtain ⟨a, ha8, rfl⟩ := ha.nat
    exact flow_gen 183 163 (.agg #[.int .i64 a, .int .i64 k]) true false (updS s a ⟨k, k⟩) (zeroS) pb cap n at_ hat s w hi (fun _ => by kernel_rfl) (fun _ => by kernel_rfl) (hide fun w1 => set_flow a k ha8 s w1)
  · obtain ⟨a, ha8, rfl⟩ := ha.nat
    obtain ⟨b, hb8, rfl⟩ := hb.nat
    exact flow_gen 185 168 (.agg #[.int .i64 a, .int .i64 b]) true false (updS s a (s b)) (zeroS) pb cap n at_ hat s w hi (fun _ => by kernel_rfl) (fun _ => by kernel_rfl) (hide fun w1 => move_flow a b ha8 hb8 s w1)
  · obtain ⟨a, ha8, rfl⟩ := ha.nat
    obtain ⟨b, hb8, rfl⟩ := hb.nat
    obtain ⟨c, hc8, rfl⟩ := hc.nat
    exact flow_gen 187 170 (.agg #[.int .i64 a, .int .i64 b, .int .i64 c]) true false (updS s a (sumR (s b) (s c))) (zeroS) pb cap n at_ hat s w hi (fun _ => by kernel_rfl) (fun _ => by kernel_rfl) (hide fun w1 => add_flow a b c ha8 hb8 hc8 s h64 w1)
  · obtain ⟨a, ha8, rfl⟩ := ha.nat
    obtain ⟨b, hb8, rfl⟩ := hb.nat
    obtain ⟨c, hc8, rfl⟩ := hc.nat
    exact flow_gen 188 181 (.agg #[.int .i64 a, .int .i64 b, .int .i64 c]) true false (updS s a (difR (s b) (s c))) (zeroS) pb cap n at_ hat s w hi (fun _ => by kernel_rfl) (fun _ => by kernel_rfl) (hide fun w1 => sub_flow a b c ha8 hb8 hc8 s h64 w1)
  · obtain ⟨a, ha8, rfl⟩ := ha.nat
    obtain ⟨b, hb8, rfl⟩ := hb.nat
    obtain ⟨c, hc8, rfl⟩ := hc.nat
    exact flow_gen 189 185 (.agg #[.int .i64 a, .int .i64 b, .int .i64 c]) true false (updS s a (prodR (s b) (s c))) (zeroS) pb cap n at_ hat s w hi (fun _ => by kernel_rfl) (fun _ => by kernel_rfl) (hide fun w1 => mul_flow a b c ha8 hb8 hc8 s w1)
  · obtain ⟨a, ha8, rfl⟩ := ha.nat
    obtain ⟨b, hb8, rfl⟩ := hb.nat
    obtain ⟨c, hc8, rfl⟩ := hc.nat
    exact flow_gen 190 189 (.agg #[.int .i64 a, .int .i64 b, .int .i64 c]) true false (updS s a (quoR (s b) (s c))) (zeroS) pb cap n at_ hat s w hi (fun _ => by kernel_rfl) (fun _ => by kernel_rfl) (hide fun w1 => div_flow a b c ha8 hb8 hc8 s hok w1)
  · obtain ⟨a, ha8, rfl⟩ := ha.nat
    obtain ⟨b, hb8, rfl⟩ := hb.nat
    exact flow_gen 191 192 (.agg #[.int .i64 a, .int .i64 b]) true false (updS s a allR) (zeroS) pb cap n at_ hat s w hi (fun _ => by kernel_rfl) (fun _ => by kernel_rfl) (hide fun w1 => load_flow a b ha8 s w1)
  · obtain ⟨a, ha8, rfl⟩ := ha.nat
    obtain ⟨b, hb8, rfl⟩ := hb.nat
    exact flow_gen 192 195 (.agg #[.int .i64 a, .int .i64 b]) true false (s) (zeroS) pb cap n at_ hat s w hi (fun _ => by kernel_rfl) (fun _ => by kernel_rfl) (hide fun w1 => store_flow a b s w1)
  · exact flow_gen 194 197 (.agg #[.int .i64 k]) false true (zeroS) (s) pb cap n at_ hat s w hi (fun _ => by kernel_rfl) (fun _ => by kernel_rfl) (hide fun w1 => jump_flow k s w1)
  · obtain ⟨a, ha8, rfl⟩ := ha.nat
    obtain ⟨b, hb8, rfl⟩ := hb.nat
    by_cases hab : a = b
    · subst hab
      have e1 : FlowP ⟨10, a, a, c, k⟩ s = .tuple #[.agg (plC true s), .agg (plC false zeroS)] := by unfold FlowP flowOn flowFar; simp [stO]
      rw [e1]
      exact flow_gen 196 199 (.agg #[.int .i64 a, .int .i64 a, .int .i64 k]) true false s zeroS pb cap n at_ hat s w hi (fun _ => by kernel_rfl) (fun _ => by kernel_rfl) (hide fun w1 => less_one a k s w1)
    · have hne : ¬ ((a : Int) = (b : Int)) := by omega
      have hb1 := h64 b hb8
      have ha1 := h64 a ha8
      unfold R2.in64 I64 at hb1 ha1
      by_cases hB : (s b).hi = -9223372036854775808
      · have e1 : flowFar ⟨10, a, b, c, k⟩ s = none := by unfold flowFar; simp [hne, hB]
        have e2 : flowOn ⟨10, a, b, c, k⟩ s = narrR s a ⟨max (s a).lo (s b).lo, (s a).hi⟩ b ⟨(s b).lo, min (s b).hi (s a).hi⟩ := by unfold flowOn; simp [hne]
        unfold FlowP
        rw [e1, e2]
        exact flow_gen 196 199 (.agg #[.int .i64 a, .int .i64 b, .int .i64 k]) _ false _ zeroS pb cap n at_ hat s w hi (fun _ => by kernel_rfl) (fun _ => by kernel_rfl) (hide fun w1 => less_noB a b k ha8 hb8 hab s (by simpa using hB) w1)
      · by_cases hA : (s a).lo = 9223372036854775807
        · have e1 : flowFar ⟨10, a, b, c, k⟩ s = none := by unfold flowFar; simp [hne, hA]
          have e2 : flowOn ⟨10, a, b, c, k⟩ s = narrR s a ⟨max (s a).lo (s b).lo, (s a).hi⟩ b ⟨(s b).lo, min (s b).hi (s a).hi⟩ := by unfold flowOn; simp [hne]
          unfold FlowP
          rw [e1, e2]
          exact flow_gen 196 199 (.agg #[.int .i64 a, .int .i64 b, .int .i64 k]) _ false _ zeroS pb cap n at_ hat s w hi (fun _ => by kernel_rfl) (fun _ => by kernel_rfl) (hide fun w1 => less_noA a b k ha8 hb8 hab s (by simpa using hB) (by simpa using hA) w1)
        · have e1 : flowFar ⟨10, a, b, c, k⟩ s = narrR s a ⟨(s a).lo, min (s a).hi ((s b).hi - 1)⟩ b ⟨max (s b).lo ((s a).lo + 1), (s b).hi⟩ := by unfold flowFar; simp [hne, hA, hB]
          have e2 : flowOn ⟨10, a, b, c, k⟩ s = narrR s a ⟨max (s a).lo (s b).lo, (s a).hi⟩ b ⟨(s b).lo, min (s b).hi (s a).hi⟩ := by unfold flowOn; simp [hne]
          unfold FlowP
          rw [e1, e2]
          exact flow_gen 196 199 (.agg #[.int .i64 a, .int .i64 b, .int .i64 k]) _ _ _ _ pb cap n at_ hat s w hi (fun _ => by kernel_rfl) (fun _ => by kernel_rfl) (hide fun w1 => less_both a b k ha8 hb8 hab s (by simpa using hB) (by simpa using hA) (by omega) (by omega) (by omega) (by omega) w1)
  · obtain ⟨a, ha8, rfl⟩ := ha.nat
    obtain ⟨b, hb8, rfl⟩ := hb.nat
    by_cases hab : a = b
    · subst hab
      have e1 : FlowP ⟨11, a, a, c, k⟩ s = .tuple #[.agg (plC false zeroS), .agg (plC true s)] := by unfold FlowP flowOn flowFar; simp [stO]
      rw [e1]
      exact flow_gen 197 202 (.agg #[.int .i64 a, .int .i64 a, .int .i64 k]) false true zeroS s pb cap n at_ hat s w hi (fun _ => by kernel_rfl) (fun _ => by kernel_rfl) (hide fun w1 => same_one a k s w1)
    · have hne : ¬ ((a : Int) = (b : Int)) := by omega
      have e1 : flowFar ⟨11, a, b, c, k⟩ s = narrR s a (comR (s a) (s b)) b (comR (s a) (s b)) := by unfold flowFar; simp [hne]
      cases hO : oneR (s a) (s b) with
      | true =>
        have e2 : flowOn ⟨11, a, b, c, k⟩ s = none := by unfold flowOn; simp [hO]
        unfold FlowP
        rw [e1, e2]
        exact flow_gen 197 202 (.agg #[.int .i64 a, .int .i64 b, .int .i64 k]) false _ zeroS _ pb cap n at_ hat s w hi (fun _ => by kernel_rfl) (fun _ => by kernel_rfl) (hide fun w1 => same_alone a b k ha8 hb8 hab s hO w1)
      | false =>
        have e2 : flowOn ⟨11, a, b, c, k⟩ s = some s := by unfold flowOn; simp [hne, hO]
        unfold FlowP
        rw [e1, e2]
        exact flow_gen 197 202 (.agg #[.int .i64 a, .int .i64 b, .int .i64 k]) true _ s _ pb cap n at_ hat s w hi (fun _ => by kernel_rfl) (fun _ => by kernel_rfl) (hide fun w1 => same_both a b k ha8 hb8 hab s hO w1)
end Go.Proofs.YtamiichlbmllcaaGreatDoor
/-
  Marks: the contract of proof.marksOf.
-/
namespace Go.Proofs.YtamiichlbmllcaaGreatDoor
open Go.RowKit
/-- a program's instructions lie in block pb, as vf has them -/
def ProgC (w : World) (pb : Nat) (vf : I5 → Value) (l : List I5) : Prop := ∀ i, i < l.length → w.cell? ⟨pb, i * 1, none⟩ = some (vf (insAt l i))
theorem ProgC.mod {w w' : World} {pb : Nat} {vf : I5 → Value} {l : List I5} {M : List Nat} (h : ProgC w pb vf l) (hm : Mod M w w') (hp : pb ∉ M) : ProgC w' pb vf l := fun i hi => by
  rw [World.cell?_of_block (w := w) (a := ⟨pb, i * 1, none⟩) (hm.block pb (World.block_lt_of_cell? w _ (h i hi)) hp)]; exact h i hi
def markB (p : List I5) (n : Nat) : Bool := p.any fun i => decide (9 ≤ i.o) && decide (i.k = n)
def mkU (l : List I5) (i : Nat) : Nat → Bool := fun m => markB (l.take i) m
theorem mkU_zero (l : List I5) : mkU l 0 = fun _ => false := rfl
theorem mkU_all (l : List I5) : mkU l l.length = markB l := by unfold mkU; rw [List.take_length]
theorem take_succ_at {l : List I5} {i : Nat} (h : i < l.length) : l.take (i + 1) = l.take i ++ [insAt l i] := by rw [insAt_get h, List.take_append_getElem h]
theorem mkU_no {l : List I5} {i : Nat} (h : i < l.length) (hj : jumpsB (insAt l i) = false) : mkU l (i + 1) = mkU l i := by
  funext m
  unfold mkU markB
  rw [take_succ_at h, List.any_append]
  unfold jumpsB at hj
  simp [hj]
theorem mkU_yes {l : List I5} {i k : Nat} (h : i < l.length) (hj : jumpsB (insAt l i) = true) (hk : targI (insAt l i) = k) : mkU l (i + 1) = updB (mkU l i) k true := by
  funext m
  unfold mkU markB updB
  rw [take_succ_at h, List.any_append]
  unfold jumpsB at hj
  unfold targI at hk
  simp only [decide_eq_true_eq] at hj
  rw [if_pos hj] at hk
  by_cases e : m = k
  · subst e; simp [hj, hk]
  · have : ¬ ((insAt l i).k = (m : Int)) := by rw [hk]; omega
    simp [this, e]
theorem AllFit.fit {l : List I5} (h : AllFit l) {i : Nat} (hi : i < l.length) : (insAt l i).fits l.length = true := by rw [insAt_get hi]; exact h.2.2 i hi
theorem AllFit.targ {l : List I5} (h : AllFit l) {i : Nat} (hi : i < l.length) (hj : jumpsB (insAt l i) = true) : ∃ k : Nat, targI (insAt l i) = k ∧ k < l.length := by
  unfold jumpsB at hj
  simp only [decide_eq_true_eq] at hj
  have := h.k hi hj
  refine ⟨(insAt l i).k.toNat, ?_, this.2⟩
  unfold targI
  rw [if_pos hj]
  omega
set_option maxHeartbeats 1000000 in
set_option maxRecDepth 100000 in
theorem marksOf_any (l : List I5) (hl : AllFit l) (pb cap : Nat) (w : World) (hp : ProgC w pb iVal l) : Calls Tryz.prog 63 #[.slice (some ⟨pb, 0, none⟩) l.length cap] w fun e w' => ∃ mb, e = .returned (.slice (some ⟨mb, 0, none⟩) l.length l.length) ∧ At w' mb (bosA l.length (markB l)) 4 ∧ w.heap.size ≤ mb ∧ Below w.heap.size w w' := by
  have hk := Kn.nil [] w
  have hn := hl.2.1
  go_enter Tryz.func63, Tryz.ntmps63
  go_wp2_with (first | ((with_reducible show wpList _ _ _ _ _ _); (first | (refine wS hk ?_; simp only [Act.put, pw]) | (refine wN hk ?_; clear hk; intro w1 hk; simp only [Act.put, pw]) | (refine wT hk ?_; clear hk; intro w1 hk; simp only [Act.put]))))
  replace hk : Kn [] w w1 [(w.heap.size, bosA l.length (mkU l 0), 4)] := hk
  go_loopw [12] (fun j wr => ∃ i : Nat, i ≤ l.length ∧ j = .int .i64 i ∧ Kn [] w wr [(w.heap.size, bosA l.length (mkU l i), 4)]) (fun j _ => l.length - (intOf j).toNat)
  case atStart => exact ⟨0, by omega, rfl, hk⟩
  case round =>
    clear hk
    obtain ⟨i, hi, rfl, hk⟩ := hrel
    by_cases hlt : i < l.length
    · have hc := hp.mod hk.mod (List.not_mem_nil) i hlt
      cases hj : jumpsB (insAt l i) with
      | false =>
        have R := hide (mkU_no hlt hj)
        go_wp2_with (first | (go_at_call 101; refine (target_any (insAt l i) _ (hl.fit hlt) _ _ _ _ hlt _ hc).mono ?_; rintro e w1 ⟨rfl, hb⟩; replace hk := hk.call hb; clear hb; rw [hj]) | ((with_reducible show wpList _ _ _ _ _ _); (first | (refine wS hk ?_; simp only [Act.put, pw]) | (refine wN hk ?_; clear hk; intro w1 hk; simp only [Act.put, pw]) | (refine wT hk ?_; clear hk; intro w1 hk; simp only [Act.put]))))
        go_roundw
        case rel => exact ⟨i + 1, by omega, by go_num, by rw [R.out]; exact hk⟩
        case measure => simp [intOf]; omega
      | true =>
        obtain ⟨k, hk1, hk2⟩ := hl.targ hlt hj
        have R := hide (mkU_yes hlt hj hk1)
        go_wp2_with (first | (go_at_call 101; refine (target_any (insAt l i) _ (hl.fit hlt) _ _ _ _ hlt _ hc).mono ?_; rintro e w1 ⟨rfl, hb⟩; replace hk := hk.call hb; clear hb; rw [hj, hk1]) | ((with_reducible show wpList _ _ _ _ _ _); (first | (refine wS hk ?_; simp only [Act.put, pw]) | (refine wN hk ?_; clear hk; intro w1 hk; simp only [Act.put, pw]) | (refine wT hk ?_; clear hk; intro w1 hk; simp only [Act.put]))))
        go_roundw
        case rel => exact ⟨i + 1, by omega, by go_num, by rw [R.out]; exact hk⟩
        case measure => simp [intOf]; omega
    · have e : i = l.length := by omega
      subst e
      rw [mkU_all] at hk
      go_wp2_with (first | ((with_reducible show wpList _ _ _ _ _ _); (first | (refine wS hk ?_; simp only [Act.put, pw]) | (refine wN hk ?_; clear hk; intro w1 hk; simp only [Act.put, pw]) | (refine wT hk ?_; clear hk; intro w1 hk; simp only [Act.put]))))
      go_ret
      exact ⟨_, rfl, hk.at (by with_reducible repeat (first | exact List.mem_cons_self | apply List.mem_cons_of_mem)), Nat.le_refl _, hk.mod.below⟩
end Go.Proofs.YtamiichlbmllcaaGreatDoor
/-
  suretyref.mark: whether a jump, Less or Same goes to an instruction.
-/
namespace Go.Proofs.YtamiichlbmllcaaGreatDoor
open Go.RowKit
def jmB (x : I5) (at_ : Int) : Bool := (x.o == 9 || x.o == 10 || x.o == 11) && x.k == at_
def markI (l : List I5) (at_ : Int) : Bool := l.any fun x => jmB x at_
theorem markI_no {l : List I5} {n : Int} (h : ∀ j, j < l.length → jmB (insAt l j) n = false) : markI l n = false := by
  unfold markI
  rw [List.any_eq_false]
  intro x hx
  obtain ⟨j, hj, rfl⟩ := List.mem_iff_getElem.1 hx
  have := h j hj
  rw [insAt_get hj] at this
  simp [this]
theorem markI_yes {l : List I5} {n : Int} {i : Nat} (hi : i < l.length) (h : jmB (insAt l i) n = true) : markI l n = true := by
  unfold markI
  rw [List.any_eq_true]
  exact ⟨l[i], List.getElem_mem hi, by rw [insAt_get hi] at h; exact h⟩
set_option maxHeartbeats 4000000 in
set_option maxRecDepth 100000 in
theorem rf_mark_some (l : List I5) (hl : l.length < 4000000000000) (b off cap : Nat) (n : Int) (w : World) (_hb : b < w.heap.size) (hc : ∀ i (h : i < l.length), InsAt w b (off + i * 5) l[i]) :
    Calls Tryz.prog 92 #[.slice (some ⟨b, off, none⟩) l.length cap, .int .i64 n] w fun e w' => e = .returned (.bool (markI l n)) ∧ Below w.heap.size w w' := by
  have hk := Kn.nil [] w
  have HC := hide hc
  clear hc
  go_enter Tryz.func92, Tryz.ntmps92
  go_wp2_with (first | ((with_reducible show wpList _ _ _ _ _ _); (first | (refine wS hk ?_; simp only [Act.put, pw]) | (refine wN hk ?_; clear hk; intro w1 hk; simp only [Act.put, pw]) | (refine wT hk ?_; clear hk; intro w1 hk; simp only [Act.put]))))
  go_loopw [5] (fun j wr => ∃ i : Nat, i ≤ l.length ∧ j = .int .i64 i ∧ (∀ j, j < i → jmB (insAt l j) n = false) ∧ Kn [] w wr []) (fun j _ => l.length - (intOf j).toNat)
  case atStart => exact ⟨0, by omega, rfl, fun j hj => by omega, hk⟩
  case round =>
    clear hk
    obtain ⟨i, hi, rfl, hall, hk⟩ := hrel
    have HA := hide hall
    clear hall
    by_cases hlt : i < l.length
    · have hci := HC.out i hlt
      rw [← insAt_get hlt] at hci
      obtain ⟨x, hx⟩ : ∃ x, x = insAt l i := ⟨_, rfl⟩
      rw [← hx] at hci
      have HX := hide hx
      clear hx
      have hc0 := hci.1
      have hc4 := hci.2.2.2.2
      clear hci
      cases h9 : (x.o == 9) with
      | true =>
        cases hkk : (x.k == n) with
        | false =>
          have H9 := hide h9
          clear h9
          have HKK := hide hkk
          clear hkk
          generalize hR : Code.region 4 _ false = R
          go_wp2_with (first | ((with_reducible show wpList _ _ _ _ _ _); (first | (refine wS hk ?_; simp only [Act.put, pw]) | (refine wN hk ?_; clear hk; intro w1 hk; simp only [Act.put, pw]) | (refine wT hk ?_; clear hk; intro w1 hk; simp only [Act.put]))))
          rw [← hR]
          clear hR
          (refine wp_regLK hk (.op 0 (.op 1 (.op 2 (.op 3 (.op 4 (.op 5 (.op 6 (.op 7 (.op 8 (.op 9 (.op 10 (.op 11 (.op 12 (.op 13 (.op 14 (.op 15 (.op 16 (.op 17 (.op 18 (.op 19 (.op 20 (.op 21 (.op 22 (.op 23 (.op 24 (.op 25 (.op 26 (.op 27 (.op 28 (.op 29 (.op 30 .nil))))))))))))))))))))))))))))))) (by rfl) ?_)
          (repeat (refine sV hk ?_; simp only [Act.put, pw]; (try rw [H9.out]); (try rw [HKK.out])))
          refine tNil ?_
          go_wp2_with (first | ((with_reducible show wpList _ _ _ _ _ _); (first | (refine wS hk ?_; simp only [Act.put, pw]) | (refine wN hk ?_; clear hk; intro w1 hk; simp only [Act.put, pw]) | (refine wT hk ?_; clear hk; intro w1 hk; simp only [Act.put]))))
          go_roundw
          case rel => exact ⟨i + 1, by omega, by go_num, fun j hj => by rcases Nat.lt_succ_iff_lt_or_eq.1 hj with h | h; exact HA.out j h; subst h; rw [← HX.out]; unfold jmB; simp [H9.out, HKK.out], hk⟩
          case measure => simp [intOf]; omega
        | true =>
          have H9 := hide h9
          clear h9
          have HKK := hide hkk
          clear hkk
          generalize hR : Code.region 4 _ false = R
          go_wp2_with (first | ((with_reducible show wpList _ _ _ _ _ _); (first | (refine wS hk ?_; simp only [Act.put, pw]) | (refine wN hk ?_; clear hk; intro w1 hk; simp only [Act.put, pw]) | (refine wT hk ?_; clear hk; intro w1 hk; simp only [Act.put]))))
          rw [← hR]
          clear hR
          (refine wp_regLK hk (.op 0 (.op 1 (.op 2 (.op 3 (.op 4 (.op 5 (.op 6 (.op 7 (.op 8 (.op 9 (.op 10 (.op 11 (.op 12 (.op 13 (.op 14 (.op 15 (.op 16 (.op 17 (.op 18 (.op 19 (.op 20 (.op 21 (.op 22 (.op 23 (.op 24 (.op 25 (.op 26 (.op 27 (.op 28 (.op 29 (.op 30 .nil))))))))))))))))))))))))))))))) (by rfl) ?_)
          (repeat (refine sV hk ?_; simp only [Act.put, pw]; (try rw [H9.out]); (try rw [HKK.out])))
          refine tNil ?_
          go_wp2_with (first | ((with_reducible show wpList _ _ _ _ _ _); (first | (refine wS hk ?_; simp only [Act.put, pw]) | (refine wN hk ?_; clear hk; intro w1 hk; simp only [Act.put, pw]) | (refine wT hk ?_; clear hk; intro w1 hk; simp only [Act.put]))))
          go_ret
          exact ⟨ret_bool (markI_yes hlt (by rw [← HX.out]; unfold jmB; simp [H9.out, HKK.out])).symm, hk.mod.below⟩
      | false =>
        cases h10 : (x.o == 10) with
        | true =>
          cases hkk : (x.k == n) with
          | false =>
            have H9 := hide h9
            clear h9
            have H10 := hide h10
            clear h10
            have HKK := hide hkk
            clear hkk
            generalize hR : Code.region 4 _ false = R
            go_wp2_with (first | ((with_reducible show wpList _ _ _ _ _ _); (first | (refine wS hk ?_; simp only [Act.put, pw]) | (refine wN hk ?_; clear hk; intro w1 hk; simp only [Act.put, pw]) | (refine wT hk ?_; clear hk; intro w1 hk; simp only [Act.put]))))
            rw [← hR]
            clear hR
            (refine wp_regLK hk (.op 0 (.op 1 (.op 2 (.op 3 (.op 4 (.op 5 (.op 6 (.op 7 (.op 8 (.op 9 (.op 10 (.op 11 (.op 12 (.op 13 (.op 14 (.op 15 (.op 16 (.op 17 (.op 18 (.op 19 (.op 20 (.op 21 (.op 22 (.op 23 (.op 24 (.op 25 (.op 26 (.op 27 (.op 28 (.op 29 (.op 30 .nil))))))))))))))))))))))))))))))) (by rfl) ?_)
            (repeat (refine sV hk ?_; simp only [Act.put, pw]; (try rw [H9.out]); (try rw [H10.out]); (try rw [HKK.out])))
            refine tNil ?_
            go_wp2_with (first | ((with_reducible show wpList _ _ _ _ _ _); (first | (refine wS hk ?_; simp only [Act.put, pw]) | (refine wN hk ?_; clear hk; intro w1 hk; simp only [Act.put, pw]) | (refine wT hk ?_; clear hk; intro w1 hk; simp only [Act.put]))))
            go_roundw
            case rel => exact ⟨i + 1, by omega, by go_num, fun j hj => by rcases Nat.lt_succ_iff_lt_or_eq.1 hj with h | h; exact HA.out j h; subst h; rw [← HX.out]; unfold jmB; simp [H9.out, H10.out, HKK.out], hk⟩
            case measure => simp [intOf]; omega
          | true =>
            have H9 := hide h9
            clear h9
            have H10 := hide h10
            clear h10
            have HKK := hide hkk
            clear hkk
            generalize hR : Code.region 4 _ false = R
            go_wp2_with (first | ((with_reducible show wpList _ _ _ _ _ _); (first | (refine wS hk ?_; simp only [Act.put, pw]) | (refine wN hk ?_; clear hk; intro w1 hk; simp only [Act.put, pw]) | (refine wT hk ?_; clear hk; intro w1 hk; simp only [Act.put]))))
            rw [← hR]
            clear hR
            (refine wp_regLK hk (.op 0 (.op 1 (.op 2 (.op 3 (.op 4 (.op 5 (.op 6 (.op 7 (.op 8 (.op 9 (.op 10 (.op 11 (.op 12 (.op 13 (.op 14 (.op 15 (.op 16 (.op 17 (.op 18 (.op 19 (.op 20 (.op 21 (.op 22 (.op 23 (.op 24 (.op 25 (.op 26 (.op 27 (.op 28 (.op 29 (.op 30 .nil))))))))))))))))))))))))))))))) (by rfl) ?_)
            (repeat (refine sV hk ?_; simp only [Act.put, pw]; (try rw [H9.out]); (try rw [H10.out]); (try rw [HKK.out])))
            refine tNil ?_
            go_wp2_with (first | ((with_reducible show wpList _ _ _ _ _ _); (first | (refine wS hk ?_; simp only [Act.put, pw]) | (refine wN hk ?_; clear hk; intro w1 hk; simp only [Act.put, pw]) | (refine wT hk ?_; clear hk; intro w1 hk; simp only [Act.put]))))
            go_ret
            exact ⟨ret_bool (markI_yes hlt (by rw [← HX.out]; unfold jmB; simp [H9.out, H10.out, HKK.out])).symm, hk.mod.below⟩
        | false =>
          cases h11 : (x.o == 11) with
          | true =>
            cases hkk : (x.k == n) with
            | false =>
              have H9 := hide h9
              clear h9
              have H10 := hide h10
              clear h10
              have H11 := hide h11
              clear h11
              have HKK := hide hkk
              clear hkk
              generalize hR : Code.region 4 _ false = R
              go_wp2_with (first | ((with_reducible show wpList _ _ _ _ _ _); (first | (refine wS hk ?_; simp only [Act.put, pw]) | (refine wN hk ?_; clear hk; intro w1 hk; simp only [Act.put, pw]) | (refine wT hk ?_; clear hk; intro w1 hk; simp only [Act.put]))))
              rw [← hR]
              clear hR
              (refine wp_regLK hk (.op 0 (.op 1 (.op 2 (.op 3 (.op 4 (.op 5 (.op 6 (.op 7 (.op 8 (.op 9 (.op 10 (.op 11 (.op 12 (.op 13 (.op 14 (.op 15 (.op 16 (.op 17 (.op 18 (.op 19 (.op 20 (.op 21 (.op 22 (.op 23 (.op 24 (.op 25 (.op 26 (.op 27 (.op 28 (.op 29 (.op 30 .nil))))))))))))))))))))))))))))))) (by rfl) ?_)
              (repeat (refine sV hk ?_; simp only [Act.put, pw]; (try rw [H9.out]); (try rw [H10.out]); (try rw [H11.out]); (try rw [HKK.out])))
              refine tNil ?_
              go_wp2_with (first | ((with_reducible show wpList _ _ _ _ _ _); (first | (refine wS hk ?_; simp only [Act.put, pw]) | (refine wN hk ?_; clear hk; intro w1 hk; simp only [Act.put, pw]) | (refine wT hk ?_; clear hk; intro w1 hk; simp only [Act.put]))))
              go_roundw
              case rel => exact ⟨i + 1, by omega, by go_num, fun j hj => by rcases Nat.lt_succ_iff_lt_or_eq.1 hj with h | h; exact HA.out j h; subst h; rw [← HX.out]; unfold jmB; simp [H9.out, H10.out, H11.out, HKK.out], hk⟩
              case measure => simp [intOf]; omega
            | true =>
              have H9 := hide h9
              clear h9
              have H10 := hide h10
              clear h10
              have H11 := hide h11
              clear h11
              have HKK := hide hkk
              clear hkk
              generalize hR : Code.region 4 _ false = R
              go_wp2_with (first | ((with_reducible show wpList _ _ _ _ _ _); (first | (refine wS hk ?_; simp only [Act.put, pw]) | (refine wN hk ?_; clear hk; intro w1 hk; simp only [Act.put, pw]) | (refine wT hk ?_; clear hk; intro w1 hk; simp only [Act.put]))))
              rw [← hR]
              clear hR
              (refine wp_regLK hk (.op 0 (.op 1 (.op 2 (.op 3 (.op 4 (.op 5 (.op 6 (.op 7 (.op 8 (.op 9 (.op 10 (.op 11 (.op 12 (.op 13 (.op 14 (.op 15 (.op 16 (.op 17 (.op 18 (.op 19 (.op 20 (.op 21 (.op 22 (.op 23 (.op 24 (.op 25 (.op 26 (.op 27 (.op 28 (.op 29 (.op 30 .nil))))))))))))))))))))))))))))))) (by rfl) ?_)
              (repeat (refine sV hk ?_; simp only [Act.put, pw]; (try rw [H9.out]); (try rw [H10.out]); (try rw [H11.out]); (try rw [HKK.out])))
              refine tNil ?_
              go_wp2_with (first | ((with_reducible show wpList _ _ _ _ _ _); (first | (refine wS hk ?_; simp only [Act.put, pw]) | (refine wN hk ?_; clear hk; intro w1 hk; simp only [Act.put, pw]) | (refine wT hk ?_; clear hk; intro w1 hk; simp only [Act.put]))))
              go_ret
              exact ⟨ret_bool (markI_yes hlt (by rw [← HX.out]; unfold jmB; simp [H9.out, H10.out, H11.out, HKK.out])).symm, hk.mod.below⟩
          | false =>
            have H9 := hide h9
            clear h9
            have H10 := hide h10
            clear h10
            have H11 := hide h11
            clear h11
            generalize hR : Code.region 4 _ false = R
            go_wp2_with (first | ((with_reducible show wpList _ _ _ _ _ _); (first | (refine wS hk ?_; simp only [Act.put, pw]) | (refine wN hk ?_; clear hk; intro w1 hk; simp only [Act.put, pw]) | (refine wT hk ?_; clear hk; intro w1 hk; simp only [Act.put]))))
            rw [← hR]
            clear hR
            (refine wp_regLK hk (.op 0 (.op 1 (.op 2 (.op 3 (.op 4 (.op 5 (.op 6 (.op 7 (.op 8 (.op 9 (.op 10 (.op 11 (.op 12 (.op 13 (.op 14 (.op 15 (.op 16 (.op 17 (.op 18 (.op 19 (.op 20 (.op 21 (.op 22 (.op 23 (.op 24 (.op 25 (.op 26 (.op 27 (.op 28 (.op 29 (.op 30 .nil))))))))))))))))))))))))))))))) (by rfl) ?_)
            (repeat (refine sV hk ?_; simp only [Act.put, pw]; (try rw [H9.out]); (try rw [H10.out]); (try rw [H11.out])))
            refine tNil ?_
            go_wp2_with (first | ((with_reducible show wpList _ _ _ _ _ _); (first | (refine wS hk ?_; simp only [Act.put, pw]) | (refine wN hk ?_; clear hk; intro w1 hk; simp only [Act.put, pw]) | (refine wT hk ?_; clear hk; intro w1 hk; simp only [Act.put]))))
            go_roundw
            case rel => exact ⟨i + 1, by omega, by go_num, fun j hj => by rcases Nat.lt_succ_iff_lt_or_eq.1 hj with h | h; exact HA.out j h; subst h; rw [← HX.out]; unfold jmB; simp [H9.out, H10.out, H11.out], hk⟩
            case measure => simp [intOf]; omega
    · have e : i = l.length := by omega
      subst e
      have R : Hid (markI l n = false) := hide (markI_no HA.out)
      go_wp2_with (first | ((with_reducible show wpList _ _ _ _ _ _); (first | (refine wS hk ?_; simp only [Act.put, pw]) | (refine wN hk ?_; clear hk; intro w1 hk; simp only [Act.put, pw]) | (refine wT hk ?_; clear hk; intro w1 hk; simp only [Act.put]))))
      go_ret
      exact ⟨ret_bool R.out.symm, hk.mod.below⟩
set_option maxHeartbeats 1000000 in
set_option maxRecDepth 100000 in
theorem rf_mark_nil (a : Option Addr) (cap : Nat) (n : Int) (w : World) : Calls Tryz.prog 92 #[.slice a 0 cap, .int .i64 n] w fun e w' => e = .returned (.bool false) ∧ Below w.heap.size w w' := by
  have hk := Kn.nil [] w
  go_enter Tryz.func92, Tryz.ntmps92
  go_wp2_with (first | ((with_reducible show wpList _ _ _ _ _ _); (first | (refine wS hk ?_; simp only [Act.put, pw]) | (refine wN hk ?_; clear hk; intro w1 hk; simp only [Act.put, pw]) | (refine wT hk ?_; clear hk; intro w1 hk; simp only [Act.put]))))
  go_loopw [5] (fun j wr => j = .int .i64 0 ∧ Kn [] w wr []) (fun _ _ => 0)
  case atStart => exact ⟨rfl, hk⟩
  case round =>
    clear hk
    obtain ⟨rfl, hk⟩ := hrel
    go_wp2_with (first | ((with_reducible show wpList _ _ _ _ _ _); (first | (refine wS hk ?_; simp only [Act.put, pw]) | (refine wN hk ?_; clear hk; intro w1 hk; simp only [Act.put, pw]) | (refine wT hk ?_; clear hk; intro w1 hk; simp only [Act.put]))))
    go_ret
    exact ⟨rfl, hk.mod.below⟩
theorem rf_mark (l : List I5) (hl : l.length < 4000000000000) (v : Value) (n : Int) (w : World) (h : Slc w v l) : Calls Tryz.prog 92 #[v, .int .i64 n] w fun e w' => e = .returned (.bool (markI l n)) ∧ Below w.heap.size w w' := by
  rcases h with ⟨⟨a, cap, rfl⟩, rfl⟩ | ⟨b, off, cap, rfl, hb, hc⟩
  · exact rf_mark_nil a cap n w
  · exact rf_mark_some l hl b off cap n w hb hc
end Go.Proofs.YtamiichlbmllcaaGreatDoor
