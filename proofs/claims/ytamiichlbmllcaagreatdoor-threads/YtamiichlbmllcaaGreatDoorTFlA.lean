import Derived.Test.YtamiichlbmllcaaGreatDoorTPlB
/-
  What becomes of a state: the methods 'flow' of package machine that do not jump.
-/
namespace Go.Proofs.YtamiichlbmllcaaGreatDoor
open Go.RowKit
theorem sum_c (b c : R2) (w : World) (hb : b.in64) (hc : c.in64) : Calls Tryz.prog 174 #[.agg (rgC b), .agg (rgC c)] w fun e w' => e = .returned (.agg (rgC (sumR b c))) ∧ Below w.heap.size w w' := sum_any b c w hb hc
theorem dif_c (b c : R2) (w : World) (hb : b.in64) (hc : c.in64) : Calls Tryz.prog 182 #[.agg (rgC b), .agg (rgC c)] w fun e w' => e = .returned (.agg (rgC (difR b c))) ∧ Below w.heap.size w w' := dif_any b c w hb hc
theorem prod_c (b c : R2) (w : World) : Calls Tryz.prog 186 #[.agg (rgC b), .agg (rgC c)] w fun e w' => e = .returned (.agg (rgC (prodR b c))) ∧ Below w.heap.size w w' := prod_any b c w
theorem quo_c (b c : R2) (w : World) (hne : c.lo ≤ c.hi) : Calls Tryz.prog 190 #[.agg (rgC b), .agg (rgC c)] w fun e w' => e = .returned (.agg (rgC (quoR b c))) ∧ Below w.heap.size w w' := quo_any b c w hne
set_option maxHeartbeats 1600000 in
set_option maxRecDepth 100000 in
theorem goOnWith_any (s : Nat → R2) (n : Nat) (hn : n < 8) (r : R2) (w : World) : Calls Tryz.prog 164 #[.agg (stC s), .int .i64 n, .agg (rgC r)] w fun e w' => e = .returned (.tuple #[.agg (plC true (updS s n r)), .agg (plC false zeroS)]) ∧ Below w.heap.size w w' := by
  have hk := Kn.nil [] w
  go_enter Tryz.func164, Tryz.ntmps164
  go_wp2_with (first | (go_at_call 166; refine (goOn_any _ _).mono ?_; rintro e w1 ⟨rfl, hb⟩; replace hk := hk.call hb; clear hb) | ((with_reducible show wpList _ _ _ _ _ _); (first | (refine wS hk ?_; simp only [Act.put, pw]) | (refine wN hk ?_; clear hk; intro w1 hk; simp only [Act.put, pw]) | (refine wT hk ?_; clear hk; intro w1 hk; simp only [Act.put]))))
  exact post_2 rfl (by rfl) (hk.at (by with_reducible repeat (first | exact List.mem_cons_self | apply List.mem_cons_of_mem))) (rowT_of (by rfl)) (by rfl) (by rfl) (hk.at (by with_reducible repeat (first | exact List.mem_cons_self | apply List.mem_cons_of_mem))) (rowT_of (by rfl)) (by rfl) rfl ⟨rfl, hk.mod.below⟩
set_option maxHeartbeats 1600000 in
set_option maxRecDepth 100000 in
theorem set_flow (a : Nat) (k : Int) (ha : a < 8) (s : Nat → R2) (w : World) : Calls Tryz.prog 163 #[.agg #[.int .i64 a, .int .i64 k], .agg (stC s)] w fun e w' => e = .returned (.tuple #[.agg (plC true (updS s a ⟨k, k⟩)), .agg (plC false zeroS)]) ∧ Below w.heap.size w w' := by
  have hk := Kn.nil [] w
  go_enter Tryz.func163, Tryz.ntmps163
  go_wp2_with (first | ((with_reducible show wpList _ _ _ _ _ _); (first | (refine wS hk ?_; simp only [Act.put, pw]) | (refine wN hk ?_; clear hk; intro w1 hk; simp only [Act.put, pw]) | (refine wT hk ?_; clear hk; intro w1 hk; simp only [Act.put]))))
  (refine wp_regK hk (.op 0 (.op 1 (.op 2 (.op 3 (.op 4 (.op 5 (.op 6 (.op 7 (.op 8 (.op 9 (.op 10 .nil))))))))))) (fun i => decide (i < 9)) mixT (by decide) (by kernel_rfl) (by kernel_rfl) ?_; clear hk; intro w1 hk)
  (repeat (refine sS hk ?_; simp only [Act.put, pw]))
  (refine sCall ?_; intro K hK; go_step; go_at_call 165; refine (only_c _ _).mono ?_; rintro e w1 ⟨rfl, hb⟩; replace hk := hk.call hb; clear hb; refine hK _ _ (fun _ => by first | exact hk | exact hk.drop | exact hk.drop.drop | exact hk.mid | exact hk.pick13 | exact hk.pick4) ?_; clear hK K)
  (repeat (refine sS hk ?_; simp only [Act.put, pw]))
  (refine sCall ?_; intro K hK; go_step; go_at_call 164; refine (goOnWith_any _ _ ha _ _).mono ?_; rintro e w1 ⟨rfl, hb⟩; replace hk := hk.call hb; clear hb; refine hK _ _ (fun _ => by first | exact hk | exact hk.drop | exact hk.drop.drop | exact hk.mid | exact hk.pick13 | exact hk.pick4) ?_; clear hK K)
  (repeat (refine sS hk ?_; simp only [Act.put, pw]))
  (refine sStore hk ?_; clear hk; intro w1 hk; refine ⟨fun h => absurd h (by decide), ?_⟩; simp only [Act.put])
  (refine sStore hk ?_; clear hk; intro w1 hk; refine ⟨fun h => absurd h (by decide), ?_⟩; simp only [Act.put])
  refine tNil ?_
  go_wp2_with (first | ((with_reducible show wpList _ _ _ _ _ _); (first | (refine wS hk ?_; simp only [Act.put, pw]) | (refine wN hk ?_; clear hk; intro w1 hk; simp only [Act.put, pw]) | (refine wT hk ?_; clear hk; intro w1 hk; simp only [Act.put]))))
  exact post_2 rfl (by rfl) (hk.at (by with_reducible repeat (first | exact List.mem_cons_self | apply List.mem_cons_of_mem))) (rowT_of (by rfl)) (by rfl) (by rfl) (hk.at (by with_reducible repeat (first | exact List.mem_cons_self | apply List.mem_cons_of_mem))) (rowT_of (by rfl)) (by rfl) rfl ⟨rfl, hk.mod.below⟩
set_option maxHeartbeats 1600000 in
set_option maxRecDepth 100000 in
theorem move_flow (a b : Nat) (ha : a < 8) (hb : b < 8) (s : Nat → R2) (w : World) : Calls Tryz.prog 168 #[.agg #[.int .i64 a, .int .i64 b], .agg (stC s)] w fun e w' => e = .returned (.tuple #[.agg (plC true (updS s a (s b))), .agg (plC false zeroS)]) ∧ Below w.heap.size w w' := by
  have hk := Kn.nil [] w
  go_enter Tryz.func168, Tryz.ntmps168
  go_wp2_with (first | ((with_reducible show wpList _ _ _ _ _ _); (first | (refine wS hk ?_; simp only [Act.put, pw]) | (refine wN hk ?_; clear hk; intro w1 hk; simp only [Act.put, pw]) | (refine wT hk ?_; clear hk; intro w1 hk; simp only [Act.put]))))
  (refine wp_regK hk (.op 0 (.op 1 (.op 2 (.op 3 (.op 4 (.op 5 (.op 6 (.op 7 (.op 8 (.op 9 (.op 10 (.op 11 .nil)))))))))))) (fun i => decide (i < 10)) mixT (by decide) (by kernel_rfl) (by kernel_rfl) ?_; clear hk; intro w1 hk)
  (repeat (refine sS hk ?_; simp only [Act.put, pw]))
  (refine sCall ?_; intro K hK; go_step; go_at_call 164; refine (goOnWith_any _ _ ha _ _).mono ?_; rintro e w1 ⟨rfl, hb⟩; replace hk := hk.call hb; clear hb; refine hK _ _ (fun _ => by first | exact hk | exact hk.drop | exact hk.drop.drop | exact hk.mid | exact hk.pick13 | exact hk.pick4) ?_; clear hK K)
  (repeat (refine sS hk ?_; simp only [Act.put, pw]))
  (refine sStore hk ?_; clear hk; intro w1 hk; refine ⟨fun h => absurd h (by decide), ?_⟩; simp only [Act.put])
  (refine sStore hk ?_; clear hk; intro w1 hk; refine ⟨fun h => absurd h (by decide), ?_⟩; simp only [Act.put])
  refine tNil ?_
  go_wp2_with (first | ((with_reducible show wpList _ _ _ _ _ _); (first | (refine wS hk ?_; simp only [Act.put, pw]) | (refine wN hk ?_; clear hk; intro w1 hk; simp only [Act.put, pw]) | (refine wT hk ?_; clear hk; intro w1 hk; simp only [Act.put]))))
  exact post_2 rfl (by rfl) (hk.at (by with_reducible repeat (first | exact List.mem_cons_self | apply List.mem_cons_of_mem))) (rowT_of (by rfl)) (by rfl) (by rfl) (hk.at (by with_reducible repeat (first | exact List.mem_cons_self | apply List.mem_cons_of_mem))) (rowT_of (by rfl)) (by rfl) rfl ⟨rfl, hk.mod.below⟩
set_option maxHeartbeats 1600000 in
set_option maxRecDepth 100000 in
theorem left_flow (a b c : Int) (b' : Nat) (hb : b = b') (hb8 : b' < 8) (s : Nat → R2) (w : World) : Calls Tryz.prog 175 #[.agg #[.int .i64 a, .int .i64 b, .int .i64 c], .agg (stC s)] w fun e w' => e = .returned (.agg (rgC (s b'))) ∧ Below w.heap.size w w' := by
  have hk := Kn.nil [] w
  go_enter Tryz.func175, Tryz.ntmps175
  subst hb
  go_wp2_with (first | ((with_reducible show wpList _ _ _ _ _ _); (first | (refine wS hk ?_; simp only [Act.put, pw]) | (refine wN hk ?_; clear hk; intro w1 hk; simp only [Act.put, pw]) | (refine wT hk ?_; clear hk; intro w1 hk; simp only [Act.put]))))
  exact post_1 rfl (by rfl) (hk.at (by with_reducible repeat (first | exact List.mem_cons_self | apply List.mem_cons_of_mem))) (rowT_of (by rfl)) (by rfl) rfl ⟨rfl, hk.mod.below⟩
set_option maxHeartbeats 1600000 in
set_option maxRecDepth 100000 in
theorem right_flow (a b c : Int) (c' : Nat) (hc : c = c') (hc8 : c' < 8) (s : Nat → R2) (w : World) : Calls Tryz.prog 176 #[.agg #[.int .i64 a, .int .i64 b, .int .i64 c], .agg (stC s)] w fun e w' => e = .returned (.agg (rgC (s c'))) ∧ Below w.heap.size w w' := by
  have hk := Kn.nil [] w
  go_enter Tryz.func176, Tryz.ntmps176
  subst hc
  go_wp2_with (first | ((with_reducible show wpList _ _ _ _ _ _); (first | (refine wS hk ?_; simp only [Act.put, pw]) | (refine wN hk ?_; clear hk; intro w1 hk; simp only [Act.put, pw]) | (refine wT hk ?_; clear hk; intro w1 hk; simp only [Act.put]))))
  exact post_1 rfl (by rfl) (hk.at (by with_reducible repeat (first | exact List.mem_cons_self | apply List.mem_cons_of_mem))) (rowT_of (by rfl)) (by rfl) rfl ⟨rfl, hk.mod.below⟩
set_option maxHeartbeats 1600000 in
set_option maxRecDepth 100000 in
theorem put_flow (a : Nat) (b c : Int) (ha : a < 8) (s : Nat → R2) (r : R2) (w : World) : Calls Tryz.prog 173 #[.agg #[.int .i64 a, .int .i64 b, .int .i64 c], .agg (stC s), .agg (rgC r)] w fun e w' => e = .returned (.tuple #[.agg (plC true (updS s a r)), .agg (plC false zeroS)]) ∧ Below w.heap.size w w' := by
  have hk := Kn.nil [] w
  go_enter Tryz.func173, Tryz.ntmps173
  go_wp2_with (first | (go_at_call 164; refine (goOnWith_any _ _ ha _ _).mono ?_; rintro e w1 ⟨rfl, hb⟩; replace hk := hk.call hb; clear hb) | ((with_reducible show wpList _ _ _ _ _ _); (first | (refine wS hk ?_; simp only [Act.put, pw]) | (refine wN hk ?_; clear hk; intro w1 hk; simp only [Act.put, pw]) | (refine wT hk ?_; clear hk; intro w1 hk; simp only [Act.put]))))
  exact post_2 rfl (by rfl) (hk.at (by with_reducible repeat (first | exact List.mem_cons_self | apply List.mem_cons_of_mem))) (rowT_of (by rfl)) (by rfl) (by rfl) (hk.at (by with_reducible repeat (first | exact List.mem_cons_self | apply List.mem_cons_of_mem))) (rowT_of (by rfl)) (by rfl) rfl ⟨rfl, hk.mod.below⟩
set_option maxHeartbeats 1600000 in
set_option maxRecDepth 100000 in
theorem add_flow (a b c : Nat) (ha : a < 8) (hb : b < 8) (hc : c < 8) (s : Nat → R2) (h64 : ∀ j, j < 8 → (s j).in64) (w : World) : Calls Tryz.prog 170 #[.agg #[.int .i64 a, .int .i64 b, .int .i64 c], .agg (stC s)] w fun e w' => e = .returned (.tuple #[.agg (plC true (updS s a (sumR (s b) (s c)))), .agg (plC false zeroS)]) ∧ Below w.heap.size w w' := by
  have hk := Kn.nil [] w
  go_enter Tryz.func170, Tryz.ntmps170
  go_wp2_with (first | ((with_reducible show wpList _ _ _ _ _ _); (first | (refine wS hk ?_; simp only [Act.put, pw]) | (refine wN hk ?_; clear hk; intro w1 hk; simp only [Act.put, pw]) | (refine wT hk ?_; clear hk; intro w1 hk; simp only [Act.put]))))
  (refine wp_regK hk (.op 0 (.op 1 (.op 2 (.op 3 (.op 4 (.op 5 (.op 7 (.op 8 (.op 9 (.op 6 (.op 10 (.op 11 (.op 12 (.op 13 (.op 14 (.op 15 (.op 16 .nil))))))))))))))))) (fun i => decide (i < 15)) mixT (by decide) (by kernel_rfl) (by kernel_rfl) ?_; clear hk; intro w1 hk)
  (repeat (refine sS hk ?_; simp only [Act.put, pw]))
  (refine sCall ?_; intro K hK; go_step; go_at_call 175; refine (left_flow _ _ _ b rfl hb _ _).mono ?_; rintro e w1 ⟨rfl, hb⟩; replace hk := hk.call hb; clear hb; refine hK _ _ (fun _ => by first | exact hk | exact hk.drop | exact hk.drop.drop | exact hk.mid | exact hk.pick13 | exact hk.pick4) ?_; clear hK K)
  (repeat (refine sS hk ?_; simp only [Act.put, pw]))
  (refine sCall ?_; intro K hK; go_step; go_at_call 176; refine (right_flow _ _ _ c rfl hc _ _).mono ?_; rintro e w1 ⟨rfl, hb⟩; replace hk := hk.call hb; clear hb; refine hK _ _ (fun _ => by first | exact hk | exact hk.drop | exact hk.drop.drop | exact hk.mid | exact hk.pick13 | exact hk.pick4) ?_; clear hK K)
  (repeat (refine sS hk ?_; simp only [Act.put, pw]))
  (refine sCall ?_; intro K hK; go_step; go_at_call 174; refine (sum_c _ _ _ (h64 b hb) (h64 c hc)).mono ?_; rintro e w1 ⟨rfl, hb⟩; replace hk := hk.call hb; clear hb; refine hK _ _ (fun _ => by first | exact hk | exact hk.drop | exact hk.drop.drop | exact hk.mid | exact hk.pick13 | exact hk.pick4) ?_; clear hK K)
  (repeat (refine sS hk ?_; simp only [Act.put, pw]))
  (refine sCall ?_; intro K hK; go_step; go_at_call 173; refine (put_flow _ _ _ ha _ _ _).mono ?_; rintro e w1 ⟨rfl, hb⟩; replace hk := hk.call hb; clear hb; refine hK _ _ (fun _ => by first | exact hk | exact hk.drop | exact hk.drop.drop | exact hk.mid | exact hk.pick13 | exact hk.pick4) ?_; clear hK K)
  (repeat (refine sS hk ?_; simp only [Act.put, pw]))
  (refine sStore hk ?_; clear hk; intro w1 hk; refine ⟨fun h => absurd h (by decide), ?_⟩; simp only [Act.put])
  (refine sStore hk ?_; clear hk; intro w1 hk; refine ⟨fun h => absurd h (by decide), ?_⟩; simp only [Act.put])
  refine tNil ?_
  go_wp2_with (first | ((with_reducible show wpList _ _ _ _ _ _); (first | (refine wS hk ?_; simp only [Act.put, pw]) | (refine wN hk ?_; clear hk; intro w1 hk; simp only [Act.put, pw]) | (refine wT hk ?_; clear hk; intro w1 hk; simp only [Act.put]))))
  exact post_2 rfl (by rfl) (hk.at (by with_reducible repeat (first | exact List.mem_cons_self | apply List.mem_cons_of_mem))) (rowT_of (by rfl)) (by rfl) (by rfl) (hk.at (by with_reducible repeat (first | exact List.mem_cons_self | apply List.mem_cons_of_mem))) (rowT_of (by rfl)) (by rfl) rfl ⟨rfl, hk.mod.below⟩
set_option maxHeartbeats 1600000 in
set_option maxRecDepth 100000 in
theorem sub_flow (a b c : Nat) (ha : a < 8) (hb : b < 8) (hc : c < 8) (s : Nat → R2) (h64 : ∀ j, j < 8 → (s j).in64) (w : World) : Calls Tryz.prog 181 #[.agg #[.int .i64 a, .int .i64 b, .int .i64 c], .agg (stC s)] w fun e w' => e = .returned (.tuple #[.agg (plC true (updS s a (difR (s b) (s c)))), .agg (plC false zeroS)]) ∧ Below w.heap.size w w' := by
  have hk := Kn.nil [] w
  go_enter Tryz.func181, Tryz.ntmps181
  go_wp2_with (first | ((with_reducible show wpList _ _ _ _ _ _); (first | (refine wS hk ?_; simp only [Act.put, pw]) | (refine wN hk ?_; clear hk; intro w1 hk; simp only [Act.put, pw]) | (refine wT hk ?_; clear hk; intro w1 hk; simp only [Act.put]))))
  (refine wp_regK hk (.op 0 (.op 1 (.op 2 (.op 3 (.op 4 (.op 5 (.op 7 (.op 8 (.op 9 (.op 6 (.op 10 (.op 11 (.op 12 (.op 13 (.op 14 (.op 15 (.op 16 .nil))))))))))))))))) (fun i => decide (i < 15)) mixT (by decide) (by kernel_rfl) (by kernel_rfl) ?_; clear hk; intro w1 hk)
  (repeat (refine sS hk ?_; simp only [Act.put, pw]))
  (refine sCall ?_; intro K hK; go_step; go_at_call 175; refine (left_flow _ _ _ b rfl hb _ _).mono ?_; rintro e w1 ⟨rfl, hb⟩; replace hk := hk.call hb; clear hb; refine hK _ _ (fun _ => by first | exact hk | exact hk.drop | exact hk.drop.drop | exact hk.mid | exact hk.pick13 | exact hk.pick4) ?_; clear hK K)
  (repeat (refine sS hk ?_; simp only [Act.put, pw]))
  (refine sCall ?_; intro K hK; go_step; go_at_call 176; refine (right_flow _ _ _ c rfl hc _ _).mono ?_; rintro e w1 ⟨rfl, hb⟩; replace hk := hk.call hb; clear hb; refine hK _ _ (fun _ => by first | exact hk | exact hk.drop | exact hk.drop.drop | exact hk.mid | exact hk.pick13 | exact hk.pick4) ?_; clear hK K)
  (repeat (refine sS hk ?_; simp only [Act.put, pw]))
  (refine sCall ?_; intro K hK; go_step; go_at_call 182; refine (dif_c _ _ _ (h64 b hb) (h64 c hc)).mono ?_; rintro e w1 ⟨rfl, hb⟩; replace hk := hk.call hb; clear hb; refine hK _ _ (fun _ => by first | exact hk | exact hk.drop | exact hk.drop.drop | exact hk.mid | exact hk.pick13 | exact hk.pick4) ?_; clear hK K)
  (repeat (refine sS hk ?_; simp only [Act.put, pw]))
  (refine sCall ?_; intro K hK; go_step; go_at_call 173; refine (put_flow _ _ _ ha _ _ _).mono ?_; rintro e w1 ⟨rfl, hb⟩; replace hk := hk.call hb; clear hb; refine hK _ _ (fun _ => by first | exact hk | exact hk.drop | exact hk.drop.drop | exact hk.mid | exact hk.pick13 | exact hk.pick4) ?_; clear hK K)
  (repeat (refine sS hk ?_; simp only [Act.put, pw]))
  (refine sStore hk ?_; clear hk; intro w1 hk; refine ⟨fun h => absurd h (by decide), ?_⟩; simp only [Act.put])
  (refine sStore hk ?_; clear hk; intro w1 hk; refine ⟨fun h => absurd h (by decide), ?_⟩; simp only [Act.put])
  refine tNil ?_
  go_wp2_with (first | ((with_reducible show wpList _ _ _ _ _ _); (first | (refine wS hk ?_; simp only [Act.put, pw]) | (refine wN hk ?_; clear hk; intro w1 hk; simp only [Act.put, pw]) | (refine wT hk ?_; clear hk; intro w1 hk; simp only [Act.put]))))
  exact post_2 rfl (by rfl) (hk.at (by with_reducible repeat (first | exact List.mem_cons_self | apply List.mem_cons_of_mem))) (rowT_of (by rfl)) (by rfl) (by rfl) (hk.at (by with_reducible repeat (first | exact List.mem_cons_self | apply List.mem_cons_of_mem))) (rowT_of (by rfl)) (by rfl) rfl ⟨rfl, hk.mod.below⟩
set_option maxHeartbeats 1600000 in
set_option maxRecDepth 100000 in
theorem mul_flow (a b c : Nat) (ha : a < 8) (hb : b < 8) (hc : c < 8) (s : Nat → R2)  (w : World) : Calls Tryz.prog 185 #[.agg #[.int .i64 a, .int .i64 b, .int .i64 c], .agg (stC s)] w fun e w' => e = .returned (.tuple #[.agg (plC true (updS s a (prodR (s b) (s c)))), .agg (plC false zeroS)]) ∧ Below w.heap.size w w' := by
  have hk := Kn.nil [] w
  go_enter Tryz.func185, Tryz.ntmps185
  go_wp2_with (first | ((with_reducible show wpList _ _ _ _ _ _); (first | (refine wS hk ?_; simp only [Act.put, pw]) | (refine wN hk ?_; clear hk; intro w1 hk; simp only [Act.put, pw]) | (refine wT hk ?_; clear hk; intro w1 hk; simp only [Act.put]))))
  (refine wp_regK hk (.op 0 (.op 1 (.op 2 (.op 3 (.op 4 (.op 5 (.op 7 (.op 8 (.op 9 (.op 6 (.op 10 (.op 11 (.op 12 (.op 13 (.op 14 (.op 15 (.op 16 .nil))))))))))))))))) (fun i => decide (i < 15)) mixT (by decide) (by kernel_rfl) (by kernel_rfl) ?_; clear hk; intro w1 hk)
  (repeat (refine sS hk ?_; simp only [Act.put, pw]))
  (refine sCall ?_; intro K hK; go_step; go_at_call 175; refine (left_flow _ _ _ b rfl hb _ _).mono ?_; rintro e w1 ⟨rfl, hb⟩; replace hk := hk.call hb; clear hb; refine hK _ _ (fun _ => by first | exact hk | exact hk.drop | exact hk.drop.drop | exact hk.mid | exact hk.pick13 | exact hk.pick4) ?_; clear hK K)
  (repeat (refine sS hk ?_; simp only [Act.put, pw]))
  (refine sCall ?_; intro K hK; go_step; go_at_call 176; refine (right_flow _ _ _ c rfl hc _ _).mono ?_; rintro e w1 ⟨rfl, hb⟩; replace hk := hk.call hb; clear hb; refine hK _ _ (fun _ => by first | exact hk | exact hk.drop | exact hk.drop.drop | exact hk.mid | exact hk.pick13 | exact hk.pick4) ?_; clear hK K)
  (repeat (refine sS hk ?_; simp only [Act.put, pw]))
  (refine sCall ?_; intro K hK; go_step; go_at_call 186; refine (prod_c _ _ _).mono ?_; rintro e w1 ⟨rfl, hb⟩; replace hk := hk.call hb; clear hb; refine hK _ _ (fun _ => by first | exact hk | exact hk.drop | exact hk.drop.drop | exact hk.mid | exact hk.pick13 | exact hk.pick4) ?_; clear hK K)
  (repeat (refine sS hk ?_; simp only [Act.put, pw]))
  (refine sCall ?_; intro K hK; go_step; go_at_call 173; refine (put_flow _ _ _ ha _ _ _).mono ?_; rintro e w1 ⟨rfl, hb⟩; replace hk := hk.call hb; clear hb; refine hK _ _ (fun _ => by first | exact hk | exact hk.drop | exact hk.drop.drop | exact hk.mid | exact hk.pick13 | exact hk.pick4) ?_; clear hK K)
  (repeat (refine sS hk ?_; simp only [Act.put, pw]))
  (refine sStore hk ?_; clear hk; intro w1 hk; refine ⟨fun h => absurd h (by decide), ?_⟩; simp only [Act.put])
  (refine sStore hk ?_; clear hk; intro w1 hk; refine ⟨fun h => absurd h (by decide), ?_⟩; simp only [Act.put])
  refine tNil ?_
  go_wp2_with (first | ((with_reducible show wpList _ _ _ _ _ _); (first | (refine wS hk ?_; simp only [Act.put, pw]) | (refine wN hk ?_; clear hk; intro w1 hk; simp only [Act.put, pw]) | (refine wT hk ?_; clear hk; intro w1 hk; simp only [Act.put]))))
  exact post_2 rfl (by rfl) (hk.at (by with_reducible repeat (first | exact List.mem_cons_self | apply List.mem_cons_of_mem))) (rowT_of (by rfl)) (by rfl) (by rfl) (hk.at (by with_reducible repeat (first | exact List.mem_cons_self | apply List.mem_cons_of_mem))) (rowT_of (by rfl)) (by rfl) rfl ⟨rfl, hk.mod.below⟩
set_option maxHeartbeats 1600000 in
set_option maxRecDepth 100000 in
theorem div_flow (a b c : Nat) (ha : a < 8) (hb : b < 8) (hc : c < 8) (s : Nat → R2) (hok : ∀ j, j < 8 → (s j).lo ≤ (s j).hi) (w : World) : Calls Tryz.prog 189 #[.agg #[.int .i64 a, .int .i64 b, .int .i64 c], .agg (stC s)] w fun e w' => e = .returned (.tuple #[.agg (plC true (updS s a (quoR (s b) (s c)))), .agg (plC false zeroS)]) ∧ Below w.heap.size w w' := by
  have hk := Kn.nil [] w
  go_enter Tryz.func189, Tryz.ntmps189
  go_wp2_with (first | ((with_reducible show wpList _ _ _ _ _ _); (first | (refine wS hk ?_; simp only [Act.put, pw]) | (refine wN hk ?_; clear hk; intro w1 hk; simp only [Act.put, pw]) | (refine wT hk ?_; clear hk; intro w1 hk; simp only [Act.put]))))
  (refine wp_regK hk (.op 0 (.op 1 (.op 2 (.op 3 (.op 4 (.op 5 (.op 6 (.op 7 (.op 8 (.op 9 (.op 10 (.op 11 (.op 12 (.op 13 (.op 14 (.op 15 (.op 16 .nil))))))))))))))))) (fun i => decide (i < 15)) mixT (by decide) (by kernel_rfl) (by kernel_rfl) ?_; clear hk; intro w1 hk)
  (repeat (refine sS hk ?_; simp only [Act.put, pw]))
  (refine sCall ?_; intro K hK; go_step; go_at_call 190; refine (quo_c _ _ _ (hok c hc)).mono ?_; rintro e w1 ⟨rfl, hb⟩; replace hk := hk.call hb; clear hb; refine hK _ _ (fun _ => by first | exact hk | exact hk.drop | exact hk.drop.drop | exact hk.mid | exact hk.pick13 | exact hk.pick4) ?_; clear hK K)
  (repeat (refine sS hk ?_; simp only [Act.put, pw]))
  (refine sCall ?_; intro K hK; go_step; go_at_call 164; refine (goOnWith_any _ _ ha _ _).mono ?_; rintro e w1 ⟨rfl, hb⟩; replace hk := hk.call hb; clear hb; refine hK _ _ (fun _ => by first | exact hk | exact hk.drop | exact hk.drop.drop | exact hk.mid | exact hk.pick13 | exact hk.pick4) ?_; clear hK K)
  (repeat (refine sS hk ?_; simp only [Act.put, pw]))
  (refine sStore hk ?_; clear hk; intro w1 hk; refine ⟨fun h => absurd h (by decide), ?_⟩; simp only [Act.put])
  (refine sStore hk ?_; clear hk; intro w1 hk; refine ⟨fun h => absurd h (by decide), ?_⟩; simp only [Act.put])
  refine tNil ?_
  go_wp2_with (first | ((with_reducible show wpList _ _ _ _ _ _); (first | (refine wS hk ?_; simp only [Act.put, pw]) | (refine wN hk ?_; clear hk; intro w1 hk; simp only [Act.put, pw]) | (refine wT hk ?_; clear hk; intro w1 hk; simp only [Act.put]))))
  exact post_2 rfl (by rfl) (hk.at (by with_reducible repeat (first | exact List.mem_cons_self | apply List.mem_cons_of_mem))) (rowT_of (by rfl)) (by rfl) (by rfl) (hk.at (by with_reducible repeat (first | exact List.mem_cons_self | apply List.mem_cons_of_mem))) (rowT_of (by rfl)) (by rfl) rfl ⟨rfl, hk.mod.below⟩
set_option maxHeartbeats 1600000 in
set_option maxRecDepth 100000 in
theorem load_flow (a b : Nat) (ha : a < 8) (s : Nat → R2) (w : World) : Calls Tryz.prog 192 #[.agg #[.int .i64 a, .int .i64 b], .agg (stC s)] w fun e w' => e = .returned (.tuple #[.agg (plC true (updS s a allR)), .agg (plC false zeroS)]) ∧ Below w.heap.size w w' := by
  have hk := Kn.nil [] w
  go_enter Tryz.func192, Tryz.ntmps192
  go_wp2_with (first | ((with_reducible show wpList _ _ _ _ _ _); (first | (refine wS hk ?_; simp only [Act.put, pw]) | (refine wN hk ?_; clear hk; intro w1 hk; simp only [Act.put, pw]) | (refine wT hk ?_; clear hk; intro w1 hk; simp only [Act.put]))))
  (refine wp_regK hk (.op 0 (.op 1 (.op 2 (.op 3 (.op 4 (.op 5 (.op 6 (.op 7 (.op 8 .nil))))))))) (fun i => decide (i < 7)) mixT (by decide) (by kernel_rfl) (by kernel_rfl) ?_; clear hk; intro w1 hk)
  (repeat (refine sS hk ?_; simp only [Act.put, pw]))
  (refine sCall ?_; intro K hK; go_step; go_at_call 179; refine (all_c _).mono ?_; rintro e w1 ⟨rfl, hb⟩; replace hk := hk.call hb; clear hb; refine hK _ _ (fun _ => by first | exact hk | exact hk.drop | exact hk.drop.drop | exact hk.mid | exact hk.pick13 | exact hk.pick4) ?_; clear hK K)
  (repeat (refine sS hk ?_; simp only [Act.put, pw]))
  (refine sCall ?_; intro K hK; go_step; go_at_call 164; refine (goOnWith_any _ _ ha _ _).mono ?_; rintro e w1 ⟨rfl, hb⟩; replace hk := hk.call hb; clear hb; refine hK _ _ (fun _ => by first | exact hk | exact hk.drop | exact hk.drop.drop | exact hk.mid | exact hk.pick13 | exact hk.pick4) ?_; clear hK K)
  (repeat (refine sS hk ?_; simp only [Act.put, pw]))
  (refine sStore hk ?_; clear hk; intro w1 hk; refine ⟨fun h => absurd h (by decide), ?_⟩; simp only [Act.put])
  (refine sStore hk ?_; clear hk; intro w1 hk; refine ⟨fun h => absurd h (by decide), ?_⟩; simp only [Act.put])
  refine tNil ?_
  go_wp2_with (first | ((with_reducible show wpList _ _ _ _ _ _); (first | (refine wS hk ?_; simp only [Act.put, pw]) | (refine wN hk ?_; clear hk; intro w1 hk; simp only [Act.put, pw]) | (refine wT hk ?_; clear hk; intro w1 hk; simp only [Act.put]))))
  exact post_2 rfl (by rfl) (hk.at (by with_reducible repeat (first | exact List.mem_cons_self | apply List.mem_cons_of_mem))) (rowT_of (by rfl)) (by rfl) (by rfl) (hk.at (by with_reducible repeat (first | exact List.mem_cons_self | apply List.mem_cons_of_mem))) (rowT_of (by rfl)) (by rfl) rfl ⟨rfl, hk.mod.below⟩
set_option maxHeartbeats 1600000 in
set_option maxRecDepth 100000 in
theorem store_flow (a b : Nat) (s : Nat → R2) (w : World) : Calls Tryz.prog 195 #[.agg #[.int .i64 a, .int .i64 b], .agg (stC s)] w fun e w' => e = .returned (.tuple #[.agg (plC true (s)), .agg (plC false zeroS)]) ∧ Below w.heap.size w w' := by
  have hk := Kn.nil [] w
  go_enter Tryz.func195, Tryz.ntmps195
  go_wp2_with (first | (go_at_call 166; refine (goOn_any _ _).mono ?_; rintro e w1 ⟨rfl, hb⟩; replace hk := hk.call hb; clear hb) | ((with_reducible show wpList _ _ _ _ _ _); (first | (refine wS hk ?_; simp only [Act.put, pw]) | (refine wN hk ?_; clear hk; intro w1 hk; simp only [Act.put, pw]) | (refine wT hk ?_; clear hk; intro w1 hk; simp only [Act.put]))))
  exact post_2 rfl (by rfl) (hk.at (by with_reducible repeat (first | exact List.mem_cons_self | apply List.mem_cons_of_mem))) (rowT_of (by rfl)) (by rfl) (by rfl) (hk.at (by with_reducible repeat (first | exact List.mem_cons_self | apply List.mem_cons_of_mem))) (rowT_of (by rfl)) (by rfl) rfl ⟨rfl, hk.mod.below⟩
set_option maxHeartbeats 1600000 in
set_option maxRecDepth 100000 in
theorem jump_flow (k : Int) (s : Nat → R2) (w : World) : Calls Tryz.prog 197 #[.agg #[.int .i64 k], .agg (stC s)] w fun e w' => e = .returned (.tuple #[.agg (plC false zeroS), .agg (plC true s)]) ∧ Below w.heap.size w w' := by
  have hk := Kn.nil [] w
  go_enter Tryz.func197, Tryz.ntmps197
  go_wp2_with (first | (go_at_call 102; refine (with_any _ _).mono ?_; rintro e w1 ⟨rfl, hb⟩; replace hk := hk.call hb; clear hb) | ((with_reducible show wpList _ _ _ _ _ _); (first | (refine wS hk ?_; simp only [Act.put, pw]) | (refine wN hk ?_; clear hk; intro w1 hk; simp only [Act.put, pw]) | (refine wT hk ?_; clear hk; intro w1 hk; simp only [Act.put]))))
  exact post_2 rfl (by rfl) (hk.at (by with_reducible repeat (first | exact List.mem_cons_self | apply List.mem_cons_of_mem))) (rowT_of (by rfl)) (by rfl) (by rfl) (hk.at (by with_reducible repeat (first | exact List.mem_cons_self | apply List.mem_cons_of_mem))) (rowT_of (by rfl)) (by rfl) rfl ⟨rfl, hk.mod.below⟩
end Go.Proofs.YtamiichlbmllcaaGreatDoor
