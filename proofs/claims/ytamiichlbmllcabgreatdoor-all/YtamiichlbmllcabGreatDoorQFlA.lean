import Derived.Test.YtamiichlbmllcabGreatDoorQPlB
set_option maxRecDepth 100000
set_option maxHeartbeats 32000000
namespace Go.Proofs.YtamiichlbmllcabGreatDoor
open Go.RowKit
theorem sum_c (b c : R2) (w : World) (hb : b.in64) (hc : c.in64) : Calls Tryz.prog 146 #[.agg (rgC b), .agg (rgC c)] w fun e w' => e = .returned (.agg (rgC (sumR b c))) /\ Below w.heap.size w w' := sum_any b c w hb hc
theorem dif_c (b c : R2) (w : World) (hb : b.in64) (hc : c.in64) : Calls Tryz.prog 154 #[.agg (rgC b), .agg (rgC c)] w fun e w' => e = .returned (.agg (rgC (difR b c))) /\ Below w.heap.size w w' := dif_any b c w hb hc
theorem prod_c (b c : R2) (w : World) : Calls Tryz.prog 158 #[.agg (rgC b), .agg (rgC c)] w fun e w' => e = .returned (.agg (rgC (prodR b c))) /\ Below w.heap.size w w' := prod_any b c w
theorem quo_c (b c : R2) (w : World) (hne : c.lo <= c.hi) : Calls Tryz.prog 162 #[.agg (rgC b), .agg (rgC c)] w fun e w' => e = .returned (.agg (rgC (quoR b c))) /\ Below w.heap.size w w' := quo_any b c w hne
theorem goOnWith_any (s : Nat -> R2) (n : Nat) (hn : n < 8) (r : R2) (w : World) : Calls Tryz.prog 136 #[.agg (stC s), .int .i64 n, .agg (rgC r)] w fun e w' => e = .returned (.tuple #[.agg (plC true (updS s n r)), .agg (plC false zeroS)]) /\ Below w.heap.size w w' := by
 have hk := Kn.nil [] w
 go_enter Tryz.func136, Tryz.ntmps136
 go_wp2_with (first | (go_at_call 138; refine (goOn_any _ _).mono ?_; rintro e w1 ⟨rfl, hb⟩; replace hk := hk.call hb; clear hb) | ((with_reducible apply gL); (first | refine wS hk ?_ | (refine wN hk ?_; clear hk; intro w1 hk)); simp only [pw]))
 exact post_2 rfl (by rfl) (hk.at mm) (rowT_of (by rfl)) (by rfl) (by rfl) (hk.at mm) (rowT_of (by rfl)) (by rfl) rfl ⟨rfl, hk.mod.below⟩
theorem set_flow (a : Nat) (k : Int) (ha : a < 8) (s : Nat -> R2) (w : World) : Calls Tryz.prog 135 #[.agg #[.int .i64 a, .int .i64 k], .agg (stC s)] w fun e w' => e = .returned (.tuple #[.agg (plC true (updS s a ⟨k, k⟩)), .agg (plC false zeroS)]) /\ Below w.heap.size w w' := by
 have hk := Kn.nil [] w
 go_enter Tryz.func135, Tryz.ntmps135
 go_wp2_with ((with_reducible apply gL); (first | refine wS hk ?_ | (refine wN hk ?_; clear hk; intro w1 hk)); simp only [pw])
 (refine wp_regK hk (.op 0 (.op 1 (.op 2 (.op 3 (.op 4 (.op 5 (.op 6 (.op 7 (.op 8 (.op 9 (.op 10 .nil))))))))))) (fun i => decide (i < 9)) mixT (by decide) (by kernel_rfl) (by kernel_rfl) ?_; clear hk; intro w1 hk)
 (repeat (refine sS hk ?_; simp only [pw]))
 (refine sCall ?_; intro K hK; go_step; go_at_call 137; refine (only_c _ _).mono ?_; rintro e w1 ⟨rfl, hb⟩; replace hk := hk.call hb; clear hb; refine hK _ _ (fun _ => kH hk) ?_; clear hK K)
 (repeat (refine sS hk ?_; simp only [pw]))
 (refine sCall ?_; intro K hK; go_step; go_at_call 136; refine (goOnWith_any _ _ ha _ _).mono ?_; rintro e w1 ⟨rfl, hb⟩; replace hk := hk.call hb; clear hb; refine hK _ _ (fun _ => kH hk) ?_; clear hK K)
 (repeat (refine sS hk ?_; simp only [pw]))
 (refine sStore hk ?_; clear hk; intro w1 hk; refine ⟨fun h => absurd h (by decide), ?_⟩; simp only [pw])
 (refine sStore hk ?_; clear hk; intro w1 hk; refine ⟨fun h => absurd h (by decide), ?_⟩; simp only [pw])
 refine tNil ?_
 go_wp2_with ((with_reducible apply gL); (first | refine wS hk ?_ | (refine wN hk ?_; clear hk; intro w1 hk)); simp only [pw])
 exact post_2 rfl (by rfl) (hk.at mm) (rowT_of (by rfl)) (by rfl) (by rfl) (hk.at mm) (rowT_of (by rfl)) (by rfl) rfl ⟨rfl, hk.mod.below⟩
theorem move_flow (a b : Nat) (ha : a < 8) (hb : b < 8) (s : Nat -> R2) (w : World) : Calls Tryz.prog 140 #[.agg #[.int .i64 a, .int .i64 b], .agg (stC s)] w fun e w' => e = .returned (.tuple #[.agg (plC true (updS s a (s b))), .agg (plC false zeroS)]) /\ Below w.heap.size w w' := by
 have hk := Kn.nil [] w
 go_enter Tryz.func140, Tryz.ntmps140
 go_wp2_with ((with_reducible apply gL); (first | refine wS hk ?_ | (refine wN hk ?_; clear hk; intro w1 hk)); simp only [pw])
 (refine wp_regK hk (.op 0 (.op 1 (.op 2 (.op 3 (.op 4 (.op 5 (.op 6 (.op 7 (.op 8 (.op 9 (.op 10 (.op 11 .nil)))))))))))) (fun i => decide (i < 10)) mixT (by decide) (by kernel_rfl) (by kernel_rfl) ?_; clear hk; intro w1 hk)
 (repeat (refine sS hk ?_; simp only [pw]))
 (refine sCall ?_; intro K hK; go_step; go_at_call 136; refine (goOnWith_any _ _ ha _ _).mono ?_; rintro e w1 ⟨rfl, hb⟩; replace hk := hk.call hb; clear hb; refine hK _ _ (fun _ => kH hk) ?_; clear hK K)
 (repeat (refine sS hk ?_; simp only [pw]))
 (refine sStore hk ?_; clear hk; intro w1 hk; refine ⟨fun h => absurd h (by decide), ?_⟩; simp only [pw])
 (refine sStore hk ?_; clear hk; intro w1 hk; refine ⟨fun h => absurd h (by decide), ?_⟩; simp only [pw])
 refine tNil ?_
 go_wp2_with ((with_reducible apply gL); (first | refine wS hk ?_ | (refine wN hk ?_; clear hk; intro w1 hk)); simp only [pw])
 exact post_2 rfl (by rfl) (hk.at mm) (rowT_of (by rfl)) (by rfl) (by rfl) (hk.at mm) (rowT_of (by rfl)) (by rfl) rfl ⟨rfl, hk.mod.below⟩
theorem left_flow (a b c : Int) (b' : Nat) (hb : b = b') (hb8 : b' < 8) (s : Nat -> R2) (w : World) : Calls Tryz.prog 147 #[.agg #[.int .i64 a, .int .i64 b, .int .i64 c], .agg (stC s)] w fun e w' => e = .returned (.agg (rgC (s b'))) /\ Below w.heap.size w w' := by
 have hk := Kn.nil [] w
 go_enter Tryz.func147, Tryz.ntmps147
 subst hb
 go_wp2_with ((with_reducible apply gL); (first | refine wS hk ?_ | (refine wN hk ?_; clear hk; intro w1 hk)); simp only [pw])
 exact post_1 rfl (by rfl) (hk.at mm) (rowT_of (by rfl)) (by rfl) rfl ⟨rfl, hk.mod.below⟩
theorem right_flow (a b c : Int) (c' : Nat) (hc : c = c') (hc8 : c' < 8) (s : Nat -> R2) (w : World) : Calls Tryz.prog 148 #[.agg #[.int .i64 a, .int .i64 b, .int .i64 c], .agg (stC s)] w fun e w' => e = .returned (.agg (rgC (s c'))) /\ Below w.heap.size w w' := by
 have hk := Kn.nil [] w
 go_enter Tryz.func148, Tryz.ntmps148
 subst hc
 go_wp2_with ((with_reducible apply gL); (first | refine wS hk ?_ | (refine wN hk ?_; clear hk; intro w1 hk)); simp only [pw])
 exact post_1 rfl (by rfl) (hk.at mm) (rowT_of (by rfl)) (by rfl) rfl ⟨rfl, hk.mod.below⟩
theorem put_flow (a : Nat) (b c : Int) (ha : a < 8) (s : Nat -> R2) (r : R2) (w : World) : Calls Tryz.prog 145 #[.agg #[.int .i64 a, .int .i64 b, .int .i64 c], .agg (stC s), .agg (rgC r)] w fun e w' => e = .returned (.tuple #[.agg (plC true (updS s a r)), .agg (plC false zeroS)]) /\ Below w.heap.size w w' := by
 have hk := Kn.nil [] w
 go_enter Tryz.func145, Tryz.ntmps145
 go_wp2_with (first | (go_at_call 136; refine (goOnWith_any _ _ ha _ _).mono ?_; rintro e w1 ⟨rfl, hb⟩; replace hk := hk.call hb; clear hb) | ((with_reducible apply gL); (first | refine wS hk ?_ | (refine wN hk ?_; clear hk; intro w1 hk)); simp only [pw]))
 exact post_2 rfl (by rfl) (hk.at mm) (rowT_of (by rfl)) (by rfl) (by rfl) (hk.at mm) (rowT_of (by rfl)) (by rfl) rfl ⟨rfl, hk.mod.below⟩
theorem add_flow (a b c : Nat) (ha : a < 8) (hb : b < 8) (hc : c < 8) (s : Nat -> R2) (h64 : ∀ j, j < 8 -> (s j).in64) (w : World) : Calls Tryz.prog 142 #[.agg #[.int .i64 a, .int .i64 b, .int .i64 c], .agg (stC s)] w fun e w' => e = .returned (.tuple #[.agg (plC true (updS s a (sumR (s b) (s c)))), .agg (plC false zeroS)]) /\ Below w.heap.size w w' := by
 have hk := Kn.nil [] w
 go_enter Tryz.func142, Tryz.ntmps142
 go_wp2_with ((with_reducible apply gL); (first | refine wS hk ?_ | (refine wN hk ?_; clear hk; intro w1 hk)); simp only [pw])
 (refine wp_regK hk (.op 0 (.op 1 (.op 2 (.op 3 (.op 4 (.op 5 (.op 7 (.op 8 (.op 9 (.op 6 (.op 10 (.op 11 (.op 12 (.op 13 (.op 14 (.op 15 (.op 16 .nil))))))))))))))))) (fun i => decide (i < 15)) mixT (by decide) (by kernel_rfl) (by kernel_rfl) ?_; clear hk; intro w1 hk)
 (repeat (refine sS hk ?_; simp only [pw]))
 (refine sCall ?_; intro K hK; go_step; go_at_call 147; refine (left_flow _ _ _ b rfl hb _ _).mono ?_; rintro e w1 ⟨rfl, hb⟩; replace hk := hk.call hb; clear hb; refine hK _ _ (fun _ => kH hk) ?_; clear hK K)
 (repeat (refine sS hk ?_; simp only [pw]))
 (refine sCall ?_; intro K hK; go_step; go_at_call 148; refine (right_flow _ _ _ c rfl hc _ _).mono ?_; rintro e w1 ⟨rfl, hb⟩; replace hk := hk.call hb; clear hb; refine hK _ _ (fun _ => kH hk) ?_; clear hK K)
 (repeat (refine sS hk ?_; simp only [pw]))
 (refine sCall ?_; intro K hK; go_step; go_at_call 146; refine (sum_c _ _ _ (h64 b hb) (h64 c hc)).mono ?_; rintro e w1 ⟨rfl, hb⟩; replace hk := hk.call hb; clear hb; refine hK _ _ (fun _ => kH hk) ?_; clear hK K)
 (repeat (refine sS hk ?_; simp only [pw]))
 (refine sCall ?_; intro K hK; go_step; go_at_call 145; refine (put_flow _ _ _ ha _ _ _).mono ?_; rintro e w1 ⟨rfl, hb⟩; replace hk := hk.call hb; clear hb; refine hK _ _ (fun _ => kH hk) ?_; clear hK K)
 (repeat (refine sS hk ?_; simp only [pw]))
 (refine sStore hk ?_; clear hk; intro w1 hk; refine ⟨fun h => absurd h (by decide), ?_⟩; simp only [pw])
 (refine sStore hk ?_; clear hk; intro w1 hk; refine ⟨fun h => absurd h (by decide), ?_⟩; simp only [pw])
 refine tNil ?_
 go_wp2_with ((with_reducible apply gL); (first | refine wS hk ?_ | (refine wN hk ?_; clear hk; intro w1 hk)); simp only [pw])
 exact post_2 rfl (by rfl) (hk.at mm) (rowT_of (by rfl)) (by rfl) (by rfl) (hk.at mm) (rowT_of (by rfl)) (by rfl) rfl ⟨rfl, hk.mod.below⟩
theorem sub_flow (a b c : Nat) (ha : a < 8) (hb : b < 8) (hc : c < 8) (s : Nat -> R2) (h64 : ∀ j, j < 8 -> (s j).in64) (w : World) : Calls Tryz.prog 153 #[.agg #[.int .i64 a, .int .i64 b, .int .i64 c], .agg (stC s)] w fun e w' => e = .returned (.tuple #[.agg (plC true (updS s a (difR (s b) (s c)))), .agg (plC false zeroS)]) /\ Below w.heap.size w w' := by
 have hk := Kn.nil [] w
 go_enter Tryz.func153, Tryz.ntmps153
 go_wp2_with ((with_reducible apply gL); (first | refine wS hk ?_ | (refine wN hk ?_; clear hk; intro w1 hk)); simp only [pw])
 (refine wp_regK hk (.op 0 (.op 1 (.op 2 (.op 3 (.op 4 (.op 5 (.op 7 (.op 8 (.op 9 (.op 6 (.op 10 (.op 11 (.op 12 (.op 13 (.op 14 (.op 15 (.op 16 .nil))))))))))))))))) (fun i => decide (i < 15)) mixT (by decide) (by kernel_rfl) (by kernel_rfl) ?_; clear hk; intro w1 hk)
 (repeat (refine sS hk ?_; simp only [pw]))
 (refine sCall ?_; intro K hK; go_step; go_at_call 147; refine (left_flow _ _ _ b rfl hb _ _).mono ?_; rintro e w1 ⟨rfl, hb⟩; replace hk := hk.call hb; clear hb; refine hK _ _ (fun _ => kH hk) ?_; clear hK K)
 (repeat (refine sS hk ?_; simp only [pw]))
 (refine sCall ?_; intro K hK; go_step; go_at_call 148; refine (right_flow _ _ _ c rfl hc _ _).mono ?_; rintro e w1 ⟨rfl, hb⟩; replace hk := hk.call hb; clear hb; refine hK _ _ (fun _ => kH hk) ?_; clear hK K)
 (repeat (refine sS hk ?_; simp only [pw]))
 (refine sCall ?_; intro K hK; go_step; go_at_call 154; refine (dif_c _ _ _ (h64 b hb) (h64 c hc)).mono ?_; rintro e w1 ⟨rfl, hb⟩; replace hk := hk.call hb; clear hb; refine hK _ _ (fun _ => kH hk) ?_; clear hK K)
 (repeat (refine sS hk ?_; simp only [pw]))
 (refine sCall ?_; intro K hK; go_step; go_at_call 145; refine (put_flow _ _ _ ha _ _ _).mono ?_; rintro e w1 ⟨rfl, hb⟩; replace hk := hk.call hb; clear hb; refine hK _ _ (fun _ => kH hk) ?_; clear hK K)
 (repeat (refine sS hk ?_; simp only [pw]))
 (refine sStore hk ?_; clear hk; intro w1 hk; refine ⟨fun h => absurd h (by decide), ?_⟩; simp only [pw])
 (refine sStore hk ?_; clear hk; intro w1 hk; refine ⟨fun h => absurd h (by decide), ?_⟩; simp only [pw])
 refine tNil ?_
 go_wp2_with ((with_reducible apply gL); (first | refine wS hk ?_ | (refine wN hk ?_; clear hk; intro w1 hk)); simp only [pw])
 exact post_2 rfl (by rfl) (hk.at mm) (rowT_of (by rfl)) (by rfl) (by rfl) (hk.at mm) (rowT_of (by rfl)) (by rfl) rfl ⟨rfl, hk.mod.below⟩
theorem mul_flow (a b c : Nat) (ha : a < 8) (hb : b < 8) (hc : c < 8) (s : Nat -> R2)  (w : World) : Calls Tryz.prog 157 #[.agg #[.int .i64 a, .int .i64 b, .int .i64 c], .agg (stC s)] w fun e w' => e = .returned (.tuple #[.agg (plC true (updS s a (prodR (s b) (s c)))), .agg (plC false zeroS)]) /\ Below w.heap.size w w' := by
 have hk := Kn.nil [] w
 go_enter Tryz.func157, Tryz.ntmps157
 go_wp2_with ((with_reducible apply gL); (first | refine wS hk ?_ | (refine wN hk ?_; clear hk; intro w1 hk)); simp only [pw])
 (refine wp_regK hk (.op 0 (.op 1 (.op 2 (.op 3 (.op 4 (.op 5 (.op 7 (.op 8 (.op 9 (.op 6 (.op 10 (.op 11 (.op 12 (.op 13 (.op 14 (.op 15 (.op 16 .nil))))))))))))))))) (fun i => decide (i < 15)) mixT (by decide) (by kernel_rfl) (by kernel_rfl) ?_; clear hk; intro w1 hk)
 (repeat (refine sS hk ?_; simp only [pw]))
 (refine sCall ?_; intro K hK; go_step; go_at_call 147; refine (left_flow _ _ _ b rfl hb _ _).mono ?_; rintro e w1 ⟨rfl, hb⟩; replace hk := hk.call hb; clear hb; refine hK _ _ (fun _ => kH hk) ?_; clear hK K)
 (repeat (refine sS hk ?_; simp only [pw]))
 (refine sCall ?_; intro K hK; go_step; go_at_call 148; refine (right_flow _ _ _ c rfl hc _ _).mono ?_; rintro e w1 ⟨rfl, hb⟩; replace hk := hk.call hb; clear hb; refine hK _ _ (fun _ => kH hk) ?_; clear hK K)
 (repeat (refine sS hk ?_; simp only [pw]))
 (refine sCall ?_; intro K hK; go_step; go_at_call 158; refine (prod_c _ _ _).mono ?_; rintro e w1 ⟨rfl, hb⟩; replace hk := hk.call hb; clear hb; refine hK _ _ (fun _ => kH hk) ?_; clear hK K)
 (repeat (refine sS hk ?_; simp only [pw]))
 (refine sCall ?_; intro K hK; go_step; go_at_call 145; refine (put_flow _ _ _ ha _ _ _).mono ?_; rintro e w1 ⟨rfl, hb⟩; replace hk := hk.call hb; clear hb; refine hK _ _ (fun _ => kH hk) ?_; clear hK K)
 (repeat (refine sS hk ?_; simp only [pw]))
 (refine sStore hk ?_; clear hk; intro w1 hk; refine ⟨fun h => absurd h (by decide), ?_⟩; simp only [pw])
 (refine sStore hk ?_; clear hk; intro w1 hk; refine ⟨fun h => absurd h (by decide), ?_⟩; simp only [pw])
 refine tNil ?_
 go_wp2_with ((with_reducible apply gL); (first | refine wS hk ?_ | (refine wN hk ?_; clear hk; intro w1 hk)); simp only [pw])
 exact post_2 rfl (by rfl) (hk.at mm) (rowT_of (by rfl)) (by rfl) (by rfl) (hk.at mm) (rowT_of (by rfl)) (by rfl) rfl ⟨rfl, hk.mod.below⟩
theorem div_flow (a b c : Nat) (ha : a < 8) (hb : b < 8) (hc : c < 8) (s : Nat -> R2) (hok : ∀ j, j < 8 -> (s j).lo <= (s j).hi) (w : World) : Calls Tryz.prog 161 #[.agg #[.int .i64 a, .int .i64 b, .int .i64 c], .agg (stC s)] w fun e w' => e = .returned (.tuple #[.agg (plC true (updS s a (quoR (s b) (s c)))), .agg (plC false zeroS)]) /\ Below w.heap.size w w' := by
 have hk := Kn.nil [] w
 go_enter Tryz.func161, Tryz.ntmps161
 go_wp2_with ((with_reducible apply gL); (first | refine wS hk ?_ | (refine wN hk ?_; clear hk; intro w1 hk)); simp only [pw])
 (refine wp_regK hk (.op 0 (.op 1 (.op 2 (.op 3 (.op 4 (.op 5 (.op 6 (.op 7 (.op 8 (.op 9 (.op 10 (.op 11 (.op 12 (.op 13 (.op 14 (.op 15 (.op 16 .nil))))))))))))))))) (fun i => decide (i < 15)) mixT (by decide) (by kernel_rfl) (by kernel_rfl) ?_; clear hk; intro w1 hk)
 (repeat (refine sS hk ?_; simp only [pw]))
 (refine sCall ?_; intro K hK; go_step; go_at_call 162; refine (quo_c _ _ _ (hok c hc)).mono ?_; rintro e w1 ⟨rfl, hb⟩; replace hk := hk.call hb; clear hb; refine hK _ _ (fun _ => kH hk) ?_; clear hK K)
 (repeat (refine sS hk ?_; simp only [pw]))
 (refine sCall ?_; intro K hK; go_step; go_at_call 136; refine (goOnWith_any _ _ ha _ _).mono ?_; rintro e w1 ⟨rfl, hb⟩; replace hk := hk.call hb; clear hb; refine hK _ _ (fun _ => kH hk) ?_; clear hK K)
 (repeat (refine sS hk ?_; simp only [pw]))
 (refine sStore hk ?_; clear hk; intro w1 hk; refine ⟨fun h => absurd h (by decide), ?_⟩; simp only [pw])
 (refine sStore hk ?_; clear hk; intro w1 hk; refine ⟨fun h => absurd h (by decide), ?_⟩; simp only [pw])
 refine tNil ?_
 go_wp2_with ((with_reducible apply gL); (first | refine wS hk ?_ | (refine wN hk ?_; clear hk; intro w1 hk)); simp only [pw])
 exact post_2 rfl (by rfl) (hk.at mm) (rowT_of (by rfl)) (by rfl) (by rfl) (hk.at mm) (rowT_of (by rfl)) (by rfl) rfl ⟨rfl, hk.mod.below⟩
theorem load_flow (a b : Nat) (ha : a < 8) (s : Nat -> R2) (w : World) : Calls Tryz.prog 164 #[.agg #[.int .i64 a, .int .i64 b], .agg (stC s)] w fun e w' => e = .returned (.tuple #[.agg (plC true (updS s a allR)), .agg (plC false zeroS)]) /\ Below w.heap.size w w' := by
 have hk := Kn.nil [] w
 go_enter Tryz.func164, Tryz.ntmps164
 go_wp2_with ((with_reducible apply gL); (first | refine wS hk ?_ | (refine wN hk ?_; clear hk; intro w1 hk)); simp only [pw])
 (refine wp_regK hk (.op 0 (.op 1 (.op 2 (.op 3 (.op 4 (.op 5 (.op 6 (.op 7 (.op 8 .nil))))))))) (fun i => decide (i < 7)) mixT (by decide) (by kernel_rfl) (by kernel_rfl) ?_; clear hk; intro w1 hk)
 (repeat (refine sS hk ?_; simp only [pw]))
 (refine sCall ?_; intro K hK; go_step; go_at_call 151; refine (all_c _).mono ?_; rintro e w1 ⟨rfl, hb⟩; replace hk := hk.call hb; clear hb; refine hK _ _ (fun _ => kH hk) ?_; clear hK K)
 (repeat (refine sS hk ?_; simp only [pw]))
 (refine sCall ?_; intro K hK; go_step; go_at_call 136; refine (goOnWith_any _ _ ha _ _).mono ?_; rintro e w1 ⟨rfl, hb⟩; replace hk := hk.call hb; clear hb; refine hK _ _ (fun _ => kH hk) ?_; clear hK K)
 (repeat (refine sS hk ?_; simp only [pw]))
 (refine sStore hk ?_; clear hk; intro w1 hk; refine ⟨fun h => absurd h (by decide), ?_⟩; simp only [pw])
 (refine sStore hk ?_; clear hk; intro w1 hk; refine ⟨fun h => absurd h (by decide), ?_⟩; simp only [pw])
 refine tNil ?_
 go_wp2_with ((with_reducible apply gL); (first | refine wS hk ?_ | (refine wN hk ?_; clear hk; intro w1 hk)); simp only [pw])
 exact post_2 rfl (by rfl) (hk.at mm) (rowT_of (by rfl)) (by rfl) (by rfl) (hk.at mm) (rowT_of (by rfl)) (by rfl) rfl ⟨rfl, hk.mod.below⟩
theorem store_flow (a b : Nat) (s : Nat -> R2) (w : World) : Calls Tryz.prog 167 #[.agg #[.int .i64 a, .int .i64 b], .agg (stC s)] w fun e w' => e = .returned (.tuple #[.agg (plC true (s)), .agg (plC false zeroS)]) /\ Below w.heap.size w w' := by
 have hk := Kn.nil [] w
 go_enter Tryz.func167, Tryz.ntmps167
 go_wp2_with (first | (go_at_call 138; refine (goOn_any _ _).mono ?_; rintro e w1 ⟨rfl, hb⟩; replace hk := hk.call hb; clear hb) | ((with_reducible apply gL); (first | refine wS hk ?_ | (refine wN hk ?_; clear hk; intro w1 hk)); simp only [pw]))
 exact post_2 rfl (by rfl) (hk.at mm) (rowT_of (by rfl)) (by rfl) (by rfl) (hk.at mm) (rowT_of (by rfl)) (by rfl) rfl ⟨rfl, hk.mod.below⟩
theorem jump_flow (k : Int) (s : Nat -> R2) (w : World) : Calls Tryz.prog 169 #[.agg #[.int .i64 k], .agg (stC s)] w fun e w' => e = .returned (.tuple #[.agg (plC false zeroS), .agg (plC true s)]) /\ Below w.heap.size w w' := by
 have hk := Kn.nil [] w
 go_enter Tryz.func169, Tryz.ntmps169
 go_wp2_with (first | (go_at_call 83; refine (with_any _ _).mono ?_; rintro e w1 ⟨rfl, hb⟩; replace hk := hk.call hb; clear hb) | ((with_reducible apply gL); (first | refine wS hk ?_ | (refine wN hk ?_; clear hk; intro w1 hk)); simp only [pw]))
 exact post_2 rfl (by rfl) (hk.at mm) (rowT_of (by rfl)) (by rfl) (by rfl) (hk.at mm) (rowT_of (by rfl)) (by rfl) rfl ⟨rfl, hk.mod.below⟩
end Go.Proofs.YtamiichlbmllcabGreatDoor
