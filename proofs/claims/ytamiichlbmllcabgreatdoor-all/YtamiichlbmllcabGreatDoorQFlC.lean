import Derived.Test.YtamiichlbmllcabGreatDoorQFlB
set_option maxRecDepth 100000
set_option maxHeartbeats 32000000
namespace Go.Proofs.YtamiichlbmllcabGreatDoor
open Go.RowKit
theorem less_one (a : Nat) (k : Int) (s : Nat -> R2) (w : World) : Calls Tryz.prog 171 #[.agg #[.int .i64 a, .int .i64 a, .int .i64 k], .agg (stC s)] w fun e w' => e = .returned (.tuple #[.agg (plC true s), .agg (plC false zeroS)]) /\ Below w.heap.size w w' := by
 have hk := Kn.nil [] w
 go_enter Tryz.func171, Tryz.ntmps171
 go_wp2_with (first | (go_at_call 138; refine (goOn_any _ _).mono ?_; rintro e w1 ⟨rfl, hb⟩; replace hk := hk.call hb; clear hb) | ((with_reducible apply gL); (first | refine wS hk ?_ | (refine wN hk ?_; clear hk; intro w1 hk)); simp only [pw]))
 exact post_2 rfl (by rfl) (hk.at mm) (rowT_of (by rfl)) (by rfl) (by rfl) (hk.at mm) (rowT_of (by rfl)) (by rfl) rfl ⟨rfl, hk.mod.below⟩
theorem less_noB (a b : Nat) (k : Int) (ha : a < 8) (hb : b < 8) (hne : a ≠ b) (s : Nat -> R2) (hB : ((s b).hi == -9223372036854775808) = true) (w : World) : Calls Tryz.prog 171 #[.agg #[.int .i64 a, .int .i64 b, .int .i64 k], .agg (stC s)] w fun e w' => e = .returned (.tuple #[.agg (plC (narrR s a ⟨max (s a).lo (s b).lo, (s a).hi⟩ b ⟨(s b).lo, min (s b).hi (s a).hi⟩).isSome (stO (narrR s a ⟨max (s a).lo (s b).lo, (s a).hi⟩ b ⟨(s b).lo, min (s b).hi (s a).hi⟩))), .agg (plC false zeroS)]) /\ Below w.heap.size w w' := by
 have hk := Kn.nil [] w
 have hmx := run_max2
 have hmn := run_min2
 have hab : ((a : Int) == (b : Int)) = false := by rw [beq_eq_false_iff_ne]; omega
 go_enter Tryz.func171, Tryz.ntmps171
 go_wp2_with ((with_reducible apply gL); (first | refine wS hk ?_ | (refine wN hk ?_; clear hk; intro w1 hk)); simp only [pw])
 (refine wp_regK hk (.op 0 (.op 1 (.op 2 (.op 3 (.op 4 (.op 5 (.op 6 (.op 7 (.either 8 9 (.op 9 (.op 10 (.op 11 .nil))) (.op 8 (.op 10 (.op 11 .nil)))))))))))) (fun i => decide (i < 11)) mixT (by decide) (by kernel_rfl) (by kernel_rfl) ?_; clear hk; intro w1 hk)
 (repeat (refine sS hk ?_; simp only [pw]))
 (refine tEither (by rfl) (by rfl) (by rfl) (by rfl) (oAllocR (zeroT_of (by rfl)) hk ?_) (oAllocR (zeroT_of (by rfl)) hk ?_) <;> (clear hk; intro w1 hk; refine ⟨fun _ => hk.drop, ?_⟩; simp only [pw]))
 all_goals
  (refine sAlloc hk ?_; clear hk; intro w1 hk; refine ⟨fun _ => kH hk, ?_⟩; simp only [pw])
  (refine sStore hk ?_; clear hk; intro w1 hk; refine ⟨fun _ => kH hk, ?_⟩; simp only [pw])
  (refine sStore hk ?_; clear hk; intro w1 hk; refine ⟨fun h => absurd h (by decide), ?_⟩; simp only [pw])
  refine tNil ?_
  go_wp2_with (first | (go_at_call 172; refine (narr_any _ _ _ ha hb _ _ _).mono ?_; rintro e w1 ⟨rfl, hb⟩; replace hk := hk.call hb; clear hb) | ((with_reducible apply gL); (first | refine wS hk ?_ | (refine wN hk ?_; clear hk; intro w1 hk)); simp only [pw]))
  exact post_2 rfl (by rfl) (hk.at mm) (rowT_of (by rfl)) (by rfl) (by rfl) (hk.at mm) (rowT_of (by rfl)) (by rfl) rfl ⟨rfl, hk.mod.below⟩
theorem less_noA (a b : Nat) (k : Int) (ha : a < 8) (hb : b < 8) (hne : a ≠ b) (s : Nat -> R2) (hB : ((s b).hi == -9223372036854775808) = false) (hA : ((s a).lo == 9223372036854775807) = true) (w : World) : Calls Tryz.prog 171 #[.agg #[.int .i64 a, .int .i64 b, .int .i64 k], .agg (stC s)] w fun e w' => e = .returned (.tuple #[.agg (plC (narrR s a ⟨max (s a).lo (s b).lo, (s a).hi⟩ b ⟨(s b).lo, min (s b).hi (s a).hi⟩).isSome (stO (narrR s a ⟨max (s a).lo (s b).lo, (s a).hi⟩ b ⟨(s b).lo, min (s b).hi (s a).hi⟩))), .agg (plC false zeroS)]) /\ Below w.heap.size w w' := by
 have hk := Kn.nil [] w
 have hmx := run_max2
 have hmn := run_min2
 have hab : ((a : Int) == (b : Int)) = false := by rw [beq_eq_false_iff_ne]; omega
 go_enter Tryz.func171, Tryz.ntmps171
 go_wp2_with ((with_reducible apply gL); (first | refine wS hk ?_ | (refine wN hk ?_; clear hk; intro w1 hk)); simp only [pw])
 (refine wp_regK hk (.op 0 (.op 1 (.op 2 (.op 3 (.op 4 (.op 5 (.op 6 (.op 7 (.either 8 9 (.op 9 (.op 10 (.op 11 .nil))) (.op 8 (.op 10 (.op 11 .nil)))))))))))) (fun i => decide (i < 11)) mixT (by decide) (by kernel_rfl) (by kernel_rfl) ?_; clear hk; intro w1 hk)
 (repeat (refine sS hk ?_; simp only [pw]))
 (refine tEither (by rfl) (by rfl) (by rfl) (by rfl) (oAllocR (zeroT_of (by rfl)) hk ?_) (oAllocR (zeroT_of (by rfl)) hk ?_) <;> (clear hk; intro w1 hk; refine ⟨fun _ => hk.drop, ?_⟩; simp only [pw]))
 all_goals
  (refine sAlloc hk ?_; clear hk; intro w1 hk; refine ⟨fun _ => kH hk, ?_⟩; simp only [pw])
  (refine sStore hk ?_; clear hk; intro w1 hk; refine ⟨fun _ => kH hk, ?_⟩; simp only [pw])
  (refine sStore hk ?_; clear hk; intro w1 hk; refine ⟨fun h => absurd h (by decide), ?_⟩; simp only [pw])
  refine tNil ?_
  go_wp2_with (first | (go_at_call 172; refine (narr_any _ _ _ ha hb _ _ _).mono ?_; rintro e w1 ⟨rfl, hb⟩; replace hk := hk.call hb; clear hb) | ((with_reducible apply gL); (first | refine wS hk ?_ | (refine wN hk ?_; clear hk; intro w1 hk)); simp only [pw]))
  exact post_2 rfl (by rfl) (hk.at mm) (rowT_of (by rfl)) (by rfl) (by rfl) (hk.at mm) (rowT_of (by rfl)) (by rfl) rfl ⟨rfl, hk.mod.below⟩
theorem less_both (a b : Nat) (k : Int) (ha : a < 8) (hb : b < 8) (hne : a ≠ b) (s : Nat -> R2) (hB : ((s b).hi == -9223372036854775808) = false) (hA : ((s a).lo == 9223372036854775807) = false) (hB1 : -9223372036854775808 < (s b).hi) (hB2 : (s b).hi <= 9223372036854775807) (hA1 : -9223372036854775808 <= (s a).lo) (hA2 : (s a).lo < 9223372036854775807) (w : World) : Calls Tryz.prog 171 #[.agg #[.int .i64 a, .int .i64 b, .int .i64 k], .agg (stC s)] w fun e w' => e = .returned (.tuple #[.agg (plC (narrR s a ⟨max (s a).lo (s b).lo, (s a).hi⟩ b ⟨(s b).lo, min (s b).hi (s a).hi⟩).isSome (stO (narrR s a ⟨max (s a).lo (s b).lo, (s a).hi⟩ b ⟨(s b).lo, min (s b).hi (s a).hi⟩))), .agg (plC (narrR s a ⟨(s a).lo, min (s a).hi ((s b).hi - 1)⟩ b ⟨max (s b).lo ((s a).lo + 1), (s b).hi⟩).isSome (stO (narrR s a ⟨(s a).lo, min (s a).hi ((s b).hi - 1)⟩ b ⟨max (s b).lo ((s a).lo + 1), (s b).hi⟩)))]) /\ Below w.heap.size w w' := by
 have hk := Kn.nil [] w
 have hmx := run_max2
 have hmn := run_min2
 have hab : ((a : Int) == (b : Int)) = false := by rw [beq_eq_false_iff_ne]; omega
 go_enter Tryz.func171, Tryz.ntmps171
 go_wp2_with ((with_reducible apply gL); (first | refine wS hk ?_ | (refine wN hk ?_; clear hk; intro w1 hk)); simp only [pw])
 (refine wp_regK hk (.op 0 (.op 1 (.op 2 (.op 3 (.op 4 (.op 5 (.op 6 (.op 7 (.either 8 9 (.op 9 (.op 10 (.op 11 .nil))) (.op 8 (.op 10 (.op 11 .nil)))))))))))) (fun i => decide (i < 11)) mixT (by decide) (by kernel_rfl) (by kernel_rfl) ?_; clear hk; intro w1 hk)
 (repeat (refine sS hk ?_; simp only [pw]))
 (refine tEither (by rfl) (by rfl) (by rfl) (by rfl) (oAllocR (zeroT_of (by rfl)) hk ?_) (oAllocR (zeroT_of (by rfl)) hk ?_) <;> (clear hk; intro w1 hk; refine ⟨fun _ => hk.drop, ?_⟩; simp only [pw]))
 all_goals
  (refine sAlloc hk ?_; clear hk; intro w1 hk; refine ⟨fun _ => kH hk, ?_⟩; simp only [pw])
  (refine sStore hk ?_; clear hk; intro w1 hk; refine ⟨fun _ => kH hk, ?_⟩; simp only [pw])
  (refine sStore hk ?_; clear hk; intro w1 hk; refine ⟨fun h => absurd h (by decide), ?_⟩; simp only [pw])
  refine tNil ?_
  go_wp2_with (first | (go_at_call 172; refine (narr_any _ _ _ ha hb _ _ _).mono ?_; rintro e w1 ⟨rfl, hb⟩; replace hk := hk.call hb; clear hb) | ((with_reducible apply gL); (first | refine wS hk ?_ | (refine wN hk ?_; clear hk; intro w1 hk)); simp only [pw]))
  (refine wp_regK hk (.op 0 (.op 1 (.op 2 (.op 3 (.op 4 (.op 5 (.op 6 (.op 7 (.op 8 (.op 9 (.op 10 .nil))))))))))) (fun i => decide (i < 10)) mixT (by decide) (by kernel_rfl) (by kernel_rfl) ?_; clear hk; intro w1 hk)
  (repeat (refine sS hk ?_; simp only [pw]))
  (refine sCall ?_; intro K hK; go_step; go_at_call 172; refine (narr_any _ _ _ ha hb _ _ _).mono ?_; rintro e w1 ⟨rfl, hb⟩; replace hk := hk.call hb; clear hb; refine hK _ _ (fun _ => kH hk) ?_; clear hK K)
  (refine sStore hk ?_; clear hk; intro w1 hk; refine ⟨fun _ => kH hk, ?_⟩; simp only [pw])
  (refine sStore hk ?_; clear hk; intro w1 hk; refine ⟨fun h => absurd h (by decide), ?_⟩; simp only [pw])
  refine tNil ?_
  go_wp2_with ((with_reducible apply gL); (first | refine wS hk ?_ | (refine wN hk ?_; clear hk; intro w1 hk)); simp only [pw])
  exact post_2 rfl (by rfl) (hk.at mm) (rowT_of (by rfl)) (by rfl) (by rfl) (hk.at mm) (rowT_of (by rfl)) (by rfl) rfl ⟨rfl, hk.mod.below⟩
end Go.Proofs.YtamiichlbmllcabGreatDoor
