import Derived.Test.YtamiichlbmllcabGreatDoorQFlC
set_option maxRecDepth 100000
set_option maxHeartbeats 32000000
namespace Go.Proofs.YtamiichlbmllcabGreatDoor
open Go.RowKit
theorem Kn.pick13 {M : List Nat} {w0 w : World} {r0 r1 r2 r3 r4 : Nat × Array Value × TypeId} (h : Kn M w0 w [r0, r1, r2, r3, r4]) : Kn M w0 w [r1, r3] := h.sub (.cons _ (.cons_cons _ (.cons _ (.cons_cons _ (.cons _ .slnil)))))
theorem wp_reg13 {P : Program} {id : Nat} {l : List Oper} {Q : Exit -> Act -> World -> Prop} {a : Act} {w : World} {M : List Nat} {w0 : World} {r0 r1 r2 r3 r4 : Nat × Array Value × TypeId} (hk : Kn M w0 w [r0, r1, r2, r3, r4]) (t : OT) (F : Nat -> Bool) (hm : P.follows .mixedOrders = true) (hn : t.size <= l.length) (hsel : Region.noSelect l.toArray = true)
 (hv : okT l.toArray F t (Array.replicate l.length false) = true) (h : ∀ w1, Kn M w0 w1 [r0, r1, r2, r3, r4] -> wpT P l Q F (fun wx => Kn M w0 wx [r1, r3]) t a w1) : (Code.region id l.toArray true).wp P Q a w := wp_regS hk _ t F hm hn hsel hv h
theorem same_one (a : Nat) (k : Int) (s : Nat -> R2) (w : World) : Calls Tryz.prog 174 #[.agg #[.int .i64 a, .int .i64 a, .int .i64 k], .agg (stC s)] w fun e w' => e = .returned (.tuple #[.agg (plC false zeroS), .agg (plC true s)]) /\ Below w.heap.size w w' := by
 have hk := Kn.nil [] w
 go_enter Tryz.func174, Tryz.ntmps174
 go_wp2_with (first | (go_at_call 83; refine (with_any _ _).mono ?_; rintro e w1 ⟨rfl, hb⟩; replace hk := hk.call hb; clear hb) | ((with_reducible apply gL); (first | refine wS hk ?_ | (refine wN hk ?_; clear hk; intro w1 hk)); simp only [pw]))
 exact post_2 rfl (by rfl) (hk.at mm) (rowT_of (by rfl)) (by rfl) (by rfl) (hk.at mm) (rowT_of (by rfl)) (by rfl) rfl ⟨rfl, hk.mod.below⟩
theorem same_alone (a b : Nat) (k : Int) (ha : a < 8) (hb : b < 8) (hne : a ≠ b) (s : Nat -> R2) (hB : oneR (s a) (s b) = true) (w : World) : Calls Tryz.prog 174 #[.agg #[.int .i64 a, .int .i64 b, .int .i64 k], .agg (stC s)] w fun e w' => e = .returned (.tuple #[.agg (plC false zeroS), .agg (plC (narrR s a (comR (s a) (s b)) b (comR (s a) (s b))).isSome (stO (narrR s a (comR (s a) (s b)) b (comR (s a) (s b)))))]) /\ Below w.heap.size w w' := by
 have hk := Kn.nil [] w
 have hab : ((a : Int) == (b : Int)) = false := by rw [beq_eq_false_iff_ne]; omega
 go_enter Tryz.func174, Tryz.ntmps174
 go_wp2_with ((with_reducible apply gL); (first | refine wS hk ?_ | (refine wN hk ?_; clear hk; intro w1 hk)); simp only [pw])
 (refine wp_regK hk (.op 0 (.op 1 (.op 2 (.op 3 (.op 4 (.op 5 (.op 6 (.op 7 (.either 8 9 (.op 9 (.op 10 .nil)) (.op 8 (.op 10 .nil))))))))))) (fun i => decide (i < 10)) mixT (by decide) (by kernel_rfl) (by kernel_rfl) ?_; clear hk; intro w1 hk)
 (repeat (refine sS hk ?_; simp only [pw]))
 refine tEitherK (by rfl) (by rfl) (by rfl) (by rfl) ?_ ?_
 · intro K hK
   go_step
   refine (common_c _ _ _).mono ?_
   rintro e w1 ⟨rfl, hb'⟩
   replace hk := hk.call hb'
   clear hb'
   refine hK _ _ (fun _ => hk) ?_
   clear hK K
   refine tActK (by rfl) rfl (by rfl) ?_
   intro K hK
   refine oAllocR (zeroT_of (by rfl)) hk ?_
   clear hk
   intro w1 hk
   simp only [pw]
   refine hK _ _ (fun _ => hk.drop) ?_
   clear hK K
   (refine sStore hk ?_; clear hk; intro w1 hk; refine ⟨fun h => absurd h (by decide), ?_⟩; simp only [pw])
   refine tNil ?_
   go_wp2_with (first | (go_at_call 172; refine (narr_any _ _ _ ha hb _ _ _).mono ?_; rintro e w1 ⟨rfl, hb⟩; replace hk := hk.call hb; clear hb) | ((with_reducible apply gL); (first | refine wS hk ?_ | (refine wN hk ?_; clear hk; intro w1 hk)); simp only [pw]))
   (refine wp_regK hk (.op 0 (.op 1 (.op 2 (.op 3 (.op 4 (.op 5 (.op 6 (.op 7 (.op 8 .nil))))))))) (fun i => decide (i < 9)) mixT (by decide) (by kernel_rfl) (by kernel_rfl) ?_; clear hk; intro w1 hk)
   (repeat (refine sS hk ?_; simp only [pw]))
   (refine tActK (by rfl) rfl (by rfl) ?_; intro K hK; go_step; refine (one_any _ _ _).mono ?_; rintro e w1 ⟨rfl, hb'⟩; replace hk := hk.call hb'; clear hb'; rw [hB]; refine hK _ _ (fun _ => hk) ?_; clear hK K)
   refine tNil ?_
   go_wp2_with ((with_reducible apply gL); (first | refine wS hk ?_ | (refine wN hk ?_; clear hk; intro w1 hk)); simp only [pw])
   (refine wp_regK hk (.op 0 (.op 1 (.op 2 (.op 3 .nil)))) (fun i => decide (i < 3)) mixT (by decide) (by kernel_rfl) (by kernel_rfl) ?_; clear hk; intro w1 hk)
   (repeat (refine sS hk ?_; simp only [pw]))
   (refine sStore hk ?_; clear hk; intro w1 hk; refine ⟨fun _ => kH hk, ?_⟩; simp only [pw])
   (refine sStore hk ?_; clear hk; intro w1 hk; refine ⟨fun h => absurd h (by decide), ?_⟩; simp only [pw])
   refine tNil ?_
   go_wp2_with ((with_reducible apply gL); (first | refine wS hk ?_ | (refine wN hk ?_; clear hk; intro w1 hk)); simp only [pw])
   exact post_2 rfl (by rfl) (hk.at mm) (rowT_of (by rfl)) (by rfl) (by rfl) (hk.at mm) (rowT_of (by rfl)) (by rfl) rfl ⟨rfl, hk.mod.below⟩
 · intro K hK
   refine oAllocR (zeroT_of (by rfl)) hk ?_
   clear hk
   intro w1 hk
   simp only [pw]
   refine hK _ _ (fun _ => hk.drop) ?_
   clear hK K
   refine tActK (by rfl) rfl (by rfl) ?_
   intro K hK
   go_step
   refine (common_c _ _ _).mono ?_
   rintro e w1 ⟨rfl, hb'⟩
   replace hk := hk.call hb'
   clear hb'
   refine hK _ _ (fun _ => hk.drop) ?_
   clear hK K
   (refine sStore hk ?_; clear hk; intro w1 hk; refine ⟨fun h => absurd h (by decide), ?_⟩; simp only [pw])
   refine tNil ?_
   go_wp2_with (first | (go_at_call 172; refine (narr_any _ _ _ ha hb _ _ _).mono ?_; rintro e w1 ⟨rfl, hb⟩; replace hk := hk.call hb; clear hb) | ((with_reducible apply gL); (first | refine wS hk ?_ | (refine wN hk ?_; clear hk; intro w1 hk)); simp only [pw]))
   (refine wp_regK hk (.op 0 (.op 1 (.op 2 (.op 3 (.op 4 (.op 5 (.op 6 (.op 7 (.op 8 .nil))))))))) (fun i => decide (i < 9)) mixT (by decide) (by kernel_rfl) (by kernel_rfl) ?_; clear hk; intro w1 hk)
   (repeat (refine sS hk ?_; simp only [pw]))
   (refine tActK (by rfl) rfl (by rfl) ?_; intro K hK; go_step; refine (one_any _ _ _).mono ?_; rintro e w1 ⟨rfl, hb'⟩; replace hk := hk.call hb'; clear hb'; rw [hB]; refine hK _ _ (fun _ => hk) ?_; clear hK K)
   refine tNil ?_
   go_wp2_with ((with_reducible apply gL); (first | refine wS hk ?_ | (refine wN hk ?_; clear hk; intro w1 hk)); simp only [pw])
   (refine wp_regK hk (.op 0 (.op 1 (.op 2 (.op 3 .nil)))) (fun i => decide (i < 3)) mixT (by decide) (by kernel_rfl) (by kernel_rfl) ?_; clear hk; intro w1 hk)
   (repeat (refine sS hk ?_; simp only [pw]))
   (refine sStore hk ?_; clear hk; intro w1 hk; refine ⟨fun _ => kH hk, ?_⟩; simp only [pw])
   (refine sStore hk ?_; clear hk; intro w1 hk; refine ⟨fun h => absurd h (by decide), ?_⟩; simp only [pw])
   refine tNil ?_
   go_wp2_with ((with_reducible apply gL); (first | refine wS hk ?_ | (refine wN hk ?_; clear hk; intro w1 hk)); simp only [pw])
   exact post_2 rfl (by rfl) (hk.at mm) (rowT_of (by rfl)) (by rfl) (by rfl) (hk.at mm) (rowT_of (by rfl)) (by rfl) rfl ⟨rfl, hk.mod.below⟩
theorem same_both (a b : Nat) (k : Int) (ha : a < 8) (hb : b < 8) (hne : a ≠ b) (s : Nat -> R2) (hB : oneR (s a) (s b) = false) (w : World) : Calls Tryz.prog 174 #[.agg #[.int .i64 a, .int .i64 b, .int .i64 k], .agg (stC s)] w fun e w' => e = .returned (.tuple #[.agg (plC true s), .agg (plC (narrR s a (comR (s a) (s b)) b (comR (s a) (s b))).isSome (stO (narrR s a (comR (s a) (s b)) b (comR (s a) (s b)))))]) /\ Below w.heap.size w w' := by
 have hk := Kn.nil [] w
 have hab : ((a : Int) == (b : Int)) = false := by rw [beq_eq_false_iff_ne]; omega
 go_enter Tryz.func174, Tryz.ntmps174
 go_wp2_with ((with_reducible apply gL); (first | refine wS hk ?_ | (refine wN hk ?_; clear hk; intro w1 hk)); simp only [pw])
 (refine wp_regK hk (.op 0 (.op 1 (.op 2 (.op 3 (.op 4 (.op 5 (.op 6 (.op 7 (.either 8 9 (.op 9 (.op 10 .nil)) (.op 8 (.op 10 .nil))))))))))) (fun i => decide (i < 10)) mixT (by decide) (by kernel_rfl) (by kernel_rfl) ?_; clear hk; intro w1 hk)
 (repeat (refine sS hk ?_; simp only [pw]))
 refine tEitherK (by rfl) (by rfl) (by rfl) (by rfl) ?_ ?_
 · intro K hK
   go_step
   refine (common_c _ _ _).mono ?_
   rintro e w1 ⟨rfl, hb'⟩
   replace hk := hk.call hb'
   clear hb'
   refine hK _ _ (fun _ => hk) ?_
   clear hK K
   refine tActK (by rfl) rfl (by rfl) ?_
   intro K hK
   refine oAllocR (zeroT_of (by rfl)) hk ?_
   clear hk
   intro w1 hk
   simp only [pw]
   refine hK _ _ (fun _ => hk.drop) ?_
   clear hK K
   (refine sStore hk ?_; clear hk; intro w1 hk; refine ⟨fun h => absurd h (by decide), ?_⟩; simp only [pw])
   refine tNil ?_
   go_wp2_with (first | (go_at_call 172; refine (narr_any _ _ _ ha hb _ _ _).mono ?_; rintro e w1 ⟨rfl, hb⟩; replace hk := hk.call hb; clear hb) | ((with_reducible apply gL); (first | refine wS hk ?_ | (refine wN hk ?_; clear hk; intro w1 hk)); simp only [pw]))
   (refine wp_regK hk (.op 0 (.op 1 (.op 2 (.op 3 (.op 4 (.op 5 (.op 6 (.op 7 (.op 8 .nil))))))))) (fun i => decide (i < 9)) mixT (by decide) (by kernel_rfl) (by kernel_rfl) ?_; clear hk; intro w1 hk)
   (repeat (refine sS hk ?_; simp only [pw]))
   (refine tActK (by rfl) rfl (by rfl) ?_; intro K hK; go_step; refine (one_any _ _ _).mono ?_; rintro e w1 ⟨rfl, hb'⟩; replace hk := hk.call hb'; clear hb'; rw [hB]; refine hK _ _ (fun _ => hk) ?_; clear hK K)
   refine tNil ?_
   go_wp2_with ((with_reducible apply gL); (first | refine wS hk ?_ | (refine wN hk ?_; clear hk; intro w1 hk)); simp only [pw])
   refine wp_reg13 hk (.op 0 (.op 2 (.op 1 (.op 3 (.op 4 .nil))))) (fun i => decide (i < 4)) mixT (by decide) (by kernel_rfl) (by kernel_rfl) ?_
   clear hk
   intro w1 hk
   have hs := hk.pick13
   (repeat (refine sS hs ?_; simp only [pw]))
   (refine tActK (by rfl) rfl (by rfl) ?_; intro K hK; go_step; refine (with_any _ _).mono ?_; rintro e w1 ⟨rfl, hb'⟩; replace hk := hk.call hb'; clear hb'; refine hK _ _ (fun _ => hk.pick13) ?_; clear hK K hs)
   (refine sStore hk ?_; clear hk; intro w1 hk; refine ⟨fun _ => kH hk, ?_⟩; simp only [pw])
   (refine sStore hk ?_; clear hk; intro w1 hk; refine ⟨fun h => absurd h (by decide), ?_⟩; simp only [pw])
   refine tNil ?_
   go_wp2_with ((with_reducible apply gL); (first | refine wS hk ?_ | (refine wN hk ?_; clear hk; intro w1 hk)); simp only [pw])
   exact post_2 rfl (by rfl) (hk.at mm) (rowT_of (by rfl)) (by rfl) (by rfl) (hk.at mm) (rowT_of (by rfl)) (by rfl) rfl ⟨rfl, hk.mod.below⟩
 · intro K hK
   refine oAllocR (zeroT_of (by rfl)) hk ?_
   clear hk
   intro w1 hk
   simp only [pw]
   refine hK _ _ (fun _ => hk.drop) ?_
   clear hK K
   refine tActK (by rfl) rfl (by rfl) ?_
   intro K hK
   go_step
   refine (common_c _ _ _).mono ?_
   rintro e w1 ⟨rfl, hb'⟩
   replace hk := hk.call hb'
   clear hb'
   refine hK _ _ (fun _ => hk.drop) ?_
   clear hK K
   (refine sStore hk ?_; clear hk; intro w1 hk; refine ⟨fun h => absurd h (by decide), ?_⟩; simp only [pw])
   refine tNil ?_
   go_wp2_with (first | (go_at_call 172; refine (narr_any _ _ _ ha hb _ _ _).mono ?_; rintro e w1 ⟨rfl, hb⟩; replace hk := hk.call hb; clear hb) | ((with_reducible apply gL); (first | refine wS hk ?_ | (refine wN hk ?_; clear hk; intro w1 hk)); simp only [pw]))
   (refine wp_regK hk (.op 0 (.op 1 (.op 2 (.op 3 (.op 4 (.op 5 (.op 6 (.op 7 (.op 8 .nil))))))))) (fun i => decide (i < 9)) mixT (by decide) (by kernel_rfl) (by kernel_rfl) ?_; clear hk; intro w1 hk)
   (repeat (refine sS hk ?_; simp only [pw]))
   (refine tActK (by rfl) rfl (by rfl) ?_; intro K hK; go_step; refine (one_any _ _ _).mono ?_; rintro e w1 ⟨rfl, hb'⟩; replace hk := hk.call hb'; clear hb'; rw [hB]; refine hK _ _ (fun _ => hk) ?_; clear hK K)
   refine tNil ?_
   go_wp2_with ((with_reducible apply gL); (first | refine wS hk ?_ | (refine wN hk ?_; clear hk; intro w1 hk)); simp only [pw])
   refine wp_reg13 hk (.op 0 (.op 2 (.op 1 (.op 3 (.op 4 .nil))))) (fun i => decide (i < 4)) mixT (by decide) (by kernel_rfl) (by kernel_rfl) ?_
   clear hk
   intro w1 hk
   have hs := hk.pick13
   (repeat (refine sS hs ?_; simp only [pw]))
   (refine tActK (by rfl) rfl (by rfl) ?_; intro K hK; go_step; refine (with_any _ _).mono ?_; rintro e w1 ⟨rfl, hb'⟩; replace hk := hk.call hb'; clear hb'; refine hK _ _ (fun _ => hk.pick13) ?_; clear hK K hs)
   (refine sStore hk ?_; clear hk; intro w1 hk; refine ⟨fun _ => kH hk, ?_⟩; simp only [pw])
   (refine sStore hk ?_; clear hk; intro w1 hk; refine ⟨fun h => absurd h (by decide), ?_⟩; simp only [pw])
   refine tNil ?_
   go_wp2_with ((with_reducible apply gL); (first | refine wS hk ?_ | (refine wN hk ?_; clear hk; intro w1 hk)); simp only [pw])
   exact post_2 rfl (by rfl) (hk.at mm) (rowT_of (by rfl)) (by rfl) (by rfl) (hk.at mm) (rowT_of (by rfl)) (by rfl) rfl ⟨rfl, hk.mod.below⟩
end Go.Proofs.YtamiichlbmllcabGreatDoor
