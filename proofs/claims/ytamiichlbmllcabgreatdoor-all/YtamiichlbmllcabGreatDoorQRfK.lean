import Derived.Test.YtamiichlbmllcabGreatDoorQRfD
import Derived.Test.YtamiichlbmllcabGreatDoorQChF
set_option maxRecDepth 100000
set_option maxHeartbeats 32000000
namespace Go.Proofs.YtamiichlbmllcabGreatDoor
open Go.RowKit
theorem Kn.pick6 {M : List Nat} {w0 w : World} {r0 r1 r2 r3 r4 r5 : Nat × Array Value × TypeId} (h : Kn M w0 w [r0, r1, r2, r3, r4, r5]) : Kn M w0 w [r0, r1] := h.sub (.cons_cons _ (.cons_cons _ (.cons _ (.cons _ (.cons _ (.cons _ .slnil))))))
theorem wp_reg6 {P : Program} {id : Nat} {l : List Oper} {Q : Exit -> Act -> World -> Prop} {a : Act} {w : World} {M : List Nat} {w0 : World} {r0 r1 r2 r3 r4 r5 : Nat × Array Value × TypeId} (hk : Kn M w0 w [r0, r1, r2, r3, r4, r5]) (t : OT) (F : Nat -> Bool) (hm : P.follows .mixedOrders = true) (hn : t.size <= l.length) (hsel : Region.noSelect l.toArray = true)
 (hv : okT l.toArray F t (Array.replicate l.length false) = true) (h : ∀ w1, Kn M w0 w1 [r0, r1, r2, r3, r4, r5] -> wpT P l Q F (fun wx => Kn M w0 wx [r0, r1]) t a w1) : (Code.region id l.toArray true).wp P Q a w := wp_regS hk _ t F hm hn hsel hv h
theorem wp_regDr {P : Program} {id : Nat} {l : List Oper} {Q : Exit -> Act -> World -> Prop} {a : Act} {w : World} {M : List Nat} {w0 : World} {r0 : Nat × Array Value × TypeId} {L : RowL} (hk : Kn M w0 w (r0 :: L)) (t : OT) (F : Nat -> Bool) (hm : P.follows .mixedOrders = true) (hn : t.size <= l.length) (hsel : Region.noSelect l.toArray = true)
 (hv : okT l.toArray F t (Array.replicate l.length false) = true) (h : ∀ w1, Kn M w0 w1 (r0 :: L) -> wpT P l Q F (fun wx => Kn M w0 wx L) t a w1) : (Code.region id l.toArray true).wp P Q a w := wp_regS hk _ t F hm hn hsel hv h
theorem rf_bc0 (a b c k : Int) (s : St) (w : World) : Calls Tryz.prog 76 #[.agg #[.int .i64 0, .int .i64 a, .int .i64 b, .int .i64 c, .int .i64 k], .agg (stC s)] w fun e w' => e = .returned (.tuple #[.agg (plC false zeroS), .agg (plC false zeroS)]) /\ Below w.heap.size w w' := by
 have hk := Kn.nil [] w
 go_enter Tryz.func76, Tryz.ntmps76
 go_wp2_with ((with_reducible apply gL); (first | refine wS hk ?_ | (refine wN hk ?_; clear hk; intro w1 hk)); simp only [pw])
 refine wp_reg6 hk (.op 0 (.op 1 (.op 2 (.op 3 .nil)))) (fun i => decide (i < 3)) mixT (by decide) (by kernel_rfl) (by kernel_rfl) ?_; clear hk; intro w1 hk
 (repeat (refine sV hk.pick6 ?_; simp only [pw]))
 refine sStore hk ?_; clear hk; intro w1 hk; refine ⟨fun _ => hk.pick6, ?_⟩; simp only [pw]
 (refine sStore hk ?_; clear hk; intro w1 hk; refine ⟨fun h => absurd h (by decide), ?_⟩; simp only [pw])
 refine tNil ?_
 go_wp2_with ((with_reducible apply gL); (first | refine wS hk ?_ | (refine wN hk ?_; clear hk; intro w1 hk)); simp only [pw])
 exact post_2 rfl (by rfl) (hk.at mm) (rowT_of (by rfl)) (by rfl) (by rfl) (hk.at mm) (rowT_of (by rfl)) (by rfl) rfl ⟨rfl, hk.mod.below⟩
theorem rf_bc1 (a : Nat) (ha : a < 8) (b c k : Int) (s : St) (w : World) : Calls Tryz.prog 76 #[.agg #[.int .i64 1, .int .i64 a, .int .i64 b, .int .i64 c, .int .i64 k], .agg (stC s)] w fun e w' => e = .returned (.tuple #[.agg (plC false zeroS), .agg (plC true (updS s a ⟨k, k⟩))]) /\ Below w.heap.size w w' := by
 have hk := Kn.nil [] w
 go_enter Tryz.func76, Tryz.ntmps76
 go_wp2_with ((with_reducible apply gL); (first | refine wS hk ?_ | (refine wN hk ?_; clear hk; intro w1 hk)); simp only [pw])
 refine wp_reg6 hk (.op 0 (.op 1 (.op 2 (.op 3 .nil)))) (fun i => decide (i < 3)) mixT (by decide) (by kernel_rfl) (by kernel_rfl) ?_; clear hk; intro w1 hk
 (repeat (refine sV hk.pick6 ?_; simp only [pw]))
 refine sStore hk ?_; clear hk; intro w1 hk; refine ⟨fun _ => hk.pick6, ?_⟩; simp only [pw]
 (refine sStore hk ?_; clear hk; intro w1 hk; refine ⟨fun h => absurd h (by decide), ?_⟩; simp only [pw])
 refine tNil ?_
 go_wp2_with ((with_reducible apply gL); (first | refine wS hk ?_ | (refine wN hk ?_; clear hk; intro w1 hk)); simp only [pw])
 exact post_2 rfl (by rfl) (hk.at mm) (rowT_of (by rfl)) (by rfl) (by rfl) (hk.at mm) (rowT_of (by rfl)) (by rfl) rfl ⟨rfl, hk.mod.below⟩
theorem rf_bc2 (a b : Nat) (ha : a < 8) (hb : b < 8) (c k : Int) (s : St) (w : World) : Calls Tryz.prog 76 #[.agg #[.int .i64 2, .int .i64 a, .int .i64 b, .int .i64 c, .int .i64 k], .agg (stC s)] w fun e w' => e = .returned (.tuple #[.agg (plC false zeroS), .agg (plC true (updS s a (s b)))]) /\ Below w.heap.size w w' := by
 have hk := Kn.nil [] w
 go_enter Tryz.func76, Tryz.ntmps76
 go_wp2_with ((with_reducible apply gL); (first | refine wS hk ?_ | (refine wN hk ?_; clear hk; intro w1 hk)); simp only [pw])
 refine wp_regDr hk (.op 0 (.op 1 (.op 2 (.op 3 (.op 4 (.op 5 (.op 6 (.op 7 (.op 8 .nil))))))))) (fun i => decide (i < 9)) mixT (by decide) (by kernel_rfl) (by kernel_rfl) ?_; clear hk; intro w1 hk
 (repeat (refine sV hk.drop ?_; simp only [pw]))
 (refine sStore hk ?_; clear hk; intro w1 hk; refine ⟨fun _ => kH hk, ?_⟩; simp only [pw])
 refine tNil ?_
 go_wp2_with ((with_reducible apply gL); (first | refine wS hk ?_ | (refine wN hk ?_; clear hk; intro w1 hk)); simp only [pw])
 refine wp_reg6 hk (.op 0 (.op 1 (.op 2 (.op 3 .nil)))) (fun i => decide (i < 3)) mixT (by decide) (by kernel_rfl) (by kernel_rfl) ?_; clear hk; intro w1 hk
 (repeat (refine sV hk.pick6 ?_; simp only [pw]))
 refine sStore hk ?_; clear hk; intro w1 hk; refine ⟨fun _ => hk.pick6, ?_⟩; simp only [pw]
 (refine sStore hk ?_; clear hk; intro w1 hk; refine ⟨fun h => absurd h (by decide), ?_⟩; simp only [pw])
 refine tNil ?_
 go_wp2_with ((with_reducible apply gL); (first | refine wS hk ?_ | (refine wN hk ?_; clear hk; intro w1 hk)); simp only [pw])
 exact post_2 rfl (by rfl) (hk.at mm) (rowT_of (by rfl)) (by rfl) (by rfl) (hk.at mm) (rowT_of (by rfl)) (by rfl) rfl ⟨rfl, hk.mod.below⟩
theorem rf_bc7 (a : Nat) (ha : a < 8) (b c k : Int) (s : St) (w : World) : Calls Tryz.prog 76 #[.agg #[.int .i64 7, .int .i64 a, .int .i64 b, .int .i64 c, .int .i64 k], .agg (stC s)] w fun e w' => e = .returned (.tuple #[.agg (plC false zeroS), .agg (plC true (updS s a allR))]) /\ Below w.heap.size w w' := by
 have hk := Kn.nil [] w
 go_enter Tryz.func76, Tryz.ntmps76
 go_wp2_with ((with_reducible apply gL); (first | refine wS hk ?_ | (refine wN hk ?_; clear hk; intro w1 hk)); simp only [pw])
 refine wp_regDr hk (.op 0 (.op 1 (.op 3 (.op 2 (.op 4 (.op 5 .nil)))))) (fun i => decide (i < 6)) mixT (by decide) (by kernel_rfl) (by kernel_rfl) ?_; clear hk; intro w1 hk
 (repeat (refine sV hk.drop ?_; simp only [pw]))
 (refine sCall ?_; intro K hK; go_step; go_at_call 89; refine (rf_all _).mono ?_; rintro e w1 ⟨rfl, hb⟩; replace hk := hk.call hb; clear hb; refine hK _ _ (fun _ => kH hk) ?_; clear hK K)
 (repeat (refine sV hk.drop ?_; simp only [pw]))
 (refine sStore hk ?_; clear hk; intro w1 hk; refine ⟨fun _ => kH hk, ?_⟩; simp only [pw])
 refine tNil ?_
 go_wp2_with ((with_reducible apply gL); (first | refine wS hk ?_ | (refine wN hk ?_; clear hk; intro w1 hk)); simp only [pw])
 refine wp_reg6 hk (.op 0 (.op 1 (.op 2 (.op 3 .nil)))) (fun i => decide (i < 3)) mixT (by decide) (by kernel_rfl) (by kernel_rfl) ?_; clear hk; intro w1 hk
 (repeat (refine sV hk.pick6 ?_; simp only [pw]))
 refine sStore hk ?_; clear hk; intro w1 hk; refine ⟨fun _ => hk.pick6, ?_⟩; simp only [pw]
 (refine sStore hk ?_; clear hk; intro w1 hk; refine ⟨fun h => absurd h (by decide), ?_⟩; simp only [pw])
 refine tNil ?_
 go_wp2_with ((with_reducible apply gL); (first | refine wS hk ?_ | (refine wN hk ?_; clear hk; intro w1 hk)); simp only [pw])
 exact post_2 rfl (by rfl) (hk.at mm) (rowT_of (by rfl)) (by rfl) (by rfl) (hk.at mm) (rowT_of (by rfl)) (by rfl) rfl ⟨rfl, hk.mod.below⟩
theorem rf_bc8 (a b c k : Int) (s : St) (w : World) : Calls Tryz.prog 76 #[.agg #[.int .i64 8, .int .i64 a, .int .i64 b, .int .i64 c, .int .i64 k], .agg (stC s)] w fun e w' => e = .returned (.tuple #[.agg (plC false zeroS), .agg (plC true s)]) /\ Below w.heap.size w w' := by
 have hk := Kn.nil [] w
 go_enter Tryz.func76, Tryz.ntmps76
 go_wp2_with ((with_reducible apply gL); (first | refine wS hk ?_ | (refine wN hk ?_; clear hk; intro w1 hk)); simp only [pw])
 refine wp_reg6 hk (.op 0 (.op 1 (.op 2 (.op 3 .nil)))) (fun i => decide (i < 3)) mixT (by decide) (by kernel_rfl) (by kernel_rfl) ?_; clear hk; intro w1 hk
 (repeat (refine sV hk.pick6 ?_; simp only [pw]))
 refine sStore hk ?_; clear hk; intro w1 hk; refine ⟨fun _ => hk.pick6, ?_⟩; simp only [pw]
 (refine sStore hk ?_; clear hk; intro w1 hk; refine ⟨fun h => absurd h (by decide), ?_⟩; simp only [pw])
 refine tNil ?_
 go_wp2_with ((with_reducible apply gL); (first | refine wS hk ?_ | (refine wN hk ?_; clear hk; intro w1 hk)); simp only [pw])
 exact post_2 rfl (by rfl) (hk.at mm) (rowT_of (by rfl)) (by rfl) (by rfl) (hk.at mm) (rowT_of (by rfl)) (by rfl) rfl ⟨rfl, hk.mod.below⟩
theorem rf_bc9 (a b c k : Int) (s : St) (w : World) : Calls Tryz.prog 76 #[.agg #[.int .i64 9, .int .i64 a, .int .i64 b, .int .i64 c, .int .i64 k], .agg (stC s)] w fun e w' => e = .returned (.tuple #[.agg (plC true s), .agg (plC false zeroS)]) /\ Below w.heap.size w w' := by
 have hk := Kn.nil [] w
 go_enter Tryz.func76, Tryz.ntmps76
 go_wp2_with ((with_reducible apply gL); (first | refine wS hk ?_ | (refine wN hk ?_; clear hk; intro w1 hk)); simp only [pw])
 refine wp_reg6 hk (.op 0 (.op 1 (.op 2 (.op 3 .nil)))) (fun i => decide (i < 3)) mixT (by decide) (by kernel_rfl) (by kernel_rfl) ?_; clear hk; intro w1 hk
 (repeat (refine sV hk.pick6 ?_; simp only [pw]))
 refine sStore hk ?_; clear hk; intro w1 hk; refine ⟨fun _ => hk.pick6, ?_⟩; simp only [pw]
 (refine sStore hk ?_; clear hk; intro w1 hk; refine ⟨fun h => absurd h (by decide), ?_⟩; simp only [pw])
 refine tNil ?_
 go_wp2_with ((with_reducible apply gL); (first | refine wS hk ?_ | (refine wN hk ?_; clear hk; intro w1 hk)); simp only [pw])
 exact post_2 rfl (by rfl) (hk.at mm) (rowT_of (by rfl)) (by rfl) (by rfl) (hk.at mm) (rowT_of (by rfl)) (by rfl) rfl ⟨rfl, hk.mod.below⟩
theorem rf_bc10e (a : Int) (c k : Int) (s : St) (w : World) : Calls Tryz.prog 76 #[.agg #[.int .i64 10, .int .i64 a, .int .i64 a, .int .i64 c, .int .i64 k], .agg (stC s)] w fun e w' => e = .returned (.tuple #[.agg (plC false zeroS), .agg (plC true s)]) /\ Below w.heap.size w w' := by
 have hk := Kn.nil [] w
 go_enter Tryz.func76, Tryz.ntmps76
 go_wp2_with ((with_reducible apply gL); (first | refine wS hk ?_ | (refine wN hk ?_; clear hk; intro w1 hk)); simp only [pw])
 refine wp_reg6 hk (.op 0 (.op 1 (.op 2 (.op 3 .nil)))) (fun i => decide (i < 3)) mixT (by decide) (by kernel_rfl) (by kernel_rfl) ?_; clear hk; intro w1 hk
 (repeat (refine sV hk.pick6 ?_; simp only [pw]))
 refine sStore hk ?_; clear hk; intro w1 hk; refine ⟨fun _ => hk.pick6, ?_⟩; simp only [pw]
 (refine sStore hk ?_; clear hk; intro w1 hk; refine ⟨fun h => absurd h (by decide), ?_⟩; simp only [pw])
 refine tNil ?_
 go_wp2_with ((with_reducible apply gL); (first | refine wS hk ?_ | (refine wN hk ?_; clear hk; intro w1 hk)); simp only [pw])
 exact post_2 rfl (by rfl) (hk.at mm) (rowT_of (by rfl)) (by rfl) (by rfl) (hk.at mm) (rowT_of (by rfl)) (by rfl) rfl ⟨rfl, hk.mod.below⟩
theorem rf_bc11e (a : Int) (c k : Int) (s : St) (w : World) : Calls Tryz.prog 76 #[.agg #[.int .i64 11, .int .i64 a, .int .i64 a, .int .i64 c, .int .i64 k], .agg (stC s)] w fun e w' => e = .returned (.tuple #[.agg (plC true s), .agg (plC false zeroS)]) /\ Below w.heap.size w w' := by
 have hk := Kn.nil [] w
 go_enter Tryz.func76, Tryz.ntmps76
 go_wp2_with ((with_reducible apply gL); (first | refine wS hk ?_ | (refine wN hk ?_; clear hk; intro w1 hk)); simp only [pw])
 refine wp_reg6 hk (.op 0 (.op 1 (.op 2 (.op 3 .nil)))) (fun i => decide (i < 3)) mixT (by decide) (by kernel_rfl) (by kernel_rfl) ?_; clear hk; intro w1 hk
 (repeat (refine sV hk.pick6 ?_; simp only [pw]))
 refine sStore hk ?_; clear hk; intro w1 hk; refine ⟨fun _ => hk.pick6, ?_⟩; simp only [pw]
 (refine sStore hk ?_; clear hk; intro w1 hk; refine ⟨fun h => absurd h (by decide), ?_⟩; simp only [pw])
 refine tNil ?_
 go_wp2_with ((with_reducible apply gL); (first | refine wS hk ?_ | (refine wN hk ?_; clear hk; intro w1 hk)); simp only [pw])
 exact post_2 rfl (by rfl) (hk.at mm) (rowT_of (by rfl)) (by rfl) (by rfl) (hk.at mm) (rowT_of (by rfl)) (by rfl) rfl ⟨rfl, hk.mod.below⟩
theorem rf_bc10 (a b : Nat) (hab : ((a : Int) == (b : Int)) = false) (c k : Int) (s : St) (b1 b2 : Bool) (s1 s2 : St) (H : ∀ w, Calls Tryz.prog 90 #[.agg (stC s), .int .i64 a, .int .i64 b] w fun e w' => e = .returned (.tuple #[.agg (plC b1 s1), .agg (plC b2 s2)]) /\ Below w.heap.size w w') (w : World) : Calls Tryz.prog 76 #[.agg #[.int .i64 10, .int .i64 a, .int .i64 b, .int .i64 c, .int .i64 k], .agg (stC s)] w fun e w' => e = .returned (.tuple #[.agg (plC b1 s1), .agg (plC b2 s2)]) /\ Below w.heap.size w w' := by
 have hk := Kn.nil [] w
 go_enter Tryz.func76, Tryz.ntmps76
 go_wp2_with (first | (go_at_call 90; refine (H _).mono ?_; rintro e w1 ⟨rfl, hb⟩; replace hk := hk.call hb; clear hb) | ((with_reducible apply gL); (first | refine wS hk ?_ | (refine wN hk ?_; clear hk; intro w1 hk)); simp only [pw]))
 exact post_2 rfl (by rfl) (hk.at mm) (rowT_of (by rfl)) (by rfl) (by rfl) (hk.at mm) (rowT_of (by rfl)) (by rfl) rfl ⟨rfl, hk.mod.below⟩
theorem rf_bc11 (a b : Nat) (hab : ((a : Int) == (b : Int)) = false) (c k : Int) (s : St) (b1 b2 : Bool) (s1 s2 : St) (H : ∀ w, Calls Tryz.prog 91 #[.agg (stC s), .int .i64 a, .int .i64 b] w fun e w' => e = .returned (.tuple #[.agg (plC b1 s1), .agg (plC b2 s2)]) /\ Below w.heap.size w w') (w : World) : Calls Tryz.prog 76 #[.agg #[.int .i64 11, .int .i64 a, .int .i64 b, .int .i64 c, .int .i64 k], .agg (stC s)] w fun e w' => e = .returned (.tuple #[.agg (plC b1 s1), .agg (plC b2 s2)]) /\ Below w.heap.size w w' := by
 have hk := Kn.nil [] w
 go_enter Tryz.func76, Tryz.ntmps76
 go_wp2_with (first | (go_at_call 91; refine (H _).mono ?_; rintro e w1 ⟨rfl, hb⟩; replace hk := hk.call hb; clear hb) | ((with_reducible apply gL); (first | refine wS hk ?_ | (refine wN hk ?_; clear hk; intro w1 hk)); simp only [pw]))
 exact post_2 rfl (by rfl) (hk.at mm) (rowT_of (by rfl)) (by rfl) (by rfl) (hk.at mm) (rowT_of (by rfl)) (by rfl) rfl ⟨rfl, hk.mod.below⟩
theorem rf_bcR (o : Int) (h0 : (o == 0) = false) (h1 : (o == 1) = false) (h2 : (o == 2) = false) (h7 : (o == 7) = false) (h8 : (o == 8) = false) (h9 : (o == 9) = false) (hA : (o == 10) = false) (hB : (o == 11) = false) (a b c : Nat) (ha : a < 8) (hb : b < 8) (hc : c < 8) (k : Int) (r : R2) (s : St) (H : ∀ w, Calls Tryz.prog 92 #[.int .i64 o, .agg (rgC (s b)), .agg (rgC (s c))] w fun e w' => e = .returned (.agg (rgC r)) /\ Below w.heap.size w w') (w : World) : Calls Tryz.prog 76 #[.agg #[.int .i64 o, .int .i64 a, .int .i64 b, .int .i64 c, .int .i64 k], .agg (stC s)] w fun e w' => e = .returned (.tuple #[.agg (plC false zeroS), .agg (plC true (updS s a r))]) /\ Below w.heap.size w w' := by
 have hk := Kn.nil [] w
 go_enter Tryz.func76, Tryz.ntmps76
 go_wp2_with ((with_reducible apply gL); (first | refine wS hk ?_ | (refine wN hk ?_; clear hk; intro w1 hk)); simp only [pw])
 refine wp_regDr hk (.op 0 (.op 1 (.op 2 (.op 3 (.op 4 (.op 5 (.op 6 (.op 7 (.op 8 (.op 9 (.op 10 (.op 11 (.op 13 (.op 12 (.op 14 (.op 15 .nil)))))))))))))))) (fun i => decide (i < 16)) mixT (by decide) (by kernel_rfl) (by kernel_rfl) ?_; clear hk; intro w1 hk
 (repeat (refine sV hk.drop ?_; simp only [pw]))
 (refine sCall ?_; intro K hK; go_step; go_at_call 92; refine (H _).mono ?_; rintro e w1 ⟨rfl, hb⟩; replace hk := hk.call hb; clear hb; refine hK _ _ (fun _ => kH hk) ?_; clear hK K)
 (repeat (refine sV hk.drop ?_; simp only [pw]))
 (refine sStore hk ?_; clear hk; intro w1 hk; refine ⟨fun _ => kH hk, ?_⟩; simp only [pw])
 refine tNil ?_
 go_wp2_with ((with_reducible apply gL); (first | refine wS hk ?_ | (refine wN hk ?_; clear hk; intro w1 hk)); simp only [pw])
 refine wp_reg6 hk (.op 0 (.op 1 (.op 2 (.op 3 .nil)))) (fun i => decide (i < 3)) mixT (by decide) (by kernel_rfl) (by kernel_rfl) ?_; clear hk; intro w1 hk
 (repeat (refine sV hk.pick6 ?_; simp only [pw]))
 refine sStore hk ?_; clear hk; intro w1 hk; refine ⟨fun _ => hk.pick6, ?_⟩; simp only [pw]
 (refine sStore hk ?_; clear hk; intro w1 hk; refine ⟨fun h => absurd h (by decide), ?_⟩; simp only [pw])
 refine tNil ?_
 go_wp2_with ((with_reducible apply gL); (first | refine wS hk ?_ | (refine wN hk ?_; clear hk; intro w1 hk)); simp only [pw])
 exact post_2 rfl (by rfl) (hk.at mm) (rowT_of (by rfl)) (by rfl) (by rfl) (hk.at mm) (rowT_of (by rfl)) (by rfl) rfl ⟨rfl, hk.mod.below⟩
end Go.Proofs.YtamiichlbmllcabGreatDoor
