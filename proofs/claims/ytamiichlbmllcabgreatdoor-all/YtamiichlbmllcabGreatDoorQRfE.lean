import Derived.Test.YtamiichlbmllcabGreatDoorQRfC
import Derived.Test.YtamiichlbmllcabGreatDoorQChF
set_option maxRecDepth 100000
set_option maxHeartbeats 32000000
namespace Go.Proofs.YtamiichlbmllcabGreatDoor
open Go.RowKit
theorem Kn.pick03 {M : List Nat} {w0 w : World} {r0 r1 r2 r3 : Nat × Array Value × TypeId} (h : Kn M w0 w [r0, r1, r2, r3]) : Kn M w0 w [r0, r3] := h.sub (.cons_cons _ (.cons _ (.cons _ (.cons_cons _ .slnil))))
theorem wp_reg03 {P : Program} {id : Nat} {l : List Oper} {Q : Exit -> Act -> World -> Prop} {a : Act} {w : World} {M : List Nat} {w0 : World} {r0 r1 r2 r3 : Nat × Array Value × TypeId} (hk : Kn M w0 w [r0, r1, r2, r3]) (t : OT) (F : Nat -> Bool) (hm : P.follows .mixedOrders = true) (hn : t.size <= l.length) (hsel : Region.noSelect l.toArray = true)
 (hv : okT l.toArray F t (Array.replicate l.length false) = true) (h : ∀ w1, Kn M w0 w1 [r0, r1, r2, r3] -> wpT P l Q F (fun wx => Kn M w0 wx [r0, r3]) t a w1) : (Code.region id l.toArray true).wp P Q a w := wp_regS hk _ t F hm hn hsel hv h
theorem rf_same1 (a b : Nat) (ha : a < 8) (hb : b < 8) (s : Nat -> R2) (lo hi : Int) (HLO : Hid (max (s a).lo (s b).lo = lo)) (HHI : Hid (min (s a).hi (s b).hi = hi)) (h1 : ((s a).lo == (s a).hi) = false) (w : World) : Calls Tryz.prog 91 #[.agg (stC s), .int .i64 a, .int .i64 b] w fun e w' => e = .returned (.tuple #[.agg (plC (decide (lo <= hi)) (updS (updS s a ⟨lo, hi⟩) b (updS s a ⟨lo, hi⟩ a))), .agg (plC (!false) s)]) /\ Below w.heap.size w w' := by
 have hk := Kn.nil [] w
 go_enter Tryz.func91, Tryz.ntmps91
 go_wp2_with ((with_reducible apply gL); (first | refine wS hk ?_ | (refine wN hk ?_; clear hk; intro w1 hk)); simp only [pw])
 (refine wp_regK hk (.op 0 (.op 1 (.op 2 (.op 3 (.op 4 (.op 5 (.op 6 (.op 7 (.op 8 (.op 9 .nil)))))))))) (fun i => decide (i < 10)) mixT (by decide) (by kernel_rfl) (by kernel_rfl) ?_; clear hk; intro w1 hk)
 (repeat (refine sV hk ?_; simp only [pw]))
 (refine sCall ?_; intro K hK; go_step; go_at_call 100; refine (rf_most _ _ _).mono ?_; rintro e w1 ⟨rfl, hb⟩; replace hk := hk.call hb; clear hb; refine hK _ _ (fun _ => kH hk) ?_; clear hK K)
 rw [HLO.out]
 (repeat (refine sV hk ?_; simp only [pw]))
 refine tNil ?_
 go_wp2_with ((with_reducible apply gL); (first | refine wS hk ?_ | (refine wN hk ?_; clear hk; intro w1 hk)); simp only [pw])
 (refine wp_regK hk (.op 0 (.op 1 (.op 2 (.op 3 (.op 4 (.op 5 (.op 6 (.op 7 (.op 8 (.op 9 .nil)))))))))) (fun i => decide (i < 10)) mixT (by decide) (by kernel_rfl) (by kernel_rfl) ?_; clear hk; intro w1 hk)
 (repeat (refine sV hk ?_; simp only [pw]))
 (refine sCall ?_; intro K hK; go_step; go_at_call 99; refine (rf_least _ _ _).mono ?_; rintro e w1 ⟨rfl, hb⟩; replace hk := hk.call hb; clear hb; refine hK _ _ (fun _ => kH hk) ?_; clear hK K)
 rw [HHI.out]
 (repeat (refine sV hk ?_; simp only [pw]))
 refine tNil ?_
 go_wp2_with ((with_reducible apply gL); (first | refine wS hk ?_ | (refine wN hk ?_; clear hk; intro w1 hk)); simp only [pw])
 (refine wp_regK hk (.op 0 (.op 1 (.op 2 (.op 3 (.op 4 (.op 5 (.op 6 (.op 7 (.op 8 (.op 9 (.op 10 (.op 11 (.op 12 (.op 13 (.op 14 (.op 15 (.op 16 (.op 17 (.op 18 (.op 19 (.op 20 (.op 21 (.op 22 (.op 23 (.op 24 (.op 25 (.op 26 (.op 27 (.op 28 (.op 29 (.op 30 (.op 31 .nil)))))))))))))))))))))))))))))))) (fun i => decide (i < 32)) mixT (by decide) (by kernel_rfl) (by kernel_rfl) ?_; clear hk; intro w1 hk)
 (repeat (refine sV hk ?_; simp only [pw]; (try rw [h1])))
 refine tNil ?_
 go_wp2_with ((with_reducible apply gL); (first | refine wS hk ?_ | (refine wN hk ?_; clear hk; intro w1 hk)); simp only [pw])
 refine wp_reg03 hk (.op 0 (.op 1 (.op 2 (.op 3 (.op 4 (.op 5 (.op 6 .nil))))))) (fun i => decide (i < 6)) mixT (by decide) (by kernel_rfl) (by kernel_rfl) ?_; clear hk; intro w1 hk
 (repeat (refine sV hk.pick03 ?_; simp only [pw]))
 refine sStore hk ?_; clear hk; intro w1 hk; refine ⟨fun _ => hk.pick03, ?_⟩; simp only [pw]
 (refine sStore hk ?_; clear hk; intro w1 hk; refine ⟨fun h => absurd h (by decide), ?_⟩; simp only [pw])
 refine tNil ?_
 go_wp2_with ((with_reducible apply gL); (first | refine wS hk ?_ | (refine wN hk ?_; clear hk; intro w1 hk)); simp only [pw])
 exact post_2 rfl (by rfl) (hk.at mm) (rowT_of (by rfl)) (by rfl) (by rfl) (hk.at mm) (rowT_of (by rfl)) (by rfl) rfl ⟨rfl, hk.mod.below⟩
theorem rf_same2 (a b : Nat) (ha : a < 8) (hb : b < 8) (s : Nat -> R2) (lo hi : Int) (HLO : Hid (max (s a).lo (s b).lo = lo)) (HHI : Hid (min (s a).hi (s b).hi = hi)) (h1 : ((s a).lo == (s a).hi) = true) (h2 : ((s b).lo == (s b).hi) = false) (w : World) : Calls Tryz.prog 91 #[.agg (stC s), .int .i64 a, .int .i64 b] w fun e w' => e = .returned (.tuple #[.agg (plC (decide (lo <= hi)) (updS (updS s a ⟨lo, hi⟩) b (updS s a ⟨lo, hi⟩ a))), .agg (plC (!false) s)]) /\ Below w.heap.size w w' := by
 have hk := Kn.nil [] w
 go_enter Tryz.func91, Tryz.ntmps91
 go_wp2_with ((with_reducible apply gL); (first | refine wS hk ?_ | (refine wN hk ?_; clear hk; intro w1 hk)); simp only [pw])
 (refine wp_regK hk (.op 0 (.op 1 (.op 2 (.op 3 (.op 4 (.op 5 (.op 6 (.op 7 (.op 8 (.op 9 .nil)))))))))) (fun i => decide (i < 10)) mixT (by decide) (by kernel_rfl) (by kernel_rfl) ?_; clear hk; intro w1 hk)
 (repeat (refine sV hk ?_; simp only [pw]))
 (refine sCall ?_; intro K hK; go_step; go_at_call 100; refine (rf_most _ _ _).mono ?_; rintro e w1 ⟨rfl, hb⟩; replace hk := hk.call hb; clear hb; refine hK _ _ (fun _ => kH hk) ?_; clear hK K)
 rw [HLO.out]
 (repeat (refine sV hk ?_; simp only [pw]))
 refine tNil ?_
 go_wp2_with ((with_reducible apply gL); (first | refine wS hk ?_ | (refine wN hk ?_; clear hk; intro w1 hk)); simp only [pw])
 (refine wp_regK hk (.op 0 (.op 1 (.op 2 (.op 3 (.op 4 (.op 5 (.op 6 (.op 7 (.op 8 (.op 9 .nil)))))))))) (fun i => decide (i < 10)) mixT (by decide) (by kernel_rfl) (by kernel_rfl) ?_; clear hk; intro w1 hk)
 (repeat (refine sV hk ?_; simp only [pw]))
 (refine sCall ?_; intro K hK; go_step; go_at_call 99; refine (rf_least _ _ _).mono ?_; rintro e w1 ⟨rfl, hb⟩; replace hk := hk.call hb; clear hb; refine hK _ _ (fun _ => kH hk) ?_; clear hK K)
 rw [HHI.out]
 (repeat (refine sV hk ?_; simp only [pw]))
 refine tNil ?_
 go_wp2_with ((with_reducible apply gL); (first | refine wS hk ?_ | (refine wN hk ?_; clear hk; intro w1 hk)); simp only [pw])
 (refine wp_regK hk (.op 0 (.op 1 (.op 2 (.op 3 (.op 4 (.op 5 (.op 6 (.op 7 (.op 8 (.op 9 (.op 10 (.op 11 (.op 12 (.op 13 (.op 14 (.op 15 (.op 16 (.op 17 (.op 18 (.op 19 (.op 20 (.op 21 (.op 22 (.op 23 (.op 24 (.op 25 (.op 26 (.op 27 (.op 28 (.op 29 (.op 30 (.op 31 .nil)))))))))))))))))))))))))))))))) (fun i => decide (i < 32)) mixT (by decide) (by kernel_rfl) (by kernel_rfl) ?_; clear hk; intro w1 hk)
 (repeat (refine sV hk ?_; simp only [pw]; (try rw [h1]); (try rw [h2])))
 refine tNil ?_
 go_wp2_with ((with_reducible apply gL); (first | refine wS hk ?_ | (refine wN hk ?_; clear hk; intro w1 hk)); simp only [pw])
 refine wp_reg03 hk (.op 0 (.op 1 (.op 2 (.op 3 (.op 4 (.op 5 (.op 6 .nil))))))) (fun i => decide (i < 6)) mixT (by decide) (by kernel_rfl) (by kernel_rfl) ?_; clear hk; intro w1 hk
 (repeat (refine sV hk.pick03 ?_; simp only [pw]))
 refine sStore hk ?_; clear hk; intro w1 hk; refine ⟨fun _ => hk.pick03, ?_⟩; simp only [pw]
 (refine sStore hk ?_; clear hk; intro w1 hk; refine ⟨fun h => absurd h (by decide), ?_⟩; simp only [pw])
 refine tNil ?_
 go_wp2_with ((with_reducible apply gL); (first | refine wS hk ?_ | (refine wN hk ?_; clear hk; intro w1 hk)); simp only [pw])
 exact post_2 rfl (by rfl) (hk.at mm) (rowT_of (by rfl)) (by rfl) (by rfl) (hk.at mm) (rowT_of (by rfl)) (by rfl) rfl ⟨rfl, hk.mod.below⟩
theorem rf_same3 (a b : Nat) (ha : a < 8) (hb : b < 8) (s : Nat -> R2) (lo hi : Int) (HLO : Hid (max (s a).lo (s b).lo = lo)) (HHI : Hid (min (s a).hi (s b).hi = hi)) (h1 : ((s a).lo == (s a).hi) = true) (h2 : ((s b).lo == (s b).hi) = true) (h3 : ((s a).lo == (s b).lo) = false) (w : World) : Calls Tryz.prog 91 #[.agg (stC s), .int .i64 a, .int .i64 b] w fun e w' => e = .returned (.tuple #[.agg (plC (decide (lo <= hi)) (updS (updS s a ⟨lo, hi⟩) b (updS s a ⟨lo, hi⟩ a))), .agg (plC (!false) s)]) /\ Below w.heap.size w w' := by
 have hk := Kn.nil [] w
 go_enter Tryz.func91, Tryz.ntmps91
 go_wp2_with ((with_reducible apply gL); (first | refine wS hk ?_ | (refine wN hk ?_; clear hk; intro w1 hk)); simp only [pw])
 (refine wp_regK hk (.op 0 (.op 1 (.op 2 (.op 3 (.op 4 (.op 5 (.op 6 (.op 7 (.op 8 (.op 9 .nil)))))))))) (fun i => decide (i < 10)) mixT (by decide) (by kernel_rfl) (by kernel_rfl) ?_; clear hk; intro w1 hk)
 (repeat (refine sV hk ?_; simp only [pw]))
 (refine sCall ?_; intro K hK; go_step; go_at_call 100; refine (rf_most _ _ _).mono ?_; rintro e w1 ⟨rfl, hb⟩; replace hk := hk.call hb; clear hb; refine hK _ _ (fun _ => kH hk) ?_; clear hK K)
 rw [HLO.out]
 (repeat (refine sV hk ?_; simp only [pw]))
 refine tNil ?_
 go_wp2_with ((with_reducible apply gL); (first | refine wS hk ?_ | (refine wN hk ?_; clear hk; intro w1 hk)); simp only [pw])
 (refine wp_regK hk (.op 0 (.op 1 (.op 2 (.op 3 (.op 4 (.op 5 (.op 6 (.op 7 (.op 8 (.op 9 .nil)))))))))) (fun i => decide (i < 10)) mixT (by decide) (by kernel_rfl) (by kernel_rfl) ?_; clear hk; intro w1 hk)
 (repeat (refine sV hk ?_; simp only [pw]))
 (refine sCall ?_; intro K hK; go_step; go_at_call 99; refine (rf_least _ _ _).mono ?_; rintro e w1 ⟨rfl, hb⟩; replace hk := hk.call hb; clear hb; refine hK _ _ (fun _ => kH hk) ?_; clear hK K)
 rw [HHI.out]
 (repeat (refine sV hk ?_; simp only [pw]))
 refine tNil ?_
 go_wp2_with ((with_reducible apply gL); (first | refine wS hk ?_ | (refine wN hk ?_; clear hk; intro w1 hk)); simp only [pw])
 (refine wp_regK hk (.op 0 (.op 1 (.op 2 (.op 3 (.op 4 (.op 5 (.op 6 (.op 7 (.op 8 (.op 9 (.op 10 (.op 11 (.op 12 (.op 13 (.op 14 (.op 15 (.op 16 (.op 17 (.op 18 (.op 19 (.op 20 (.op 21 (.op 22 (.op 23 (.op 24 (.op 25 (.op 26 (.op 27 (.op 28 (.op 29 (.op 30 (.op 31 .nil)))))))))))))))))))))))))))))))) (fun i => decide (i < 32)) mixT (by decide) (by kernel_rfl) (by kernel_rfl) ?_; clear hk; intro w1 hk)
 (repeat (refine sV hk ?_; simp only [pw]; (try rw [h1]); (try rw [h2]); (try rw [h3])))
 refine tNil ?_
 go_wp2_with ((with_reducible apply gL); (first | refine wS hk ?_ | (refine wN hk ?_; clear hk; intro w1 hk)); simp only [pw])
 refine wp_reg03 hk (.op 0 (.op 1 (.op 2 (.op 3 (.op 4 (.op 5 (.op 6 .nil))))))) (fun i => decide (i < 6)) mixT (by decide) (by kernel_rfl) (by kernel_rfl) ?_; clear hk; intro w1 hk
 (repeat (refine sV hk.pick03 ?_; simp only [pw]))
 refine sStore hk ?_; clear hk; intro w1 hk; refine ⟨fun _ => hk.pick03, ?_⟩; simp only [pw]
 (refine sStore hk ?_; clear hk; intro w1 hk; refine ⟨fun h => absurd h (by decide), ?_⟩; simp only [pw])
 refine tNil ?_
 go_wp2_with ((with_reducible apply gL); (first | refine wS hk ?_ | (refine wN hk ?_; clear hk; intro w1 hk)); simp only [pw])
 exact post_2 rfl (by rfl) (hk.at mm) (rowT_of (by rfl)) (by rfl) (by rfl) (hk.at mm) (rowT_of (by rfl)) (by rfl) rfl ⟨rfl, hk.mod.below⟩
theorem rf_same4 (a b : Nat) (ha : a < 8) (hb : b < 8) (s : Nat -> R2) (lo hi : Int) (HLO : Hid (max (s a).lo (s b).lo = lo)) (HHI : Hid (min (s a).hi (s b).hi = hi)) (h1 : ((s a).lo == (s a).hi) = true) (h2 : ((s b).lo == (s b).hi) = true) (h3 : ((s a).lo == (s b).lo) = true) (w : World) : Calls Tryz.prog 91 #[.agg (stC s), .int .i64 a, .int .i64 b] w fun e w' => e = .returned (.tuple #[.agg (plC (decide (lo <= hi)) (updS (updS s a ⟨lo, hi⟩) b (updS s a ⟨lo, hi⟩ a))), .agg (plC (!true) s)]) /\ Below w.heap.size w w' := by
 have hk := Kn.nil [] w
 go_enter Tryz.func91, Tryz.ntmps91
 go_wp2_with ((with_reducible apply gL); (first | refine wS hk ?_ | (refine wN hk ?_; clear hk; intro w1 hk)); simp only [pw])
 (refine wp_regK hk (.op 0 (.op 1 (.op 2 (.op 3 (.op 4 (.op 5 (.op 6 (.op 7 (.op 8 (.op 9 .nil)))))))))) (fun i => decide (i < 10)) mixT (by decide) (by kernel_rfl) (by kernel_rfl) ?_; clear hk; intro w1 hk)
 (repeat (refine sV hk ?_; simp only [pw]))
 (refine sCall ?_; intro K hK; go_step; go_at_call 100; refine (rf_most _ _ _).mono ?_; rintro e w1 ⟨rfl, hb⟩; replace hk := hk.call hb; clear hb; refine hK _ _ (fun _ => kH hk) ?_; clear hK K)
 rw [HLO.out]
 (repeat (refine sV hk ?_; simp only [pw]))
 refine tNil ?_
 go_wp2_with ((with_reducible apply gL); (first | refine wS hk ?_ | (refine wN hk ?_; clear hk; intro w1 hk)); simp only [pw])
 (refine wp_regK hk (.op 0 (.op 1 (.op 2 (.op 3 (.op 4 (.op 5 (.op 6 (.op 7 (.op 8 (.op 9 .nil)))))))))) (fun i => decide (i < 10)) mixT (by decide) (by kernel_rfl) (by kernel_rfl) ?_; clear hk; intro w1 hk)
 (repeat (refine sV hk ?_; simp only [pw]))
 (refine sCall ?_; intro K hK; go_step; go_at_call 99; refine (rf_least _ _ _).mono ?_; rintro e w1 ⟨rfl, hb⟩; replace hk := hk.call hb; clear hb; refine hK _ _ (fun _ => kH hk) ?_; clear hK K)
 rw [HHI.out]
 (repeat (refine sV hk ?_; simp only [pw]))
 refine tNil ?_
 go_wp2_with ((with_reducible apply gL); (first | refine wS hk ?_ | (refine wN hk ?_; clear hk; intro w1 hk)); simp only [pw])
 (refine wp_regK hk (.op 0 (.op 1 (.op 2 (.op 3 (.op 4 (.op 5 (.op 6 (.op 7 (.op 8 (.op 9 (.op 10 (.op 11 (.op 12 (.op 13 (.op 14 (.op 15 (.op 16 (.op 17 (.op 18 (.op 19 (.op 20 (.op 21 (.op 22 (.op 23 (.op 24 (.op 25 (.op 26 (.op 27 (.op 28 (.op 29 (.op 30 (.op 31 .nil)))))))))))))))))))))))))))))))) (fun i => decide (i < 32)) mixT (by decide) (by kernel_rfl) (by kernel_rfl) ?_; clear hk; intro w1 hk)
 (repeat (refine sV hk ?_; simp only [pw]; (try rw [h1]); (try rw [h2]); (try rw [h3])))
 refine tNil ?_
 go_wp2_with ((with_reducible apply gL); (first | refine wS hk ?_ | (refine wN hk ?_; clear hk; intro w1 hk)); simp only [pw])
 refine wp_reg03 hk (.op 0 (.op 1 (.op 2 (.op 3 (.op 4 (.op 5 (.op 6 .nil))))))) (fun i => decide (i < 6)) mixT (by decide) (by kernel_rfl) (by kernel_rfl) ?_; clear hk; intro w1 hk
 (repeat (refine sV hk.pick03 ?_; simp only [pw]))
 refine sStore hk ?_; clear hk; intro w1 hk; refine ⟨fun _ => hk.pick03, ?_⟩; simp only [pw]
 (refine sStore hk ?_; clear hk; intro w1 hk; refine ⟨fun h => absurd h (by decide), ?_⟩; simp only [pw])
 refine tNil ?_
 go_wp2_with ((with_reducible apply gL); (first | refine wS hk ?_ | (refine wN hk ?_; clear hk; intro w1 hk)); simp only [pw])
 exact post_2 rfl (by rfl) (hk.at mm) (rowT_of (by rfl)) (by rfl) (by rfl) (hk.at mm) (rowT_of (by rfl)) (by rfl) rfl ⟨rfl, hk.mod.below⟩
theorem rf_sameX {a b : Nat} {s : Nat -> R2} {lo hi : Int} {B B' : Bool} (h1 : max (s a).lo (s b).lo = lo) (h2 : min (s a).hi (s b).hi = hi) (hB : B = B') : Ending.returned (.tuple #[.agg (plC (decide (lo <= hi)) (updS (updS s a ⟨lo, hi⟩) b (updS s a ⟨lo, hi⟩ a))), .agg (plC B s)]) = .returned (.tuple #[.agg (plC (!emptyR (comR (s a) (s b))) (updS (updS s a (comR (s a) (s b))) b (comR (s a) (s b)))), .agg (plC B' s)]) := by
 subst h1 h2 hB
 have e : updS s a (comR (s a) (s b)) a = comR (s a) (s b) := by unfold updS; simp
 have d : decide (max (s a).lo (s b).lo <= min (s a).hi (s b).hi) = !emptyR (comR (s a) (s b)) := by
  unfold emptyR comR
  by_cases h : max (s a).lo (s b).lo <= min (s a).hi (s b).hi
  · rw [decide_eq_true h, decide_eq_false (by simp only; omega)]; rfl
  · rw [decide_eq_false h, decide_eq_true (by simp only; omega)]; rfl
 rw [d]
 unfold comR at e ⊢
 rw [e]
theorem rf_same (a b : Nat) (ha : a < 8) (hb : b < 8) (s : Nat -> R2) (w : World) : Calls Tryz.prog 91 #[.agg (stC s), .int .i64 a, .int .i64 b] w fun e w' => e = .returned (.tuple #[.agg (plC (!emptyR (comR (s a) (s b))) (updS (updS s a (comR (s a) (s b))) b (comR (s a) (s b)))), .agg (plC (!oneR (s a) (s b)) s)]) /\ Below w.heap.size w w' := by
 cases h1 : ((s a).lo == (s a).hi) with
 | false => exact (rf_same1 a b ha hb s _ _ (hide rfl) (hide rfl) h1 w).mono fun e w' ⟨p, q⟩ => ⟨p.trans (rf_sameX rfl rfl (by rw [beq_eq_false_iff_ne] at h1; unfold oneR; rw [decide_eq_false (fun h => h1 h.2.2)])), q⟩
 | true => cases h2 : ((s b).lo == (s b).hi) with
   | false => exact (rf_same2 a b ha hb s _ _ (hide rfl) (hide rfl) h1 h2 w).mono fun e w' ⟨p, q⟩ => ⟨p.trans (rf_sameX rfl rfl (by rw [beq_eq_false_iff_ne] at h2; unfold oneR; rw [decide_eq_false (fun h => h2 (by omega))])), q⟩
   | true => cases h3 : ((s a).lo == (s b).lo) with
     | false => exact (rf_same3 a b ha hb s _ _ (hide rfl) (hide rfl) h1 h2 h3 w).mono fun e w' ⟨p, q⟩ => ⟨p.trans (rf_sameX rfl rfl (by rw [beq_eq_false_iff_ne] at h3; unfold oneR; rw [decide_eq_false (fun h => h3 h.1)])), q⟩
     | true => exact (rf_same4 a b ha hb s _ _ (hide rfl) (hide rfl) h1 h2 h3 w).mono fun e w' ⟨p, q⟩ => ⟨p.trans (rf_sameX rfl rfl (by rw [beq_iff_eq] at h1 h2 h3; unfold oneR; rw [decide_eq_true (by omega)])), q⟩
end Go.Proofs.YtamiichlbmllcabGreatDoor
