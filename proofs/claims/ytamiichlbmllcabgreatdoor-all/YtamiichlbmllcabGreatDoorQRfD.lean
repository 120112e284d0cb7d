import Derived.Test.YtamiichlbmllcabGreatDoorQRfC
import Derived.Test.YtamiichlbmllcabGreatDoorQLawB
set_option maxRecDepth 100000
set_option maxHeartbeats 32000000
namespace Go.Proofs.YtamiichlbmllcabGreatDoor
open Go.RowKit
def i5C (i : I5) : Array Value := #[.int .i64 i.o, .int .i64 i.a, .int .i64 i.b, .int .i64 i.c, .int .i64 i.k]
theorem rf_dang0 (o a b c k : Int) (h6 : (o == 6) = false) (h7 : (o == 7) = false) (h8 : (o == 8) = false) (s : St) (w : World) : Calls Tryz.prog 75 #[.agg #[.int .i64 o, .int .i64 a, .int .i64 b, .int .i64 c, .int .i64 k], .agg (stC s)] w fun e w' => e = .returned (.int .i64 0) /\ Below w.heap.size w w' := by
 have hk := Kn.nil [] w
 go_enter Tryz.func75, Tryz.ntmps75
 go_wp2_with ((with_reducible apply gL); (first | refine wS hk ?_ | (refine wN hk ?_; clear hk; intro w1 hk)); simp only [pw])
 go_ret
 exact ⟨rfl, hk.mod.below⟩
theorem rf_dang6a (a b k : Int) (c : Nat) (hc : c < 8) (s : St) (h1 : (s c).lo <= 0) (h2 : 0 <= (s c).hi) (w : World) : Calls Tryz.prog 75 #[.agg #[.int .i64 6, .int .i64 a, .int .i64 b, .int .i64 c, .int .i64 k], .agg (stC s)] w fun e w' => e = .returned (.int .i64 6) /\ Below w.heap.size w w' := by
 have hk := Kn.nil [] w
 go_enter Tryz.func75, Tryz.ntmps75
 go_wp2_with ((with_reducible apply gL); (first | refine wS hk ?_ | (refine wN hk ?_; clear hk; intro w1 hk)); simp only [pw])
 go_ret
 exact ⟨rfl, hk.mod.below⟩
theorem rf_dang6b (a b k : Int) (c : Nat) (hr : c < 8) (s : St) (h1 : ¬ (s c).lo <= 0) (w : World) : Calls Tryz.prog 75 #[.agg #[.int .i64 6, .int .i64 a, .int .i64 b, .int .i64 c, .int .i64 k], .agg (stC s)] w fun e w' => e = .returned (.int .i64 0) /\ Below w.heap.size w w' := by
 have hk := Kn.nil [] w
 go_enter Tryz.func75, Tryz.ntmps75
 go_wp2_with ((with_reducible apply gL); (first | refine wS hk ?_ | (refine wN hk ?_; clear hk; intro w1 hk)); simp only [pw])
 go_ret
 exact ⟨rfl, hk.mod.below⟩
theorem rf_dang6c (a b k : Int) (c : Nat) (hr : c < 8) (s : St) (h1 : (s c).lo <= 0) (h2 : ¬ 0 <= (s c).hi) (w : World) : Calls Tryz.prog 75 #[.agg #[.int .i64 6, .int .i64 a, .int .i64 b, .int .i64 c, .int .i64 k], .agg (stC s)] w fun e w' => e = .returned (.int .i64 0) /\ Below w.heap.size w w' := by
 have hk := Kn.nil [] w
 go_enter Tryz.func75, Tryz.ntmps75
 go_wp2_with ((with_reducible apply gL); (first | refine wS hk ?_ | (refine wN hk ?_; clear hk; intro w1 hk)); simp only [pw])
 go_ret
 exact ⟨rfl, hk.mod.below⟩
theorem rf_dang7a (a c k : Int) (b : Nat) (hr : b < 8) (s : St) (h1 : (s b).lo < 0) (w : World) : Calls Tryz.prog 75 #[.agg #[.int .i64 7, .int .i64 a, .int .i64 b, .int .i64 c, .int .i64 k], .agg (stC s)] w fun e w' => e = .returned (.int .i64 7) /\ Below w.heap.size w w' := by
 have hk := Kn.nil [] w
 go_enter Tryz.func75, Tryz.ntmps75
 go_wp2_with ((with_reducible apply gL); (first | refine wS hk ?_ | (refine wN hk ?_; clear hk; intro w1 hk)); simp only [pw])
 go_ret
 exact ⟨rfl, hk.mod.below⟩
theorem rf_dang7b (a c k : Int) (b : Nat) (hr : b < 8) (s : St) (h1 : ¬ (s b).lo < 0) (h2 : 16 <= (s b).hi) (w : World) : Calls Tryz.prog 75 #[.agg #[.int .i64 7, .int .i64 a, .int .i64 b, .int .i64 c, .int .i64 k], .agg (stC s)] w fun e w' => e = .returned (.int .i64 7) /\ Below w.heap.size w w' := by
 have hk := Kn.nil [] w
 go_enter Tryz.func75, Tryz.ntmps75
 go_wp2_with ((with_reducible apply gL); (first | refine wS hk ?_ | (refine wN hk ?_; clear hk; intro w1 hk)); simp only [pw])
 go_ret
 exact ⟨rfl, hk.mod.below⟩
theorem rf_dang7c (a c k : Int) (b : Nat) (hr : b < 8) (s : St) (h1 : ¬ (s b).lo < 0) (h2 : ¬ 16 <= (s b).hi) (w : World) : Calls Tryz.prog 75 #[.agg #[.int .i64 7, .int .i64 a, .int .i64 b, .int .i64 c, .int .i64 k], .agg (stC s)] w fun e w' => e = .returned (.int .i64 0) /\ Below w.heap.size w w' := by
 have hk := Kn.nil [] w
 go_enter Tryz.func75, Tryz.ntmps75
 go_wp2_with ((with_reducible apply gL); (first | refine wS hk ?_ | (refine wN hk ?_; clear hk; intro w1 hk)); simp only [pw])
 go_ret
 exact ⟨rfl, hk.mod.below⟩
theorem rf_dang8a (b c k : Int) (a : Nat) (hr : a < 8) (s : St) (h1 : (s a).lo < 0) (w : World) : Calls Tryz.prog 75 #[.agg #[.int .i64 8, .int .i64 a, .int .i64 b, .int .i64 c, .int .i64 k], .agg (stC s)] w fun e w' => e = .returned (.int .i64 7) /\ Below w.heap.size w w' := by
 have hk := Kn.nil [] w
 go_enter Tryz.func75, Tryz.ntmps75
 go_wp2_with ((with_reducible apply gL); (first | refine wS hk ?_ | (refine wN hk ?_; clear hk; intro w1 hk)); simp only [pw])
 go_ret
 exact ⟨rfl, hk.mod.below⟩
theorem rf_dang8b (b c k : Int) (a : Nat) (hr : a < 8) (s : St) (h1 : ¬ (s a).lo < 0) (h2 : 16 <= (s a).hi) (w : World) : Calls Tryz.prog 75 #[.agg #[.int .i64 8, .int .i64 a, .int .i64 b, .int .i64 c, .int .i64 k], .agg (stC s)] w fun e w' => e = .returned (.int .i64 7) /\ Below w.heap.size w w' := by
 have hk := Kn.nil [] w
 go_enter Tryz.func75, Tryz.ntmps75
 go_wp2_with ((with_reducible apply gL); (first | refine wS hk ?_ | (refine wN hk ?_; clear hk; intro w1 hk)); simp only [pw])
 go_ret
 exact ⟨rfl, hk.mod.below⟩
theorem rf_dang8c (b c k : Int) (a : Nat) (hr : a < 8) (s : St) (h1 : ¬ (s a).lo < 0) (h2 : ¬ 16 <= (s a).hi) (w : World) : Calls Tryz.prog 75 #[.agg #[.int .i64 8, .int .i64 a, .int .i64 b, .int .i64 c, .int .i64 k], .agg (stC s)] w fun e w' => e = .returned (.int .i64 0) /\ Below w.heap.size w w' := by
 have hk := Kn.nil [] w
 go_enter Tryz.func75, Tryz.ntmps75
 go_wp2_with ((with_reducible apply gL); (first | refine wS hk ?_ | (refine wN hk ?_; clear hk; intro w1 hk)); simp only [pw])
 go_ret
 exact ⟨rfl, hk.mod.below⟩
theorem rf_danger (i : I5) (N : Nat) (hfit : i.fits N = true) (s : St) (w : World) : Calls Tryz.prog 75 #[.agg (i5C i), .agg (stC s)] w fun e w' => e = .returned (.int .i64 (dangR i s)) /\ Below w.heap.size w w' := by
 have hc := fit_cases hfit
 obtain ⟨op, a, b, c, k⟩ := i
 simp only at hc
 rcases hc with rfl | ⟨rfl, _⟩ | ⟨rfl, _⟩ | ⟨rfl, _⟩ | ⟨rfl, _⟩ | ⟨rfl, _⟩ | ⟨rfl, ha, hb, hc⟩ | ⟨rfl, ha, hb⟩ | ⟨rfl, ha, hb⟩ | ⟨rfl, _⟩ | ⟨rfl, _⟩ | ⟨rfl, _⟩
 · exact rf_dang0 _ a b c k rfl rfl rfl s w
 · exact rf_dang0 _ a b c k rfl rfl rfl s w
 · exact rf_dang0 _ a b c k rfl rfl rfl s w
 · exact rf_dang0 _ a b c k rfl rfl rfl s w
 · exact rf_dang0 _ a b c k rfl rfl rfl s w
 · exact rf_dang0 _ a b c k rfl rfl rfl s w
 · obtain ⟨c, hc', rfl⟩ := hc.nat
   by_cases h1 : (s c).lo <= 0
   · by_cases h2 : 0 <= (s c).hi
     · exact (rf_dang6a a b k c hc' s h1 h2 w).mono fun e w' ⟨h3, h4⟩ => ⟨h3.trans (ret_i64 (by unfold dangR hasR; simp [h1, h2])), h4⟩
     · exact (rf_dang6c a b k c hc' s h1 h2 w).mono fun e w' ⟨h3, h4⟩ => ⟨h3.trans (ret_i64 (by unfold dangR hasR; simp; omega)), h4⟩
   · exact (rf_dang6b a b k c hc' s h1 w).mono fun e w' ⟨h3, h4⟩ => ⟨h3.trans (ret_i64 (by unfold dangR hasR; simp; omega)), h4⟩
 · obtain ⟨b, hr', rfl⟩ := hb.nat
   by_cases h1 : (s b).lo < 0
   · exact (rf_dang7a a c k b hr' s h1 w).mono fun e w' ⟨h3, h4⟩ => ⟨h3.trans (ret_i64 (by unfold dangR inRg; simp; omega)), h4⟩
   · by_cases h2 : 16 <= (s b).hi
     · exact (rf_dang7b a c k b hr' s h1 h2 w).mono fun e w' ⟨h3, h4⟩ => ⟨h3.trans (ret_i64 (by unfold dangR inRg; simp; omega)), h4⟩
     · exact (rf_dang7c a c k b hr' s h1 h2 w).mono fun e w' ⟨h3, h4⟩ => ⟨h3.trans (ret_i64 (by unfold dangR inRg; simp; omega)), h4⟩
 · obtain ⟨a, hr', rfl⟩ := ha.nat
   by_cases h1 : (s a).lo < 0
   · exact (rf_dang8a b c k a hr' s h1 w).mono fun e w' ⟨h3, h4⟩ => ⟨h3.trans (ret_i64 (by unfold dangR inRg; simp; omega)), h4⟩
   · by_cases h2 : 16 <= (s a).hi
     · exact (rf_dang8b b c k a hr' s h1 h2 w).mono fun e w' ⟨h3, h4⟩ => ⟨h3.trans (ret_i64 (by unfold dangR inRg; simp; omega)), h4⟩
     · exact (rf_dang8c b c k a hr' s h1 h2 w).mono fun e w' ⟨h3, h4⟩ => ⟨h3.trans (ret_i64 (by unfold dangR inRg; simp; omega)), h4⟩
 · exact rf_dang0 _ a b c k rfl rfl rfl s w
 · exact rf_dang0 _ a b c k rfl rfl rfl s w
 · exact rf_dang0 _ a b c k rfl rfl rfl s w
end Go.Proofs.YtamiichlbmllcabGreatDoor
