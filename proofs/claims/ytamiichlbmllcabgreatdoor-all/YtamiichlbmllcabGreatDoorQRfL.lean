import Derived.Test.YtamiichlbmllcabGreatDoorQRfJ
import Derived.Test.YtamiichlbmllcabGreatDoorQRfK
set_option maxRecDepth 100000
set_option maxHeartbeats 32000000
namespace Go.Proofs.YtamiichlbmllcabGreatDoor
open Go.RowKit
def BecP (i : I5) (s : St) (b1 : Bool) (s1 : St) (b2 : Bool) (s2 : St) : Prop :=
 wayO b1 s1 = flowFar i s /\ wayO b2 s2 = flowOn i s /\ ∀ w, Calls Tryz.prog 76 #[.agg (i5C i), .agg (stC s)] w fun e w' => e = .returned (.tuple #[.agg (plC b1 s1), .agg (plC b2 s2)]) /\ Below w.heap.size w w'
theorem rf_becomes (i : I5) (N : Nat) (hfit : i.fits N = true) (s : St) (hs : s.ok) (h64 : s.in64) : ∃ b1 s1 b2 s2, BecP i s b1 s1 b2 s2 := by
 have hcs := fit_cases hfit
 clear hfit
 obtain ⟨o, a, b, c, k⟩ := i
 simp only at hcs
 unfold BecP
 rcases hcs with rfl | ⟨rfl, ha⟩ | ⟨rfl, ha, hb⟩ | ⟨rfl, ha, hb, hc⟩ | ⟨rfl, ha, hb, hc⟩ | ⟨rfl, ha, hb, hc⟩ | ⟨rfl, ha, hb, hc⟩ | ⟨rfl, ha, hb⟩ | ⟨rfl, ha, hb⟩ | ⟨rfl, _, _⟩ | ⟨rfl, ha, hb, _, _⟩ | ⟨rfl, ha, hb, _, _⟩
 · exact ⟨_, _, _, _, rfl, rfl, fun w => rf_bc0 a b c k s w⟩
 · obtain ⟨a, ha8, rfl⟩ := ha.nat
   exact ⟨_, _, _, _, rfl, rfl, fun w => rf_bc1 a ha8 b c k s w⟩
 · obtain ⟨a, ha8, rfl⟩ := ha.nat
   obtain ⟨b, hb8, rfl⟩ := hb.nat
   exact ⟨_, _, _, _, rfl, rfl, fun w => rf_bc2 a b ha8 hb8 c k s w⟩
 · obtain ⟨a, ha8, rfl⟩ := ha.nat
   obtain ⟨b, hb8, rfl⟩ := hb.nat
   obtain ⟨c, hc8, rfl⟩ := hc.nat
   exact ⟨_, _, _, _, rfl, rfl, fun w => rf_bcR 3 rfl rfl rfl rfl rfl rfl rfl rfl a b c ha8 hb8 hc8 k _ s (rf_add _ _ (h64 b hb8) (h64 c hc8)) w⟩
 · obtain ⟨a, ha8, rfl⟩ := ha.nat
   obtain ⟨b, hb8, rfl⟩ := hb.nat
   obtain ⟨c, hc8, rfl⟩ := hc.nat
   exact ⟨_, _, _, _, rfl, rfl, fun w => rf_bcR 4 rfl rfl rfl rfl rfl rfl rfl rfl a b c ha8 hb8 hc8 k _ s (rf_sub _ _ (h64 b hb8) (h64 c hc8)) w⟩
 · obtain ⟨a, ha8, rfl⟩ := ha.nat
   obtain ⟨b, hb8, rfl⟩ := hb.nat
   obtain ⟨c, hc8, rfl⟩ := hc.nat
   exact ⟨_, _, _, _, rfl, rfl, fun w => rf_bcR 5 rfl rfl rfl rfl rfl rfl rfl rfl a b c ha8 hb8 hc8 k _ s (rf_mul _ _) w⟩
 · obtain ⟨a, ha8, rfl⟩ := ha.nat
   obtain ⟨b, hb8, rfl⟩ := hb.nat
   obtain ⟨c, hc8, rfl⟩ := hc.nat
   exact ⟨_, _, _, _, rfl, rfl, fun w => rf_bcR 6 rfl rfl rfl rfl rfl rfl rfl rfl a b c ha8 hb8 hc8 k _ s (rf_div _ _ (h64 b hb8) (hs b hb8) (hs c hc8)) w⟩
 · obtain ⟨a, ha8, rfl⟩ := ha.nat
   exact ⟨_, _, _, _, rfl, rfl, fun w => rf_bc7 a ha8 b c k s w⟩
 · exact ⟨_, _, _, _, rfl, rfl, fun w => rf_bc8 a b c k s w⟩
 · exact ⟨_, _, _, _, rfl, rfl, fun w => rf_bc9 a b c k s w⟩
 · obtain ⟨a, ha8, rfl⟩ := ha.nat
   obtain ⟨b, hb8, rfl⟩ := hb.nat
   by_cases hab : a = b
   · subst hab
     exact ⟨_, _, _, _, by unfold flowFar; simp [wayO], by unfold flowOn; simp [wayO], fun w => rf_bc10e a c k s w⟩
   · have hne : ¬ ((a : Int) = (b : Int)) := by omega
     obtain ⟨b1, s1, b2, s2, h1, h2, h3⟩ := rf_less a b ha8 hb8 hab s hs h64
     exact ⟨b1, s1, b2, s2, by rw [h1]; unfold flowFar; simp [hne], by rw [h2]; unfold flowOn; simp [hne], fun w => rf_bc10 a b (by simpa using hne) c k s b1 b2 s1 s2 h3 w⟩
 · obtain ⟨a, ha8, rfl⟩ := ha.nat
   obtain ⟨b, hb8, rfl⟩ := hb.nat
   by_cases hab : a = b
   · subst hab
     exact ⟨_, _, _, _, by unfold flowFar; simp [wayO], by unfold flowOn; simp [wayO], fun w => rf_bc11e a c k s w⟩
   · have hne : ¬ ((a : Int) = (b : Int)) := by omega
     exact ⟨_, _, _, _, by rw [same_way]; unfold flowFar; simp [hne], by unfold flowOn wayO; by_cases h1 : oneR (s a) (s b) = true <;> simp [hne, h1], fun w => rf_bc11 a b (by simpa using hne) c k s _ _ _ _ (rf_same a b ha8 hb8 s) w⟩
end Go.Proofs.YtamiichlbmllcabGreatDoor
