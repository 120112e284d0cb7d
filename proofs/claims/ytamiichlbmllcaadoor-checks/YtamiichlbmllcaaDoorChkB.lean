/-
  The contracts of suretylaw.checks and suretylaw.Checks.
-/
import Derived.Test.YtamiichlbmllcaaDoorChkA
namespace Go.Proofs.YtamiichlbmllcaaDoor
open Go.RowKit
theorem slc_one {w : World} {g : Nat} {o a b c k : Int} (h : At w g #[.int .i64 o, .int .i64 a, .int .i64 b, .int .i64 c, .int .i64 k] 32) : Slc w (.slice (some ⟨g, 0, none⟩) 1 1) [⟨o, a, b, c, k⟩] := by
  refine Or.inr ⟨g, 0, 1, rfl, lt_of_block h, fun i hi => ?_⟩
  match i, hi with
  | 0, _ => refine ⟨?_, ?_, ?_, ?_, ?_⟩ <;> rw [cell_of_row _ _ _ _ _ _ h] <;> rfl
  | j + 1, hj => simp at hj
theorem wKnAlloc {P : Program} {ops : Array Oper} {rest : List Oper} {a : Act} {Q : Exit → Act → World → Prop} {M : List Nat} {w0 w : World} {L : RowL} {A : Array Value} {t : TypeId} (hk : Kn M w0 w L) (h : ∀ w1, Kn M w0 w1 ((w.heap.size, A, t) :: L) → wpList P ops Q rest a w1) : wpList P ops Q rest a (w.alloc (.cells A t)) := h _ (hk.alloc A t)
theorem scheck_halt : scheckR [⟨0, 0, 0, 0, 0⟩] zeroS [] = (0, 0) := by kernel_rfl
theorem scheck_set : scheckR [⟨1, 1, 0, 0, 0⟩] zeroS [] = (8, 1) := by kernel_rfl
theorem in64_one {o a b c k : Int} (hk : I64 k) : In64 [⟨o, a, b, c, k⟩] zeroS [] := ⟨fun i hi => by match i, hi with | 0, _ => exact hk | j + 1, hj => simp at hj, fun j _ => by unfold zeroS R2.in64 I64; simp, fun i hi => by simp at hi⟩
theorem build_op (p q : Option Addr) (a b c d : Nat) (s : St) (w : World) : (Instr.build 44 [(3, .slice p a b), (5, .agg (stC s)), (6, .slice q c d)].toArray).run Tryd.prog w = .ok (.agg (opC (.int .i64 0) (.int .i64 0) (.int .i64 0) (.slice p a b) (.string ⟨#[]⟩) s (.slice q c d) (fun _ => .int .i64 0))) w := run_build w _ _ _ (by kernel_rfl)
set_option maxHeartbeats 2000000 in
set_option maxRecDepth 100000 in
theorem lawChecks_any (w : World) (hs : Shapes w) : Calls Tryd.prog 10 #[] w fun x w' => x = .returned (.bool true) ∧ Below w.heap.size w w' := by
  have hk := Kn.nil [] w
  have HS := hide hs
  clear hs
  go_enter Tryd.func10, Tryd.ntmps10
  go_wp2_with (first | (refine wKnAlloc hk ?_; clear hk; intro w1 hk) | (go_at_call 15; first | (refine (SCheck_any [⟨0, 0, 0, 0, 0⟩] zeroS [] (in64_one (by unfold I64; omega)) (by decide) _ _ _ (HS.out.below hk.mod.below HS.out.1) (slc_one (hk.at List.mem_cons_self)) (Or.inl ⟨⟨_, _, rfl⟩, rfl⟩)).mono ?_; rintro e w1 ⟨rfl, hb⟩; replace hk := hk.call hb; clear hb; rw [scheck_halt]) | (refine (SCheck_any [⟨1, 1, 0, 0, 0⟩] zeroS [] (in64_one (by unfold I64; omega)) (by decide) _ _ _ (HS.out.below hk.mod.below HS.out.1) (slc_one (hk.at List.mem_cons_self)) (Or.inl ⟨⟨_, _, rfl⟩, rfl⟩)).mono ?_; rintro e w1 ⟨rfl, hb⟩; replace hk := hk.call hb; clear hb; rw [scheck_set])) | ((with_reducible show wpList _ _ _ _ _ _); (first | ((with_reducible show wpList _ _ _ (⟨_, _, _, _, _, some _⟩ :: _) _ _); refine wpList_skip (by rfl) ?_; simp only [Act.put, List.setIfInBounds_toArray, List.set_cons_succ, List.set_cons_zero]) | ((first | refine wBuild hk ?_ | refine wFieldZ hk ?_ | refine wField0 hk ?_ | refine wField hk ?_ | refine wIndexA0 hk ?_ | refine wIndexS0 hk ?_ | refine wIndexA hk ?_ | refine wIndexS hk ?_ | refine wLoadR hk ?_ | refine wLoad1 hk ?_ | refine wOldR hk ?_ | refine wOld1 hk ?_ | refine wOldC hk ?_ | refine wOldG hk ?_ | refine wAssertY hk ?_ | refine wAssertN hk ?_); simp only [Act.put, List.setIfInBounds_toArray, List.set_cons_succ, List.set_cons_zero]) | ((first | refine wBox hk ?_ | refine wBox1I hk ?_ | refine wBox1B hk ?_ | refine wBox1S hk ?_ | refine wBox1P hk ?_ | refine wBox1F hk ?_ | refine wAllocR hk ?_ | refine wAlloc1 hk ?_ | refine wMake hk ?_); clear hk; intro w1 hk; simp only [Act.put, List.setIfInBounds_toArray, List.set_cons_succ, List.set_cons_zero]) | ((first | refine wStoreR hk ?_ | refine wStore1I hk ?_ | refine wStore1B hk ?_ | refine wStore1S hk ?_ | refine wStore1P hk ?_ | refine wStore1F hk ?_); clear hk; intro w1 hk; simp only [Act.put]))))
  go_ret
  exact ⟨rfl, hk.mod.below⟩
set_option maxHeartbeats 2000000 in
set_option maxRecDepth 100000 in
theorem Checks_any (l : List I5) (e : St) (cl : List C2) (h64 : In64 l e cl) (p q : Option Addr) (a b c d : Nat) (w : World) (hs : Shapes w) (hp : Arg w (.slice p a b) l) (hlen : l.length * 40 ≤ 140737488351232) (hc : ArgC w (.slice q c d) cl) (hcl : cl.length * 136 ≤ 140737488351232) :
    Calls Tryd.prog 4 #[.slice p a b, .agg (stC e), .slice q c d] w fun x w' => x = .returned (.bool true) ∧ Below w.heap.size w w' := by
  have hk := Kn.nil [] w
  have HS := hide hs
  have HP := hide hp
  have HC := hide hc
  have H64 := hide h64
  clear hs hp hc h64
  go_enter Tryd.func4, Tryd.ntmps4
  go_wp2_with (first | (refine wBuild hk ?_ (hb := build_op _ _ _ _ _ _ _ _); simp only [Act.put, List.setIfInBounds_toArray, List.set_cons_succ, List.set_cons_zero]) | (go_at_call 10; refine (lawChecks_any _ (HS.out.below hk.mod.below HS.out.1)).mono ?_; rintro e w1 ⟨rfl, hb⟩; replace hk := hk.call hb; clear hb) | (go_at_call 11; refine (checked_any l e cl H64.out _ _ _ _ _ _ _ _ (HS.out.below hk.mod.below HS.out.1) (HP.out.below hk.mod.below (Nat.le_refl _)) hlen (HC.out.below hk.mod.below (Nat.le_refl _)) hcl).mono ?_; rintro e w1 ⟨rfl, hb⟩; replace hk := hk.call hb; clear hb) | ((with_reducible show wpList _ _ _ _ _ _); (first | ((with_reducible show wpList _ _ _ (⟨_, _, _, _, _, some _⟩ :: _) _ _); refine wpList_skip (by rfl) ?_; simp only [Act.put, List.setIfInBounds_toArray, List.set_cons_succ, List.set_cons_zero]) | ((first | refine wBuild hk ?_ | refine wFieldZ hk ?_ | refine wField0 hk ?_ | refine wField hk ?_ | refine wIndexA0 hk ?_ | refine wIndexS0 hk ?_ | refine wIndexA hk ?_ | refine wIndexS hk ?_ | refine wLoadR hk ?_ | refine wLoad1 hk ?_ | refine wOldR hk ?_ | refine wOld1 hk ?_ | refine wOldC hk ?_ | refine wOldG hk ?_ | refine wAssertY hk ?_ | refine wAssertN hk ?_); simp only [Act.put, List.setIfInBounds_toArray, List.set_cons_succ, List.set_cons_zero]) | ((first | refine wBox hk ?_ | refine wBox1I hk ?_ | refine wBox1B hk ?_ | refine wBox1S hk ?_ | refine wBox1P hk ?_ | refine wBox1F hk ?_ | refine wAllocR hk ?_ | refine wAlloc1 hk ?_ | refine wMake hk ?_); clear hk; intro w1 hk; simp only [Act.put, List.setIfInBounds_toArray, List.set_cons_succ, List.set_cons_zero]) | ((first | refine wStoreR hk ?_ | refine wStore1I hk ?_ | refine wStore1B hk ?_ | refine wStore1S hk ?_ | refine wStore1P hk ?_ | refine wStore1F hk ?_); clear hk; intro w1 hk; simp only [Act.put]))))
  go_ret
  exact ⟨rfl, hk.mod.below⟩
end Go.Proofs.YtamiichlbmllcaaDoor
