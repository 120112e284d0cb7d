import Derived.Test.YtamiichlbmllcaaGreatDoorQRfA
import Derived.Test.YtamiichlbmllcaaGreatDoorQArm
/-
  suretyref.reckoned.
-/
namespace Go.Proofs.YtamiichlbmllcaaGreatDoor
open Go.RowKit
theorem inI_of {x : Int} (h : inI x = true) : -9223372036854775808 ≤ x ∧ x ≤ 9223372036854775807 := by
  unfold inI at h; simpa using h
theorem sumR_yes {b c : R2} (h : inI (b.lo + c.lo) = true) (h' : inI (b.hi + c.hi) = true) : sumR b c = ⟨b.lo + c.lo, b.hi + c.hi⟩ := by
  unfold sumR fitR; rw [h, h']; rfl
theorem difR_yes {b c : R2} (h : inI (b.lo - c.hi) = true) (h' : inI (b.hi - c.lo) = true) : difR b c = ⟨b.lo - c.hi, b.hi - c.lo⟩ := by
  unfold difR fitR; rw [h, h']; rfl
set_option maxHeartbeats 2000000 in
set_option maxRecDepth 100000 in
theorem rf_add (b c : R2) (hb : b.in64) (hc : c.in64) (w : World) : Calls Tryz.prog 118 #[.int .i64 3, .agg (rgC b), .agg (rgC c)] w fun e w' => e = .returned (.agg (rgC (sumR b c))) ∧ Below w.heap.size w w' := by
  have hk := Kn.nil [] w
  cases hx : inI (b.lo + c.lo) with
  | false =>
    have R : Hid (allR = sumR b c) := hide (by unfold sumR fitR; rw [hx]; rfl)
    rw [← R.out]
    have HX := hide hx
    clear hx
    cases hy : inI (b.hi + c.hi) with
    | false =>
      have HY := hide hy
      clear hy
      go_enter Tryz.func118, Tryz.ntmps118
      go_wp2_with (first | (go_at_call 126; refine (rf_plus _ _ (by first | exact hb.1 | exact hb.2) (by first | exact hc.1 | exact hc.2) _).mono ?_; rintro e w1 ⟨rfl, hb⟩; replace hk := hk.call hb; clear hb); (first | rw [HX.out] | rw [HY.out]) | (go_at_call 115; refine (rf_all _).mono ?_; rintro e w1 ⟨rfl, hb⟩; replace hk := hk.call hb; clear hb) | ((with_reducible show wpList _ _ _ _ _ _); (first | (refine wS hk ?_; simp only [Act.put, pw]) | (refine wN hk ?_; clear hk; intro w1 hk; simp only [Act.put, pw]) | (refine wT hk ?_; clear hk; intro w1 hk; simp only [Act.put]))))
      exact post_1 rfl (by rfl) (hk.at (by with_reducible repeat (first | exact List.mem_cons_self | apply List.mem_cons_of_mem))) (rowT_of (by rfl)) (by rfl) rfl ⟨rfl, hk.mod.below⟩
    | true =>
      have HY := hide hy
      clear hy
      go_enter Tryz.func118, Tryz.ntmps118
      go_wp2_with (first | (go_at_call 126; refine (rf_plus _ _ (by first | exact hb.1 | exact hb.2) (by first | exact hc.1 | exact hc.2) _).mono ?_; rintro e w1 ⟨rfl, hb⟩; replace hk := hk.call hb; clear hb); (first | rw [HX.out] | rw [HY.out]) | (go_at_call 115; refine (rf_all _).mono ?_; rintro e w1 ⟨rfl, hb⟩; replace hk := hk.call hb; clear hb) | ((with_reducible show wpList _ _ _ _ _ _); (first | (refine wS hk ?_; simp only [Act.put, pw]) | (refine wN hk ?_; clear hk; intro w1 hk; simp only [Act.put, pw]) | (refine wT hk ?_; clear hk; intro w1 hk; simp only [Act.put]))))
      exact post_1 rfl (by rfl) (hk.at (by with_reducible repeat (first | exact List.mem_cons_self | apply List.mem_cons_of_mem))) (rowT_of (by rfl)) (by rfl) rfl ⟨rfl, hk.mod.below⟩
  | true =>
    cases hy : inI (b.hi + c.hi) with
    | false =>
      have R : Hid (allR = sumR b c) := hide (by unfold sumR fitR; rw [hx, hy]; rfl)
      rw [← R.out]
      have HX := hide hx
      have HY := hide hy
      clear hx hy
      go_enter Tryz.func118, Tryz.ntmps118
      go_wp2_with (first | (go_at_call 126; refine (rf_plus _ _ (by first | exact hb.1 | exact hb.2) (by first | exact hc.1 | exact hc.2) _).mono ?_; rintro e w1 ⟨rfl, hb⟩; replace hk := hk.call hb; clear hb); (first | rw [HX.out] | rw [HY.out]) | (go_at_call 115; refine (rf_all _).mono ?_; rintro e w1 ⟨rfl, hb⟩; replace hk := hk.call hb; clear hb) | ((with_reducible show wpList _ _ _ _ _ _); (first | (refine wS hk ?_; simp only [Act.put, pw]) | (refine wN hk ?_; clear hk; intro w1 hk; simp only [Act.put, pw]) | (refine wT hk ?_; clear hk; intro w1 hk; simp only [Act.put]))))
      exact post_1 rfl (by rfl) (hk.at (by with_reducible repeat (first | exact List.mem_cons_self | apply List.mem_cons_of_mem))) (rowT_of (by rfl)) (by rfl) rfl ⟨rfl, hk.mod.below⟩
    | true =>
      have ox := inI_of hx
      have oy := inI_of hy
      rw [sumR_yes hx hy]
      have HX := hide hx
      have HY := hide hy
      clear hx hy
      go_enter Tryz.func118, Tryz.ntmps118
      go_wp2_with (first | (go_at_call 126; refine (rf_plus _ _ (by first | exact hb.1 | exact hb.2) (by first | exact hc.1 | exact hc.2) _).mono ?_; rintro e w1 ⟨rfl, hb⟩; replace hk := hk.call hb; clear hb); (first | rw [HX.out] | rw [HY.out]) | ((with_reducible show wpList _ _ _ _ _ _); (first | (refine wS hk ?_; simp only [Act.put, pw]) | (refine wN hk ?_; clear hk; intro w1 hk; simp only [Act.put, pw]) | (refine wT hk ?_; clear hk; intro w1 hk; simp only [Act.put]))))
      exact post_1 rfl (by rfl) (hk.at (by with_reducible repeat (first | exact List.mem_cons_self | apply List.mem_cons_of_mem))) (rowT_of (by rfl)) (by rfl) rfl ⟨rfl, hk.mod.below⟩
set_option maxHeartbeats 2000000 in
set_option maxRecDepth 100000 in
theorem rf_sub (b c : R2) (hb : b.in64) (hc : c.in64) (w : World) : Calls Tryz.prog 118 #[.int .i64 4, .agg (rgC b), .agg (rgC c)] w fun e w' => e = .returned (.agg (rgC (difR b c))) ∧ Below w.heap.size w w' := by
  have hk := Kn.nil [] w
  cases hx : inI (b.lo - c.hi) with
  | false =>
    have R : Hid (allR = difR b c) := hide (by unfold difR fitR; rw [hx]; rfl)
    rw [← R.out]
    have HX := hide hx
    clear hx
    cases hy : inI (b.hi - c.lo) with
    | false =>
      have HY := hide hy
      clear hy
      go_enter Tryz.func118, Tryz.ntmps118
      go_wp2_with (first | (go_at_call 127; refine (rf_minus _ _ (by first | exact hb.1 | exact hb.2) (by first | exact hc.1 | exact hc.2) _).mono ?_; rintro e w1 ⟨rfl, hb⟩; replace hk := hk.call hb; clear hb); (first | rw [HX.out] | rw [HY.out]) | (go_at_call 115; refine (rf_all _).mono ?_; rintro e w1 ⟨rfl, hb⟩; replace hk := hk.call hb; clear hb) | ((with_reducible show wpList _ _ _ _ _ _); (first | (refine wS hk ?_; simp only [Act.put, pw]) | (refine wN hk ?_; clear hk; intro w1 hk; simp only [Act.put, pw]) | (refine wT hk ?_; clear hk; intro w1 hk; simp only [Act.put]))))
      exact post_1 rfl (by rfl) (hk.at (by with_reducible repeat (first | exact List.mem_cons_self | apply List.mem_cons_of_mem))) (rowT_of (by rfl)) (by rfl) rfl ⟨rfl, hk.mod.below⟩
    | true =>
      have HY := hide hy
      clear hy
      go_enter Tryz.func118, Tryz.ntmps118
      go_wp2_with (first | (go_at_call 127; refine (rf_minus _ _ (by first | exact hb.1 | exact hb.2) (by first | exact hc.1 | exact hc.2) _).mono ?_; rintro e w1 ⟨rfl, hb⟩; replace hk := hk.call hb; clear hb); (first | rw [HX.out] | rw [HY.out]) | (go_at_call 115; refine (rf_all _).mono ?_; rintro e w1 ⟨rfl, hb⟩; replace hk := hk.call hb; clear hb) | ((with_reducible show wpList _ _ _ _ _ _); (first | (refine wS hk ?_; simp only [Act.put, pw]) | (refine wN hk ?_; clear hk; intro w1 hk; simp only [Act.put, pw]) | (refine wT hk ?_; clear hk; intro w1 hk; simp only [Act.put]))))
      exact post_1 rfl (by rfl) (hk.at (by with_reducible repeat (first | exact List.mem_cons_self | apply List.mem_cons_of_mem))) (rowT_of (by rfl)) (by rfl) rfl ⟨rfl, hk.mod.below⟩
  | true =>
    cases hy : inI (b.hi - c.lo) with
    | false =>
      have R : Hid (allR = difR b c) := hide (by unfold difR fitR; rw [hx, hy]; rfl)
      rw [← R.out]
      have HX := hide hx
      have HY := hide hy
      clear hx hy
      go_enter Tryz.func118, Tryz.ntmps118
      go_wp2_with (first | (go_at_call 127; refine (rf_minus _ _ (by first | exact hb.1 | exact hb.2) (by first | exact hc.1 | exact hc.2) _).mono ?_; rintro e w1 ⟨rfl, hb⟩; replace hk := hk.call hb; clear hb); (first | rw [HX.out] | rw [HY.out]) | (go_at_call 115; refine (rf_all _).mono ?_; rintro e w1 ⟨rfl, hb⟩; replace hk := hk.call hb; clear hb) | ((with_reducible show wpList _ _ _ _ _ _); (first | (refine wS hk ?_; simp only [Act.put, pw]) | (refine wN hk ?_; clear hk; intro w1 hk; simp only [Act.put, pw]) | (refine wT hk ?_; clear hk; intro w1 hk; simp only [Act.put]))))
      exact post_1 rfl (by rfl) (hk.at (by with_reducible repeat (first | exact List.mem_cons_self | apply List.mem_cons_of_mem))) (rowT_of (by rfl)) (by rfl) rfl ⟨rfl, hk.mod.below⟩
    | true =>
      have ox := inI_of hx
      have oy := inI_of hy
      rw [difR_yes hx hy]
      have HX := hide hx
      have HY := hide hy
      clear hx hy
      go_enter Tryz.func118, Tryz.ntmps118
      go_wp2_with (first | (go_at_call 127; refine (rf_minus _ _ (by first | exact hb.1 | exact hb.2) (by first | exact hc.1 | exact hc.2) _).mono ?_; rintro e w1 ⟨rfl, hb⟩; replace hk := hk.call hb; clear hb); (first | rw [HX.out] | rw [HY.out]) | ((with_reducible show wpList _ _ _ _ _ _); (first | (refine wS hk ?_; simp only [Act.put, pw]) | (refine wN hk ?_; clear hk; intro w1 hk; simp only [Act.put, pw]) | (refine wT hk ?_; clear hk; intro w1 hk; simp only [Act.put]))))
      exact post_1 rfl (by rfl) (hk.at (by with_reducible repeat (first | exact List.mem_cons_self | apply List.mem_cons_of_mem))) (rowT_of (by rfl)) (by rfl) rfl ⟨rfl, hk.mod.below⟩
theorem prodR_no {b c : R2} (h : (inRg b smallR && inRg c smallR) = false) : prodR b c = allR := by
  unfold prodR; rw [h]; rfl
theorem prodR_yes {b c : R2} (h : inRg b smallR = true) (h' : inRg c smallR = true) : prodR b c = spanR (wrap64 (b.lo * c.lo)) (wrap64 (b.lo * c.hi)) (wrap64 (b.hi * c.lo)) (wrap64 (b.hi * c.hi)) := by
  unfold prodR; rw [h, h']; rfl
set_option maxHeartbeats 2000000 in
set_option maxRecDepth 100000 in
theorem rf_mul (b c : R2) (w : World) : Calls Tryz.prog 118 #[.int .i64 5, .agg (rgC b), .agg (rgC c)] w fun e w' => e = .returned (.agg (rgC (prodR b c))) ∧ Below w.heap.size w w' := by
  have hk := Kn.nil [] w
  cases hx : inRg b smallR with
  | false =>
    rw [prodR_no (by rw [hx]; rfl)]
    have HX := hide hx
    clear hx
    cases hy : inRg c smallR with
    | false =>
      have HY := hide hy
      clear hy
      go_enter Tryz.func118, Tryz.ntmps118
      go_wp2_with (first | (go_at_call 128; refine (rf_small _ _).mono ?_; rintro e w1 ⟨rfl, hb⟩; replace hk := hk.call hb; clear hb); (first | rw [HX.out] | rw [HY.out]) | (go_at_call 115; refine (rf_all _).mono ?_; rintro e w1 ⟨rfl, hb⟩; replace hk := hk.call hb; clear hb) | ((with_reducible show wpList _ _ _ _ _ _); (first | (refine wS hk ?_; simp only [Act.put, pw]) | (refine wN hk ?_; clear hk; intro w1 hk; simp only [Act.put, pw]) | (refine wT hk ?_; clear hk; intro w1 hk; simp only [Act.put]))))
      exact post_1 rfl (by rfl) (hk.at (by with_reducible repeat (first | exact List.mem_cons_self | apply List.mem_cons_of_mem))) (rowT_of (by rfl)) (by rfl) rfl ⟨rfl, hk.mod.below⟩
    | true =>
      have HY := hide hy
      clear hy
      go_enter Tryz.func118, Tryz.ntmps118
      go_wp2_with (first | (go_at_call 128; refine (rf_small _ _).mono ?_; rintro e w1 ⟨rfl, hb⟩; replace hk := hk.call hb; clear hb); (first | rw [HX.out] | rw [HY.out]) | (go_at_call 115; refine (rf_all _).mono ?_; rintro e w1 ⟨rfl, hb⟩; replace hk := hk.call hb; clear hb) | ((with_reducible show wpList _ _ _ _ _ _); (first | (refine wS hk ?_; simp only [Act.put, pw]) | (refine wN hk ?_; clear hk; intro w1 hk; simp only [Act.put, pw]) | (refine wT hk ?_; clear hk; intro w1 hk; simp only [Act.put]))))
      exact post_1 rfl (by rfl) (hk.at (by with_reducible repeat (first | exact List.mem_cons_self | apply List.mem_cons_of_mem))) (rowT_of (by rfl)) (by rfl) rfl ⟨rfl, hk.mod.below⟩
  | true =>
    cases hy : inRg c smallR with
    | false =>
      rw [prodR_no (by rw [hx, hy]; rfl)]
      have HX := hide hx
      have HY := hide hy
      clear hx hy
      go_enter Tryz.func118, Tryz.ntmps118
      go_wp2_with (first | (go_at_call 128; refine (rf_small _ _).mono ?_; rintro e w1 ⟨rfl, hb⟩; replace hk := hk.call hb; clear hb); (first | rw [HX.out] | rw [HY.out]) | (go_at_call 115; refine (rf_all _).mono ?_; rintro e w1 ⟨rfl, hb⟩; replace hk := hk.call hb; clear hb) | ((with_reducible show wpList _ _ _ _ _ _); (first | (refine wS hk ?_; simp only [Act.put, pw]) | (refine wN hk ?_; clear hk; intro w1 hk; simp only [Act.put, pw]) | (refine wT hk ?_; clear hk; intro w1 hk; simp only [Act.put]))))
      exact post_1 rfl (by rfl) (hk.at (by with_reducible repeat (first | exact List.mem_cons_self | apply List.mem_cons_of_mem))) (rowT_of (by rfl)) (by rfl) rfl ⟨rfl, hk.mod.below⟩
    | true =>
      rw [prodR_yes hx hy]
      have HX := hide hx
      have HY := hide hy
      clear hx hy
      go_enter Tryz.func118, Tryz.ntmps118
      go_wp2_with (first | (go_at_call 128; refine (rf_small _ _).mono ?_; rintro e w1 ⟨rfl, hb⟩; replace hk := hk.call hb; clear hb); (first | rw [HX.out] | rw [HY.out]) | (go_at_call 129; refine (rf_corners _ _ _ _ _).mono ?_; rintro e w1 ⟨rfl, hb⟩; replace hk := hk.call hb; clear hb) | ((with_reducible show wpList _ _ _ _ _ _); (first | (refine wS hk ?_; simp only [Act.put, pw]) | (refine wN hk ?_; clear hk; intro w1 hk; simp only [Act.put, pw]) | (refine wT hk ?_; clear hk; intro w1 hk; simp only [Act.put]))))
      exact post_1 rfl (by rfl) (hk.at (by with_reducible repeat (first | exact List.mem_cons_self | apply List.mem_cons_of_mem))) (rowT_of (by rfl)) (by rfl) rfl ⟨rfl, hk.mod.below⟩
end Go.Proofs.YtamiichlbmllcaaGreatDoor
/-
  suretyref.reckoned of a division: what its walk wants (the walk itself is not done).
-/
namespace Go.Proofs.YtamiichlbmllcaaGreatDoor
open Go.RowKit
theorem quo_run (ρ : Operand → Value) (d : Option Tmp) (x y : Operand) (tt t' : TypeId) (pos : String) (aft : Array Edge) (g : Option (Nat × Bool)) (p q : Int) (w : World) (hq : q ≠ 0) (hx : ρ x = .int .i64 p) (hy : ρ y = .int .i64 q) : (execOp ρ ⟨d, .binOp .quo 3 x y t', tt, pos, aft, g⟩).run Tryz.prog w = .ok (.value (.int .i64 (wrap64 (p.tdiv q)))) w := by
  unfold execOp; simp only [hx, hy]; simp [go_sem, hq]; exact IntWalk.i64_left _
theorem quoR_no {b c : R2} (h : quoAll b c = true) : quoR b c = allR := by
  unfold quoR; rw [h]; rfl
theorem quoR_yes {b c : R2} (h : quoAll b c = false) : quoR b c = spanR (wrap64 (b.lo.tdiv c.lo)) (wrap64 (b.lo.tdiv c.hi)) (wrap64 (b.hi.tdiv c.lo)) (wrap64 (b.hi.tdiv c.hi)) := by
  unfold quoR; rw [h]; rfl
end Go.Proofs.YtamiichlbmllcaaGreatDoor
/-
  Moves and assignments in a drawn region whose value is read at once.
-/
namespace Go.Proofs.YtamiichlbmllcaaGreatDoor
open Go.RowKit
section
variable {l : List Oper} {Q : Exit → Act → World → Prop} {F : Nat → Bool} {S : World → Prop} {r : OT} {a : Act} {w : World} {i : Nat} {d : Option Tmp} {x : Operand} {tt : TypeId} {pos : String} {aft : Array Edge} {g : Option (Nat × Bool)}
theorem vMoveI {p : Int} (hk : S w) (h : wpT Tryz.prog l Q F S r (a.put d (.int .i64 p)) w) (ho : nthO i l = some ⟨d, .move x, tt, pos, aft, g⟩ := by rfl) (hw : Region.wanted ⟨d, .move x, tt, pos, aft, g⟩ (yielded l.toArray a.tmps) = true := by rfl) (hx : a.eval x = .int .i64 p := by rfl) : wpT Tryz.prog l Q F S (.op i r) a w := sMove hk (by rw [hx]; exact h) ho hw
theorem vMoveB {p : Bool} (hk : S w) (h : wpT Tryz.prog l Q F S r (a.put d (.bool p)) w) (ho : nthO i l = some ⟨d, .move x, tt, pos, aft, g⟩ := by rfl) (hw : Region.wanted ⟨d, .move x, tt, pos, aft, g⟩ (yielded l.toArray a.tmps) = true := by rfl) (hx : a.eval x = .bool p := by rfl) : wpT Tryz.prog l Q F S (.op i r) a w := sMove hk (by rw [hx]; exact h) ho hw
theorem vAssignI {p : Int} (hk : S w) (h : wpT Tryz.prog l Q F S r (a.put d (.int .i64 p)) w) (ho : nthO i l = some ⟨d, .assign x, tt, pos, aft, g⟩ := by rfl) (hw : Region.wanted ⟨d, .assign x, tt, pos, aft, g⟩ (yielded l.toArray a.tmps) = true := by rfl) (hx : a.eval x = .int .i64 p := by rfl) : wpT Tryz.prog l Q F S (.op i r) a w := sAssign hk (by rw [hx]; exact h) ho hw
theorem vAssignB {p : Bool} (hk : S w) (h : wpT Tryz.prog l Q F S r (a.put d (.bool p)) w) (ho : nthO i l = some ⟨d, .assign x, tt, pos, aft, g⟩ := by rfl) (hw : Region.wanted ⟨d, .assign x, tt, pos, aft, g⟩ (yielded l.toArray a.tmps) = true := by rfl) (hx : a.eval x = .bool p := by rfl) : wpT Tryz.prog l Q F S (.op i r) a w := sAssign hk (by rw [hx]; exact h) ho hw
end
set_option maxRecDepth 100000 in
theorem sV {l : List Oper} {Q : Exit → Act → World → Prop} {F : Nat → Bool} {S : World → Prop} {r : OT} {a : Act} {w : World} {G : Prop} (hk : S w) (h : G) (t : S w → G → wpT Tryz.prog l Q F S r a w := by intro hk h; first | exact vMoveI hk h | exact vMoveB hk h | exact vAssignI hk h | exact vAssignB hk h | exact sMove hk h | exact sAssign hk h | exact sExtract hk h | exact sFieldZ hk h | exact sField0 hk h | exact sField hk h | exact sIndexA0 hk h | exact sIndexS0 hk h | exact sIndexA hk h | exact sIndexS hk h | exact sLoadR hk h | exact sLoad1 hk h | exact sOldR hk h | exact sOld1 hk h | exact sOldC hk h | exact sOldG hk h | exact sBuild hk h | exact sPickT hk h | exact sPickF hk h | exact sLss hk h | exact sLeq hk h | exact sGtr hk h | exact sGeq hk h | exact sEql hk h | exact sNot hk h | exact sSkip hk h | exact sSkipA hk h) : wpT Tryz.prog l Q F S r a w := t hk h
end Go.Proofs.YtamiichlbmllcaaGreatDoor
/-
  Regions that keep their order, walked as those that draw it.
-/
namespace Go.Proofs.YtamiichlbmllcaaGreatDoor
open Go.RowKit
def lineT : Nat → Nat → OT
  | _, 0 => .nil
  | k, n + 1 => .op k (lineT (k + 1) n)
theorem wpT_line {P : Program} {l : List Oper} {Q : Exit → Act → World → Prop} {S : World → Prop} : ∀ (n k : Nat) (a : Act) (w : World), wpT P l Q (fun _ => false) S (lineT k n) a w → wpOps P l.toArray (NoPanic Q) (List.range' k n) a w
  | 0, _, _, _, h => NoPanic.normal h
  | n + 1, k, a, w, h => by
    obtain ⟨o, ho, h⟩ := h
    have hl : l.toArray[k]? = some o := by rw [← ho, nthO_eq]; simp
    rw [List.range'_succ, wpOps_cons]
    by_cases hst : stillOp o = true
    · simp only [hst, if_true] at h
      obtain ⟨hS, v, hy, h⟩ := h
      exact hy.wpOp hl hS (wpT_line n (k + 1) _ _ h)
    · simp only [hst, Bool.false_eq_true, if_false] at h
      unfold wpOp
      simp only [hl]
      by_cases hw : Region.wanted o (yielded l.toArray a.tmps) = true
      · simp only [hw, if_true] at h ⊢
        refine Or.inl (Oper.wp_mono ?_ h)
        rintro a' w' ⟨_, h2⟩
        exact wpT_line n (k + 1) a' w' h2
      · simp only [hw, Bool.false_eq_true, if_false] at h ⊢
        exact wpT_line n (k + 1) _ _ h.2
theorem wp_regL {P : Program} {id : Nat} {l : List Oper} {Q : Exit → Act → World → Prop} {a : Act} {w : World} (S : World → Prop) (t : OT) (ht : lineT 0 l.length = t) (h : wpT P l Q (fun _ => false) S t a w) : (Code.region id l.toArray false).wp P Q a w := by
  subst ht
  refine wp_region_noPanic (wp_region ?_)
  rw [List.range_eq_range']
  exact wpT_line _ _ _ _ (by simpa using h)
theorem wp_regLK {P : Program} {id : Nat} {l : List Oper} {Q : Exit → Act → World → Prop} {a : Act} {w : World} {M : List Nat} {w0 : World} {L : RowL} (_hk : Kn M w0 w L) (t : OT) (ht : lineT 0 l.length = t) (h : wpT P l Q (fun _ => false) (fun wx => Kn M w0 wx L) t a w) : (Code.region id l.toArray false).wp P Q a w := wp_regL _ t ht h
end Go.Proofs.YtamiichlbmllcaaGreatDoor
