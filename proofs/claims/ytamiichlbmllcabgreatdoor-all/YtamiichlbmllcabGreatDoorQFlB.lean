import Derived.Test.YtamiichlbmllcabGreatDoorQFlA
set_option maxRecDepth 100000
set_option maxHeartbeats 32000000
namespace Go.Proofs.YtamiichlbmllcabGreatDoor
open Go.RowKit
theorem eq_rg (ρ : Operand -> Value) (d : Option Tmp) (x y : Operand) (tt : TypeId) (pos : String) (aft : Array Edge) (g : Option (Nat × Bool)) (p q : R2) (B : Bool) (hx : ρ x = .agg (rgC p)) (hy : ρ y = .agg (rgC q)) (hB : (p.lo == q.lo && p.hi == q.hi) = B) (w : World) :
 (execOp ρ ⟨d, .binOp .eql 27 x y 27, tt, pos, aft, g⟩).run Tryz.prog w = .ok (.value (.bool B)) w := by
 unfold execOp
 simp only [hx, hy]
 unfold rgC
 simp [go_sem]
 rw [<- hB]
 by_cases h1 : p.lo = q.lo <;> by_cases h2 : p.hi = q.hi <;> simp [h1, h2]
def emptyR (r : R2) : Bool := decide (r.hi < r.lo)
def narrR (s : Nat -> R2) (a : Nat) (x : R2) (b : Nat) (y : R2) : Option (Nat -> R2) := if emptyR x || emptyR y then none else some (updS (updS s a x) b y)
def oneR (x y : R2) : Bool := decide (x.lo = y.lo /\ x.hi = y.hi /\ x.lo = x.hi)
theorem isEmpty_c (r : R2) (w : World) : Calls Tryz.prog 81 #[.agg (rgC r)] w fun e w' => e = .returned (.bool (emptyR r)) /\ Below w.heap.size w w' := isEmpty_any r w
theorem common_c (r o : R2) (w : World) : Calls Tryz.prog 132 #[.agg (rgC r), .agg (rgC o)] w fun e w' => e = .returned (.agg (rgC (comR r o))) /\ Below w.heap.size w w' := common_any r o w
theorem liesIn_c (r o : R2) (w : World) : Calls Tryz.prog 131 #[.agg (rgC r), .agg (rgC o)] w fun e w' => e = .returned (.bool (inRg r o)) /\ Below w.heap.size w w' := liesIn_any r o w
theorem has_c (r : R2) (n : Int) (w : World) : Calls Tryz.prog 28 #[.agg (rgC r), .int .i64 n] w fun e w' => e = .returned (.bool (hasR r n)) /\ Below w.heap.size w w' := has_any r n w
theorem run_max2 (ts : Array TypeId) (t : TypeId) (p q : Int) (w : World) : (Builtin.max_ ts t #[.int .i64 p, .int .i64 q]).run Tryz.prog w = .ok (.int .i64 (max p q)) w := by
 have : max p q = (if q > p then q else p) := by split <;> omega
 rw [this]
 simp [Builtin.max_, Builtin.max2]
theorem run_min2 (ts : Array TypeId) (t : TypeId) (p q : Int) (w : World) : (Builtin.min_ ts t #[.int .i64 p, .int .i64 q]).run Tryz.prog w = .ok (.int .i64 (min p q)) w := by
 have : min p q = (if q < p then q else p) := by split <;> omega
 rw [this]
 simp [Builtin.min_, Builtin.min2]
theorem one_any (r o : R2) (w : World) : Calls Tryz.prog 175 #[.agg (rgC r), .agg (rgC o)] w fun e w' => e = .returned (.bool (oneR r o)) /\ Below w.heap.size w w' := by
 have hk := Kn.nil [] w
 cases hB : (r.lo == o.lo && r.hi == o.hi) with
 | false =>
   have R : Hid (oneR r o = false) := hide (by unfold oneR; simp only [Bool.and_eq_false_iff, beq_eq_false_iff_ne] at hB; simp only [decide_eq_false_iff_not]; rintro ⟨h1, h2, _⟩; rcases hB with h | h; exact h h1; exact h h2)
   have HB := hide hB
   clear hB
   go_enter Tryz.func175, Tryz.ntmps175
   go_wp2_with ((with_reducible apply gL); (first | refine wS hk ?_ | (refine wN hk ?_; clear hk; intro w1 hk)); simp only [pw])
   (refine wp_regK hk (.op 0 (.op 1 (.op 2 (.op 3 (.op 4 (.op 5 (.op 6 (.op 7 (.op 8 (.op 9 (.op 10 .nil))))))))))) (fun i => decide (i < 11)) mixT (by decide) (by kernel_rfl) (by kernel_rfl) ?_; clear hk; intro w1 hk)
   (repeat (refine sS hk ?_; simp only [pw]))
   refine tRun (by rfl) rfl (by rfl) hk (fun wx => eq_rg _ _ _ _ _ _ _ _ _ _ _ (by rfl) (by rfl) HB.out wx) ?_; simp only [pw]
   (repeat (refine sS hk ?_; simp only [pw]))
   refine tNil ?_
   go_wp2_with ((with_reducible apply gL); (first | refine wS hk ?_ | (refine wN hk ?_; clear hk; intro w1 hk)); simp only [pw])
   go_ret
   exact ⟨ret_bool R.out.symm, hk.mod.below⟩
 | true =>
   have HB := hide hB
   have R : Hid ((r.lo == r.lo && r.hi == r.lo) = oneR r o) := hide (by
    unfold oneR
    simp only [Bool.and_eq_true, beq_iff_eq] at hB
    obtain ⟨h1, h2⟩ := hB
    by_cases h3 : r.hi = r.lo
    · simp [h3, <- h1, <- h2]
    · have : ¬ (r.lo = r.hi) := fun h => h3 h.symm
      simp [h3, this])
   clear hB
   go_enter Tryz.func175, Tryz.ntmps175
   go_wp2_with ((with_reducible apply gL); (first | refine wS hk ?_ | (refine wN hk ?_; clear hk; intro w1 hk)); simp only [pw])
   (refine wp_regK hk (.op 0 (.op 1 (.op 2 (.op 3 (.op 4 (.op 5 (.op 6 (.op 7 (.op 8 (.op 9 (.op 10 .nil))))))))))) (fun i => decide (i < 11)) mixT (by decide) (by kernel_rfl) (by kernel_rfl) ?_; clear hk; intro w1 hk)
   (repeat (refine sS hk ?_; simp only [pw]))
   refine tRun (by rfl) rfl (by rfl) hk (fun wx => eq_rg _ _ _ _ _ _ _ _ _ _ _ (by rfl) (by rfl) HB.out wx) ?_; simp only [pw]
   (repeat (refine sS hk ?_; simp only [pw]))
   (refine sCall ?_; intro K hK; go_step; go_at_call 137; refine (only_c _ _).mono ?_; rintro e w1 ⟨rfl, hb⟩; replace hk := hk.call hb; clear hb; refine hK _ _ (fun _ => kH hk) ?_; clear hK K)
   (repeat (refine sS hk ?_; simp only [pw]))
   refine tRun (by rfl) rfl (by rfl) hk (fun wx => eq_rg _ _ _ _ _ _ _ _ _ _ _ (by rfl) (by rfl) R.out wx) ?_; simp only [pw]
   (repeat (refine sS hk ?_; simp only [pw]))
   refine tNil ?_
   go_wp2_with ((with_reducible apply gL); (first | refine wS hk ?_ | (refine wN hk ?_; clear hk; intro w1 hk)); simp only [pw])
   go_ret
   exact ⟨rfl, hk.mod.below⟩
theorem Kn.mid {M : List Nat} {w0 w : World} {r0 r1 r2 r3 : Nat × Array Value × TypeId} (h : Kn M w0 w [r0, r1, r2, r3]) : Kn M w0 w [r1, r2] := h.sub (.cons _ (.cons_cons _ (.cons_cons _ (.cons _ .slnil))))
theorem wp_regM {P : Program} {id : Nat} {l : List Oper} {Q : Exit -> Act -> World -> Prop} {a : Act} {w : World} {M : List Nat} {w0 : World} {r0 r1 r2 r3 : Nat × Array Value × TypeId} (hk : Kn M w0 w [r0, r1, r2, r3]) (t : OT) (F : Nat -> Bool) (hm : P.follows .mixedOrders = true) (hn : t.size <= l.length) (hsel : Region.noSelect l.toArray = true)
 (hv : okT l.toArray F t (Array.replicate l.length false) = true) (h : ∀ w1, Kn M w0 w1 [r0, r1, r2, r3] -> wpT P l Q F (fun wx => Kn M w0 wx [r1, r2]) t a w1) : (Code.region id l.toArray true).wp P Q a w := wp_regS hk _ t F hm hn hsel hv h
theorem narr_any (s : Nat -> R2) (a b : Nat) (ha : a < 8) (hb : b < 8) (x y : R2) (w : World) : Calls Tryz.prog 172 #[.agg (stC s), .int .i64 a, .agg (rgC x), .int .i64 b, .agg (rgC y)] w fun e w' => e = .returned (.agg (plC (narrR s a x b y).isSome (stO (narrR s a x b y)))) /\ Below w.heap.size w w' := by
 have hk := Kn.nil [] w
 cases hx : emptyR x with
 | true =>
   have R : plC (narrR s a x b y).isSome (stO (narrR s a x b y)) = plC false zeroS := by unfold narrR; rw [hx]; rfl
   rw [R]
   clear R
   go_enter Tryz.func172, Tryz.ntmps172
   go_wp2_with (first | (go_at_call 81; refine (isEmpty_c _ _).mono ?_; rintro e w1 ⟨rfl, hb⟩; replace hk := hk.call hb; clear hb; rw [hx]) | ((with_reducible apply gL); (first | refine wS hk ?_ | (refine wN hk ?_; clear hk; intro w1 hk)); simp only [pw]))
   exact post_1 rfl (by rfl) (hk.at mm) (rowT_of (by rfl)) (by rfl) rfl ⟨rfl, hk.mod.below⟩
 | false =>
   cases hy : emptyR y with
   | true =>
     have R : plC (narrR s a x b y).isSome (stO (narrR s a x b y)) = plC false zeroS := by unfold narrR; rw [hx, hy]; rfl
     rw [R]
     clear R
     go_enter Tryz.func172, Tryz.ntmps172
     go_wp2_with (first | (go_at_call 81; refine (isEmpty_c _ _).mono ?_; rintro e w1 ⟨rfl, hb⟩; replace hk := hk.call hb; clear hb; first | rw [hx] | rw [hy]) | ((with_reducible apply gL); (first | refine wS hk ?_ | (refine wN hk ?_; clear hk; intro w1 hk)); simp only [pw]))
     exact post_1 rfl (by rfl) (hk.at mm) (rowT_of (by rfl)) (by rfl) rfl ⟨rfl, hk.mod.below⟩
   | false =>
     have R : plC (narrR s a x b y).isSome (stO (narrR s a x b y)) = plC true (updS (updS s a x) b y) := by unfold narrR; rw [hx, hy]; rfl
     rw [R]
     clear R
     go_enter Tryz.func172, Tryz.ntmps172
     go_wp2_with (first | (go_at_call 81; refine (isEmpty_c _ _).mono ?_; rintro e w1 ⟨rfl, hb⟩; replace hk := hk.call hb; clear hb; first | rw [hx] | rw [hy]) | ((with_reducible apply gL); (first | refine wS hk ?_ | (refine wN hk ?_; clear hk; intro w1 hk)); simp only [pw]))
     refine wp_regM hk (.op 0 (.op 1 (.op 2 (.op 3 (.op 4 (.op 5 (.op 6 (.op 7 .nil)))))))) (fun i => decide (i < 6)) mixT (by decide) (by kernel_rfl) (by kernel_rfl) ?_
     clear hk
     intro w1 hk
     have hs := hk.mid
     (repeat (refine sS hs ?_; simp only [pw]))
     (refine sStore hk ?_; clear hk; intro w1 hk; refine ⟨fun _ => kH hk, ?_⟩; simp only [pw])
     clear hs
     have hs := hk.mid
     (repeat (refine sS hs ?_; simp only [pw]))
     (refine sStore hk ?_; clear hk; intro w1 hk; refine ⟨fun h => absurd h (by decide), ?_⟩; simp only [pw])
     refine tNil ?_
     go_wp2_with (first | (go_at_call 83; refine (with_any _ _).mono ?_; rintro e w1 ⟨rfl, hb⟩; replace hk := hk.call hb; clear hb) | ((with_reducible apply gL); (first | refine wS hk ?_ | (refine wN hk ?_; clear hk; intro w1 hk)); simp only [pw]))
     exact post_1 rfl (by rfl) (hk.at mm) (rowT_of (by rfl)) (by rfl) rfl ⟨rfl, hk.mod.below⟩
end Go.Proofs.YtamiichlbmllcabGreatDoor
