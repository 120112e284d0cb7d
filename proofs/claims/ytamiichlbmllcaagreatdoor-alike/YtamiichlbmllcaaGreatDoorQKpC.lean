/-
  suretykeep.inside: a number of a range, by a raw one.
-/
import Derived.Test.YtamiichlbmllcaaGreatDoorQKpA
namespace Go.Proofs.YtamiichlbmllcaaGreatDoor
open Go.RowKit
theorem u_is (x : Int) : IntKind.u64.wrap x = x % 18446744073709551616 := by
  simp [IntKind.wrap, IntKind.bits, IntKind.signed]
def insI (r : R2) (raw : Int) : Int := if r.lo ≤ raw ∧ raw ≤ r.hi then raw else if r.hi = r.lo then r.lo else r.lo + (raw % 18446744073709551616) % (r.hi - r.lo)
theorem insI_in {r : R2} (h : r.lo ≤ r.hi) (raw : Int) : r.lo ≤ insI r raw ∧ insI r raw ≤ r.hi := by
  unfold insI
  split
  · assumption
  · split
    · omega
    · have h1 := Int.emod_nonneg (raw % 18446744073709551616) (show r.hi - r.lo ≠ 0 by omega)
      have h2 := Int.emod_lt_of_pos (raw % 18446744073709551616) (show 0 < r.hi - r.lo by omega)
      omega
theorem insI_same {r : R2} {raw : Int} (h : r.lo ≤ raw ∧ raw ≤ r.hi) : insI r raw = raw := by unfold insI; rw [if_pos h]
section
variable {l : List Oper} {Q : Exit → Act → World → Prop} {F : Nat → Bool} {S : World → Prop} {i : Nat} {r : OT} {a : Act} {w : World} {d : Option Tmp} {x y : Operand} {t tt : TypeId} {pos : String} {aft : Array Edge} {g : Option (Nat × Bool)}
theorem conv_run (ρ : Operand → Value) (d : Option Tmp) (x : Operand) (tt : TypeId) (pos : String) (aft : Array Edge) (g : Option (Nat × Bool)) (p : Int) (w : World) (hx : ρ x = .int .i64 p) : (execOp ρ ⟨d, .convert 3 131 x, tt, pos, aft, g⟩).run Tryz.prog w = .ok (.value (.int .u64 (IntKind.u64.wrap p))) w := by
  unfold execOp; simp only [hx]; simp [go_sem]
theorem vnoc_run (ρ : Operand → Value) (d : Option Tmp) (x : Operand) (tt : TypeId) (pos : String) (aft : Array Edge) (g : Option (Nat × Bool)) (p : Int) (w : World) (hx : ρ x = .int .u64 p) : (execOp ρ ⟨d, .convert 131 3 x, tt, pos, aft, g⟩).run Tryz.prog w = .ok (.value (.int .i64 (IntKind.i64.wrap p))) w := by
  unfold execOp; simp only [hx]; simp [go_sem]
theorem remU_run (ρ : Operand → Value) (d : Option Tmp) (x y : Operand) (tt t' : TypeId) (pos : String) (aft : Array Edge) (g : Option (Nat × Bool)) (p q : Int) (w : World) (hq : q ≠ 0) (hx : ρ x = .int .u64 p) (hy : ρ y = .int .u64 q) : (execOp ρ ⟨d, .binOp .rem 131 x y t', tt, pos, aft, g⟩).run Tryz.prog w = .ok (.value (.int .u64 (p.tmod q))) w := by
  unfold execOp; simp only [hx, hy]; simp [go_sem, hq]
theorem addU_run (ρ : Operand → Value) (d : Option Tmp) (x y : Operand) (tt t' : TypeId) (pos : String) (aft : Array Edge) (g : Option (Nat × Bool)) (p q : Int) (w : World) (hx : ρ x = .int .u64 p) (hy : ρ y = .int .u64 q) : (execOp ρ ⟨d, .binOp .add 131 x y t', tt, pos, aft, g⟩).run Tryz.prog w = .ok (.value (.int .u64 (IntKind.u64.wrap (p + q)))) w := by
  unfold execOp; simp only [hx, hy]; simp [go_sem]
set_option maxRecDepth 100000 in
theorem sConv {p q : Int} (hk : S w) (h : wpT Tryz.prog l Q F S r (a.put d (.int .u64 q)) w) (ho : nthO i l = some ⟨d, .convert 3 131 x, tt, pos, aft, g⟩ := by rfl) (hw : Region.wanted ⟨d, .convert 3 131 x, tt, pos, aft, g⟩ (yielded l.toArray a.tmps) = true := by rfl) (hx : a.eval x = .int .i64 p := by rfl) (hm : IntKind.u64.wrap p = q := by assumption) : wpT Tryz.prog l Q F S (.op i r) a w :=
  tRun ho rfl hw hk (fun wx => (conv_run _ _ _ _ _ _ _ p wx hx).trans (by rw [hm])) h
set_option maxRecDepth 100000 in
theorem sVnoc {p q : Int} (hk : S w) (h : wpT Tryz.prog l Q F S r (a.put d (.int .i64 q)) w) (ho : nthO i l = some ⟨d, .convert 131 3 x, tt, pos, aft, g⟩ := by rfl) (hw : Region.wanted ⟨d, .convert 131 3 x, tt, pos, aft, g⟩ (yielded l.toArray a.tmps) = true := by rfl) (hx : a.eval x = .int .u64 p := by rfl) (hm : IntKind.i64.wrap p = q := by assumption) : wpT Tryz.prog l Q F S (.op i r) a w :=
  tRun ho rfl hw hk (fun wx => (vnoc_run _ _ _ _ _ _ _ p wx hx).trans (by rw [hm])) h
set_option maxRecDepth 100000 in
theorem sRemU {p q m : Int} (hk : S w) (h : wpT Tryz.prog l Q F S r (a.put d (.int .u64 m)) w) (ho : nthO i l = some ⟨d, .binOp .rem 131 x y t, tt, pos, aft, g⟩ := by rfl) (hw : Region.wanted ⟨d, .binOp .rem 131 x y t, tt, pos, aft, g⟩ (yielded l.toArray a.tmps) = true := by rfl) (hx : a.eval x = .int .u64 p := by rfl) (hy : a.eval y = .int .u64 q := by rfl) (hq : q ≠ 0 := by assumption) (hm : p.tmod q = m := by assumption) : wpT Tryz.prog l Q F S (.op i r) a w :=
  tRun ho rfl hw hk (fun wx => (remU_run _ _ _ _ _ _ _ _ _ p q wx hq hx hy).trans (by rw [hm])) h
set_option maxRecDepth 100000 in
theorem sAddU {p q m : Int} (hk : S w) (h : wpT Tryz.prog l Q F S r (a.put d (.int .u64 m)) w) (ho : nthO i l = some ⟨d, .binOp .add 131 x y t, tt, pos, aft, g⟩ := by rfl) (hw : Region.wanted ⟨d, .binOp .add 131 x y t, tt, pos, aft, g⟩ (yielded l.toArray a.tmps) = true := by rfl) (hx : a.eval x = .int .u64 p := by rfl) (hy : a.eval y = .int .u64 q := by rfl) (hm : IntKind.u64.wrap (p + q) = m := by assumption) : wpT Tryz.prog l Q F S (.op i r) a w :=
  tRun ho rfl hw hk (fun wx => (addU_run _ _ _ _ _ _ _ _ _ p q wx hx hy).trans (by rw [hm])) h
end
/-- the numbers of the way outside the range -/
structure InsW (r : R2) (raw d u v m t z : Int) : Prop where
  hu : IntKind.u64.wrap r.lo = u
  hh : IntKind.u64.wrap (IntKind.u64.wrap r.hi - u) = d
  hv : IntKind.u64.wrap raw = v
  hm : v.tmod d = m
  ht : IntKind.u64.wrap (u + m) = t
  hz : IntKind.i64.wrap t = z
theorem ins_num {r : R2} (h64 : r.in64) (h : r.lo < r.hi) (raw : Int) (ho : ¬ (r.lo ≤ raw ∧ raw ≤ r.hi)) : ∃ u v m t, InsW r raw (r.hi - r.lo) u v m t (insI r raw) := by
  unfold R2.in64 I64 at h64
  refine ⟨_, _, _, _, rfl, ?_, rfl, rfl, rfl, ?_⟩
  · rw [u_is, u_is, u_is]; omega
  · have e : insI r raw = r.lo + (raw % 18446744073709551616) % (r.hi - r.lo) := by unfold insI; rw [if_neg ho, if_neg (by omega)]
    have e2 : (raw % 18446744073709551616).tmod (r.hi - r.lo) = (raw % 18446744073709551616) % (r.hi - r.lo) := Int.tmod_eq_emod_of_nonneg (by omega)
    have h1 := Int.emod_nonneg (raw % 18446744073709551616) (show r.hi - r.lo ≠ 0 by omega)
    have h2 := Int.emod_lt_of_pos (raw % 18446744073709551616) (show 0 < r.hi - r.lo by omega)
    rw [e, wrap_is, u_is, u_is, u_is, e2]
    unfold wrap64
    omega
theorem insI_one {r : R2} {raw : Int} (he : r.hi = r.lo) (ho : ¬ (r.lo ≤ raw ∧ raw ≤ r.hi)) : insI r raw = r.lo := by unfold insI; rw [if_neg ho, if_pos he]
set_option maxHeartbeats 1000000 in
set_option maxRecDepth 100000 in
theorem inside_in (r : R2) (raw : Int) (h1 : ¬ raw < r.lo) (h2 : ¬ r.hi < raw) (w : World) : Calls Tryz.prog 45 #[.agg (rgC r), .int .i64 raw] w fun e w' => e = .returned (.int .i64 raw) ∧ Below w.heap.size w w' := by
  have hk := Kn.nil [] w
  go_enter Tryz.func45, Tryz.ntmps45
  go_wp2_with (first | ((with_reducible show wpList _ _ _ _ _ _); (first | ((with_reducible show wpList _ _ _ (⟨_, _, _, _, _, some _⟩ :: _) _ _); refine wpList_skip (by rfl) ?_; simp only [Act.put, List.setIfInBounds_toArray, List.set_cons_succ, List.set_cons_zero]) | ((first | refine wBuild hk ?_ | refine wFieldZ hk ?_ | refine wField0 hk ?_ | refine wField hk ?_ | refine wIndexA0 hk ?_ | refine wIndexS0 hk ?_ | refine wIndexA hk ?_ | refine wIndexS hk ?_ | refine wLoadR hk ?_ | refine wLoad1 hk ?_ | refine wOldR hk ?_ | refine wOld1 hk ?_ | refine wOldC hk ?_ | refine wOldG hk ?_ | refine wAssertY hk ?_ | refine wAssertN hk ?_); simp only [Act.put, List.setIfInBounds_toArray, List.set_cons_succ, List.set_cons_zero]) | ((first | refine wBox hk ?_ | refine wBox1I hk ?_ | refine wBox1B hk ?_ | refine wBox1S hk ?_ | refine wBox1P hk ?_ | refine wBox1F hk ?_ | refine wAllocR hk ?_ | refine wAlloc1 hk ?_ | refine wMake hk ?_); clear hk; intro w1 hk; simp only [Act.put, List.setIfInBounds_toArray, List.set_cons_succ, List.set_cons_zero]) | ((first | refine wStoreR hk ?_ | refine wStore1I hk ?_ | refine wStore1B hk ?_ | refine wStore1S hk ?_ | refine wStore1P hk ?_ | refine wStore1F hk ?_); clear hk; intro w1 hk; simp only [Act.put]))))
  go_ret
  exact ⟨rfl, hk.mod.below⟩
set_option maxHeartbeats 1000000 in
set_option maxRecDepth 100000 in
theorem inside_one (r : R2) (raw : Int) (he : r.hi = r.lo) (ho : raw < r.lo ∨ (¬ raw < r.lo ∧ r.hi < raw)) (w : World) : Calls Tryz.prog 45 #[.agg (rgC r), .int .i64 raw] w fun e w' => e = .returned (.int .i64 r.lo) ∧ Below w.heap.size w w' := by
  have hk := Kn.nil [] w
  have hz : (IntKind.u64.wrap (IntKind.u64.wrap r.hi - IntKind.u64.wrap r.lo) == 0) = true := by rw [he, Int.sub_self, u_is]; rfl
  rcases ho with h1 | ⟨h1, h2⟩
  · go_enter Tryz.func45, Tryz.ntmps45
    go_wp2_with (first | ((with_reducible show wpList _ _ _ _ _ _); (first | ((with_reducible show wpList _ _ _ (⟨_, _, _, _, _, some _⟩ :: _) _ _); refine wpList_skip (by rfl) ?_; simp only [Act.put, List.setIfInBounds_toArray, List.set_cons_succ, List.set_cons_zero]) | ((first | refine wBuild hk ?_ | refine wFieldZ hk ?_ | refine wField0 hk ?_ | refine wField hk ?_ | refine wIndexA0 hk ?_ | refine wIndexS0 hk ?_ | refine wIndexA hk ?_ | refine wIndexS hk ?_ | refine wLoadR hk ?_ | refine wLoad1 hk ?_ | refine wOldR hk ?_ | refine wOld1 hk ?_ | refine wOldC hk ?_ | refine wOldG hk ?_ | refine wAssertY hk ?_ | refine wAssertN hk ?_); simp only [Act.put, List.setIfInBounds_toArray, List.set_cons_succ, List.set_cons_zero]) | ((first | refine wBox hk ?_ | refine wBox1I hk ?_ | refine wBox1B hk ?_ | refine wBox1S hk ?_ | refine wBox1P hk ?_ | refine wBox1F hk ?_ | refine wAllocR hk ?_ | refine wAlloc1 hk ?_ | refine wMake hk ?_); clear hk; intro w1 hk; simp only [Act.put, List.setIfInBounds_toArray, List.set_cons_succ, List.set_cons_zero]) | ((first | refine wStoreR hk ?_ | refine wStore1I hk ?_ | refine wStore1B hk ?_ | refine wStore1S hk ?_ | refine wStore1P hk ?_ | refine wStore1F hk ?_); clear hk; intro w1 hk; simp only [Act.put]))))
    go_ret
    exact ⟨rfl, hk.mod.below⟩
  · go_enter Tryz.func45, Tryz.ntmps45
    go_wp2_with (first | ((with_reducible show wpList _ _ _ _ _ _); (first | ((with_reducible show wpList _ _ _ (⟨_, _, _, _, _, some _⟩ :: _) _ _); refine wpList_skip (by rfl) ?_; simp only [Act.put, List.setIfInBounds_toArray, List.set_cons_succ, List.set_cons_zero]) | ((first | refine wBuild hk ?_ | refine wFieldZ hk ?_ | refine wField0 hk ?_ | refine wField hk ?_ | refine wIndexA0 hk ?_ | refine wIndexS0 hk ?_ | refine wIndexA hk ?_ | refine wIndexS hk ?_ | refine wLoadR hk ?_ | refine wLoad1 hk ?_ | refine wOldR hk ?_ | refine wOld1 hk ?_ | refine wOldC hk ?_ | refine wOldG hk ?_ | refine wAssertY hk ?_ | refine wAssertN hk ?_); simp only [Act.put, List.setIfInBounds_toArray, List.set_cons_succ, List.set_cons_zero]) | ((first | refine wBox hk ?_ | refine wBox1I hk ?_ | refine wBox1B hk ?_ | refine wBox1S hk ?_ | refine wBox1P hk ?_ | refine wBox1F hk ?_ | refine wAllocR hk ?_ | refine wAlloc1 hk ?_ | refine wMake hk ?_); clear hk; intro w1 hk; simp only [Act.put, List.setIfInBounds_toArray, List.set_cons_succ, List.set_cons_zero]) | ((first | refine wStoreR hk ?_ | refine wStore1I hk ?_ | refine wStore1B hk ?_ | refine wStore1S hk ?_ | refine wStore1P hk ?_ | refine wStore1F hk ?_); clear hk; intro w1 hk; simp only [Act.put]))))
    go_ret
    exact ⟨rfl, hk.mod.below⟩
set_option maxHeartbeats 2000000 in
set_option maxRecDepth 100000 in
theorem inside_out (r : R2) (raw : Int) (d u v m t z : Int) (hI : InsW r raw d u v m t z) (hd : d ≠ 0) (ho : raw < r.lo ∨ (¬ raw < r.lo ∧ r.hi < raw)) (w : World) : Calls Tryz.prog 45 #[.agg (rgC r), .int .i64 raw] w fun e w' => e = .returned (.int .i64 z) ∧ Below w.heap.size w w' := by
  have hk := Kn.nil [] w
  obtain ⟨hu, hh, hv, hm, ht, hz⟩ := hI
  have hdb : (d == 0) = false := by rw [beq_eq_false_iff_ne]; exact hd
  rcases ho with h1 | ⟨h1, h2⟩
  · go_enter Tryz.func45, Tryz.ntmps45
    go_wp2_with (first | ((with_reducible show wpList _ _ _ _ _ _); (first | ((with_reducible show wpList _ _ _ (⟨_, _, _, _, _, some _⟩ :: _) _ _); refine wpList_skip (by rfl) ?_; simp only [Act.put, List.setIfInBounds_toArray, List.set_cons_succ, List.set_cons_zero]) | ((first | refine wBuild hk ?_ | refine wFieldZ hk ?_ | refine wField0 hk ?_ | refine wField hk ?_ | refine wIndexA0 hk ?_ | refine wIndexS0 hk ?_ | refine wIndexA hk ?_ | refine wIndexS hk ?_ | refine wLoadR hk ?_ | refine wLoad1 hk ?_ | refine wOldR hk ?_ | refine wOld1 hk ?_ | refine wOldC hk ?_ | refine wOldG hk ?_ | refine wAssertY hk ?_ | refine wAssertN hk ?_); simp only [Act.put, List.setIfInBounds_toArray, List.set_cons_succ, List.set_cons_zero]) | ((first | refine wBox hk ?_ | refine wBox1I hk ?_ | refine wBox1B hk ?_ | refine wBox1S hk ?_ | refine wBox1P hk ?_ | refine wBox1F hk ?_ | refine wAllocR hk ?_ | refine wAlloc1 hk ?_ | refine wMake hk ?_); clear hk; intro w1 hk; simp only [Act.put, List.setIfInBounds_toArray, List.set_cons_succ, List.set_cons_zero]) | ((first | refine wStoreR hk ?_ | refine wStore1I hk ?_ | refine wStore1B hk ?_ | refine wStore1S hk ?_ | refine wStore1P hk ?_ | refine wStore1F hk ?_); clear hk; intro w1 hk; simp only [Act.put]))))
    (refine wp_regK hk (.op 0 (.op 1 (.op 2 (.op 3 (.op 4 (.op 5 (.op 6 (.op 7 (.op 8 (.op 9 .nil)))))))))) (fun i => decide (i < 10)) mixT (by decide) (by kernel_rfl) (by kernel_rfl) ?_; clear hk; intro w1 hk)
    refine sFieldZ hk ?_; simp only [Act.put, List.setIfInBounds_toArray, List.set_cons_succ, List.set_cons_zero]
    refine sLoad1 hk ?_; simp only [Act.put, List.setIfInBounds_toArray, List.set_cons_succ, List.set_cons_zero]
    refine sConv hk ?_; simp only [Act.put, List.setIfInBounds_toArray, List.set_cons_succ, List.set_cons_zero]
    refine vMoveI hk ?_; simp only [Act.put, List.setIfInBounds_toArray, List.set_cons_succ, List.set_cons_zero]
    refine sConv hk ?_; simp only [Act.put, List.setIfInBounds_toArray, List.set_cons_succ, List.set_cons_zero]
    refine sMove hk ?_; simp only [Act.put, List.setIfInBounds_toArray, List.set_cons_succ, List.set_cons_zero]
    refine sRemU hk ?_; simp only [Act.put, List.setIfInBounds_toArray, List.set_cons_succ, List.set_cons_zero]
    refine sAddU hk ?_; simp only [Act.put, List.setIfInBounds_toArray, List.set_cons_succ, List.set_cons_zero]
    refine sVnoc hk ?_; simp only [Act.put, List.setIfInBounds_toArray, List.set_cons_succ, List.set_cons_zero]
    refine vAssignI hk ?_; simp only [Act.put, List.setIfInBounds_toArray, List.set_cons_succ, List.set_cons_zero]
    refine tNil ?_
    go_wp2_with (first | ((with_reducible show wpList _ _ _ _ _ _); (first | ((with_reducible show wpList _ _ _ (⟨_, _, _, _, _, some _⟩ :: _) _ _); refine wpList_skip (by rfl) ?_; simp only [Act.put, List.setIfInBounds_toArray, List.set_cons_succ, List.set_cons_zero]) | ((first | refine wBuild hk ?_ | refine wFieldZ hk ?_ | refine wField0 hk ?_ | refine wField hk ?_ | refine wIndexA0 hk ?_ | refine wIndexS0 hk ?_ | refine wIndexA hk ?_ | refine wIndexS hk ?_ | refine wLoadR hk ?_ | refine wLoad1 hk ?_ | refine wOldR hk ?_ | refine wOld1 hk ?_ | refine wOldC hk ?_ | refine wOldG hk ?_ | refine wAssertY hk ?_ | refine wAssertN hk ?_); simp only [Act.put, List.setIfInBounds_toArray, List.set_cons_succ, List.set_cons_zero]) | ((first | refine wBox hk ?_ | refine wBox1I hk ?_ | refine wBox1B hk ?_ | refine wBox1S hk ?_ | refine wBox1P hk ?_ | refine wBox1F hk ?_ | refine wAllocR hk ?_ | refine wAlloc1 hk ?_ | refine wMake hk ?_); clear hk; intro w1 hk; simp only [Act.put, List.setIfInBounds_toArray, List.set_cons_succ, List.set_cons_zero]) | ((first | refine wStoreR hk ?_ | refine wStore1I hk ?_ | refine wStore1B hk ?_ | refine wStore1S hk ?_ | refine wStore1P hk ?_ | refine wStore1F hk ?_); clear hk; intro w1 hk; simp only [Act.put]))))
    go_ret
    exact ⟨rfl, hk.mod.below⟩
  · go_enter Tryz.func45, Tryz.ntmps45
    go_wp2_with (first | ((with_reducible show wpList _ _ _ _ _ _); (first | ((with_reducible show wpList _ _ _ (⟨_, _, _, _, _, some _⟩ :: _) _ _); refine wpList_skip (by rfl) ?_; simp only [Act.put, List.setIfInBounds_toArray, List.set_cons_succ, List.set_cons_zero]) | ((first | refine wBuild hk ?_ | refine wFieldZ hk ?_ | refine wField0 hk ?_ | refine wField hk ?_ | refine wIndexA0 hk ?_ | refine wIndexS0 hk ?_ | refine wIndexA hk ?_ | refine wIndexS hk ?_ | refine wLoadR hk ?_ | refine wLoad1 hk ?_ | refine wOldR hk ?_ | refine wOld1 hk ?_ | refine wOldC hk ?_ | refine wOldG hk ?_ | refine wAssertY hk ?_ | refine wAssertN hk ?_); simp only [Act.put, List.setIfInBounds_toArray, List.set_cons_succ, List.set_cons_zero]) | ((first | refine wBox hk ?_ | refine wBox1I hk ?_ | refine wBox1B hk ?_ | refine wBox1S hk ?_ | refine wBox1P hk ?_ | refine wBox1F hk ?_ | refine wAllocR hk ?_ | refine wAlloc1 hk ?_ | refine wMake hk ?_); clear hk; intro w1 hk; simp only [Act.put, List.setIfInBounds_toArray, List.set_cons_succ, List.set_cons_zero]) | ((first | refine wStoreR hk ?_ | refine wStore1I hk ?_ | refine wStore1B hk ?_ | refine wStore1S hk ?_ | refine wStore1P hk ?_ | refine wStore1F hk ?_); clear hk; intro w1 hk; simp only [Act.put]))))
    (refine wp_regK hk (.op 0 (.op 1 (.op 2 (.op 3 (.op 4 (.op 5 (.op 6 (.op 7 (.op 8 (.op 9 .nil)))))))))) (fun i => decide (i < 10)) mixT (by decide) (by kernel_rfl) (by kernel_rfl) ?_; clear hk; intro w1 hk)
    refine sFieldZ hk ?_; simp only [Act.put, List.setIfInBounds_toArray, List.set_cons_succ, List.set_cons_zero]
    refine sLoad1 hk ?_; simp only [Act.put, List.setIfInBounds_toArray, List.set_cons_succ, List.set_cons_zero]
    refine sConv hk ?_; simp only [Act.put, List.setIfInBounds_toArray, List.set_cons_succ, List.set_cons_zero]
    refine vMoveI hk ?_; simp only [Act.put, List.setIfInBounds_toArray, List.set_cons_succ, List.set_cons_zero]
    refine sConv hk ?_; simp only [Act.put, List.setIfInBounds_toArray, List.set_cons_succ, List.set_cons_zero]
    refine sMove hk ?_; simp only [Act.put, List.setIfInBounds_toArray, List.set_cons_succ, List.set_cons_zero]
    refine sRemU hk ?_; simp only [Act.put, List.setIfInBounds_toArray, List.set_cons_succ, List.set_cons_zero]
    refine sAddU hk ?_; simp only [Act.put, List.setIfInBounds_toArray, List.set_cons_succ, List.set_cons_zero]
    refine sVnoc hk ?_; simp only [Act.put, List.setIfInBounds_toArray, List.set_cons_succ, List.set_cons_zero]
    refine vAssignI hk ?_; simp only [Act.put, List.setIfInBounds_toArray, List.set_cons_succ, List.set_cons_zero]
    refine tNil ?_
    go_wp2_with (first | ((with_reducible show wpList _ _ _ _ _ _); (first | ((with_reducible show wpList _ _ _ (⟨_, _, _, _, _, some _⟩ :: _) _ _); refine wpList_skip (by rfl) ?_; simp only [Act.put, List.setIfInBounds_toArray, List.set_cons_succ, List.set_cons_zero]) | ((first | refine wBuild hk ?_ | refine wFieldZ hk ?_ | refine wField0 hk ?_ | refine wField hk ?_ | refine wIndexA0 hk ?_ | refine wIndexS0 hk ?_ | refine wIndexA hk ?_ | refine wIndexS hk ?_ | refine wLoadR hk ?_ | refine wLoad1 hk ?_ | refine wOldR hk ?_ | refine wOld1 hk ?_ | refine wOldC hk ?_ | refine wOldG hk ?_ | refine wAssertY hk ?_ | refine wAssertN hk ?_); simp only [Act.put, List.setIfInBounds_toArray, List.set_cons_succ, List.set_cons_zero]) | ((first | refine wBox hk ?_ | refine wBox1I hk ?_ | refine wBox1B hk ?_ | refine wBox1S hk ?_ | refine wBox1P hk ?_ | refine wBox1F hk ?_ | refine wAllocR hk ?_ | refine wAlloc1 hk ?_ | refine wMake hk ?_); clear hk; intro w1 hk; simp only [Act.put, List.setIfInBounds_toArray, List.set_cons_succ, List.set_cons_zero]) | ((first | refine wStoreR hk ?_ | refine wStore1I hk ?_ | refine wStore1B hk ?_ | refine wStore1S hk ?_ | refine wStore1P hk ?_ | refine wStore1F hk ?_); clear hk; intro w1 hk; simp only [Act.put]))))
    go_ret
    exact ⟨rfl, hk.mod.below⟩
theorem inside_any (r : R2) (h64 : r.in64) (hr : r.lo ≤ r.hi) (raw : Int) (w : World) : Calls Tryz.prog 45 #[.agg (rgC r), .int .i64 raw] w fun e w' => e = .returned (.int .i64 (insI r raw)) ∧ Below w.heap.size w w' := by
  by_cases hin : r.lo ≤ raw ∧ raw ≤ r.hi
  · rw [insI_same hin]
    exact inside_in r raw (by omega) (by omega) w
  · by_cases he : r.hi = r.lo
    · rw [insI_one he hin]
      exact inside_one r raw he (by omega) w
    · obtain ⟨u, v, m, t, h⟩ := ins_num h64 (by omega) raw hin
      exact inside_out r raw _ u v m t _ h (by omega) (by omega) w
end Go.Proofs.YtamiichlbmllcaaGreatDoor
