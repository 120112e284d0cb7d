import Derived.Test.YtamiichlbmllcaaGreatDoorQRegT
import Derived.DeepKeys
import Derived.Test.YtamiichlbmllcaaGreatDoorQPrA
import Derived.Deep.CutRange
import Derived.Deep.DeepCutAuto
/-
  Places that are compared.
-/
namespace Go.Proofs.YtamiichlbmllcaaGreatDoor
open Go.RowKit
def eqR (p q : R2) : Bool := p.lo == q.lo && p.hi == q.hi
def eqS (s t : Nat → R2) : Bool := (List.range 8).all fun j => eqR (s j) (t j)
set_option maxHeartbeats 1000000 in
theorem eqIn_rg (d : Nat) (p q : R2) (w : World) : (Op.equalIn (d + 2) 28 (.agg (rgC p)) (.agg (rgC q))).run Tryz.prog w = .ok (eqR p q) w := by
  unfold rgC eqR
  simp [go_sem]
  by_cases h1 : p.lo = q.lo <;> by_cases h2 : p.hi = q.hi <;> simp [h1, h2]
theorem part_st (s : Nat → R2) (i : Nat) (hi : i < 8) (w : World) : (part 28 (stC s) (i * 2)).run Tryz.prog w = .ok (.agg (rgC (s i))) w := by
  have : i = 0 ∨ i = 1 ∨ i = 2 ∨ i = 3 ∨ i = 4 ∨ i = 5 ∨ i = 6 ∨ i = 7 := by omega
  rcases this with rfl | rfl | rfl | rfl | rfl | rfl | rfl | rfl <;> (unfold stC rgC; simp [go_sem])
theorem eqItems_st (d : Nat) (s t : Nat → R2) (w : World) : ∀ (is : List Nat), (∀ i, i ∈ is → i < 8) → (Op.eqItems (d + 2) 28 2 (stC s) (stC t) is).run Tryz.prog w = .ok (is.all fun j => eqR (s j) (t j)) w
  | [], _ => by simp [Op.eqItems]
  | i :: is, h => by
    have h0 := h i List.mem_cons_self
    have ih := eqItems_st d s t w is fun j hj => h j (List.mem_cons_of_mem _ hj)
    simp only [Op.eqItems, Sem.run_bind, part_st s i h0, part_st t i h0, Result.andThen_ok, eqIn_rg, List.all_cons]
    cases eqR (s i) (t i)
    · simp
    · simpa using ih
theorem eqIn_st2 (s t : Nat → R2) (w : World) : (Op.equalIn 9999 30 (.agg (stC s)) (.agg (stC t))).run Tryz.prog w = .ok (eqS s t) w := by
  obtain ⟨i, hi, hz⟩ : ∃ i, Tryz.prog.info? 28 = some i ∧ i.size = 2 := by
    obtain ⟨i, hi, h2⟩ := Option.map_eq_some_iff.1 (show (Tryz.prog.info? 28).map (·.size) = some 2 by kernel_rfl)
    exact ⟨i, hi, h2⟩
  rw [run_equalIn_array w 9998 (stC s) (stC t) Tryz.underlying30 hi, show Tryz.prog.cellsOf 28 = 2 by kernel_rfl]
  exact eqItems_st 9996 s t w (List.range 8) fun i hi => List.mem_range.1 hi
set_option maxHeartbeats 2000000 in
set_option maxRecDepth 100000 in
theorem neq_pl (ρ : Operand → Value) (d : Option Tmp) (x y : Operand) (tt : TypeId) (pos : String) (aft : Array Edge) (g : Option (Nat × Bool)) (b c : Bool) (s t : Nat → R2) (w : World) (hx : ρ x = .agg (plC b s)) (hy : ρ y = .agg (plC c t)) :
    (execOp ρ ⟨d, .binOp .neq 174 x y 174, tt, pos, aft, g⟩).run Tryz.prog w = .ok (.value (.bool (!(b == c && eqS s t)))) w := by
  unfold execOp
  simp only [hx, hy]
  have := fun w => eqIn_st2 s t w
  unfold stC at this
  unfold plC
  simp [go_sem, this]
  cases b <;> cases c <;> cases eqS s t <;> simp
theorem nil_run (ρ : Operand → Value) (d : Option Tmp) (x : Operand) (tt : TypeId) (pos : String) (aft : Array Edge) (g : Option (Nat × Bool)) (a : Addr) (w : World) (hx : ρ x = .pointer (some a)) : (execOp ρ ⟨d, .nilCheck x, tt, pos, aft, g⟩).run Tryz.prog w = .ok (.value (.pointer (some a))) w := by
  unfold execOp; simp only [hx]; simp [go_sem]
section
variable {l : List Oper} {Q : Exit → Act → World → Prop} {F : Nat → Bool} {S : World → Prop} {i : Nat} {r : OT} {a : Act} {w : World} {d : Option Tmp} {x y : Operand} {t tt : TypeId} {pos : String} {aft : Array Edge} {g : Option (Nat × Bool)}
set_option maxRecDepth 100000 in
theorem sNeqP {b c : Bool} {s u : Nat → R2} (hk : S w) (h : wpT Tryz.prog l Q F S r (a.put d (.bool (!(b == c && eqS s u)))) w) (ho : nthO i l = some ⟨d, .binOp .neq 174 x y 174, tt, pos, aft, g⟩ := by rfl) (hw : Region.wanted ⟨d, .binOp .neq 174 x y 174, tt, pos, aft, g⟩ (yielded l.toArray a.tmps) = true := by rfl) (hx : a.eval x = .agg (plC b s) := by rfl) (hy : a.eval y = .agg (plC c u) := by rfl) : wpT Tryz.prog l Q F S (.op i r) a w :=
  tRun ho rfl hw hk (fun wx => neq_pl _ _ _ _ _ _ _ _ b c s u wx hx hy) h
set_option maxRecDepth 100000 in
theorem sNil {p : Addr} (hk : S w) (h : wpT Tryz.prog l Q F S r (a.put d (.pointer (some p))) w) (ho : nthO i l = some ⟨d, .nilCheck x, tt, pos, aft, g⟩ := by rfl) (hw : Region.wanted ⟨d, .nilCheck x, tt, pos, aft, g⟩ (yielded l.toArray a.tmps) = true := by rfl) (hx : a.eval x = .pointer (some p) := by rfl) : wpT Tryz.prog l Q F S (.op i r) a w :=
  tRun ho rfl hw hk (fun wx => nil_run _ _ _ _ _ _ _ p wx hx) h
end
end Go.Proofs.YtamiichlbmllcaaGreatDoor
/-
  (*proof.prover).takes: a mark's state is widened by what comes to it.
-/
namespace Go.Proofs.YtamiichlbmllcaaGreatDoor
open Go.RowKit
set_option maxHeartbeats 1000000 in
set_option maxRecDepth 100000 in
theorem pl_join (x y : Option St) (w : World) : Calls Tryz.prog 156 #[.agg (plC x.isSome (stO x)), .agg (plC y.isSome (stO y))] w fun e w' => e = .returned (.agg (plC (joinO joinR x y).isSome (stO (joinO joinR x y)))) ∧ Below w.heap.size w w' := by
  have hk := Kn.nil [] w
  have H : ∀ w, Calls Tryz.prog 158 #[.agg (plC x.isSome (stO x)), .func (.func 159) #[] #[], .agg (plC y.isSome (stO y))] w fun e w' => e = .returned (.agg (plC (joinO joinR x y).isSome (stO (joinO joinR x y)))) ∧ Below w.heap.size w w' := fun w => by
    cases x with
    | none => exact joinBy_un _ _ _ _ w
    | some s => cases y with
      | none => exact joinBy_no _ _ _ w
      | some t => exact joinBy_join s t w
  go_enter Tryz.func156, Tryz.ntmps156
  go_wp2_with (first | (go_at_call 158; refine (H _).mono ?_; rintro e w1 ⟨rfl, hb⟩; replace hk := hk.call hb; clear hb) | ((with_reducible show wpList _ _ _ _ _ _); (first | ((with_reducible show wpList _ _ _ (⟨_, _, _, _, _, some _⟩ :: _) _ _); refine wpList_skip (by rfl) ?_; simp only [Act.put, List.setIfInBounds_toArray, List.set_cons_succ, List.set_cons_zero]) | ((first | refine wBuild hk ?_ | refine wFieldZ hk ?_ | refine wField0 hk ?_ | refine wField hk ?_ | refine wIndexA0 hk ?_ | refine wIndexS0 hk ?_ | refine wIndexA hk ?_ | refine wIndexS hk ?_ | refine wLoadR hk ?_ | refine wLoad1 hk ?_ | refine wOldR hk ?_ | refine wOld1 hk ?_ | refine wOldC hk ?_ | refine wOldG hk ?_ | refine wAssertY hk ?_ | refine wAssertN hk ?_); simp only [Act.put, List.setIfInBounds_toArray, List.set_cons_succ, List.set_cons_zero]) | ((first | refine wBox hk ?_ | refine wBox1I hk ?_ | refine wBox1B hk ?_ | refine wBox1S hk ?_ | refine wBox1P hk ?_ | refine wBox1F hk ?_ | refine wAllocR hk ?_ | refine wAlloc1 hk ?_ | refine wMake hk ?_); clear hk; intro w1 hk; simp only [Act.put, List.setIfInBounds_toArray, List.set_cons_succ, List.set_cons_zero]) | ((first | refine wStoreR hk ?_ | refine wStore1I hk ?_ | refine wStore1B hk ?_ | refine wStore1S hk ?_ | refine wStore1P hk ?_ | refine wStore1F hk ?_); clear hk; intro w1 hk; simp only [Act.put]))))
  exact post_1 rfl (by rfl) (hk.at (by with_reducible repeat (first | exact List.mem_cons_self | apply List.mem_cons_of_mem))) (rowT_of (by rfl)) (by rfl) rfl ⟨rfl, hk.mod.below⟩
set_option maxHeartbeats 1000000 in
set_option maxRecDepth 100000 in
theorem pl_str (x y : Option St) (w : World) : Calls Tryz.prog 157 #[.agg (plC x.isSome (stO x)), .agg (plC y.isSome (stO y))] w fun e w' => e = .returned (.agg (plC (joinO stretchR x y).isSome (stO (joinO stretchR x y)))) ∧ Below w.heap.size w w' := by
  have hk := Kn.nil [] w
  have H : ∀ w, Calls Tryz.prog 158 #[.agg (plC x.isSome (stO x)), .func (.func 160) #[] #[], .agg (plC y.isSome (stO y))] w fun e w' => e = .returned (.agg (plC (joinO stretchR x y).isSome (stO (joinO stretchR x y)))) ∧ Below w.heap.size w w' := fun w => by
    cases x with
    | none => exact joinBy_un _ _ _ _ w
    | some s => cases y with
      | none => exact joinBy_no _ _ _ w
      | some t => exact joinBy_str s t w
  go_enter Tryz.func157, Tryz.ntmps157
  go_wp2_with (first | (go_at_call 158; refine (H _).mono ?_; rintro e w1 ⟨rfl, hb⟩; replace hk := hk.call hb; clear hb) | ((with_reducible show wpList _ _ _ _ _ _); (first | ((with_reducible show wpList _ _ _ (⟨_, _, _, _, _, some _⟩ :: _) _ _); refine wpList_skip (by rfl) ?_; simp only [Act.put, List.setIfInBounds_toArray, List.set_cons_succ, List.set_cons_zero]) | ((first | refine wBuild hk ?_ | refine wFieldZ hk ?_ | refine wField0 hk ?_ | refine wField hk ?_ | refine wIndexA0 hk ?_ | refine wIndexS0 hk ?_ | refine wIndexA hk ?_ | refine wIndexS hk ?_ | refine wLoadR hk ?_ | refine wLoad1 hk ?_ | refine wOldR hk ?_ | refine wOld1 hk ?_ | refine wOldC hk ?_ | refine wOldG hk ?_ | refine wAssertY hk ?_ | refine wAssertN hk ?_); simp only [Act.put, List.setIfInBounds_toArray, List.set_cons_succ, List.set_cons_zero]) | ((first | refine wBox hk ?_ | refine wBox1I hk ?_ | refine wBox1B hk ?_ | refine wBox1S hk ?_ | refine wBox1P hk ?_ | refine wBox1F hk ?_ | refine wAllocR hk ?_ | refine wAlloc1 hk ?_ | refine wMake hk ?_); clear hk; intro w1 hk; simp only [Act.put, List.setIfInBounds_toArray, List.set_cons_succ, List.set_cons_zero]) | ((first | refine wStoreR hk ?_ | refine wStore1I hk ?_ | refine wStore1B hk ?_ | refine wStore1S hk ?_ | refine wStore1P hk ?_ | refine wStore1F hk ?_); clear hk; intro w1 hk; simp only [Act.put]))))
  exact post_1 rfl (by rfl) (hk.at (by with_reducible repeat (first | exact List.mem_cons_self | apply List.mem_cons_of_mem))) (rowT_of (by rfl)) (by rfl) rfl ⟨rfl, hk.mod.below⟩
/-- a row of numbers -/
def intA (n : Nat) (f : Nat → Nat) : Array Value := rowsA n 1 fun i => #[.int .i64 (wrap64 (f i : Int))]
theorem intA_size (n : Nat) (f : Nat → Nat) : (intA n f).size = n := by unfold intA; rw [rows_size, Nat.mul_one]
theorem get_int (n : Nat) (f : Nat → Nat) (i : Nat) (h : i < n) : (intA n f)[i * 1]? = some (.int .i64 (wrap64 (f i : Int))) := by
  have := rows_at (n := n) (k := 1) (g := fun i => #[.int .i64 (wrap64 (f i : Int))]) (q := 0) h (by omega) rfl
  unfold intA
  simpa using this
/-- a prover's cells -/
abbrev prC (pb pc mb sb kb cb hb n : Nat) : Array Value := #[.slice (some ⟨pb, 0, none⟩) n pc, .slice (some ⟨mb, 0, none⟩) n n, .slice (some ⟨sb, 0, none⟩) n n, .slice (some ⟨kb, 0, none⟩) n n, .slice (some ⟨cb, 0, none⟩) n n, .slice (some ⟨hb, 0, none⟩) n n]
theorem eqS_iff {s t : St} : eqS s t = true ↔ ∀ j, j < 8 → s j = t j := by
  unfold eqS eqR
  rw [List.all_eq_true]
  constructor
  · intro h j hj
    have := h j (List.mem_range.2 hj)
    simp only [Bool.and_eq_true, beq_iff_eq] at this
    cases hs : s j; cases ht : t j
    rw [hs, ht] at this
    simp_all
  · intro h j hj
    rw [h j (List.mem_range.1 hj)]; simp
def placeEq (x y : Option St) : Bool := x.isSome == y.isSome && eqS (stO x) (stO y)
theorem join_eq_of {r o : R2} (h : o.sub r) : joinR r o = r := by unfold R2.sub at h; unfold joinR; cases r; simp only at *; congr <;> omega
theorem str_eq_of {r o : R2} (h : o.sub r) : stretchR r o = r := by
  unfold R2.sub at h; unfold stretchR
  cases r; simp only at *
  rw [if_pos (by omega), if_pos (by omega)]
theorem sub_of_join {r o : R2} (h : joinR r o = r) : o.sub r := by
  unfold joinR at h; unfold R2.sub
  cases r; simp only [R2.mk.injEq] at *; omega
theorem sub_of_str {r o : R2} (ho : o.in64) (h : stretchR r o = r) : o.sub r := by
  unfold stretchR at h; unfold R2.sub; unfold R2.in64 I64 at ho
  cases r; simp only [R2.mk.injEq] at *
  obtain ⟨h1, h2⟩ := h
  refine ⟨?_, ?_⟩
  · split at h1 <;> omega
  · split at h2 <;> omega
theorem place_eq {f : R2 → R2 → R2} {x y : Option St} (h1 : ∀ r o : R2, o.sub r → f r o = r) (h2 : ∀ r o : R2, o.in64 → f r o = r → o.sub r) (hy : OkO y) : placeEq (joinO f x y) x = liesO y x := by
  unfold placeEq
  cases x with
  | none =>
    cases y with
    | none => rw [show eqS (stO (joinO f none none)) (stO none) = true from eqS_iff.2 fun _ _ => rfl]; rfl
    | some t => rfl
  | some s =>
    cases y with
    | none => rw [show eqS (stO (joinO f (some s) none)) (stO (some s)) = true from eqS_iff.2 fun _ _ => rfl]; rfl
    | some t =>
      show (true == true && eqS (fun j => f (s j) (t j)) s) = liesR t s
      rw [Bool.eq_iff_iff]
      simp only [beq_self_eq_true, Bool.true_and]
      rw [eqS_iff, lies_iff]
      exact ⟨fun h j hj => h2 _ _ ((hy t rfl).2 j hj) (h j hj), fun h j hj => h1 _ _ (h j hj)⟩
theorem place_join {x y : Option St} (hy : OkO y) : placeEq (joinO joinR x y) x = liesO y x := place_eq (fun _ _ => join_eq_of) (fun _ _ _ => sub_of_join) hy
theorem place_str {x y : Option St} (hy : OkO y) : placeEq (joinO stretchR x y) x = liesO y x := place_eq (fun _ _ => str_eq_of) (fun _ _ => sub_of_str) hy
/-- what takes leaves -/
def TakeP (n sb hb : Nat) (v' : PS) (w w' : World) : Prop := Mod [sb, hb] w w' ∧ At w' sb (plsA n v'.W) 174 ∧ At w' hb (bosA n v'.chg) 4
theorem Kn.two {w : World} {a b : Nat} {A B : Array Value} {s t : TypeId} (h : At w a A s) (k : At w b B t) (hab : a ≠ b) : Kn [a, b] w w [(a, A, s), (b, B, t)] := ⟨Mod.refl _ _, fun x hx => (by simp at hx; rcases hx with rfl | rfl; exact ⟨h, Or.inr (by simp)⟩; exact ⟨k, Or.inr (by simp)⟩), by simp [hab]⟩
end Go.Proofs.YtamiichlbmllcaaGreatDoor
/-
  (*proof.prover).takes, further ways.
-/
namespace Go.Proofs.YtamiichlbmllcaaGreatDoor
open Go.RowKit
set_option maxHeartbeats 2000000 in
set_option maxRecDepth 100000 in
theorem takes_pv1 (n m : Nat) (hm : m < n) (V pb pc mb sb kb cb hb : Nat) (back : Nat → Bool) (v : PS) (come : Option St) (hsh : sb ≠ hb) (hVM : V ∉ [sb, hb]) (hkM : kb ∉ [sb, hb]) (w : World) (hV : At w V (prC pb pc mb sb kb cb hb n) 137) (hS : At w sb (plsA n v.W) 174) (hK : At w kb (bosA n back) 4) (hH : At w hb (bosA n v.chg) 4) (hbk : back m = false) (hD : placeEq (joinO joinR (v.W m) come) (v.W m) = false) :
    Calls Tryz.prog 155 #[.pointer (some ⟨V, 0, none⟩), .int .i64 m, .agg (plC come.isSome (stO come))] w fun e w' => e = .returned (.bool true) ∧ TakeP n sb hb (⟨updW v.W m (joinO joinR (v.W m) come), v.cnt, updB v.chg m true⟩) w w' := by
  have hk := Kn.two hS hH hsh
  have HD : Hid ((!((joinO joinR (v.W m) come).isSome == (v.W m).isSome && eqS (stO (joinO joinR (v.W m) come)) (stO (v.W m)))) = true) := hide (by unfold placeEq at hD; rw [hD]; rfl)
  clear hD
  go_enter Tryz.func155, Tryz.ntmps155
  go_upto_region 5 with (first | (first | ((go_at_call 156; refine (pl_join _ _ _).mono ?_; rintro e w1 ⟨rfl, hb⟩; replace hk := hk.call hb; clear hb)) | ((go_at_call 157; refine (pl_str _ _ _).mono ?_; rintro e w1 ⟨rfl, hb⟩; replace hk := hk.call hb; clear hb))) | ((with_reducible show wpList _ _ _ _ _ _); (first | ((with_reducible show wpList _ _ _ (⟨_, _, _, _, _, some _⟩ :: _) _ _); refine wpList_skip (by rfl) ?_; simp only [Act.put, List.setIfInBounds_toArray, List.set_cons_succ, List.set_cons_zero]) | ((first | refine wBuild hk ?_ | refine wFieldZ hk ?_ | refine wField0 hk ?_ | refine wField hk ?_ | refine wIndexA0 hk ?_ | refine wIndexS0 hk ?_ | refine wIndexA hk ?_ | refine wIndexS hk ?_ | refine wLoadR hk ?_ | refine wLoad1 hk ?_ | refine wOldR hk ?_ | refine wOld1 hk ?_ | refine wOldC hk ?_ | refine wOldG hk ?_ | refine wAssertY hk ?_ | refine wAssertN hk ?_); simp only [Act.put, List.setIfInBounds_toArray, List.set_cons_succ, List.set_cons_zero]) | ((first | refine wBox hk ?_ | refine wBox1I hk ?_ | refine wBox1B hk ?_ | refine wBox1S hk ?_ | refine wBox1P hk ?_ | refine wBox1F hk ?_ | refine wAllocR hk ?_ | refine wAlloc1 hk ?_ | refine wMake hk ?_); clear hk; intro w1 hk; simp only [Act.put, List.setIfInBounds_toArray, List.set_cons_succ, List.set_cons_zero]) | ((first | refine wStoreR hk ?_ | refine wStore1I hk ?_ | refine wStore1B hk ?_ | refine wStore1S hk ?_ | refine wStore1P hk ?_ | refine wStore1F hk ?_); clear hk; intro w1 hk; simp only [Act.put]))))
  (refine wp_regLK hk (.op 0 (.op 1 (.op 2 .nil))) (by rfl) ?_)
  (repeat ((first | refine vMoveI hk ?_ | refine vMoveB hk ?_ | refine vAssignI hk ?_ | refine vAssignB hk ?_ | refine sMove hk ?_ | refine sAssign hk ?_ | refine sExtract hk ?_ | refine sFieldZ hk ?_ | refine sField0 hk ?_ | refine sField hk ?_ | refine sIndexA0 hk ?_ | refine sIndexS0 hk ?_ | refine sIndexA hk ?_ | refine sIndexS hk ?_ | refine sLoadR hk ?_ | refine sLoad1 hk ?_ | refine sOldR hk ?_ | refine sOld1 hk ?_ | refine sOldC hk ?_ | refine sOldG hk ?_ | refine sBuild hk ?_ | refine sPickT hk ?_ | refine sPickF hk ?_ | refine sLss hk ?_ | refine sLeq hk ?_ | refine sGtr hk ?_ | refine sGeq hk ?_ | refine sEql hk ?_ | refine sNot hk ?_ | refine sSkip hk ?_ | refine sSkipA hk ?_); simp only [Act.put, List.setIfInBounds_toArray, List.set_cons_succ, List.set_cons_zero]))
  refine sNeqP hk ?_; simp only [Act.put, List.setIfInBounds_toArray, List.set_cons_succ, List.set_cons_zero]
  rw [HD.out]
  (repeat ((first | refine vMoveI hk ?_ | refine vMoveB hk ?_ | refine vAssignI hk ?_ | refine vAssignB hk ?_ | refine sMove hk ?_ | refine sAssign hk ?_ | refine sExtract hk ?_ | refine sFieldZ hk ?_ | refine sField0 hk ?_ | refine sField hk ?_ | refine sIndexA0 hk ?_ | refine sIndexS0 hk ?_ | refine sIndexA hk ?_ | refine sIndexS hk ?_ | refine sLoadR hk ?_ | refine sLoad1 hk ?_ | refine sOldR hk ?_ | refine sOld1 hk ?_ | refine sOldC hk ?_ | refine sOldG hk ?_ | refine sBuild hk ?_ | refine sPickT hk ?_ | refine sPickF hk ?_ | refine sLss hk ?_ | refine sLeq hk ?_ | refine sGtr hk ?_ | refine sGeq hk ?_ | refine sEql hk ?_ | refine sNot hk ?_ | refine sSkip hk ?_ | refine sSkipA hk ?_); simp only [Act.put, List.setIfInBounds_toArray, List.set_cons_succ, List.set_cons_zero]))
  refine tNil ?_
  go_wp2_with (first | ((with_reducible show wpList _ _ _ _ _ _); (first | ((with_reducible show wpList _ _ _ (⟨_, _, _, _, _, some _⟩ :: _) _ _); refine wpList_skip (by rfl) ?_; simp only [Act.put, List.setIfInBounds_toArray, List.set_cons_succ, List.set_cons_zero]) | ((first | refine wBuild hk ?_ | refine wFieldZ hk ?_ | refine wField0 hk ?_ | refine wField hk ?_ | refine wIndexA0 hk ?_ | refine wIndexS0 hk ?_ | refine wIndexA hk ?_ | refine wIndexS hk ?_ | refine wLoadR hk ?_ | refine wLoad1 hk ?_ | refine wOldR hk ?_ | refine wOld1 hk ?_ | refine wOldC hk ?_ | refine wOldG hk ?_ | refine wAssertY hk ?_ | refine wAssertN hk ?_); simp only [Act.put, List.setIfInBounds_toArray, List.set_cons_succ, List.set_cons_zero]) | ((first | refine wBox hk ?_ | refine wBox1I hk ?_ | refine wBox1B hk ?_ | refine wBox1S hk ?_ | refine wBox1P hk ?_ | refine wBox1F hk ?_ | refine wAllocR hk ?_ | refine wAlloc1 hk ?_ | refine wMake hk ?_); clear hk; intro w1 hk; simp only [Act.put, List.setIfInBounds_toArray, List.set_cons_succ, List.set_cons_zero]) | ((first | refine wStoreR hk ?_ | refine wStore1I hk ?_ | refine wStore1B hk ?_ | refine wStore1S hk ?_ | refine wStore1P hk ?_ | refine wStore1F hk ?_); clear hk; intro w1 hk; simp only [Act.put]))))
  (refine wp_regK hk (.op 0 (.op 1 (.op 2 (.op 3 (.op 4 (.op 5 (.op 6 (.op 7 (.op 8 .nil))))))))) (fun i => decide (i < 8)) mixT (by decide) (by kernel_rfl) (by kernel_rfl) ?_; clear hk; intro w1 hk)
  (repeat ((first | refine vMoveI hk ?_ | refine vMoveB hk ?_ | refine vAssignI hk ?_ | refine vAssignB hk ?_ | refine sMove hk ?_ | refine sAssign hk ?_ | refine sExtract hk ?_ | refine sFieldZ hk ?_ | refine sField0 hk ?_ | refine sField hk ?_ | refine sIndexA0 hk ?_ | refine sIndexS0 hk ?_ | refine sIndexA hk ?_ | refine sIndexS hk ?_ | refine sLoadR hk ?_ | refine sLoad1 hk ?_ | refine sOldR hk ?_ | refine sOld1 hk ?_ | refine sOldC hk ?_ | refine sOldG hk ?_ | refine sBuild hk ?_ | refine sPickT hk ?_ | refine sPickF hk ?_ | refine sLss hk ?_ | refine sLeq hk ?_ | refine sGtr hk ?_ | refine sGeq hk ?_ | refine sEql hk ?_ | refine sNot hk ?_ | refine sSkip hk ?_ | refine sSkipA hk ?_); simp only [Act.put, List.setIfInBounds_toArray, List.set_cons_succ, List.set_cons_zero]))
  refine sNil hk ?_; simp only [Act.put, List.setIfInBounds_toArray, List.set_cons_succ, List.set_cons_zero]
  (repeat ((first | refine vMoveI hk ?_ | refine vMoveB hk ?_ | refine vAssignI hk ?_ | refine vAssignB hk ?_ | refine sMove hk ?_ | refine sAssign hk ?_ | refine sExtract hk ?_ | refine sFieldZ hk ?_ | refine sField0 hk ?_ | refine sField hk ?_ | refine sIndexA0 hk ?_ | refine sIndexS0 hk ?_ | refine sIndexA hk ?_ | refine sIndexS hk ?_ | refine sLoadR hk ?_ | refine sLoad1 hk ?_ | refine sOldR hk ?_ | refine sOld1 hk ?_ | refine sOldC hk ?_ | refine sOldG hk ?_ | refine sBuild hk ?_ | refine sPickT hk ?_ | refine sPickF hk ?_ | refine sLss hk ?_ | refine sLeq hk ?_ | refine sGtr hk ?_ | refine sGeq hk ?_ | refine sEql hk ?_ | refine sNot hk ?_ | refine sSkip hk ?_ | refine sSkipA hk ?_); simp only [Act.put, List.setIfInBounds_toArray, List.set_cons_succ, List.set_cons_zero]))
  (refine sStore hk ?_; clear hk; intro w1 hk; refine ⟨fun h => absurd h (by decide), ?_⟩; simp only [Act.put])
  refine tNil ?_
  go_wp2_with (first | ((with_reducible show wpList _ _ _ _ _ _); (first | ((with_reducible show wpList _ _ _ (⟨_, _, _, _, _, some _⟩ :: _) _ _); refine wpList_skip (by rfl) ?_; simp only [Act.put, List.setIfInBounds_toArray, List.set_cons_succ, List.set_cons_zero]) | ((first | refine wBuild hk ?_ | refine wFieldZ hk ?_ | refine wField0 hk ?_ | refine wField hk ?_ | refine wIndexA0 hk ?_ | refine wIndexS0 hk ?_ | refine wIndexA hk ?_ | refine wIndexS hk ?_ | refine wLoadR hk ?_ | refine wLoad1 hk ?_ | refine wOldR hk ?_ | refine wOld1 hk ?_ | refine wOldC hk ?_ | refine wOldG hk ?_ | refine wAssertY hk ?_ | refine wAssertN hk ?_); simp only [Act.put, List.setIfInBounds_toArray, List.set_cons_succ, List.set_cons_zero]) | ((first | refine wBox hk ?_ | refine wBox1I hk ?_ | refine wBox1B hk ?_ | refine wBox1S hk ?_ | refine wBox1P hk ?_ | refine wBox1F hk ?_ | refine wAllocR hk ?_ | refine wAlloc1 hk ?_ | refine wMake hk ?_); clear hk; intro w1 hk; simp only [Act.put, List.setIfInBounds_toArray, List.set_cons_succ, List.set_cons_zero]) | ((first | refine wStoreR hk ?_ | refine wStore1I hk ?_ | refine wStore1B hk ?_ | refine wStore1S hk ?_ | refine wStore1P hk ?_ | refine wStore1F hk ?_); clear hk; intro w1 hk; simp only [Act.put]))))
  go_ret
  exact ⟨rfl, hk.mod, hk.at (by with_reducible repeat (first | exact List.mem_cons_self | apply List.mem_cons_of_mem)), hk.at (by with_reducible repeat (first | exact List.mem_cons_self | apply List.mem_cons_of_mem))⟩
set_option maxHeartbeats 2000000 in
set_option maxRecDepth 100000 in
theorem takes_pv2 (n m : Nat) (hm : m < n) (V pb pc mb sb kb cb hb : Nat) (back : Nat → Bool) (v : PS) (come : Option St) (hsh : sb ≠ hb) (hVM : V ∉ [sb, hb]) (hkM : kb ∉ [sb, hb]) (w : World) (hV : At w V (prC pb pc mb sb kb cb hb n) 137) (hS : At w sb (plsA n v.W) 174) (hK : At w kb (bosA n back) 4) (hH : At w hb (bosA n v.chg) 4) (hbk : back m = false) (hD : placeEq (joinO joinR (v.W m) come) (v.W m) = true) :
    Calls Tryz.prog 155 #[.pointer (some ⟨V, 0, none⟩), .int .i64 m, .agg (plC come.isSome (stO come))] w fun e w' => e = .returned (.bool true) ∧ TakeP n sb hb (v) w w' := by
  have hk := Kn.two hS hH hsh
  have HD : Hid ((!((joinO joinR (v.W m) come).isSome == (v.W m).isSome && eqS (stO (joinO joinR (v.W m) come)) (stO (v.W m)))) = false) := hide (by unfold placeEq at hD; rw [hD]; rfl)
  clear hD
  go_enter Tryz.func155, Tryz.ntmps155
  go_upto_region 5 with (first | (first | ((go_at_call 156; refine (pl_join _ _ _).mono ?_; rintro e w1 ⟨rfl, hb⟩; replace hk := hk.call hb; clear hb)) | ((go_at_call 157; refine (pl_str _ _ _).mono ?_; rintro e w1 ⟨rfl, hb⟩; replace hk := hk.call hb; clear hb))) | ((with_reducible show wpList _ _ _ _ _ _); (first | ((with_reducible show wpList _ _ _ (⟨_, _, _, _, _, some _⟩ :: _) _ _); refine wpList_skip (by rfl) ?_; simp only [Act.put, List.setIfInBounds_toArray, List.set_cons_succ, List.set_cons_zero]) | ((first | refine wBuild hk ?_ | refine wFieldZ hk ?_ | refine wField0 hk ?_ | refine wField hk ?_ | refine wIndexA0 hk ?_ | refine wIndexS0 hk ?_ | refine wIndexA hk ?_ | refine wIndexS hk ?_ | refine wLoadR hk ?_ | refine wLoad1 hk ?_ | refine wOldR hk ?_ | refine wOld1 hk ?_ | refine wOldC hk ?_ | refine wOldG hk ?_ | refine wAssertY hk ?_ | refine wAssertN hk ?_); simp only [Act.put, List.setIfInBounds_toArray, List.set_cons_succ, List.set_cons_zero]) | ((first | refine wBox hk ?_ | refine wBox1I hk ?_ | refine wBox1B hk ?_ | refine wBox1S hk ?_ | refine wBox1P hk ?_ | refine wBox1F hk ?_ | refine wAllocR hk ?_ | refine wAlloc1 hk ?_ | refine wMake hk ?_); clear hk; intro w1 hk; simp only [Act.put, List.setIfInBounds_toArray, List.set_cons_succ, List.set_cons_zero]) | ((first | refine wStoreR hk ?_ | refine wStore1I hk ?_ | refine wStore1B hk ?_ | refine wStore1S hk ?_ | refine wStore1P hk ?_ | refine wStore1F hk ?_); clear hk; intro w1 hk; simp only [Act.put]))))
  (refine wp_regLK hk (.op 0 (.op 1 (.op 2 .nil))) (by rfl) ?_)
  (repeat ((first | refine vMoveI hk ?_ | refine vMoveB hk ?_ | refine vAssignI hk ?_ | refine vAssignB hk ?_ | refine sMove hk ?_ | refine sAssign hk ?_ | refine sExtract hk ?_ | refine sFieldZ hk ?_ | refine sField0 hk ?_ | refine sField hk ?_ | refine sIndexA0 hk ?_ | refine sIndexS0 hk ?_ | refine sIndexA hk ?_ | refine sIndexS hk ?_ | refine sLoadR hk ?_ | refine sLoad1 hk ?_ | refine sOldR hk ?_ | refine sOld1 hk ?_ | refine sOldC hk ?_ | refine sOldG hk ?_ | refine sBuild hk ?_ | refine sPickT hk ?_ | refine sPickF hk ?_ | refine sLss hk ?_ | refine sLeq hk ?_ | refine sGtr hk ?_ | refine sGeq hk ?_ | refine sEql hk ?_ | refine sNot hk ?_ | refine sSkip hk ?_ | refine sSkipA hk ?_); simp only [Act.put, List.setIfInBounds_toArray, List.set_cons_succ, List.set_cons_zero]))
  refine sNeqP hk ?_; simp only [Act.put, List.setIfInBounds_toArray, List.set_cons_succ, List.set_cons_zero]
  rw [HD.out]
  (repeat ((first | refine vMoveI hk ?_ | refine vMoveB hk ?_ | refine vAssignI hk ?_ | refine vAssignB hk ?_ | refine sMove hk ?_ | refine sAssign hk ?_ | refine sExtract hk ?_ | refine sFieldZ hk ?_ | refine sField0 hk ?_ | refine sField hk ?_ | refine sIndexA0 hk ?_ | refine sIndexS0 hk ?_ | refine sIndexA hk ?_ | refine sIndexS hk ?_ | refine sLoadR hk ?_ | refine sLoad1 hk ?_ | refine sOldR hk ?_ | refine sOld1 hk ?_ | refine sOldC hk ?_ | refine sOldG hk ?_ | refine sBuild hk ?_ | refine sPickT hk ?_ | refine sPickF hk ?_ | refine sLss hk ?_ | refine sLeq hk ?_ | refine sGtr hk ?_ | refine sGeq hk ?_ | refine sEql hk ?_ | refine sNot hk ?_ | refine sSkip hk ?_ | refine sSkipA hk ?_); simp only [Act.put, List.setIfInBounds_toArray, List.set_cons_succ, List.set_cons_zero]))
  refine tNil ?_
  go_wp2_with (first | ((with_reducible show wpList _ _ _ _ _ _); (first | ((with_reducible show wpList _ _ _ (⟨_, _, _, _, _, some _⟩ :: _) _ _); refine wpList_skip (by rfl) ?_; simp only [Act.put, List.setIfInBounds_toArray, List.set_cons_succ, List.set_cons_zero]) | ((first | refine wBuild hk ?_ | refine wFieldZ hk ?_ | refine wField0 hk ?_ | refine wField hk ?_ | refine wIndexA0 hk ?_ | refine wIndexS0 hk ?_ | refine wIndexA hk ?_ | refine wIndexS hk ?_ | refine wLoadR hk ?_ | refine wLoad1 hk ?_ | refine wOldR hk ?_ | refine wOld1 hk ?_ | refine wOldC hk ?_ | refine wOldG hk ?_ | refine wAssertY hk ?_ | refine wAssertN hk ?_); simp only [Act.put, List.setIfInBounds_toArray, List.set_cons_succ, List.set_cons_zero]) | ((first | refine wBox hk ?_ | refine wBox1I hk ?_ | refine wBox1B hk ?_ | refine wBox1S hk ?_ | refine wBox1P hk ?_ | refine wBox1F hk ?_ | refine wAllocR hk ?_ | refine wAlloc1 hk ?_ | refine wMake hk ?_); clear hk; intro w1 hk; simp only [Act.put, List.setIfInBounds_toArray, List.set_cons_succ, List.set_cons_zero]) | ((first | refine wStoreR hk ?_ | refine wStore1I hk ?_ | refine wStore1B hk ?_ | refine wStore1S hk ?_ | refine wStore1P hk ?_ | refine wStore1F hk ?_); clear hk; intro w1 hk; simp only [Act.put]))))
  go_ret
  exact ⟨rfl, hk.mod, hk.at (by with_reducible repeat (first | exact List.mem_cons_self | apply List.mem_cons_of_mem)), hk.at (by with_reducible repeat (first | exact List.mem_cons_self | apply List.mem_cons_of_mem))⟩
end Go.Proofs.YtamiichlbmllcaaGreatDoor
