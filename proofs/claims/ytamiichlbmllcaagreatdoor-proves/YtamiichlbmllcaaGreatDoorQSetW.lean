import Derived.Test.YtamiichlbmllcaaGreatDoorQDo2
import Derived.Test.YtamiichlbmllcaaGreatDoorQPrG
/-
  suretyref.Prover in memory; touch.
-/
namespace Go.Proofs.YtamiichlbmllcaaGreatDoor
open Go.RowKit
def rpC (wb cb tb bb n : Nat) : Array Value := #[.slice (some ⟨wb, 0, none⟩) n n, .slice (some ⟨cb, 0, none⟩) n n, .slice (some ⟨tb, 0, none⟩) n n, .slice (some ⟨bb, 0, none⟩) n n]
theorem rows_exP {n k : Nat} {g : Nat → Array Value} {i o c : Nat} (hi : i < n) (hg : (g i).size = k) (ho : o + c ≤ k) : (rowsA n k g).extract (i * k + o) (i * k + o + c) = (g i).extract o (o + c) := by
  have hn : i * k + k ≤ n * k := by
    have : (i + 1) * k ≤ n * k := Nat.mul_le_mul_right k hi
    rwa [Nat.add_mul, Nat.one_mul] at this
  apply Array.ext_getElem?
  intro q
  by_cases hq : q < c
  · rw [Array.getElem?_extract, if_pos (by rw [rows_size]; omega), Array.getElem?_extract, if_pos (by omega), Nat.add_assoc]
    exact rows_at hi (by omega) hg
  · rw [Array.getElem?_eq_none (by rw [Array.size_extract, rows_size]; omega), Array.getElem?_eq_none (by rw [Array.size_extract]; omega)]
theorem rows_putP {n k : Nat} {g : Nat → Array Value} {i o : Nat} {c : Array Value} (hg : ∀ j, (g j).size = k) (ho : o + c.size ≤ k) : putA (rowsA n k g) (i * k + o) c.toList = rowsA n k (fun j => if j = i then putA (g j) o c.toList else g j) := by
  apply Array.ext_getElem?
  intro q
  by_cases hq : q < n * k
  · have hk : 0 < k := by
      rcases Nat.eq_zero_or_pos k with h | h
      · subst h; simp at hq
      · exact h
    have hml := Nat.mod_lt q hk
    have hdm := Nat.mod_add_div q k
    rw [putA_get _ _ _ _ (by rw [rows_size]; exact hq), rows_get hq, rows_get (g := fun j => if j = i then putA (g j) o c.toList else g j) hq]
    simp only [Array.length_toList]
    by_cases e : q / k = i
    · rw [e] at hdm ⊢
      rw [Nat.mul_comm] at hdm
      simp only [if_true]
      rw [Array.getD_eq_getD_getElem?, Array.getD_eq_getD_getElem?, putA_get _ _ _ _ (by rw [hg i]; exact hml)]
      simp only [Array.length_toList]
      by_cases h1 : o ≤ q % k ∧ q % k < o + c.size
      · rw [if_pos (by omega), if_pos h1, show q - (i * k + o) = q % k - o by omega]
        rw [List.getElem?_eq_getElem (by rw [Array.length_toList]; omega)]
        first | done | rfl
      · rw [if_neg (by omega), if_neg h1, Array.getElem?_eq_getElem (by rw [hg i]; exact hml)]
        first | done | rfl
    · have hne : ¬ (i * k + o ≤ q ∧ q < i * k + o + c.size) := by
        intro h
        apply e
        rw [Nat.div_eq_iff hk]
        omega
      rw [if_neg hne, if_neg e]
  · rw [Array.getElem?_eq_none (by rw [putA_size, rows_size]; omega), Array.getElem?_eq_none (by rw [rows_size]; omega)]
theorem get_is (n : Nat) (W : Nat → Option St) (m : Nat) (h : m < n) : (plsA n W)[m * 17]? = some (.bool (W m).isSome) := by
  have := rows_at (n := n) (k := 17) (g := fun i => plC (W i).isSome (stO (W i))) (i := m) (q := 0) h (by omega) rfl
  exact this
theorem ex_plsS (n : Nat) (W : Nat → Option St) (m : Nat) (h : m < n) : (plsA n W).extract (m * 17 + 1) (m * 17 + 1 + 16) = stC (stO (W m)) := (rows_exP (k := 17) (g := fun i => plC (W i).isSome (stO (W i))) (c := 16) (o := 1) h rfl (by omega)).trans (ex_plst _ _)
theorem ex_plsR (n : Nat) (W : Nat → Option St) (m : Nat) (h : m < n) (i : Nat) (hi : i < 8) : (plsA n W).extract (m * 17 + 1 + i * 2) (m * 17 + 1 + i * 2 + 2) = rgC (stO (W m) i) := by
  rw [show m * 17 + 1 + i * 2 = m * 17 + (1 + i * 2) by omega]
  exact (rows_exP (k := 17) (g := fun i => plC (W i).isSome (stO (W i))) (c := 2) (o := 1 + i * 2) h rfl (by omega)).trans (ex_plat _ _ _ hi)
theorem put_plsR (n : Nat) (W : Nat → Option St) (m : Nat) {s : St} (hs : W m = some s) (i : Nat) (hi : i < 8) (r : R2) : putA (plsA n W) (m * 17 + 1 + i * 2) (rgC r).toList = plsA n (updW W m (some (updS s i r))) := by
  rw [show m * 17 + 1 + i * 2 = m * 17 + (1 + i * 2) by omega]
  have := rows_putP (n := n) (k := 17) (g := fun i => plC (W i).isSome (stO (W i))) (i := m) (o := 1 + i * 2) (c := rgC r) (fun _ => rfl) (by show 1 + i * 2 + 2 ≤ 17; omega)
  refine this.trans (rows_congr fun j _ => ?_)
  unfold updW
  by_cases e : j = m
  · rw [if_pos e, if_pos e, e, hs]
    exact put_plat true s i r hi
  · rw [if_neg e, if_neg e]
/-- how often a mark was touched, this pass as well -/
def cntE (v : PS) : Nat → Nat := fun m => v.cnt m + if v.chg m then 1 else 0
theorem cntE_old {W : Nat → Option St} {v : PS} {m : Nat} (h : v.chg m = true) : cntE ⟨W, v.cnt, updB v.chg m true⟩ = cntE v ∧ updB v.chg m true = v.chg := by
  have e : updB v.chg m true = v.chg := by
    funext j
    unfold updB
    split
    · rename_i e; rw [e, h]
    · rfl
  exact ⟨by unfold cntE; simp only [e], e⟩
theorem cntE_new {W : Nat → Option St} {v : PS} {m : Nat} (h : v.chg m = false) : cntE ⟨W, v.cnt, updB v.chg m true⟩ = updN (cntE v) m (cntE v m + 1) := by
  funext j
  by_cases e : j = m
  · subst e; simp [cntE, updN, updB, h]
  · simp [cntE, updN, updB, e]
set_option maxHeartbeats 8000000 in
set_option maxRecDepth 100000 in
theorem rf_touch (n m : Nat) (hm : m < n) (V wb cb tb bb : Nat) (W : Nat → Option St) (v : PS) (hct : cb ≠ tb) (hVM : V ∉ [cb, tb]) (w : World) (hV : At w V (rpC wb cb tb bb n) 108) (hC : At w cb (intA n (cntE v)) 3) (hT : At w tb (bosA n v.chg) 4) :
    Calls Tryz.prog 113 #[.pointer (some ⟨V, 0, none⟩), .int .i64 m] w fun e w' => e = .returned (.tuple #[]) ∧ Mod [cb, tb] w w' ∧ At w' cb (intA n (cntE ⟨W, v.cnt, updB v.chg m true⟩)) 3 ∧ At w' tb (bosA n (updB v.chg m true)) 4 := by
  have hk := Kn.two hC hT hct
  clear hC hT
  cases hh : v.chg m with
  | true =>
    rw [(cntE_old (W := W) hh).1, (cntE_old (W := W) hh).2]
    go_enter Tryz.func113, Tryz.ntmps113
    go_wp2_with (first | ((with_reducible show wpList _ _ _ _ _ _); (first | (refine wS hk ?_; simp only [Act.put, pw]; (try rw [hh])) | (refine wN hk ?_; clear hk; intro w1 hk; simp only [Act.put, pw]) | (refine wT hk ?_; clear hk; intro w1 hk; simp only [Act.put]))))
    go_end0
    exact ⟨rfl, hk.mod, hk.at (by with_reducible repeat (first | exact List.mem_cons_self | apply List.mem_cons_of_mem)), hk.at (by with_reducible repeat (first | exact List.mem_cons_self | apply List.mem_cons_of_mem))⟩
  | false =>
    rw [cntE_new hh]
    have hadd : wrap64 (wrap64 (cntE v m : Int) + 1) = wrap64 ((cntE v m + 1 : Nat) : Int) := by unfold wrap64; omega
    go_enter Tryz.func113, Tryz.ntmps113
    go_upto_region 2 with (first | ((with_reducible show wpList _ _ _ _ _ _); (first | (refine wS hk ?_; simp only [Act.put, pw]; (try rw [hh])) | (refine wN hk ?_; clear hk; intro w1 hk; simp only [Act.put, pw]) | (refine wT hk ?_; clear hk; intro w1 hk; simp only [Act.put]))))
    (refine wp_regLK hk (.op 0 (.op 1 (.op 2 (.op 3 (.op 4 (.op 5 (.op 6 (.op 7 (.op 8 (.op 9 .nil)))))))))) (by rfl) ?_)
    (repeat (refine sV hk ?_; simp only [Act.put, pw]))
    refine sNil hk ?_; simp only [Act.put, pw]
    (repeat (refine sV hk ?_; simp only [Act.put, pw]))
    refine sLoad1 hk ?_ (hv := get_int _ _ _ hm); simp only [Act.put, pw]
    refine sAddI hk ?_; simp only [Act.put, pw]
    (repeat (refine sV hk ?_; simp only [Act.put, pw]))
    refine sStore1I hk ?_ (hj := by rw [intA_size]; omega) (hA := set_int _ _ _ _); clear hk; intro w1 hk; refine ⟨fun h => absurd h (by decide), ?_⟩; simp only [Act.put]
    refine tNil ?_
    go_wp2_with (first | ((with_reducible show wpList _ _ _ _ _ _); (first | (refine wS hk ?_; simp only [Act.put, pw]) | (refine wN hk ?_; clear hk; intro w1 hk; simp only [Act.put, pw]) | (refine wT hk ?_; clear hk; intro w1 hk; simp only [Act.put]))))
    go_end0
    exact ⟨rfl, hk.mod, hk.at (by with_reducible repeat (first | exact List.mem_cons_self | apply List.mem_cons_of_mem)), hk.at (by with_reducible repeat (first | exact List.mem_cons_self | apply List.mem_cons_of_mem))⟩
end Go.Proofs.YtamiichlbmllcaaGreatDoor
/-
  (*suretyref.Prover).comes: no way; the first way; a way that lies in what is there.
-/
namespace Go.Proofs.YtamiichlbmllcaaGreatDoor
open Go.RowKit
structure RpB (n V wb cb tb bb : Nat) (back : Nat → Bool) (w : World) : Prop where
  v : At w V (rpC wb cb tb bb n) 108
  b : At w bb (bosA n back) 4
  vM : V ∉ [wb, cb, tb]
  bM : bb ∉ [wb, cb, tb]
  wc : wb ≠ cb
  wt : wb ≠ tb
  ct : cb ≠ tb
/-- what comes leaves -/
def ComesP (n wb cb tb : Nat) (v' : PS) (w w' : World) : Prop := Mod [wb, cb, tb] w w' ∧ At w' wb (plsA n v'.W) 110 ∧ At w' cb (intA n (cntE v')) 3 ∧ At w' tb (bosA n v'.chg) 4
theorem Mod.weak {M N : List Nat} {w w' : World} (h : Mod M w w') (hN : ∀ b, b ∈ M → b ∈ N) : Mod N w w' := ⟨h.os, h.tape, h.output, h.size, fun k hk hn => h.block k hk fun hm => hn (hN k hm)⟩
theorem post_0 {P : Program} {fn : Func} {R : Ending → World → Prop} {a : Act} {w : World} (hf : fn.results = #[]) (hd : a.defers = []) (hR : R (.returned (.tuple #[])) w) : bodyPost P fn R .ret a w := bodyPost_ret (v := .tuple #[]) (by simp [results, hf]) hd hR
theorem takes_first {back : Nat → Bool} {v : PS} {m : Nat} {s : St} (h : v.W m = none) : takesP back v m (some s) = ⟨updW v.W m (some s), v.cnt, updB v.chg m true⟩ := by
  rw [takes_at (by rw [h]; rfl)]
  have e : widerP back v m (some s) = some s := by unfold widerP; rw [h]; split <;> rfl
  rw [e]
  rfl
set_option maxHeartbeats 8000000 in
set_option maxRecDepth 100000 in
theorem rf_comes_no (z : Int) (n : Nat) (V wb cb tb bb : Nat) (back : Nat → Bool) (v : PS) (w : World) (hB : RpB n V wb cb tb bb back w) (hW : At w wb (plsA n v.W) 110) (hC : At w cb (intA n (cntE v)) 3) (hT : At w tb (bosA n v.chg) 4) :
    Calls Tryz.prog 93 #[.pointer (some ⟨V, 0, none⟩), .agg (plC false zeroS), .int .i64 z] w fun e w' => e = .returned (.tuple #[]) ∧ ComesP n wb cb tb v w w' := by
  have hk := Kn.three hW hC hT hB.wc hB.wt hB.ct
  go_enter Tryz.func93, Tryz.ntmps93
  go_wp2_with (first | ((with_reducible show wpList _ _ _ _ _ _); (first | (refine wS hk ?_; simp only [Act.put, pw]) | (refine wN hk ?_; clear hk; intro w1 hk; simp only [Act.put, pw]) | (refine wT hk ?_; clear hk; intro w1 hk; simp only [Act.put]))))
  exact post_0 rfl rfl ⟨rfl, hk.mod, hk.at (by with_reducible repeat (first | exact List.mem_cons_self | apply List.mem_cons_of_mem)), hk.at (by with_reducible repeat (first | exact List.mem_cons_self | apply List.mem_cons_of_mem)), hk.at (by with_reducible repeat (first | exact List.mem_cons_self | apply List.mem_cons_of_mem))⟩
set_option maxHeartbeats 8000000 in
set_option maxRecDepth 100000 in
theorem rf_comes_first (n m : Nat) (hm : m < n) (V wb cb tb bb : Nat) (back : Nat → Bool) (v : PS) (w : World) (hB : RpB n V wb cb tb bb back w) (hW : At w wb (plsA n v.W) 110) (hC : At w cb (intA n (cntE v)) 3) (hT : At w tb (bosA n v.chg) 4) (s : St) (hWm : v.W m = none) :
    Calls Tryz.prog 93 #[.pointer (some ⟨V, 0, none⟩), .agg (plC true s), .int .i64 m] w fun e w' => e = .returned (.tuple #[]) ∧ ComesP n wb cb tb ⟨updW v.W m (some s), v.cnt, updB v.chg m true⟩ w w' := by
  have hVM := hB.vM
  have hbM := hB.bM
  have hV := hB.v
  have hK := hB.b
  have hVt : V ∉ [cb, tb] := fun h => hVM (List.mem_cons_of_mem _ h)
  have hk := Kn.three hW hC hT hB.wc hB.wt hB.ct
  have hWi : (v.W m).isSome = false := by rw [hWm]; rfl
  clear hWm
  go_enter Tryz.func93, Tryz.ntmps93
  go_upto_region 3 with (first | ((with_reducible show wpList _ _ _ (⟨some 19, _, _, _, _, _⟩ :: _) _ _); refine wLoad1 hk ?_ (hv := get_is _ _ _ hm); simp only [Act.put, pw]; rw [hWi]) | ((with_reducible show wpList _ _ _ _ _ _); (first | (refine wS hk ?_; simp only [Act.put, pw]) | (refine wN hk ?_; clear hk; intro w1 hk; simp only [Act.put, pw]) | (refine wT hk ?_; clear hk; intro w1 hk; simp only [Act.put]))))
  refine wp_reg1 hk (.op 0 (.op 1 (.op 2 (.op 3 (.op 4 (.op 5 (.op 6 (.op 7 .nil)))))))) (fun i => decide (i < 6)) mixT (by decide) (by kernel_rfl) (by kernel_rfl) ?_; clear hk; intro w1 hk
  (repeat (refine sV hk.first ?_; simp only [Act.put, pw]))
  refine sNil hk.first ?_; simp only [Act.put, pw]
  (repeat (refine sV hk.first ?_; simp only [Act.put, pw]))
  refine sStore hk ?_; clear hk; intro w1 hk; refine ⟨fun h => absurd h (by decide), ?_⟩; simp only [Act.put]
  refine tNil ?_
  go_wp2_with (first | (go_at_call 113; refine (rf_touch n m hm V wb cb tb bb (updW v.W m (some s)) v hB.ct hVt _ (hV.mod hk.mod hVM) (hk.at (by with_reducible repeat (first | exact List.mem_cons_self | apply List.mem_cons_of_mem))) (hk.at (by with_reducible repeat (first | exact List.mem_cons_self | apply List.mem_cons_of_mem)))).mono ?_; rintro e w2 ⟨rfl, hm2, h1, h2⟩) | ((with_reducible show wpList _ _ _ _ _ _); (first | (refine wS hk ?_; simp only [Act.put, pw]) | (refine wN hk ?_; clear hk; intro w1 hk; simp only [Act.put, pw]) | (refine wT hk ?_; clear hk; intro w1 hk; simp only [Act.put]))))
  have hne : wb ∉ [cb, tb] := by simp [hB.wc, hB.wt]
  exact post_0 rfl rfl ⟨rfl, hk.mod.trans (hm2.weak (fun b hb => List.mem_cons_of_mem _ hb)), (hk.at (A := plsA n (updW v.W m (some s))) (by with_reducible repeat (first | exact List.mem_cons_self | apply List.mem_cons_of_mem))).mod hm2 hne, h1, h2⟩
set_option maxHeartbeats 8000000 in
set_option maxRecDepth 100000 in
theorem rf_comes_lies (n m : Nat) (hm : m < n) (V wb cb tb bb : Nat) (back : Nat → Bool) (v : PS) (w : World) (hB : RpB n V wb cb tb bb back w) (hW : At w wb (plsA n v.W) 110) (hC : At w cb (intA n (cntE v)) 3) (hT : At w tb (bosA n v.chg) 4) (s t : St) (hWm : v.W m = some t) (hl : liesR s t = true) :
    Calls Tryz.prog 93 #[.pointer (some ⟨V, 0, none⟩), .agg (plC true s), .int .i64 m] w fun e w' => e = .returned (.tuple #[]) ∧ ComesP n wb cb tb v w w' := by
  have hVM := hB.vM
  have hbM := hB.bM
  have hV := hB.v
  have hK := hB.b
  have hVt : V ∉ [cb, tb] := fun h => hVM (List.mem_cons_of_mem _ h)
  have hk := Kn.three hW hC hT hB.wc hB.wt hB.ct
  have hWi : (v.W m).isSome = true := by rw [hWm]; rfl
  have hWs : stO (v.W m) = t := by rw [hWm]; rfl
  have HL := hide hl
  clear hWm hl
  go_enter Tryz.func93, Tryz.ntmps93
  go_upto_region 5 with (first | ((with_reducible show wpList _ _ _ (⟨some 19, _, _, _, _, _⟩ :: _) _ _); refine wLoad1 hk ?_ (hv := get_is _ _ _ hm); simp only [Act.put, pw]; rw [hWi]) | ((with_reducible show wpList _ _ _ _ _ _); (first | (refine wS hk ?_; simp only [Act.put, pw]) | (refine wN hk ?_; clear hk; intro w1 hk; simp only [Act.put, pw]) | (refine wT hk ?_; clear hk; intro w1 hk; simp only [Act.put]))))
  (refine wp_regK hk (.op 0 (.op 1 (.op 2 (.op 3 (.op 4 (.op 5 (.op 6 (.op 7 (.op 8 (.op 9 (.op 10 (.op 11 .nil)))))))))))) (fun i => decide (i < 11)) mixT (by decide) (by kernel_rfl) (by kernel_rfl) ?_; clear hk; intro w1 hk)
  (repeat (refine sV hk ?_; simp only [Act.put, pw]))
  refine sNil hk ?_; simp only [Act.put, pw]
  (repeat (refine sV hk ?_; simp only [Act.put, pw]))
  refine sLoadR hk ?_ (hc := ex_plsS _ _ _ hm); simp only [Act.put, pw]
  rw [hWs]
  refine sCall ?_; intro K hK; go_step; go_at_call 114
  refine (rf_lies s t _).mono ?_
  rintro e w2 ⟨rfl, hb⟩
  replace hk := hk.call hb
  refine hK _ _ (fun _ => hk) ?_
  clear hK K hb
  rw [HL.out]
  (repeat (refine sV hk ?_; simp only [Act.put, pw]))
  refine tNil ?_
  go_wp2_with (first | ((with_reducible show wpList _ _ _ _ _ _); (first | (refine wS hk ?_; simp only [Act.put, pw]) | (refine wN hk ?_; clear hk; intro w1 hk; simp only [Act.put, pw]) | (refine wT hk ?_; clear hk; intro w1 hk; simp only [Act.put]))))
  exact post_0 rfl rfl ⟨rfl, hk.mod, hk.at (by with_reducible repeat (first | exact List.mem_cons_self | apply List.mem_cons_of_mem)), hk.at (by with_reducible repeat (first | exact List.mem_cons_self | apply List.mem_cons_of_mem)), hk.at (by with_reducible repeat (first | exact List.mem_cons_self | apply List.mem_cons_of_mem))⟩
end Go.Proofs.YtamiichlbmllcaaGreatDoor
/-
  (*suretyref.Prover).comes: a way that widens what is there.
-/
namespace Go.Proofs.YtamiichlbmllcaaGreatDoor
open Go.RowKit
theorem set_rg0 (r : R2) (v : Int) : (rgC r).setIfInBounds 0 (.int .i64 v) = rgC ⟨v, r.hi⟩ := rfl
theorem set_rg1 (r : R2) (v : Int) : (rgC r).setIfInBounds 1 (.int .i64 v) = rgC ⟨r.lo, v⟩ := rfl
theorem joinR_is00 {r o : R2} (h1 : ¬ o.lo < r.lo) (h2 : ¬ r.hi < o.hi) : joinR r o = ⟨r.lo, r.hi⟩ := by unfold joinR; congr 1 <;> omega
theorem joinR_is01 {r o : R2} (h1 : ¬ o.lo < r.lo) (h2 : r.hi < o.hi) : joinR r o = ⟨r.lo, o.hi⟩ := by unfold joinR; congr 1 <;> omega
theorem joinR_is10 {r o : R2} (h1 : o.lo < r.lo) (h2 : ¬ r.hi < o.hi) : joinR r o = ⟨o.lo, r.hi⟩ := by unfold joinR; congr 1 <;> omega
theorem joinR_is11 {r o : R2} (h1 : o.lo < r.lo) (h2 : r.hi < o.hi) : joinR r o = ⟨o.lo, o.hi⟩ := by unfold joinR; congr 1 <;> omega
theorem stretchR_is00 {r o : R2} (h1 : ¬ o.lo < r.lo) (h2 : ¬ r.hi < o.hi) : stretchR r o = ⟨r.lo, r.hi⟩ := by unfold stretchR; rw [if_pos (by omega), if_pos (by omega)]
theorem stretchR_is01 {r o : R2} (h1 : ¬ o.lo < r.lo) (h2 : r.hi < o.hi) : stretchR r o = ⟨r.lo, 9223372036854775807⟩ := by unfold stretchR; rw [if_pos (by omega), if_neg (by omega)]
theorem stretchR_is10 {r o : R2} (h1 : o.lo < r.lo) (h2 : ¬ r.hi < o.hi) : stretchR r o = ⟨-9223372036854775808, r.hi⟩ := by unfold stretchR; rw [if_neg (by omega), if_pos (by omega)]
theorem stretchR_is11 {r o : R2} (h1 : o.lo < r.lo) (h2 : r.hi < o.hi) : stretchR r o = ⟨-9223372036854775808, 9223372036854775807⟩ := by unfold stretchR; rw [if_neg (by omega), if_neg (by omega)]
theorem joinR_if (r o : R2) : joinR r o = ⟨cond (decide (o.lo < r.lo)) o.lo r.lo, cond (decide (r.hi < o.hi)) o.hi r.hi⟩ := by
  by_cases h1 : o.lo < r.lo <;> by_cases h2 : r.hi < o.hi <;> simp only [h1, h2, decide_true, decide_false, cond_true, cond_false]
  · exact joinR_is11 h1 h2
  · exact joinR_is10 h1 h2
  · exact joinR_is01 h1 h2
  · exact joinR_is00 h1 h2
theorem stretchR_if (r o : R2) : stretchR r o = ⟨cond (decide (o.lo < r.lo)) (-9223372036854775808) r.lo, cond (decide (r.hi < o.hi)) 9223372036854775807 r.hi⟩ := by
  by_cases h1 : o.lo < r.lo <;> by_cases h2 : r.hi < o.hi <;> simp only [h1, h2, decide_true, decide_false, cond_true, cond_false]
  · exact stretchR_is11 h1 h2
  · exact stretchR_is10 h1 h2
  · exact stretchR_is01 h1 h2
  · exact stretchR_is00 h1 h2
end Go.Proofs.YtamiichlbmllcaaGreatDoor
/-
  Wide frames: a slot is written, eight at a time.
-/
namespace Go.Proofs.YtamiichlbmllcaaGreatDoor
open Go.RowKit
theorem set_w : (∀ (a0 a1 a2 a3 a4 a5 a6 a7 : Value) (l : List Value) (n : Nat) (v : Value), (a0 :: a1 :: a2 :: a3 :: a4 :: a5 :: a6 :: a7 :: l).set (n + 8) v = a0 :: a1 :: a2 :: a3 :: a4 :: a5 :: a6 :: a7 :: l.set n v) ∧
    (∀ (a0 : Value) (l : List Value) (v : Value), (a0 :: l).set 0 v = v :: l) ∧
    (∀ (a0 a1 : Value) (l : List Value) (v : Value), (a0 :: a1 :: l).set 1 v = a0 :: v :: l) ∧
    (∀ (a0 a1 a2 : Value) (l : List Value) (v : Value), (a0 :: a1 :: a2 :: l).set 2 v = a0 :: a1 :: v :: l) ∧
    (∀ (a0 a1 a2 a3 : Value) (l : List Value) (v : Value), (a0 :: a1 :: a2 :: a3 :: l).set 3 v = a0 :: a1 :: a2 :: v :: l) ∧
    (∀ (a0 a1 a2 a3 a4 : Value) (l : List Value) (v : Value), (a0 :: a1 :: a2 :: a3 :: a4 :: l).set 4 v = a0 :: a1 :: a2 :: a3 :: v :: l) ∧
    (∀ (a0 a1 a2 a3 a4 a5 : Value) (l : List Value) (v : Value), (a0 :: a1 :: a2 :: a3 :: a4 :: a5 :: l).set 5 v = a0 :: a1 :: a2 :: a3 :: a4 :: v :: l) ∧
    (∀ (a0 a1 a2 a3 a4 a5 a6 : Value) (l : List Value) (v : Value), (a0 :: a1 :: a2 :: a3 :: a4 :: a5 :: a6 :: l).set 6 v = a0 :: a1 :: a2 :: a3 :: a4 :: a5 :: v :: l) ∧
    (∀ (a0 a1 a2 a3 a4 a5 a6 a7 : Value) (l : List Value) (v : Value), (a0 :: a1 :: a2 :: a3 :: a4 :: a5 :: a6 :: a7 :: l).set 7 v = a0 :: a1 :: a2 :: a3 :: a4 :: a5 :: a6 :: v :: l) :=
  ⟨fun _ _ _ _ _ _ _ _ _ _ _ => rfl, fun _ _ _ => rfl, fun _ _ _ _ => rfl, fun _ _ _ _ _ => rfl, fun _ _ _ _ _ _ => rfl, fun _ _ _ _ _ _ _ => rfl, fun _ _ _ _ _ _ _ _ => rfl, fun _ _ _ _ _ _ _ _ _ => rfl, fun _ _ _ _ _ _ _ _ _ _ => rfl⟩
end Go.Proofs.YtamiichlbmllcaaGreatDoor
