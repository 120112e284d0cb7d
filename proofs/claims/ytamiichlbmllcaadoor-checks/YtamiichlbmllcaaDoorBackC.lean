/-
  The contract of suretylaw.backClaims.
-/
import Derived.Test.YtamiichlbmllcaaDoorLentC
import Derived.DeepKeys
import Derived.Deep.CutRange
namespace Go.Proofs.YtamiichlbmllcaaDoor
open Go.RowKit
set_option maxHeartbeats 2000000 in
set_option maxRecDepth 100000 in
theorem eqIn_st (s : St) (w : World) : (Op.equalIn 9999 38 (.agg (stC s)) (.agg (stC s))).run Tryd.prog w = .ok true w := by
  obtain ⟨i, hi, hz⟩ : ∃ i, Tryd.prog.info? 36 = some i ∧ i.size = 2 := by
    obtain ⟨i, hi, h2⟩ := Option.map_eq_some_iff.1 (show (Tryd.prog.info? 36).map (·.size) = some 2 by kernel_rfl)
    exact ⟨i, hi, h2⟩
  rw [run_equalIn_array w 9998 (stC s) (stC s) Tryd.underlying38 hi, show Tryd.prog.cellsOf 36 = 2 by kernel_rfl, show List.range 8 = [0, 1, 2, 3, 4, 5, 6, 7] from rfl]
  unfold stC
  simp [Op.eqItems, go_sem]
set_option maxHeartbeats 2000000 in
set_option maxRecDepth 100000 in
theorem eq_cl (ρ : Operand → Value) (d : Option Tmp) (x y : Operand) (tt : TypeId) (pos : String) (aft : Array Edge) (g : Option (Nat × Bool)) (p : Int) (s : St) (w : World) (hx : ρ x = .agg (clC p s)) (hy : ρ y = .agg (clC p s)) :
    (execOp ρ ⟨d, .binOp .eql 60 x y 60, tt, pos, aft, g⟩).run Tryd.prog w = .ok (.value (.bool true)) w := by
  unfold execOp
  simp only [hx, hy]
  have := fun w => eqIn_st s w
  unfold stC at this
  unfold clC
  simp [go_sem, this]
section
variable {l : List Oper} {Q : Exit → Act → World → Prop} {F : Nat → Bool} {S : World → Prop} {i : Nat} {r : OT} {a : Act} {w : World} {d : Option Tmp} {x y : Operand} {t tt : TypeId} {pos : String} {aft : Array Edge} {g : Option (Nat × Bool)}
set_option maxRecDepth 100000 in
theorem sEqC {p : Int} {s : St} (hk : S w) (h : wpT Tryd.prog l Q F S r (a.put d (.bool true)) w) (ho : nthO i l = some ⟨d, .binOp .eql 60 x y 60, tt, pos, aft, g⟩ := by rfl) (hw : Region.wanted ⟨d, .binOp .eql 60 x y 60, tt, pos, aft, g⟩ (yielded l.toArray a.tmps) = true := by rfl) (hx : a.eval x = .agg (clC p s) := by rfl) (hy : a.eval y = .agg (clC p s) := by rfl) : wpT Tryd.prog l Q F S (.op i r) a w :=
  tRun ho rfl hw hk (fun wx => eq_cl _ _ _ _ _ _ _ _ p s wx hx hy) h
theorem add_run (ρ : Operand → Value) (d : Option Tmp) (x y : Operand) (tt t' : TypeId) (pos : String) (aft : Array Edge) (g : Option (Nat × Bool)) (p q : Int) (w : World) (hx : ρ x = .int .i64 p) (hy : ρ y = .int .i64 q) : (execOp ρ ⟨d, .binOp .add 3 x y t', tt, pos, aft, g⟩).run Tryd.prog w = .ok (.value (.int .i64 (wrap64 (p + q)))) w := by
  unfold execOp; simp only [hx, hy]; simp [go_sem]; exact IntWalk.i64_left _
set_option maxRecDepth 100000 in
theorem sAdd {p q m : Int} (hk : S w) (h : wpT Tryd.prog l Q F S r (a.put d (.int .i64 m)) w) (ho : nthO i l = some ⟨d, .binOp .add 3 x y t, tt, pos, aft, g⟩ := by rfl) (hw : Region.wanted ⟨d, .binOp .add 3 x y t, tt, pos, aft, g⟩ (yielded l.toArray a.tmps) = true := by rfl) (hx : a.eval x = .int .i64 p := by rfl) (hy : a.eval y = .int .i64 q := by rfl) (hm : wrap64 (p + q) = m := by assumption) : wpT Tryd.prog l Q F S (.op i r) a w :=
  tRun ho rfl hw hk (fun wx => (add_run _ _ _ _ _ _ _ _ _ p q wx hx hy).trans (by rw [hm])) h
end
theorem ex_clsX {n : Nat} {f : Nat → C2} {i : Nat} {p : Int} {s : St} (h : i < n) (hf : f i = ⟨p, s⟩) : (clsA n f).extract (i * 17) (i * 17 + 17) = clC p s := by rw [ex_cls n f i h, hf]
/-- while it is written over -/
def backU (cl : List C2) (k : Nat) : Nat → C2 := fun i => if i < k then ⟨-1, zeroS⟩ else lentU cl (cl.length + 3) i
theorem backU_step (cl : List C2) (N k : Nat) : clsA N (updC (backU cl k) k ⟨-1, zeroS⟩) = clsA N (backU cl (k + 1)) := cls_congr fun i _ => by
  unfold updC backU
  by_cases h1 : i = k
  · subst h1; rw [if_pos rfl, if_pos (by omega)]
  · rw [if_neg h1]
    by_cases h3 : i < k
    · rw [if_pos h3, if_pos (by omega)]
    · rw [if_neg h3, if_neg (by omega)]
theorem Kn.one {w : World} {g : Nat} {A : Array Value} {t : TypeId} (h : At w g A t) : Kn [g] w w [(g, A, t)] := ⟨Mod.refl _ _, fun x hx => (by simp at hx; subst hx; exact ⟨h, Or.inr (by simp)⟩), List.pairwise_singleton _ _⟩
theorem Mod.base {w w' : World} {g base : Nat} (h : Mod [g] w w') (hb : base ≤ g) (hg : g < w.heap.size) : Below base w w' := ⟨h.os, h.tape, h.output, h.size, fun k hk => h.block k (by omega) (by simp; omega)⟩
set_option maxHeartbeats 2000000 in
set_option maxRecDepth 100000 in
theorem backC_some (cl : List C2) (a : Addr) (c g base : Nat) (w : World) (hbg : base ≤ g) (hat : At w g (clsA (cl.length + 3) (lentU cl (cl.length + 3))) 60) (hp : 0 < cl.length → ∃ b off, a = ⟨b, off, none⟩ ∧ b < base ∧ ∀ i, i < cl.length → w.rangeAt b (off + i * 17) (clC (clAt cl i).pl (clAt cl i).st).toList) (hlen : cl.length * 136 ≤ 140737488351232) :
    Calls Tryd.prog 19 #[.slice (some ⟨g, 0, none⟩) cl.length (cl.length + 3), .slice (some a) cl.length c] w fun e w' => e = .returned (.bool true) ∧ Mod [g] w w' := by
  have hq := fun wx => Lib.run_eql_slice_nil (P := Tryd.prog) wx 39 60 (some a) cl.length c 0 0 Tryd.underlying39
  simp only [Option.isNone_some] at hq
  have hgs := lt_of_block hat
  have hk := Kn.one hat
  have HP := hide hp
  clear hp hat
  go_enter Tryd.func19, Tryd.ntmps19
  go_wp2_with (first | ((with_reducible show wpList _ _ _ _ _ _); (first | ((with_reducible show wpList _ _ _ (⟨_, _, _, _, _, some _⟩ :: _) _ _); refine wpList_skip (by rfl) ?_; simp only [Act.put, List.setIfInBounds_toArray, List.set_cons_succ, List.set_cons_zero]) | ((first | refine wBuild hk ?_ | refine wFieldZ hk ?_ | refine wField0 hk ?_ | refine wField hk ?_ | refine wIndexA0 hk ?_ | refine wIndexS0 hk ?_ | refine wIndexA hk ?_ | refine wIndexS hk ?_ | refine wLoadR hk ?_ | refine wLoad1 hk ?_ | refine wOldR hk ?_ | refine wOld1 hk ?_ | refine wOldC hk ?_ | refine wOldG hk ?_ | refine wAssertY hk ?_ | refine wAssertN hk ?_); simp only [Act.put, List.setIfInBounds_toArray, List.set_cons_succ, List.set_cons_zero]) | ((first | refine wBox hk ?_ | refine wBox1I hk ?_ | refine wBox1B hk ?_ | refine wBox1S hk ?_ | refine wBox1P hk ?_ | refine wBox1F hk ?_ | refine wAllocR hk ?_ | refine wAlloc1 hk ?_ | refine wMake hk ?_); clear hk; intro w1 hk; simp only [Act.put, List.setIfInBounds_toArray, List.set_cons_succ, List.set_cons_zero]) | ((first | refine wStoreR hk ?_ | refine wStore1I hk ?_ | refine wStore1B hk ?_ | refine wStore1S hk ?_ | refine wStore1P hk ?_ | refine wStore1F hk ?_); clear hk; intro w1 hk; simp only [Act.put]))))
  go_loopw [6, 7] (fun ok j wr => ∃ n : Nat, n ≤ cl.length + 3 ∧ ok = .bool true ∧ j = .int .i64 n ∧ Kn [g] w wr [(g, clsA (cl.length + 3) (backU cl n), 60)]) (fun _ j _ => cl.length + 3 - (intOf j).toNat)
  case atStart => exact ⟨0, by omega, rfl, rfl, hk⟩
  case round =>
    clear hk
    obtain ⟨n, hn, rfl, rfl, hk⟩ := hrel
    by_cases hlt : n < cl.length + 3
    · have R := hide (backU_step cl (cl.length + 3) n)
      by_cases hin : n < cl.length
      · obtain ⟨b, off, rfl, hb, hi⟩ := HP.out (by omega)
        have hci := hi n hin
        have hbs : b < w.heap.size := by omega
        have hbn : b ∉ [g] := by simp; omega
        obtain ⟨st, hst⟩ : ∃ st, st = (clAt cl n).st := ⟨_, rfl⟩
        obtain ⟨p, hp⟩ : ∃ p, p = (clAt cl n).pl := ⟨_, rfl⟩
        rw [← hst, ← hp] at hci
        have HB : Hid (backU cl n n = ⟨p, st⟩) := hide (by unfold backU lentU; rw [if_neg (by omega), if_pos hin, hst, hp])
        clear hi hst hp
        go_wp2_with (first | ((with_reducible show wpList _ _ _ _ _ _); (first | ((with_reducible show wpList _ _ _ (⟨_, _, _, _, _, some _⟩ :: _) _ _); refine wpList_skip (by rfl) ?_; simp only [Act.put, List.setIfInBounds_toArray, List.set_cons_succ, List.set_cons_zero]) | ((first | refine wBuild hk ?_ | refine wFieldZ hk ?_ | refine wField0 hk ?_ | refine wField hk ?_ | refine wIndexA0 hk ?_ | refine wIndexS0 hk ?_ | refine wIndexA hk ?_ | refine wIndexS hk ?_ | refine wLoadR hk ?_ | refine wLoad1 hk ?_ | refine wOldR hk ?_ | refine wOld1 hk ?_ | refine wOldC hk ?_ | refine wOldG hk ?_ | refine wAssertY hk ?_ | refine wAssertN hk ?_); simp only [Act.put, List.setIfInBounds_toArray, List.set_cons_succ, List.set_cons_zero]) | ((first | refine wBox hk ?_ | refine wBox1I hk ?_ | refine wBox1B hk ?_ | refine wBox1S hk ?_ | refine wBox1P hk ?_ | refine wBox1F hk ?_ | refine wAllocR hk ?_ | refine wAlloc1 hk ?_ | refine wMake hk ?_); clear hk; intro w1 hk; simp only [Act.put, List.setIfInBounds_toArray, List.set_cons_succ, List.set_cons_zero]) | ((first | refine wStoreR hk ?_ | refine wStore1I hk ?_ | refine wStore1B hk ?_ | refine wStore1S hk ?_ | refine wStore1P hk ?_ | refine wStore1F hk ?_); clear hk; intro w1 hk; simp only [Act.put]))))
        (refine wp_regK hk (.op 0 (.op 1 (.op 2 (.op 3 (.op 4 (.op 5 (.op 6 (.op 7 (.op 8 (.op 9 (.op 10 (.op 11 (.op 12 .nil))))))))))))) (fun i => decide (i < 12)) mixT (by decide) (by kernel_rfl) (by kernel_rfl) ?_; clear hk; intro w1 hk)
        iterate 5 (first | (refine sMove hk ?_; simp only [Act.put, List.setIfInBounds_toArray, List.set_cons_succ, List.set_cons_zero]) | (refine sIndexS0 hk ?_; simp only [Act.put, List.setIfInBounds_toArray, List.set_cons_succ, List.set_cons_zero]))
        refine sLoadR hk ?_ (hc := ex_clsX hlt HB.out); simp only [Act.put, List.setIfInBounds_toArray, List.set_cons_succ, List.set_cons_zero]
        (repeat ((first | refine vMoveI hk ?_ | refine vMoveB hk ?_ | refine vAssignI hk ?_ | refine vAssignB hk ?_ | refine sMove hk ?_ | refine sAssign hk ?_ | refine sExtract hk ?_ | refine sFieldZ hk ?_ | refine sField0 hk ?_ | refine sField hk ?_ | refine sIndexA0 hk ?_ | refine sIndexS0 hk ?_ | refine sIndexA hk ?_ | refine sIndexS hk ?_ | refine sLoadR hk ?_ | refine sLoad1 hk ?_ | refine sOldR hk ?_ | refine sOld1 hk ?_ | refine sOldC hk ?_ | refine sOldG hk ?_ | refine sBuild hk ?_ | refine sPickT hk ?_ | refine sPickF hk ?_ | refine sLss hk ?_ | refine sLeq hk ?_ | refine sGtr hk ?_ | refine sGeq hk ?_ | refine sEql hk ?_ | refine sNot hk ?_ | refine sSkip hk ?_ | refine sSkipA hk ?_); simp only [Act.put, List.setIfInBounds_toArray, List.set_cons_succ, List.set_cons_zero]))
        refine sEqC hk ?_; simp only [Act.put, List.setIfInBounds_toArray, List.set_cons_succ, List.set_cons_zero]
        (repeat ((first | refine vMoveI hk ?_ | refine vMoveB hk ?_ | refine vAssignI hk ?_ | refine vAssignB hk ?_ | refine sMove hk ?_ | refine sAssign hk ?_ | refine sExtract hk ?_ | refine sFieldZ hk ?_ | refine sField0 hk ?_ | refine sField hk ?_ | refine sIndexA0 hk ?_ | refine sIndexS0 hk ?_ | refine sIndexA hk ?_ | refine sIndexS hk ?_ | refine sLoadR hk ?_ | refine sLoad1 hk ?_ | refine sOldR hk ?_ | refine sOld1 hk ?_ | refine sOldC hk ?_ | refine sOldG hk ?_ | refine sBuild hk ?_ | refine sPickT hk ?_ | refine sPickF hk ?_ | refine sLss hk ?_ | refine sLeq hk ?_ | refine sGtr hk ?_ | refine sGeq hk ?_ | refine sEql hk ?_ | refine sNot hk ?_ | refine sSkip hk ?_ | refine sSkipA hk ?_); simp only [Act.put, List.setIfInBounds_toArray, List.set_cons_succ, List.set_cons_zero]))
        refine tNil ?_
        go_wp2_with (first | (refine wBuild hk ?_ (hb := build_cla _ _); simp only [Act.put, List.setIfInBounds_toArray, List.set_cons_succ, List.set_cons_zero]) | (refine wStoreR hk ?_ (hj := by simp only [clsA_size]; omega) (hA := put_cls _ _ _ _ _); clear hk; intro w1 hk; simp only [Act.put]) | ((with_reducible show wpList _ _ _ _ _ _); (first | ((with_reducible show wpList _ _ _ (⟨_, _, _, _, _, some _⟩ :: _) _ _); refine wpList_skip (by rfl) ?_; simp only [Act.put, List.setIfInBounds_toArray, List.set_cons_succ, List.set_cons_zero]) | ((first | refine wBuild hk ?_ | refine wFieldZ hk ?_ | refine wField0 hk ?_ | refine wField hk ?_ | refine wIndexA0 hk ?_ | refine wIndexS0 hk ?_ | refine wIndexA hk ?_ | refine wIndexS hk ?_ | refine wLoadR hk ?_ | refine wLoad1 hk ?_ | refine wOldR hk ?_ | refine wOld1 hk ?_ | refine wOldC hk ?_ | refine wOldG hk ?_ | refine wAssertY hk ?_ | refine wAssertN hk ?_); simp only [Act.put, List.setIfInBounds_toArray, List.set_cons_succ, List.set_cons_zero]) | ((first | refine wBox hk ?_ | refine wBox1I hk ?_ | refine wBox1B hk ?_ | refine wBox1S hk ?_ | refine wBox1P hk ?_ | refine wBox1F hk ?_ | refine wAllocR hk ?_ | refine wAlloc1 hk ?_ | refine wMake hk ?_); clear hk; intro w1 hk; simp only [Act.put, List.setIfInBounds_toArray, List.set_cons_succ, List.set_cons_zero]) | ((first | refine wStoreR hk ?_ | refine wStore1I hk ?_ | refine wStore1B hk ?_ | refine wStore1S hk ?_ | refine wStore1P hk ?_ | refine wStore1F hk ?_); clear hk; intro w1 hk; simp only [Act.put]))))
        go_roundw
        case rel => exact ⟨n + 1, by omega, rfl, by go_num, by rw [← R.out]; exact hk⟩
        case measure => simp [intOf]; omega
      · have HB : Hid (backU cl n n = ⟨77 + (n : Int), zeroS⟩) := hide (by unfold backU lentU; rw [if_neg (by omega), if_neg hin, if_pos hlt])
        have hadd : wrap64 (77 + (n : Int)) = 77 + (n : Int) := by unfold wrap64; omega
        go_upto_region 10 with (first | ((with_reducible show wpList _ _ _ _ _ _); (first | ((with_reducible show wpList _ _ _ (⟨_, _, _, _, _, some _⟩ :: _) _ _); refine wpList_skip (by rfl) ?_; simp only [Act.put, List.setIfInBounds_toArray, List.set_cons_succ, List.set_cons_zero]) | ((first | refine wBuild hk ?_ | refine wFieldZ hk ?_ | refine wField0 hk ?_ | refine wField hk ?_ | refine wIndexA0 hk ?_ | refine wIndexS0 hk ?_ | refine wIndexA hk ?_ | refine wIndexS hk ?_ | refine wLoadR hk ?_ | refine wLoad1 hk ?_ | refine wOldR hk ?_ | refine wOld1 hk ?_ | refine wOldC hk ?_ | refine wOldG hk ?_ | refine wAssertY hk ?_ | refine wAssertN hk ?_); simp only [Act.put, List.setIfInBounds_toArray, List.set_cons_succ, List.set_cons_zero]) | ((first | refine wBox hk ?_ | refine wBox1I hk ?_ | refine wBox1B hk ?_ | refine wBox1S hk ?_ | refine wBox1P hk ?_ | refine wBox1F hk ?_ | refine wAllocR hk ?_ | refine wAlloc1 hk ?_ | refine wMake hk ?_); clear hk; intro w1 hk; simp only [Act.put, List.setIfInBounds_toArray, List.set_cons_succ, List.set_cons_zero]) | ((first | refine wStoreR hk ?_ | refine wStore1I hk ?_ | refine wStore1B hk ?_ | refine wStore1S hk ?_ | refine wStore1P hk ?_ | refine wStore1F hk ?_); clear hk; intro w1 hk; simp only [Act.put]))))
        (refine wp_regLK hk (.op 0 (.op 1 (.op 2 (.op 3 (.op 4 (.op 5 (.op 6 (.op 7 (.op 8 (.op 9 (.op 10 (.op 11 .nil)))))))))))) (by rfl) ?_)
        iterate 5 (first | (refine sMove hk ?_; simp only [Act.put, List.setIfInBounds_toArray, List.set_cons_succ, List.set_cons_zero]) | (refine sIndexS0 hk ?_; simp only [Act.put, List.setIfInBounds_toArray, List.set_cons_succ, List.set_cons_zero]))
        refine sLoadR hk ?_ (hc := ex_clsX hlt HB.out); simp only [Act.put, List.setIfInBounds_toArray, List.set_cons_succ, List.set_cons_zero]
        refine sMove hk ?_; simp only [Act.put, List.setIfInBounds_toArray, List.set_cons_succ, List.set_cons_zero]
        refine sAdd hk ?_; simp only [Act.put, List.setIfInBounds_toArray, List.set_cons_succ, List.set_cons_zero]
        refine sBuild hk ?_ (hb := fun wx => build_cla _ wx); simp only [Act.put, List.setIfInBounds_toArray, List.set_cons_succ, List.set_cons_zero]
        refine sEqC hk ?_; simp only [Act.put, List.setIfInBounds_toArray, List.set_cons_succ, List.set_cons_zero]
        (repeat ((first | refine vMoveI hk ?_ | refine vMoveB hk ?_ | refine vAssignI hk ?_ | refine vAssignB hk ?_ | refine sMove hk ?_ | refine sAssign hk ?_ | refine sExtract hk ?_ | refine sFieldZ hk ?_ | refine sField0 hk ?_ | refine sField hk ?_ | refine sIndexA0 hk ?_ | refine sIndexS0 hk ?_ | refine sIndexA hk ?_ | refine sIndexS hk ?_ | refine sLoadR hk ?_ | refine sLoad1 hk ?_ | refine sOldR hk ?_ | refine sOld1 hk ?_ | refine sOldC hk ?_ | refine sOldG hk ?_ | refine sBuild hk ?_ | refine sPickT hk ?_ | refine sPickF hk ?_ | refine sLss hk ?_ | refine sLeq hk ?_ | refine sGtr hk ?_ | refine sGeq hk ?_ | refine sEql hk ?_ | refine sNot hk ?_ | refine sSkip hk ?_ | refine sSkipA hk ?_); simp only [Act.put, List.setIfInBounds_toArray, List.set_cons_succ, List.set_cons_zero]))
        refine tNil ?_
        go_wp2_with (first | (refine wBuild hk ?_ (hb := build_cla _ _); simp only [Act.put, List.setIfInBounds_toArray, List.set_cons_succ, List.set_cons_zero]) | (refine wStoreR hk ?_ (hj := by simp only [clsA_size]; omega) (hA := put_cls _ _ _ _ _); clear hk; intro w1 hk; simp only [Act.put]) | ((with_reducible show wpList _ _ _ _ _ _); (first | ((with_reducible show wpList _ _ _ (⟨_, _, _, _, _, some _⟩ :: _) _ _); refine wpList_skip (by rfl) ?_; simp only [Act.put, List.setIfInBounds_toArray, List.set_cons_succ, List.set_cons_zero]) | ((first | refine wBuild hk ?_ | refine wFieldZ hk ?_ | refine wField0 hk ?_ | refine wField hk ?_ | refine wIndexA0 hk ?_ | refine wIndexS0 hk ?_ | refine wIndexA hk ?_ | refine wIndexS hk ?_ | refine wLoadR hk ?_ | refine wLoad1 hk ?_ | refine wOldR hk ?_ | refine wOld1 hk ?_ | refine wOldC hk ?_ | refine wOldG hk ?_ | refine wAssertY hk ?_ | refine wAssertN hk ?_); simp only [Act.put, List.setIfInBounds_toArray, List.set_cons_succ, List.set_cons_zero]) | ((first | refine wBox hk ?_ | refine wBox1I hk ?_ | refine wBox1B hk ?_ | refine wBox1S hk ?_ | refine wBox1P hk ?_ | refine wBox1F hk ?_ | refine wAllocR hk ?_ | refine wAlloc1 hk ?_ | refine wMake hk ?_); clear hk; intro w1 hk; simp only [Act.put, List.setIfInBounds_toArray, List.set_cons_succ, List.set_cons_zero]) | ((first | refine wStoreR hk ?_ | refine wStore1I hk ?_ | refine wStore1B hk ?_ | refine wStore1S hk ?_ | refine wStore1P hk ?_ | refine wStore1F hk ?_); clear hk; intro w1 hk; simp only [Act.put]))))
        go_roundw
        case rel => exact ⟨n + 1, by omega, rfl, by go_num, by rw [← R.out]; exact hk⟩
        case measure => simp [intOf]; omega
    · go_wp2_with (first | ((with_reducible show wpList _ _ _ _ _ _); (first | ((with_reducible show wpList _ _ _ (⟨_, _, _, _, _, some _⟩ :: _) _ _); refine wpList_skip (by rfl) ?_; simp only [Act.put, List.setIfInBounds_toArray, List.set_cons_succ, List.set_cons_zero]) | ((first | refine wBuild hk ?_ | refine wFieldZ hk ?_ | refine wField0 hk ?_ | refine wField hk ?_ | refine wIndexA0 hk ?_ | refine wIndexS0 hk ?_ | refine wIndexA hk ?_ | refine wIndexS hk ?_ | refine wLoadR hk ?_ | refine wLoad1 hk ?_ | refine wOldR hk ?_ | refine wOld1 hk ?_ | refine wOldC hk ?_ | refine wOldG hk ?_ | refine wAssertY hk ?_ | refine wAssertN hk ?_); simp only [Act.put, List.setIfInBounds_toArray, List.set_cons_succ, List.set_cons_zero]) | ((first | refine wBox hk ?_ | refine wBox1I hk ?_ | refine wBox1B hk ?_ | refine wBox1S hk ?_ | refine wBox1P hk ?_ | refine wBox1F hk ?_ | refine wAllocR hk ?_ | refine wAlloc1 hk ?_ | refine wMake hk ?_); clear hk; intro w1 hk; simp only [Act.put, List.setIfInBounds_toArray, List.set_cons_succ, List.set_cons_zero]) | ((first | refine wStoreR hk ?_ | refine wStore1I hk ?_ | refine wStore1B hk ?_ | refine wStore1S hk ?_ | refine wStore1P hk ?_ | refine wStore1F hk ?_); clear hk; intro w1 hk; simp only [Act.put]))))
      go_ret
      exact ⟨rfl, hk.mod⟩
set_option maxHeartbeats 400000 in
theorem lentC_nil (w : World) :
    Calls Tryd.prog 17 #[.slice none 0 0] w fun e w' => e = .returned (.slice none 0 0) ∧ w' = w := by
  have hq := fun wx => Lib.run_eql_slice_nil (P := Tryd.prog) wx 39 60 none 0 0 0 0 Tryd.underlying39
  simp only [Option.isNone_none] at hq
  go_enter Tryd.func17, Tryd.ntmps17
  go_wp2
  go_ret
  exact ⟨rfl, rfl⟩
set_option maxHeartbeats 400000 in
theorem backC_nil (hv : Value) (w : World) :
    Calls Tryd.prog 19 #[hv, .slice none 0 0] w fun e w' => e = .returned (.bool true) ∧ w' = w := by
  have hq := fun wx => Lib.run_eql_slice_nil (P := Tryd.prog) wx 39 60 none 0 0 0 0 Tryd.underlying39
  simp only [Option.isNone_none] at hq
  go_enter Tryd.func19, Tryd.ntmps19
  go_wp2
  go_ret
  exact ⟨rfl, rfl⟩
theorem lentC_any (cl : List C2) (v : Value) (w : World) (h : ArgC w v cl) (hlen : cl.length * 136 ≤ 140737488351232) :
    Calls Tryd.prog 17 #[v] w fun e w' => ∃ hv, e = .returned hv ∧ LentC w' w.heap.size v hv cl ∧ Below w.heap.size w w' := by
  rcases h.cells with ⟨rfl, rfl⟩ | ⟨a, c, rfl, hc⟩
  · refine (lentC_nil w).mono ?_
    rintro e w' ⟨rfl, rfl⟩
    exact ⟨_, rfl, Or.inl ⟨rfl, rfl, rfl⟩, Below.refl _ _⟩
  · exact lentC_some cl a c w hc hlen
/-- what was lent is as it was; it is written over, and nothing else -/
theorem backC_any (cl : List C2) (v hv : Value) (base : Nat) (w0 w : World) (hl : LentC w base v hv cl) (ha : ArgC w0 v cl) (h0 : w0.heap.size ≤ base) (hbl : Below w0.heap.size w0 w) (hlen : cl.length * 136 ≤ 140737488351232) :
    Calls Tryd.prog 19 #[hv, v] w fun e w' => e = .returned (.bool true) ∧ Below base w w' := by
  rcases hl with ⟨rfl, rfl, rfl⟩ | ⟨a, c, g, rfl, rfl, hbg, hat⟩
  · refine (backC_nil _ w).mono ?_
    rintro e w' ⟨rfl, rfl⟩
    exact ⟨rfl, Below.refl _ _⟩
  · refine (backC_some cl a c g base w hbg hat (fun hp => ?_) hlen).mono ?_
    · rcases ha.1 with ⟨_, rfl⟩ | ⟨b, off, cap, hv, hb, hi⟩
      · simp at hp
      · simp only [Value.slice.injEq, Option.some.injEq] at hv
        obtain ⟨rfl, _, _⟩ := hv
        refine ⟨b, off, rfl, by omega, fun i h j u hj => ?_⟩
        rw [hbl.cell (p := ⟨b, _, none⟩) hb]; exact hi i h j u hj
    · rintro e w' ⟨he, hm⟩
      exact ⟨he, hm.base hbg (lt_of_block hat)⟩
end Go.Proofs.YtamiichlbmllcaaDoor
