import Derived.Test.YtamiichlbmllcabGreatDoorQRefRun
import Derived.Test.YtamiichlbmllcabGreatDoorQRefRunA
import Derived.Test.YtamiichlbmllcabGreatDoorQOpenC
import Derived.Test.YtamiichlbmllcabGreatDoorQLawA
import Derived.Test.YtamiichlbmllcabGreatDoorQPrI
set_option maxRecDepth 100000
set_option maxHeartbeats 32000000
namespace Go.Proofs.YtamiichlbmllcabGreatDoor
open Go.RowKit
theorem refRun_wrong (l : List I5) (v : Value) (r : Nat -> Int) (f : Int) (w : World) (h : Slc w v l) (hr : (rightR l).1 = 1) :
 Calls Tryz.prog 44 #[v, regsV r, .int .i64 f] w fun e w' => ∃ u, e = .returned (.tuple #[O4.zero.val, u, .int .i64 1]) /\ OwnV w' w.heap.size u [] /\ Below w.heap.size w w' := by
 have HSL := hide h
 clear h
 unfold regsV
 go_enter Tryz.func44, Tryz.ntmps44
 go_wp2_with fail
 generalize hW : (w.alloc (.cells #[.int .i64 (r 0), .int .i64 (r 1), .int .i64 (r 2), .int .i64 (r 3), .int .i64 (r 4), .int .i64 (r 5), .int .i64 (r 6), .int .i64 (r 7)] 41)).alloc (.cells #[.int .i64 0, .int .i64 0, .int .i64 0, .int .i64 0] 38) = w1
 have hH : w1.heap[w.heap.size + 1]? = some (.cells #[.int .i64 0, .int .i64 0, .int .i64 0, .int .i64 0] 38 (0, 0)) := by
  rw [<- hW]
  have := heap_alloc_new (w.alloc (.cells #[.int .i64 (r 0), .int .i64 (r 1), .int .i64 (r 2), .int .i64 (r 3), .int .i64 (r 4), .int .i64 (r 5), .int .i64 (r 6), .int .i64 (r 7)] 41)) (.cells #[.int .i64 0, .int .i64 0, .int .i64 0, .int .i64 0] 38)
  simpa using this
 have hb1 : Below w.heap.size w w1 := by rw [<- hW]; exact ((belA _ _).alloc (by simp) _)
 have hs1 := HSL.out.below hb1 (Nat.le_refl _)
 have hlt := lt_of_block hH
 refine (refRight_any l _ w1 hs1).mono ?_
 rintro e w2 ⟨rfl, hb2⟩
 rw [hr]
 obtain ⟨z0, z1, z2, z3, f0, f1, f2, f3⟩ := four_of ((hb2.block _ hlt).trans hH)
 have HB2 := hide (hb1.trans (hb2.mono hb1.size))
 clear hW hs1 hb2 hb1 hH hr
 go_wp2
 exact bodyPost_ret (v := .tuple #[O4.zero.val, .slice none 0 0, .int .i64 1]) (by simp [results, Tryz.results44, go_sem, z0, z1, z2, z3, O4.val, O4.zero]) rfl ⟨_, rfl, World.ownsRow_nil _ _ _ _, below_set4 HB2.out (by omega) _ _ _ _ _ _ _ _⟩
theorem refRun_any (l : List I5) (v : Value) (r : Nat -> Int) (f : Int) (w : World) (h : Slc w v l) :
 Calls Tryz.prog 44 #[v, regsV r, .int .i64 f] w fun e w' => ∃ u, e = .returned (.tuple #[(runOE l r f).val, u, .int .i64 (rightR l).1]) /\ OwnV w' w.heap.size u (runVE l r f) /\ Below w.heap.size w w' := by
 rcases rightR_or l with hr | hr
 · have hl := right_all hr
   unfold runOE runVE
   rw [if_pos hr, if_pos hr, hr]
   rcases h with ⟨_, rfl⟩ | ⟨b, off, cap, rfl, h1, h2⟩
   · exact absurd hl.1 (by simp)
   · exact refRun_right l b off cap r f w h1 h2 hr hl
 · have hne : rightR l ≠ (0, 0) := fun h => by rw [h] at hr; simp at hr
   unfold runOE runVE
   rw [if_neg hne, if_neg hne, hr]
   exact refRun_wrong l v r f w h hr
theorem own_slcI {w : World} {base n : Nat} {v : Value} {l : List I5} (h : w.ownsRow base 35 5 v n (l.flatMap I5.cells)) (hn : n = l.length) : Slc w v l := by
 subst hn
 rcases h.2 with ⟨rfl, h0⟩ | ⟨g, cap, cur, rfl, _, hg, _, _, _, ht⟩
 · exact Or.inl ⟨⟨_, _, rfl⟩, List.length_eq_zero_iff.1 h0⟩
 · refine Or.inr ⟨g, 0, cap, rfl, lt_of_block hg, fun i hi => ?_⟩
   have key : ∀ j u, j < 5 -> l[i].cells[j]? = some u -> w.cell? ⟨g, 0 + i * 5 + j, none⟩ = some u := fun j u hj hu => by
    have e := flat_cells l i j hi hj
    rw [<- ht, List.getElem?_take, if_pos (by omega), Array.getElem?_toList] at e
    rw [cell_of_row _ _ _ _ _ _ hg, show 0 + i * 5 + j = i * 5 + j by omega, e]
    exact hu
   exact ⟨key 0 _ (by omega) rfl, key 1 _ (by omega) rfl, key 2 _ (by omega) rfl, key 3 _ (by omega) rfl, key 4 _ (by omega) rfl⟩
theorem ex_op7 (k on fu pv sv : Value) (s : St) (cv : Value) (r : Nat -> Int) : (opC k on fu pv sv s cv (fun j => .int .i64 (r j))).extract 22 (22 + 8) = rgsC r := by kernel_rfl
theorem op_1 (k on fu pv sv : Value) (s : St) (cv : Value) (r : Nat -> Value) : (opC k on fu pv sv s cv r)[1]? = some on := rfl
theorem op_2 (k on fu pv sv : Value) (s : St) (cv : Value) (r : Nat -> Value) : (opC k on fu pv sv s cv r)[2]? = some fu := rfl
theorem oLenT {a : Act} {w : World} {K : Act -> World -> Prop} {Q : Exit -> Act -> World -> Prop} {p : Option Addr} {n c : Nat} {d : Option Tmp} {x : Operand} {tt : TypeId} {pos : String} {aft : Array Edge} {g : Option (Nat × Bool)} (hx : a.eval x = .slice p n c) (h : K (a.put d (.int .i64 n)) w) : Oper.wp Tryz.prog ⟨d, .call { callee := .builtin .len, args := #[x], argTypes := #[43] }, tt, pos, aft, g⟩ a w K Q := by
 unfold Oper.wp execOp
 simp only [resolve, invoke, builtin, Sem.run_bind, Sem.run_pure, Result.andThen_ok, List.map_toArray, List.map_cons, List.map_nil, hx]
 simp [Builtin.len_, go_sem]
 exact h
theorem threaded_nil (rg : Nat -> Int) (f on : Int) (k sv pv cv : Value) (e : St) (wb : Nat) (la : Option Addr) (lc : Nat) (vi vv vd : Value) (w : World) (hw : At w wb #[.slice la 0 lc, vi, vv, vd] 50) :
 Calls Tryz.prog 22 #[.pointer (some ⟨wb, 0, none⟩), .agg (opC k (.int .i64 on) (.int .i64 f) pv sv e cv (fun j => .int .i64 (rg j)))] w fun x w' => x = .returned (.bool true) /\ Below w.heap.size w w' := by
 have hk := Kn.nil [] w
 go_enter Tryz.func22, Tryz.ntmps22
 go_wp2_with (first | (refine wOldY o1Ths hk ?_; simp only [pw]) | ((with_reducible apply gL); (first | refine wS hk ?_ | (refine wN hk ?_; clear hk; intro w1 hk)); simp only [pw]))
 go_ret
 exact ⟨rfl, hk.mod.below⟩
theorem threaded_some (rg : Nat -> Int) (f on : Int) (hon : I64 on) (k sv pv cv : Value) (e : St) (wb B : Nat) (la : Option Addr) (lc : Nat) (vi vv vd : Value) (ts : List TRec) (w : World) (hw : At w wb #[.slice la ts.length lc, vi, vv, vd] 50) (hT : TInv w B (.slice la ts.length lc) ts) (hn : ts.length < 600000000000) (hp : 0 < ts.length) :
 Calls Tryz.prog 22 #[.pointer (some ⟨wb, 0, none⟩), .agg (opC k (.int .i64 on) (.int .i64 f) pv sv e cv (fun j => .int .i64 (rg j)))] w fun x w' => x = .returned (.bool true) /\ Below w.heap.size w w' := by
 have hk := Kn.nil [] w
 have HTI := hide hT
 have HON := hide hon
 have HRV : Hid (∀ r, Value.agg (rgsC r) = regsV r) := hide fun _ => rfl
 obtain ⟨g, hla, hgl⟩ : ∃ g, la = some ⟨g, 0, none⟩ /\ g < w.heap.size := by
  obtain ⟨g, c, h1, h2, _⟩ := hT.at hp
  simp only [Value.slice.injEq] at h1
  exact ⟨g, h1.1, h2⟩
 subst hla
 have HRG : Hid (∀ q (hq : q < ts.length), w.rangeAt g (q * 18) (ts[q]).arr.toList) := hide fun q hq => by
  obtain ⟨g', c, h1, _, h3⟩ := hT.at hq
  simp only [Value.slice.injEq, Option.some.injEq, Addr.mk.injEq] at h1
  rw [h1.1.1]
  exact h3
 have HON1 : Hid (∀ q (hq : q < ts.length), (ts[q]).arr.toList.all (·.oneCell') = true) := hide fun q hq => by
  have hx := hT.2 _ (List.getElem_mem hq)
  obtain ⟨a, c, h⟩ := own_len hx.own
  unfold TRec.arr
  rw [h]
  exact td_one _ _ _ _ _
 have HGL := hide hgl
 clear hT hon hgl
 have hne : ((ts.length : Int) == 0) = false := by rw [beq_eq_false_iff_ne]; omega
 go_enter Tryz.func22, Tryz.ntmps22
 go_upto_region 3 with (first | (refine wOldY o1Ths hk ?_; simp only [pw]) | ((with_reducible apply gL); (first | refine wS hk ?_ | (refine wN hk ?_; clear hk; intro w1 hk)); simp only [pw]))
 go_cut [5] (fun u5 wc => ∃ (b q : Nat) (hq : q < ts.length), u5 = .pointer (some ⟨b, 0, none⟩) /\ Kn [] w wc [(b, (ts[q]).arr, 113), (w.heap.size, opC k (.int .i64 on) (.int .i64 f) pv sv e cv (fun j => .int .i64 (rg j)), 53)])
 case first =>
  refine wp_regK hk (.op 0 (.op 1 (.op 2 (.op 3 (.op 4 (.op 5 (.op 6 (.op 7 (.op 8 (.op 9 (.either 10 14 (.either 11 14 (.op 12 (.op 13 (.op 14 (.op 15 .nil)))) (.op 11 (.op 12 (.op 13 (.op 15 .nil))))) (.op 10 (.op 11 (.op 12 (.op 13 (.op 15 .nil)))))))))))))))) (fun i => decide (i < 15)) mixT (by decide) (by kernel_rfl) (by kernel_rfl) ?_; clear hk; intro w1 hk
  (repeat (refine sU hk ?_; simp only [pw]))
  refine sNil hk ?_; simp only [pw]
  refine sFieldY fW0 hk ?_; simp only [pw]
  refine sOldY o1Ths hk ?_; simp only [pw]
  refine sFieldY fOp1 hk ?_; simp only [pw]
  refine sLoad1 hk ?_ (hv := op_1 _ _ _ _ _ _ _ _); simp only [pw]
  (repeat (refine sU hk ?_; simp only [pw]))
  refine sNil hk ?_; simp only [pw]
  refine sFieldY fW0 hk ?_; simp only [pw]
  refine sOldY o1Ths hk ?_; simp only [pw]
  refine tSplit (by rfl) (by rfl) (by rfl) (by rfl) (by rfl) (by rfl) ?_ ?_
  · refine tActK (by rfl) (by rfl) (by rfl) (fun K hK => oLenT (by rfl) (hK _ _ (fun _ => by first | exact hk | exact hk.drop) ?_)); simp only [pw]
    refine tSplit (by rfl) (by rfl) (by rfl) (by rfl) (by rfl) (by rfl) ?_ ?_
    · refine sCall ?_; intro K hK; go_step; go_at_call 55; refine (lawPick_any on HON.out ts.length hp (by omega) _).mono ?_; rintro y w2 ⟨q, hq, rfl, rfl⟩; refine hK _ _ (fun _ => by first | exact hk | exact hk.drop) ?_; clear hK K
      refine sIndexY sTd (by first | exact hk | exact hk.drop) ?_ hq; simp only [pw]
      refine sOldGY rTd (by first | exact hk | exact hk.drop) ?_ (HRG.out q hq) HGL.out List.not_mem_nil; simp only [pw]
      refine sAllocY zeroTd hk ?_; clear hk; intro w1 hk; refine ⟨fun _ => hk.drop, ?_⟩; simp only [pw]
      refine sStoreY rTd hk ?_ (hn := rfl) (hj := by show 0 + 18 <= 18; omega) (h1 := HON1.out q hq) (hA := putA_whole (A := zTd) (cs := (ts[q]).arr) rfl); clear hk; intro w1 hk; refine ⟨fun h => absurd h (by decide), ?_⟩; simp only [pw]
      refine tNil ?_
      go_wp2_with ((with_reducible apply gL); (first | refine wS hk ?_ | (refine wN hk ?_; clear hk; intro w1 hk)); simp only [pw])
      go_meet
      case rel => exact ⟨_, q, hq, rfl, hk⟩
    · refine sAllocY zeroTd hk ?_; clear hk; intro w1 hk; refine ⟨fun _ => hk.drop, ?_⟩; simp only [pw]
      refine sCall ?_; intro K hK; go_step; go_at_call 55; refine (lawPick_any on HON.out ts.length hp (by omega) _).mono ?_; rintro y w2 ⟨q, hq, rfl, rfl⟩; refine hK _ _ (fun _ => by first | exact hk | exact hk.drop) ?_; clear hK K
      refine sIndexY sTd (by first | exact hk | exact hk.drop) ?_ hq; simp only [pw]
      refine sOldGY rTd (by first | exact hk | exact hk.drop) ?_ (HRG.out q hq) HGL.out List.not_mem_nil; simp only [pw]
      refine sStoreY rTd hk ?_ (hn := rfl) (hj := by show 0 + 18 <= 18; omega) (h1 := HON1.out q hq) (hA := putA_whole (A := zTd) (cs := (ts[q]).arr) rfl); clear hk; intro w1 hk; refine ⟨fun h => absurd h (by decide), ?_⟩; simp only [pw]
      refine tNil ?_
      go_wp2_with ((with_reducible apply gL); (first | refine wS hk ?_ | (refine wN hk ?_; clear hk; intro w1 hk)); simp only [pw])
      go_meet
      case rel => exact ⟨_, q, hq, rfl, hk⟩
  · refine sAllocY zeroTd hk ?_; clear hk; intro w1 hk; refine ⟨fun _ => hk.drop, ?_⟩; simp only [pw]
    refine tActK (by rfl) (by rfl) (by rfl) (fun K hK => oLenT (by rfl) (hK _ _ (fun _ => by first | exact hk | exact hk.drop) ?_)); simp only [pw]
    refine sCall ?_; intro K hK; go_step; go_at_call 55; refine (lawPick_any on HON.out ts.length hp (by omega) _).mono ?_; rintro y w2 ⟨q, hq, rfl, rfl⟩; refine hK _ _ (fun _ => by first | exact hk | exact hk.drop) ?_; clear hK K
    refine sIndexY sTd (by first | exact hk | exact hk.drop) ?_ hq; simp only [pw]
    refine sOldGY rTd (by first | exact hk | exact hk.drop) ?_ (HRG.out q hq) HGL.out List.not_mem_nil; simp only [pw]
    refine sStoreY rTd hk ?_ (hn := rfl) (hj := by show 0 + 18 <= 18; omega) (h1 := HON1.out q hq) (hA := putA_whole (A := zTd) (cs := (ts[q]).arr) rfl); clear hk; intro w1 hk; refine ⟨fun h => absurd h (by decide), ?_⟩; simp only [pw]
    refine tNil ?_
    go_wp2_with ((with_reducible apply gL); (first | refine wS hk ?_ | (refine wN hk ?_; clear hk; intro w1 hk)); simp only [pw])
    go_meet
    case rel => exact ⟨_, q, hq, rfl, hk⟩
 case rest =>
  clear hk
  obtain ⟨b, q, hq, rfl, hk⟩ := hcut
  have hx := HTI.out.2 _ (List.getElem_mem hq)
  obtain ⟨x, hxe⟩ : ∃ x, ts[q] = x := ⟨_, rfl⟩
  rw [hxe] at hk hx
  clear hxe
  obtain ⟨xt, xp, xl, xe⟩ := x
  obtain ⟨⟨⟨tp, tc, hT1, hT2, _, _, _⟩, _⟩, hOw, hRi, ctk, hTk⟩ := hx
  simp only at hT1 hT2 hOw hRi hTk
  obtain ⟨pa, pc, hpe⟩ := own_len hOw
  subst hpe
  replace hk : Kn [] w wc [(b, tdC xt (.slice pa xl.length pc) xe, 113), (w.heap.size, opC k (.int .i64 on) (.int .i64 f) pv sv e cv (fun j => .int .i64 (rg j)), 53)] := hk
  have HT1 := hide hT1
  have HT2 := hide hT2
  have HOW := hide (own_slcI hOw rfl)
  have HRI := hide hRi
  have HTK := hide hTk
  clear hT1 hT2 hOw hRi hTk
  cases ha : areR rg xe with
  | false =>
    have HA := hide ha
    clear ha
    go_wp2_with (first | (refine wLoadY o1Tp hk ?_; simp only [pw]) | (refine wLoad1 hk ?_ (hv := op_2 _ _ _ _ _ _ _ _); simp only [pw]) | (refine wLoadR hk ?_ (hc := ex_op7 _ _ _ _ _ _ _ _); simp only [pw]) | (refine wLoadR hk ?_ (hc := td_st _ _ _); simp only [pw]) | ((with_reducible apply gL); (first | refine wS hk ?_ | (refine wN hk ?_; clear hk; intro w1 hk)); simp only [pw]))
    go_at_call 7
    refine (thread_no xt tp tc xl.length xe rg f _ (HT1.out.mod hk.mod List.not_mem_nil) HA.out).mono ?_
    rintro y w2 ⟨rfl, hb⟩
    replace hk := hk.call hb
    clear hb
    go_wp2_with (first | (refine wLoadY o1Tp hk ?_; simp only [pw]) | (refine wLoad1 hk ?_ (hv := op_2 _ _ _ _ _ _ _ _); simp only [pw]) | (refine wLoadR hk ?_ (hc := ex_op7 _ _ _ _ _ _ _ _); simp only [pw]) | (refine wLoadR hk ?_ (hc := td_st _ _ _); simp only [pw]) | (go_at_call 56; refine (within_any rg xe _).mono ?_; rintro y w3 ⟨rfl, hb⟩; replace hk := hk.call hb; clear hb; rw [HA.out]) | (go_at_call 38; refine (num_any _ _).mono ?_; rintro y w8 ⟨rfl, rfl⟩) | ((with_reducible apply gL); (first | refine wS hk ?_ | (refine wN hk ?_; clear hk; intro w1 hk)); simp only [pw]))
    go_ret
    exact ⟨rfl, hk.mod.below⟩
  | true =>
    have HA := hide ha
    clear ha
    have HRO : Hid (runOE xl rg f = runO xl rg f) := hide (by unfold runOE; rw [if_pos HRI.out])
    go_wp2_with (first | (refine wLoadY o1Tp hk ?_; simp only [pw]) | (refine wLoad1 hk ?_ (hv := op_2 _ _ _ _ _ _ _ _); simp only [pw]) | (refine wLoadR hk ?_ (hc := ex_op7 _ _ _ _ _ _ _ _); simp only [pw]) | (refine wLoadR hk ?_ (hc := td_st _ _ _); simp only [pw]) | ((with_reducible apply gL); (first | refine wS hk ?_ | (refine wN hk ?_; clear hk; intro w1 hk)); simp only [pw]))
    go_at_call 7
    refine (thread_ok xt tp tc xl (right_fit HRI.out) xe ctk HTK.out rg f _ (HT1.out.mod hk.mod List.not_mem_nil) (HT2.out.mod hk.mod) HA.out (areR_inS HA.out)).mono ?_
    rintro y w2 ⟨rfl, hb⟩
    replace hk := hk.call hb
    clear hb
    obtain ⟨O, hO⟩ : ∃ O, runO xl rg f = O := ⟨_, rfl⟩
    rw [hO] at HRO ⊢
    clear hO
    unfold O4.val
    go_wp2_with (first | (refine wLoadY o1Tp hk ?_; simp only [pw]) | (refine wLoad1 hk ?_ (hv := op_2 _ _ _ _ _ _ _ _); simp only [pw]) | (refine wLoadR hk ?_ (hc := ex_op7 _ _ _ _ _ _ _ _); simp only [pw]) | (refine wLoadR hk ?_ (hc := td_st _ _ _); simp only [pw]) | (go_at_call 56; refine (within_any rg xe _).mono ?_; rintro y w3 ⟨rfl, hb⟩; replace hk := hk.call hb; clear hb; rw [HA.out]) | ((with_reducible apply gL); (first | refine wS hk ?_ | (refine wN hk ?_; clear hk; intro w1 hk)); simp only [pw]))
    go_at_call 44
    rw [HRV.out]
    refine (refRun_any xl _ rg f _ (HOW.out.below hk.mod.below (Nat.le_refl _))).mono ?_
    rintro y w4 ⟨u, rfl, _, hb⟩
    replace hk := hk.call hb
    clear hb
    rw [HRO.out, HRI.out]
    unfold O4.val
    go_wp2_with (first | (refine wLoadY o1Tp hk ?_; simp only [pw]) | (refine wLoad1 hk ?_ (hv := op_2 _ _ _ _ _ _ _ _); simp only [pw]) | (refine wLoadR hk ?_ (hc := ex_op7 _ _ _ _ _ _ _ _); simp only [pw]) | (refine wLoadR hk ?_ (hc := td_st _ _ _); simp only [pw]) | (go_at_call 38; refine (num_any _ _).mono ?_; rintro y w8 ⟨rfl, rfl⟩) | ((with_reducible apply gL); (first | refine wS hk ?_ | (refine wN hk ?_; clear hk; intro w1 hk)); simp only [pw]))
    go_ret
    exact ⟨rfl, hk.mod.below⟩
theorem threaded_any (rg : Nat -> Int) (f on : Int) (hon : I64 on) (k sv pv cv : Value) (e : St) (wb B : Nat) (lv vi vv vd : Value) (ts : List TRec) (w : World) (hw : At w wb #[lv, vi, vv, vd] 50) (hT : TInv w B lv ts) (hn : ts.length < 600000000000) :
 Calls Tryz.prog 22 #[.pointer (some ⟨wb, 0, none⟩), .agg (opC k (.int .i64 on) (.int .i64 f) pv sv e cv (fun j => .int .i64 (rg j)))] w fun x w' => x = .returned (.bool true) /\ Below w.heap.size w w' := by
 obtain ⟨la, lc, rfl⟩ := hT.len
 rcases Nat.eq_zero_or_pos ts.length with h | h
 · rw [h] at hw
   exact threaded_nil rg f on k sv pv cv e wb la lc vi vv vd w hw
 · exact threaded_some rg f on hon k sv pv cv e wb B la lc vi vv vd ts w hw hT hn h
structure OpX where
 k : Int
 on : Int
 f : Int
 pv : Value
 p : List I5
 s : ByteArray
 e : St
 cv : Value
 cl : List C2
 rg : Nat -> Int
def OpX.arr (o : OpX) : Array Value := opC (.int .i64 o.k) (.int .i64 o.on) (.int .i64 o.f) o.pv (.string o.s) o.e o.cv (fun j => .int .i64 (o.rg j))
structure OpX.ok (w : World) (o : OpX) : Prop where
 arg : Arg w o.pv o.p
 len : o.p.length * 40 <= 140737488351232
 argC : ArgC w o.cv o.cl
 lenC : o.cl.length * 136 <= 140737488351232
 in64 : In64 o.p o.e o.cl
 on64 : I64 o.on
theorem OpX.ok.below {w w' : World} {o : OpX} {B : Nat} (h : o.ok w) (hb : Below B w w') (hB : w.heap.size <= B) : o.ok w' := ⟨h.arg.below hb hB, h.len, h.argC.below hb hB, h.lenC, h.in64, h.on64⟩
theorem op_0 (k on fu pv sv : Value) (s : St) (cv : Value) (r : Nat -> Value) : (opC k on fu pv sv s cv r)[0]? = some k := rfl
theorem rOp : RowT Tryz.prog 53 30 := ⟨⟨_, Tryz.underlying53, rfl⟩, by kernel_rfl⟩
theorem ex_all (k on fu pv sv : Value) (s : St) (cv : Value) (r : Nat -> Value) : (opC k on fu pv sv s cv r).extract 0 (0 + 30) = opC k on fu pv sv s cv r := by kernel_rfl
section
variable {Q : Exit -> Act -> World -> Prop} {a : Act} {w w0 : World} {M : List Nat} {L : RowL} {d : Option Tmp} {x : Operand} {t tt ty : TypeId} {pos : String} {aft : Array Edge} {g : Option (Nat × Bool)} {b j n : Nat} {A cs : Array Value} {ops : Array Oper} {rest : List Oper}
theorem wLoadRY (hT : RowT Tryz.prog ty n) (hk : Kn M w0 w L) (h : wpList Tryz.prog ops Q rest (a.put d (.agg cs)) w) (hw : Region.wanted ⟨d, .load ty x, tt, pos, aft, g⟩ (yielded ops a.tmps) = true := by rfl) (hx : a.eval x = .pointer (some ⟨b, j, none⟩) := by rfl) (hm : (b, A, t) ∈ L := by with_reducible repeat (first | exact List.mem_cons_self | apply List.mem_cons_of_mem)) (hc : A.extract j (j + n) = cs) (hn : cs.size = n := by rfl) : wpList Tryz.prog ops Q (⟨d, .load ty x, tt, pos, aft, g⟩ :: rest) a w := wl1 hw (oLoadR hx hk hm hT hc hn h)
theorem wOldGY (hT : RowT Tryz.prog ty n) (hk : Kn M w0 w L) (h : wpList Tryz.prog ops Q rest (a.put d (.agg cs)) w) (hc : w0.rangeAt b j cs.toList) (hb : b < w0.heap.size) (hM : b ∉ M) (hw : Region.wanted ⟨d, .load ty x, tt, pos, aft, g⟩ (yielded ops a.tmps) = true := by rfl) (hx : a.eval x = .pointer (some ⟨b, j, none⟩) := by rfl) (hn : cs.size = n := by rfl) : wpList Tryz.prog ops Q (⟨d, .load ty x, tt, pos, aft, g⟩ :: rest) a w := wl1 hw (oLoadOldR hx hk hc hb hM hT hn h)
end
theorem CompP.before {wb B : Nat} {lv vi vv vd : Value} {ts : List TRec} {w w1 w2 : World} (hb : Below w.heap.size w w1) (h : CompP wb B lv vi vv vd ts w1 w2) : CompP wb B lv vi vv vd ts w w2 := by
 obtain ⟨lv', ts', h1, h2, h3, h4, h5⟩ := h
 have := hb.size
 exact ⟨lv', ts', h1, h2, h3, h4, h5.os.trans hb.os, h5.tape.trans hb.tape, h5.output.trans hb.output, Nat.le_trans hb.size h5.size, fun k k1 k2 k3 => (h5.block k (by omega) k2 k3).trans (hb.block k k1)⟩
theorem compiled_any (l : List I5) (e : St) (cl : List C2) (h64 : In64 l e cl) (k on fu sv : Value) (r : Nat -> Value) (pv cv : Value) (wb B : Nat) (lv vi vv vd : Value) (ts : List TRec) (w : World) (hs : Shapes w) (hp : Arg w pv l) (hlen : l.length * 40 <= 140737488351232) (hc : ArgC w cv cl) (hcl : cl.length * 136 <= 140737488351232) (hw : At w wb #[lv, vi, vv, vd] 50) (hT : TInv w B lv ts) (hB : B <= w.heap.size) (hn : ts.length < 600000000000) :
 Calls Tryz.prog 21 #[.pointer (some ⟨wb, 0, none⟩), .agg (opC k on fu pv sv e cv r)] w fun x w' => x = .returned (.bool true) /\ CompP wb B lv vi vv vd ts w w' := by
 by_cases h0 : (scheckR l e cl).1 = 0
 · obtain ⟨h1, h2, h3⟩ := scheck_zero h64 h0
   obtain ⟨la, lc, rfl⟩ := hT.len
   have hne := (right_fit h2).1
   obtain ⟨pb, poff, pcap, rfl⟩ : ∃ b off cap, pv = .slice (some ⟨b, off, none⟩) l.length cap := by
    rcases hp.1 with ⟨_, rfl⟩ | ⟨b, off, cap, h, _⟩
    · simp at hne
    · exact ⟨b, off, cap, h⟩
   exact compiled_ok l e cl h64 k on fu sv r pb poff pcap cv wb B la lc vi vv vd ts w hs hp hlen hc hcl h1 h2 h3 hw hT hB hn
 · refine (compiled_no l e cl h64 k on fu sv r pv cv wb w hs hp hlen hc hcl h0).mono ?_
   rintro x w' ⟨rfl, hb⟩
   exact ⟨rfl, CompP.same hw hT hb⟩
theorem step_comp (o : OpX) (h7 : o.k = 7) (wb B : Nat) (lv vi vv vd : Value) (ts : List TRec) (w : World) (hs : Shapes w) (ho : o.ok w) (hw : At w wb #[lv, vi, vv, vd] 50) (hT : TInv w B lv ts) (hB : B <= w.heap.size) (hn : ts.length < 600000000000) :
 Calls Tryz.prog 8 #[.pointer (some ⟨wb, 0, none⟩), .agg o.arr] w fun x w' => x = .returned (.bool true) /\ CompP wb B lv vi vv vd ts w w' := by
 obtain ⟨k, on, f, pv, p, s, e, cv, cl, rg⟩ := o
 simp only at h7
 subst h7
 unfold OpX.arr
 simp only
 have hk := Kn.nil [] w
 have HS := hide hs
 have HO := hide ho
 have HT := hide hT
 have HW := hide hw
 clear hs ho hT hw
 go_enter Tryz.func8, Tryz.ntmps8
 go_wp2_with (first | (refine wLoad1 hk ?_ (hv := op_0 _ _ _ _ _ _ _ _); simp only [pw]) | (refine wLoadRY rOp hk ?_ (hc := ex_all _ _ _ _ _ _ _ _); simp only [pw]) | ((with_reducible apply gL); (first | refine wS hk ?_ | (refine wN hk ?_; clear hk; intro w1 hk)); simp only [pw]))
 go_at_call 21
 have hb := hk.mod.below
 refine (compiled_any p e cl HO.out.in64 _ _ _ _ _ pv cv wb B lv vi vv vd ts _ (HS.out.below hb HS.out.1) (HO.out.arg.below hb (Nat.le_refl _)) HO.out.len (HO.out.argC.below hb (Nat.le_refl _)) HO.out.lenC (HW.out.of (hb.block wb (lt_of_block HW.out))) (HT.out.below hb) (Nat.le_trans hB hb.size) hn).mono ?_
 rintro x w2 ⟨rfl, hc⟩
 have HR := hide (hc.before hb)
 clear hc hb hk
 have hk := Kn.nil [] w2
 go_wp2_with ((with_reducible apply gL); (first | refine wS hk ?_ | (refine wN hk ?_; clear hk; intro w1 hk)); simp only [pw])
 go_ret
 exact ⟨rfl, HR.out⟩
theorem step_thread (o : OpX) (h8 : o.k = 8) (wb B : Nat) (lv vi vv vd : Value) (ts : List TRec) (w : World) (ho : o.ok w) (hw : At w wb #[lv, vi, vv, vd] 50) (hT : TInv w B lv ts) (hn : ts.length < 600000000000) :
 Calls Tryz.prog 8 #[.pointer (some ⟨wb, 0, none⟩), .agg o.arr] w fun x w' => x = .returned (.bool true) /\ Below w.heap.size w w' := by
 obtain ⟨k, on, f, pv, p, s, e, cv, cl, rg⟩ := o
 simp only at h8
 subst h8
 unfold OpX.arr
 simp only
 have hk := Kn.nil [] w
 have HO := hide ho
 have HT := hide hT
 have HW := hide hw
 clear ho hT hw
 go_enter Tryz.func8, Tryz.ntmps8
 go_wp2_with (first | (refine wLoad1 hk ?_ (hv := op_0 _ _ _ _ _ _ _ _); simp only [pw]) | (refine wLoadRY rOp hk ?_ (hc := ex_all _ _ _ _ _ _ _ _); simp only [pw]) | ((with_reducible apply gL); (first | refine wS hk ?_ | (refine wN hk ?_; clear hk; intro w1 hk)); simp only [pw]))
 go_at_call 22
 have hb := hk.mod.below
 refine (threaded_any rg f on HO.out.on64 _ _ pv cv e wb B lv vi vv vd ts _ (HW.out.of (hb.block wb (lt_of_block HW.out))) (HT.out.below hb) hn).mono ?_
 rintro x w2 ⟨rfl, hb2⟩
 replace hk := hk.call hb2
 clear hb hb2
 go_wp2_with ((with_reducible apply gL); (first | refine wS hk ?_ | (refine wN hk ?_; clear hk; intro w1 hk)); simp only [pw])
 go_ret
 exact ⟨rfl, hk.mod.below⟩
theorem looks_nil (wb : Nat) (lv : Value) (w : World) (hw : At w wb #[lv, .slice none 0 0, .slice none 0 0, .slice none 0 0] 50) :
 Calls Tryz.prog 9 #[.pointer (some ⟨wb, 1, none⟩)] w fun e w' => e = .returned (.bool true) /\ Below w.heap.size w w' := by
 have q1 : w.cell? ⟨wb, 1, none⟩ = some (.slice none 0 0) := by rw [cell_of_row _ _ _ _ _ _ hw]; rfl
 have q2 : w.cell? ⟨wb, 2, none⟩ = some (.slice none 0 0) := by rw [cell_of_row _ _ _ _ _ _ hw]; rfl
 have q3 : w.cell? ⟨wb, 3, none⟩ = some (.slice none 0 0) := by rw [cell_of_row _ _ _ _ _ _ hw]; rfl
 go_enter Tryz.func9, Tryz.ntmps9
 go_wp2_with fail
 refine wp_loop_rounds 1 ?_
 rw [rounds_succ]
 go_wp2_with fail
 refine wp_loop_rounds 1 ?_
 rw [rounds_succ]
 go_wp2_with fail
 refine wp_loop_rounds 1 ?_
 rw [rounds_succ]
 go_wp2
 go_ret
 exact ⟨rfl, Below.refl _ _⟩
def ScrX (w : World) (v : Value) (l : List OpX) : Prop :=
 ((∃ a cap, v = .slice a 0 cap) /\ l = []) \/ ∃ b off cap, v = .slice (some ⟨b, off, none⟩) l.length cap /\ b < w.heap.size /\ ∀ i (h : i < l.length), w.rangeAt b (off + i * 30) l[i].arr.toList /\ l[i].ok w
theorem ScrX.below {w w' : World} {v : Value} {l : List OpX} (h : ScrX w v l) (hb : Below w.heap.size w w') : ScrX w' v l := by
 rcases h with h | ⟨b, off, cap, h1, h2, h3⟩
 · exact Or.inl h
 · refine Or.inr ⟨b, off, cap, h1, by have := hb.size; omega, fun i hi => ⟨fun f u hf => ?_, (h3 i hi).2.below hb (Nat.le_refl _)⟩⟩
   rw [hb.cell (p := ⟨b, _, none⟩) h2]
   exact (h3 i hi).1 f u hf
theorem build_wd0 (w : World) : (Instr.build 50 ([] : List (Nat × Value)).toArray).run Tryz.prog w = .ok (.agg #[.slice none 0 0, .slice none 0 0, .slice none 0 0, .slice none 0 0]) w := run_build w _ _ _ (by kernel_rfl)
theorem Fr.belowB {w w' : World} {base wb B : Nat} {row : Option Nat} (h : Fr w w' base wb row) (hB : B <= base) (hw : B <= wb) (hr : ∀ k, row = some k -> B <= k) : Below B w w' := ⟨h.os, h.tape, h.output, h.size, fun k hk => h.block k (by omega) (by omega) (fun e => by have := hr k e.symm; omega)⟩
theorem plays_threads (l : List OpX) (b off cap : Nat) (w : World) (hs : Shapes w) (hb : b < w.heap.size) (hl : l.length < 600000000000) (hi : ∀ i (h : i < l.length), w.rangeAt b (off + i * 30) l[i].arr.toList /\ l[i].ok w) :
 Calls Tryz.prog 5 #[.slice (some ⟨b, off, none⟩) l.length cap, .int .i64 7, .int .i64 8] w fun e w' => e = .returned (.bool true) /\ Below w.heap.size w w' := by
 have HI := hide hi
 have HS := hide hs
 clear hi hs
 have hk := Kn.nil [] w
 go_enter Tryz.func5, Tryz.ntmps5
 go_wp2_with (first | (refine wBuild hk ?_ (hb := build_wd0 _); simp only [pw]) | ((with_reducible apply gL); (first | refine wS hk ?_ | (refine wN hk ?_; clear hk; intro w1 hk)); simp only [pw]))
 have hrow := hk.at (A := #[.slice none 0 0, .slice none 0 0, .slice none 0 0, .slice none 0 0]) (t := 50) mm
 have hbl0 := hk.mod.below
 clear hk
 go_loopw [8] (fun j wr => ∃ n lv ts, n <= l.length /\ ts.length <= n /\ j = .int .i64 (n : Nat) /\ At wr w.heap.size #[lv, .slice none 0 0, .slice none 0 0, .slice none 0 0] 50 /\ TInv wr w.heap.size lv ts /\ Below w.heap.size w wr) (fun j _ => l.length - (intOf j).toNat)
 case atStart => exact ⟨0, .slice none 0 0, [], by omega, by simp, rfl, hrow, ⟨World.ownsRow_nil _ _ _ _, fun x hx => by simp at hx⟩, hbl0⟩
 case round =>
  clear hrow hbl0
  obtain ⟨n, lv, ts, hn, hm, rfl, hrow, hT, hbl⟩ := hrel
  have HBL := hide hbl
  have HT := hide hT
  have HR := hide hrow
  have hk := Kn.nil [] wr
  by_cases hlt : n < l.length
  · obtain ⟨hc, hok⟩ := HI.out n hlt
    obtain ⟨o, ho⟩ : ∃ o, o = l[n] := ⟨_, rfl⟩
    rw [<- ho] at hc hok
    have hbr : b < wr.heap.size := Nat.lt_of_lt_of_le hb hbl.size
    have HC : Hid (wr.rangeAt b (off + n * 30) o.arr.toList) := hide fun f u hf => by rw [hbl.cell (p := ⟨b, _, none⟩) hb]; exact hc f u hf
    have HOK := hide (hok.below hbl (Nat.le_refl _))
    have q0 : wr.cell? ⟨b, off + n * 30, none⟩ = some (.int .i64 o.k) := HC.out 0 _ rfl
    have HBR := hide hbr
    clear hc hok ho hT hrow hbl hbr
    by_cases h12 : o.k = 7 \/ o.k = 8
    · have HK := hide h12
      have hk1 : decide (o.k < 7) = false := by rw [decide_eq_false_iff_not]; omega
      have hk2 : decide (8 < o.k) = false := by rw [decide_eq_false_iff_not]; omega
      clear h12
      go_wp2_with (first | (refine wOldGY rOp hk ?_ HC.out HBR.out List.not_mem_nil; simp only [pw]) | ((with_reducible apply gL); (first | (refine wS hk ?_; simp only [pw]; (try rw [hk1]); (try rw [hk2])) | (refine wN hk ?_; clear hk; intro w1 hk; simp only [pw]))))
      go_at_call 8
      have hst : Calls Tryz.prog 8 #[.pointer (some ⟨w.heap.size, 0, none⟩), .agg o.arr] wr fun x w' => x = .returned (.bool true) /\ CompP w.heap.size w.heap.size lv (.slice none 0 0) (.slice none 0 0) (.slice none 0 0) ts wr w' := by
       rcases HK.out with h | h
       · exact step_comp o h _ _ _ _ _ _ ts wr (HS.out.below HBL.out HS.out.1) HOK.out HR.out HT.out HBL.out.size (by omega)
       · refine (step_thread o h _ _ _ _ _ _ ts wr HOK.out HR.out HT.out (by omega)).mono ?_
         rintro x w' ⟨rfl, hb⟩
         exact ⟨rfl, CompP.same HR.out HT.out hb⟩
      refine hst.mono ?_
      rintro x w2 ⟨rfl, lv2, ts2, _, hle2, hrow2, hT2, hf⟩
      have HB2 : Hid (Below w.heap.size w w2) := hide (HBL.out.trans (hf.belowB HBL.out.size (Nat.le_refl _) (fun k hk => (World.ownsRow.lt HT.out.1 k hk).1)))
      have HR2 := hide hrow2
      have HT2 := hide hT2
      clear hst hf hrow2 hT2 hk q0
      have hk := Kn.nil [] w2
      go_wp2_with ((with_reducible apply gL); (first | refine wS hk ?_ | (refine wN hk ?_; clear hk; intro w1 hk)); simp only [pw])
      go_at_call 9
      refine (looks_nil w.heap.size lv2 _ (HR2.out.mod hk.mod List.not_mem_nil)).mono ?_
      rintro x w3 ⟨rfl, hb3⟩
      replace hk := hk.call hb3
      clear hb3
      go_wp2_with ((with_reducible apply gL); (first | refine wS hk ?_ | (refine wN hk ?_; clear hk; intro w1 hk)); simp only [pw])
      go_roundw
      case rel => exact ⟨n + 1, lv2, ts2, by omega, by omega, by go_num, HR2.out.mod hk.mod List.not_mem_nil, HT2.out.below hk.mod.below, HB2.out.trans (hk.mod.below.mono HB2.out.size)⟩
      case measure => simp [intOf]; omega
    · by_cases h1 : o.k < 7
      · have hk1 : decide (o.k < 7) = true := by rw [decide_eq_true_eq]; exact h1
        clear h12
        go_wp2_with ((with_reducible apply gL); (first | (refine wS hk ?_; simp only [pw]; (try rw [hk1])) | (refine wN hk ?_; clear hk; intro w1 hk; simp only [pw])))
        go_roundw
        case rel => exact ⟨n + 1, lv, ts, by omega, by omega, by go_num, HR.out.mod hk.mod List.not_mem_nil, HT.out.below hk.mod.below, HBL.out.trans (hk.mod.below.mono HBL.out.size)⟩
        case measure => simp [intOf]; omega
      · have hk1 : decide (o.k < 7) = false := by rw [decide_eq_false_iff_not]; exact h1
        have hk2 : decide (8 < o.k) = true := by rw [decide_eq_true_eq]; omega
        clear h12
        go_wp2_with ((with_reducible apply gL); (first | (refine wS hk ?_; simp only [pw]; (try rw [hk1]); (try rw [hk2])) | (refine wN hk ?_; clear hk; intro w1 hk; simp only [pw])))
        go_roundw
        case rel => exact ⟨n + 1, lv, ts, by omega, by omega, by go_num, HR.out.mod hk.mod List.not_mem_nil, HT.out.below hk.mod.below, HBL.out.trans (hk.mod.below.mono HBL.out.size)⟩
        case measure => simp [intOf]; omega
  · go_wp2_with ((with_reducible apply gL); (first | refine wS hk ?_ | (refine wN hk ?_; clear hk; intro w1 hk)); simp only [pw])
    go_ret
    exact ⟨rfl, HBL.out.trans (hk.mod.below.mono HBL.out.size)⟩
theorem plays_none (a : Option Addr) (cap : Nat) (lo hi : Int) (w : World) :
 Calls Tryz.prog 5 #[.slice a 0 cap, .int .i64 lo, .int .i64 hi] w fun e w' => e = .returned (.bool true) /\ Below w.heap.size w w' := by
 have hk := Kn.nil [] w
 go_enter Tryz.func5, Tryz.ntmps5
 go_wp2_with (first | (refine wBuild hk ?_ (hb := build_wd0 _); simp only [pw]) | ((with_reducible apply gL); (first | refine wS hk ?_ | (refine wN hk ?_; clear hk; intro w1 hk)); simp only [pw]))
 go_loopw [8] (fun j wr => j = .int .i64 0 /\ Kn [] w wr []) (fun _ _ => 0)
 case atStart => exact ⟨rfl, hk.drop⟩
 case round =>
  clear hk
  obtain ⟨rfl, hk⟩ := hrel
  go_wp2_with ((with_reducible apply gL); (first | refine wS hk ?_ | (refine wN hk ?_; clear hk; intro w1 hk)); simp only [pw])
  go_ret
  exact ⟨rfl, hk.mod.below⟩
end Go.Proofs.YtamiichlbmllcabGreatDoor
namespace Go.Proofs.YtamiichlbmllcabGreatDoor
open Go.ChangeShapes Go.WideShapes Go.ChangeAt Go.RowKit Go.Deep
theorem cOpX : Tryz.prog.cellsOf 53 = 30 := by kernel_rfl
theorem cSlX : Tryz.prog.cellsOf 36 = 1 := by kernel_rfl
theorem cSlC : Tryz.prog.cellsOf 51 = 1 := by kernel_rfl
theorem cStrX : Tryz.prog.cellsOf 9 = 1 := by kernel_rfl
theorem cArrX : Tryz.prog.cellsOf 41 = 8 := by kernel_rfl
theorem byOpX : Tryz.prog.bytesOf 53 = 280 := by kernel_rfl
section
variable {H : Type} {enc : TypeId × Value -> H} {W : World} {base : Nat} {spare : Nat -> Bool} {held : Bool}
theorem one_slice {fuel : Nat} {t e : TypeId} {cs : List Value} {x : DataW H × List MemPlace} (hu : Tryz.prog.underlying t = some (.slice e)) (h : DataW.trod enc Tryz.prog W base spare held fuel t cs = some x) : ∃ a len cap, cs = [.slice a len cap] := by
 rcases open_slice hu h with ⟨rfl, rfl⟩ | ⟨a, len, cap, m, n, D, Pl, rfl, _⟩
 · exact ⟨_, _, _, rfl⟩
 · exact ⟨_, _, _, rfl⟩
theorem weights_mem_allX {e : TypeId} {ds : List (DataW H)} {d : DataW H} (hd : d ∈ ds) : ∀ n ∈ DataW.weights Tryz.prog e d, n ∈ DataW.weightsAll Tryz.prog e ds := by
 induction ds with
 | nil => simp at hd
 | cons y r ih =>
   intro n hn
   simp only [DataW.weightsAll, List.mem_append]
   rcases List.mem_cons.1 hd with rfl | hd
   · exact Or.inl hn
   · exact Or.inr (ih hd n hn)
theorem read_opX {n : Nat} {cs : List Value} {x : DataW H × List MemPlace} (h : DataW.trod enc Tryz.prog W base spare held n 53 cs = some x) (hfit : FitsC 53 x.1) : ∃ o : OpX, cs = o.arr.toList /\ o.ok W := by
 obtain ⟨xs, m, _, hx, hl, hlen, hf⟩ := DataW.trod_struct Tryz.underlying53 h
 rw [cOpX] at hl
 replace hlen : xs.length = 8 := hlen
 have g0 : DataW.trod enc Tryz.prog W base spare held m 3 ((cs.drop 0).take (Tryz.prog.cellsOf 3)) = xs[0]? := hf 0 _ rfl
 have g1 : DataW.trod enc Tryz.prog W base spare held m 3 ((cs.drop 1).take (Tryz.prog.cellsOf 3)) = xs[1]? := hf 1 _ rfl
 have g2 : DataW.trod enc Tryz.prog W base spare held m 3 ((cs.drop 2).take (Tryz.prog.cellsOf 3)) = xs[2]? := hf 2 _ rfl
 have g3 : DataW.trod enc Tryz.prog W base spare held m 36 ((cs.drop 3).take (Tryz.prog.cellsOf 36)) = xs[3]? := hf 3 _ rfl
 have g4 : DataW.trod enc Tryz.prog W base spare held m 9 ((cs.drop 4).take (Tryz.prog.cellsOf 9)) = xs[4]? := hf 4 _ rfl
 have g5 : DataW.trod enc Tryz.prog W base spare held m 29 ((cs.drop 5).take (Tryz.prog.cellsOf 29)) = xs[5]? := hf 5 _ rfl
 have g6 : DataW.trod enc Tryz.prog W base spare held m 51 ((cs.drop 21).take (Tryz.prog.cellsOf 51)) = xs[6]? := hf 6 _ rfl
 have g7 : DataW.trod enc Tryz.prog W base spare held m 41 ((cs.drop 22).take (Tryz.prog.cellsOf 41)) = xs[7]? := hf 7 _ rfl
 rw [cInt, List.getElem?_eq_getElem (by omega)] at g0 g1 g2
 rw [cSlX, List.getElem?_eq_getElem (by omega)] at g3
 rw [cStrX, List.getElem?_eq_getElem (by omega)] at g4
 rw [cState, List.getElem?_eq_getElem (by omega)] at g5
 rw [cSlC, List.getElem?_eq_getElem (by omega)] at g6
 rw [cArrX, List.getElem?_eq_getElem (by omega)] at g7
 have fit : ∀ (j : Nat) (t : TypeId) (hj : j < 8), ([3, 3, 3, 36, 9, 29, 51, 41] : List TypeId)[j]? = some t -> FitsC t (xs[j]'(by omega)).1 := fun j t hj ht k hk => hfit k (by
  rw [hx]
  simp only [DataW.weights, Tryz.underlying53]
  refine DataW.weights_mem_each (j := j) (t := t) (by simpa using ht) ?_ k hk
  rw [List.getElem?_map, List.getElem?_eq_getElem (by omega)]; rfl)
 obtain ⟨a0, e0, _, w0⟩ := DataW.trod_int Tryz.underlying3 g0
 obtain ⟨a1, e1, _, w1⟩ := DataW.trod_int Tryz.underlying3 g1
 obtain ⟨a2, e2, _, w2⟩ := DataW.trod_int Tryz.underlying3 g2
 obtain ⟨pa, pn, pc, e3⟩ := one_slice Tryz.underlying36 g3
 rw [e3] at g3
 obtain ⟨p, hA, hp64, hplen⟩ := open_insA (v := .slice pa pn pc) ⟨_, _, _, rfl⟩ ⟨m, g3⟩ (fit 3 _ (by omega) rfl)
 obtain ⟨s, e4, _, _⟩ := DataW.trod_string Tryz.underlying9 g4
 obtain ⟨e, e5, he64⟩ := read_st g5
 obtain ⟨qa, qn, qc, e6⟩ := one_slice Tryz.underlying51 g6
 rw [e6] at g6
 obtain ⟨cl, hC, hc64, hclen⟩ := open_cls (v := .slice qa qn qc) ⟨_, _, _, rfl⟩ ⟨m, g6⟩ (fit 6 _ (by omega) rfl)
 obtain ⟨ys, m7, _, _, _, hy, h7⟩ := DataW.trod_array Tryz.underlying41 g7
 have each : ∀ j, j < 8 -> ∃ z : Int, cs[22 + j]? = some (.int .i64 z) := by
  intro j hj
  have := h7 j hj
  rw [cInt, List.getElem?_eq_getElem (by omega)] at this
  obtain ⟨z, e, _, _⟩ := DataW.trod_int Tryz.underlying3 this
  refine ⟨z, ?_⟩
  have c := congrArg (fun l => l[0]?) e
  simp only [Nat.mul_one, List.getElem?_take, List.getElem?_drop] at c
  rw [if_pos (by omega), if_pos (by omega)] at c
  simpa using c
 obtain ⟨rg, hrg⟩ := choose_lt each
 refine ⟨⟨a0, a1, a2, .slice pa pn pc, p, s, e, .slice qa qn qc, cl, rg⟩, ?_, ⟨hA, hplen, hC, hclen, ⟨fun i hi => by rw [insAt_get hi]; exact (hp64 i hi).2.2.2.2, he64, hc64⟩, wf64 w1⟩⟩
 clear hf hx g0 g1 g2 g3 g4 g5 g6 g7 fit hA hp64 hC hc64 h hfit w0 w1 w2 he64 each h7 hy
 have c0 := congrArg (fun l => l[0]?) e0
 have c1 := congrArg (fun l => l[0]?) e1
 have c2 := congrArg (fun l => l[0]?) e2
 have c3 := congrArg (fun l => l[0]?) e3
 have c4 := congrArg (fun l => l[0]?) e4
 have c6 := congrArg (fun l => l[0]?) e6
 simp [List.getElem?_drop] at c0 c1 c2 c3 c4 c6
 have c5 : ∀ i, i < 16 -> cs[5 + i]? = (stC e).toList[i]? := fun i hi => by
  have := congrArg (fun l => l[i]?) e5
  simp only [List.getElem?_take, List.getElem?_drop] at this
  rw [if_pos hi] at this
  exact this
 apply List.ext_getElem?
 intro j
 by_cases hj : j < 30
 · have : j = 0 \/ j = 1 \/ j = 2 \/ j = 3 \/ j = 4 \/ j = 21 \/ (5 <= j /\ j < 21) \/ (22 <= j /\ j < 30) := by omega
   rcases this with rfl | rfl | rfl | rfl | rfl | rfl | h2 | h2
   · rw [c0]; rfl
   · rw [c1]; rfl
   · rw [c2]; rfl
   · rw [c3]; rfl
   · rw [c4]; rfl
   · rw [c6]; rfl
   · obtain ⟨i, rfl⟩ : ∃ i, j = 5 + i := ⟨j - 5, by omega⟩
     rw [c5 i (by omega)]
     have : i = 0 \/ i = 1 \/ i = 2 \/ i = 3 \/ i = 4 \/ i = 5 \/ i = 6 \/ i = 7 \/ i = 8 \/ i = 9 \/ i = 10 \/ i = 11 \/ i = 12 \/ i = 13 \/ i = 14 \/ i = 15 := by omega
     rcases this with rfl | rfl | rfl | rfl | rfl | rfl | rfl | rfl | rfl | rfl | rfl | rfl | rfl | rfl | rfl | rfl <;> rfl
   · obtain ⟨i, rfl⟩ : ∃ i, j = 22 + i := ⟨j - 22, by omega⟩
     rw [hrg i (by omega)]
     have : i = 0 \/ i = 1 \/ i = 2 \/ i = 3 \/ i = 4 \/ i = 5 \/ i = 6 \/ i = 7 := by omega
     rcases this with rfl | rfl | rfl | rfl | rfl | rfl | rfl | rfl <;> rfl
 · rw [List.getElem?_eq_none (by omega), List.getElem?_eq_none]
   show 30 <= j
   omega
theorem open_scrX {v : Value} {d : DataW H} {ps : List MemPlace} (hv : ∃ a len cap, v = .slice a len cap) (h : DataW.Trod enc Tryz.prog W base spare held 22 v d ps) (hfit : FitsC 22 d) :
 ∃ l : List OpX, ScrX W v l /\ l.length < 600000000000 := by
 obtain ⟨a0, len0, cap0, rfl⟩ := hv
 obtain ⟨fuel, hf⟩ := h
 rcases open_slice Tryz.underlying22 hf with ⟨hcs, _⟩ | ⟨a, len, cap, m, n, D, Pl, hcs, _, hl, hm, hmm, hd, hx⟩
 · simp [Value.cells] at hcs
   obtain ⟨rfl, rfl, rfl⟩ := hcs
   exact ⟨[], Or.inl ⟨⟨_, _, rfl⟩, rfl⟩, by simp⟩
 · simp [Value.cells] at hcs
   obtain ⟨rfl, rfl, rfl⟩ := hcs
   simp only [Prod.mk.injEq] at hd
   have hlm : len0 <= m := by rw [hmm]; split <;> omega
   have hsz : len0 * 280 <= 140737488351232 := by
    have := hfit _ (by rw [hd.1]; simp only [DataW.weights, Tryz.underlying22]; exact List.mem_cons_self)
    rw [byOpX] at this
    simp only [List.length_map, List.length_range, reachBytes] at this
    omega
   have each : ∀ i, i < len0 -> ∃ o : OpX, o.ok W /\ ∀ f u, o.arr.toList[f]? = some u -> W.cell? (a.add (i * 30 + f)) = some u := by
    intro i hi
    obtain ⟨cs', h1, h2⟩ := hx i (by omega)
    obtain ⟨o, rfl, hok⟩ := read_opX h2 (fun k hk => hfit k (by
     rw [hd.1]
     simp only [DataW.weights, Tryz.underlying22]
     refine List.mem_cons_of_mem _ (List.mem_append_left _ (weights_mem_allX ?_ k hk))
     exact List.mem_map.2 ⟨i, List.mem_range.2 hi, rfl⟩))
    rw [cOpX] at h1
    obtain ⟨_, _, hcell⟩ := World.cells?_some h1
    refine ⟨o, hok, fun f u hf' => ?_⟩
    have hlt : f < 30 := (List.getElem?_eq_some_iff.1 hf').1
    rw [<- add_add, hcell f hlt]; exact hf'
   have : Inhabited OpX := ⟨⟨0, 0, 0, undef, [], ⟨#[]⟩, zeroS, undef, [], fun _ => 0⟩⟩
   obtain ⟨q, hq⟩ := choose_lt each
   refine ⟨(List.range len0).map q, ?_, by simp; omega⟩
   by_cases h0 : len0 = 0
   · subst h0
     exact Or.inl ⟨⟨_, _, rfl⟩, rfl⟩
   · obtain ⟨b, off, spot⟩ := a
     have hc := (hq 0 (by omega)).2 0 (.int .i64 (q 0).k) rfl
     have hspot : spot = none := by simpa [Addr.add] using World.cell?_spot hc
     subst hspot
     refine Or.inr ⟨b, off, cap0, by simp, ?_, fun i hi => ?_⟩
     · rw [add_plain] at hc
       exact World.block_lt_of_cell? W ⟨b, _, none⟩ hc
     · simp only [List.length_map, List.length_range] at hi
       simp only [List.getElem_map, List.getElem_range]
       refine ⟨fun f u hf' => ?_, (hq i hi).1⟩
       have := (hq i hi).2 f u hf'
       rw [add_plain, <- Nat.add_assoc] at this
       exact this
end
def rpC (wb cb tb bb n : Nat) : Array Value := #[.slice (some ⟨wb, 0, none⟩) n n, .slice (some ⟨cb, 0, none⟩) n n, .slice (some ⟨tb, 0, none⟩) n n, .slice (some ⟨bb, 0, none⟩) n n]
theorem rows_exP {n k : Nat} {g : Nat -> Array Value} {i o c : Nat} (hi : i < n) (hg : (g i).size = k) (ho : o + c <= k) : (rowsA n k g).extract (i * k + o) (i * k + o + c) = (g i).extract o (o + c) := by
 have hn : i * k + k <= n * k := by
  have : (i + 1) * k <= n * k := Nat.mul_le_mul_right k hi
  rwa [Nat.add_mul, Nat.one_mul] at this
 apply Array.ext_getElem?
 intro q
 by_cases hq : q < c
 · rw [Array.getElem?_extract, if_pos (by rw [rows_size]; omega), Array.getElem?_extract, if_pos (by omega), Nat.add_assoc]
   exact rows_at hi (by omega) hg
 · rw [Array.getElem?_eq_none (by rw [Array.size_extract, rows_size]; omega), Array.getElem?_eq_none (by rw [Array.size_extract]; omega)]
theorem rows_putP {n k : Nat} {g : Nat -> Array Value} {i o : Nat} {c : Array Value} (hg : ∀ j, (g j).size = k) (ho : o + c.size <= k) : putA (rowsA n k g) (i * k + o) c.toList = rowsA n k (fun j => if j = i then putA (g j) o c.toList else g j) := by
 apply Array.ext_getElem?
 intro q
 by_cases hq : q < n * k
 · have hk : 0 < k := by
    rcases Nat.eq_zero_or_pos k with h | h
    · subst h; simp at hq
    · exact h
   have hml := Nat.mod_lt q hk
   have hdm := Nat.mod_add_div q k
   rw [putA_get _ _ _ _ (by rw [rows_size]; exact hq), rows_get hq, rows_get (g := fun j => if j = i then putA (g j) o c.toList else g j) hq]
   simp only [Array.length_toList]
   by_cases e : q / k = i
   · rw [e] at hdm ⊢
     rw [Nat.mul_comm] at hdm
     simp only [if_true]
     rw [Array.getD_eq_getD_getElem?, Array.getD_eq_getD_getElem?, putA_get _ _ _ _ (by rw [hg i]; exact hml)]
     simp only [Array.length_toList]
     by_cases h1 : o <= q % k /\ q % k < o + c.size
     · rw [if_pos (by omega), if_pos h1, show q - (i * k + o) = q % k - o by omega]
       rw [List.getElem?_eq_getElem (by rw [Array.length_toList]; omega)]
       first | done | rfl
     · rw [if_neg (by omega), if_neg h1, Array.getElem?_eq_getElem (by rw [hg i]; exact hml)]
       first | done | rfl
   · have hne : ¬ (i * k + o <= q /\ q < i * k + o + c.size) := by
      intro h
      apply e
      rw [Nat.div_eq_iff hk]
      omega
     rw [if_neg hne, if_neg e]
 · rw [Array.getElem?_eq_none (by rw [putA_size, rows_size]; omega), Array.getElem?_eq_none (by rw [rows_size]; omega)]
theorem get_is (n : Nat) (W : Nat -> Option St) (m : Nat) (h : m < n) : (plsA n W)[m * 17]? = some (.bool (W m).isSome) := by
 have := rows_at (n := n) (k := 17) (g := fun i => plC (W i).isSome (stO (W i))) (i := m) (q := 0) h (by omega) rfl
 exact this
theorem ex_plsS (n : Nat) (W : Nat -> Option St) (m : Nat) (h : m < n) : (plsA n W).extract (m * 17 + 1) (m * 17 + 1 + 16) = stC (stO (W m)) := (rows_exP (k := 17) (g := fun i => plC (W i).isSome (stO (W i))) (c := 16) (o := 1) h rfl (by omega)).trans (ex_plst _ _)
theorem ex_plsR (n : Nat) (W : Nat -> Option St) (m : Nat) (h : m < n) (i : Nat) (hi : i < 8) : (plsA n W).extract (m * 17 + 1 + i * 2) (m * 17 + 1 + i * 2 + 2) = rgC (stO (W m) i) := by
 rw [show m * 17 + 1 + i * 2 = m * 17 + (1 + i * 2) by omega]
 exact (rows_exP (k := 17) (g := fun i => plC (W i).isSome (stO (W i))) (c := 2) (o := 1 + i * 2) h rfl (by omega)).trans (ex_plat _ _ _ hi)
theorem put_plsR (n : Nat) (W : Nat -> Option St) (m : Nat) {s : St} (hs : W m = some s) (i : Nat) (hi : i < 8) (r : R2) : putA (plsA n W) (m * 17 + 1 + i * 2) (rgC r).toList = plsA n (updW W m (some (updS s i r))) := by
 rw [show m * 17 + 1 + i * 2 = m * 17 + (1 + i * 2) by omega]
 have := rows_putP (n := n) (k := 17) (g := fun i => plC (W i).isSome (stO (W i))) (i := m) (o := 1 + i * 2) (c := rgC r) (fun _ => rfl) (by show 1 + i * 2 + 2 <= 17; omega)
 refine this.trans (rows_congr fun j _ => ?_)
 unfold updW
 by_cases e : j = m
 · rw [if_pos e, if_pos e, e, hs]
   exact put_plat true s i r hi
 · rw [if_neg e, if_neg e]
def cntE (v : PS) : Nat -> Nat := fun m => v.cnt m + if v.chg m then 1 else 0
theorem cntE_old {W : Nat -> Option St} {v : PS} {m : Nat} (h : v.chg m = true) : cntE ⟨W, v.cnt, updB v.chg m true⟩ = cntE v /\ updB v.chg m true = v.chg := by
 have e : updB v.chg m true = v.chg := by
  funext j
  unfold updB
  split
  · rename_i e; rw [e, h]
  · rfl
 exact ⟨by unfold cntE; simp only [e], e⟩
theorem cntE_new {W : Nat -> Option St} {v : PS} {m : Nat} (h : v.chg m = false) : cntE ⟨W, v.cnt, updB v.chg m true⟩ = updN (cntE v) m (cntE v m + 1) := by
 funext j
 by_cases e : j = m
 · subst e; simp [cntE, updN, updB, h]
 · simp [cntE, updN, updB, e]
theorem rf_touch (n m : Nat) (hm : m < n) (V wb cb tb bb : Nat) (W : Nat -> Option St) (v : PS) (hct : cb ≠ tb) (hVM : V ∉ [cb, tb]) (w : World) (hV : At w V (rpC wb cb tb bb n) 178) (hC : At w cb (intA n (cntE v)) 3) (hT : At w tb (bosA n v.chg) 4) :
 Calls Tryz.prog 108 #[.pointer (some ⟨V, 0, none⟩), .int .i64 m] w fun e w' => e = .returned (.tuple #[]) /\ Mod [cb, tb] w w' /\ At w' cb (intA n (cntE ⟨W, v.cnt, updB v.chg m true⟩)) 3 /\ At w' tb (bosA n (updB v.chg m true)) 4 := by
 have hk := Kn.two hC hT hct
 clear hC hT
 cases hh : v.chg m with
 | true =>
   rw [(cntE_old (W := W) hh).1, (cntE_old (W := W) hh).2]
   go_enter Tryz.func108, Tryz.ntmps108
   go_wp2_with ((with_reducible apply gL); (first | (refine wS hk ?_; simp only [pw]; (try rw [hh])) | (refine wN hk ?_; clear hk; intro w1 hk; simp only [pw])))
   go_end0
   exact ⟨rfl, hk.mod, hk.at mm, hk.at mm⟩
 | false =>
   rw [cntE_new hh]
   have hadd : wrap64 (wrap64 (cntE v m : Int) + 1) = wrap64 ((cntE v m + 1 : Nat) : Int) := by unfold wrap64; omega
   go_enter Tryz.func108, Tryz.ntmps108
   go_upto_region 2 with ((with_reducible apply gL); (first | (refine wS hk ?_; simp only [pw]; (try rw [hh])) | (refine wN hk ?_; clear hk; intro w1 hk; simp only [pw])))
   (refine wp_regLK hk (.op 0 (.op 1 (.op 2 (.op 3 (.op 4 (.op 5 (.op 6 (.op 7 (.op 8 (.op 9 .nil)))))))))) (by rfl) ?_)
   (repeat (refine sV hk ?_; simp only [pw]))
   refine sNil hk ?_; simp only [pw]
   (repeat (refine sV hk ?_; simp only [pw]))
   refine sLoad1 hk ?_ (hv := get_int _ _ _ hm); simp only [pw]
   refine sAddI hk ?_; simp only [pw]
   (repeat (refine sV hk ?_; simp only [pw]))
   refine sStore1I hk ?_ (hj := by rw [intA_size]; omega) (hA := set_int _ _ _ _); clear hk; intro w1 hk; refine ⟨fun h => absurd h (by decide), ?_⟩; simp only [pw]
   refine tNil ?_
   go_wp2_with ((with_reducible apply gL); (first | refine wS hk ?_ | (refine wN hk ?_; clear hk; intro w1 hk)); simp only [pw])
   go_end0
   exact ⟨rfl, hk.mod, hk.at mm, hk.at mm⟩
structure RpB (n V wb cb tb bb : Nat) (back : Nat -> Bool) (w : World) : Prop where
 v : At w V (rpC wb cb tb bb n) 178
 b : At w bb (bosA n back) 4
 vM : V ∉ [wb, cb, tb]
 bM : bb ∉ [wb, cb, tb]
 wc : wb ≠ cb
 wt : wb ≠ tb
 ct : cb ≠ tb
def ComesP (n wb cb tb : Nat) (v' : PS) (w w' : World) : Prop := Mod [wb, cb, tb] w w' /\ At w' wb (plsA n v'.W) 168 /\ At w' cb (intA n (cntE v')) 3 /\ At w' tb (bosA n v'.chg) 4
theorem Mod.weak {M N : List Nat} {w w' : World} (h : Mod M w w') (hN : ∀ b, b ∈ M -> b ∈ N) : Mod N w w' := ⟨h.os, h.tape, h.output, h.size, fun k hk hn => h.block k hk fun hm => hn (hN k hm)⟩
theorem post_0 {P : Program} {fn : Func} {R : Ending -> World -> Prop} {a : Act} {w : World} (hf : fn.results = #[]) (hd : a.defers = []) (hR : R (.returned (.tuple #[])) w) : bodyPost P fn R .ret a w := bodyPost_ret (v := .tuple #[]) (by simp [results, hf]) hd hR
theorem takes_first {back : Nat -> Bool} {v : PS} {m : Nat} {s : St} (h : v.W m = none) : takesP back v m (some s) = ⟨updW v.W m (some s), v.cnt, updB v.chg m true⟩ := by
 rw [takes_at (by rw [h]; rfl)]
 have e : widerP back v m (some s) = some s := by unfold widerP; rw [h]; split <;> rfl
 rw [e]
 rfl
theorem rf_comes_first (n m : Nat) (hm : m < n) (V wb cb tb bb : Nat) (back : Nat -> Bool) (v : PS) (w : World) (hB : RpB n V wb cb tb bb back w) (hW : At w wb (plsA n v.W) 168) (hC : At w cb (intA n (cntE v)) 3) (hT : At w tb (bosA n v.chg) 4) (s : St) (hWm : v.W m = none) :
 Calls Tryz.prog 96 #[.pointer (some ⟨V, 0, none⟩), .agg (plC true s), .int .i64 m] w fun e w' => e = .returned (.tuple #[]) /\ ComesP n wb cb tb ⟨updW v.W m (some s), v.cnt, updB v.chg m true⟩ w w' := by
 have hVM := hB.vM
 have hbM := hB.bM
 have hV := hB.v
 have hK := hB.b
 have hVt : V ∉ [cb, tb] := fun h => hVM (List.mem_cons_of_mem _ h)
 have hk := Kn.three hW hC hT hB.wc hB.wt hB.ct
 have hWi : (v.W m).isSome = false := by rw [hWm]; rfl
 clear hWm
 go_enter Tryz.func96, Tryz.ntmps96
 go_upto_region 3 with (first | ((with_reducible show wpList _ _ _ (⟨some 19, _, _, _, _, _⟩ :: _) _ _); refine wLoad1 hk ?_ (hv := get_is _ _ _ hm); simp only [pw]; rw [hWi]) | ((with_reducible apply gL); (first | refine wS hk ?_ | (refine wN hk ?_; clear hk; intro w1 hk)); simp only [pw]))
 refine wp_reg1 hk (.op 0 (.op 1 (.op 2 (.op 3 (.op 4 (.op 5 (.op 6 (.op 7 .nil)))))))) (fun i => decide (i < 6)) mixT (by decide) (by kernel_rfl) (by kernel_rfl) ?_; clear hk; intro w1 hk
 (repeat (refine sV hk.first ?_; simp only [pw]))
 refine sNil hk.first ?_; simp only [pw]
 (repeat (refine sV hk.first ?_; simp only [pw]))
 refine sStore hk ?_; clear hk; intro w1 hk; refine ⟨fun h => absurd h (by decide), ?_⟩; simp only [pw]
 refine tNil ?_
 go_wp2_with (first | (go_at_call 108; refine (rf_touch n m hm V wb cb tb bb (updW v.W m (some s)) v hB.ct hVt _ (hV.mod hk.mod hVM) (hk.at mm) (hk.at mm)).mono ?_; rintro e w2 ⟨rfl, hm2, h1, h2⟩) | ((with_reducible apply gL); (first | refine wS hk ?_ | (refine wN hk ?_; clear hk; intro w1 hk)); simp only [pw]))
 have hne : wb ∉ [cb, tb] := by simp [hB.wc, hB.wt]
 exact post_0 rfl rfl ⟨rfl, hk.mod.trans (hm2.weak (fun b hb => List.mem_cons_of_mem _ hb)), (hk.at (A := plsA n (updW v.W m (some s))) mm).mod hm2 hne, h1, h2⟩
theorem rf_comes_lies (n m : Nat) (hm : m < n) (V wb cb tb bb : Nat) (back : Nat -> Bool) (v : PS) (w : World) (hB : RpB n V wb cb tb bb back w) (hW : At w wb (plsA n v.W) 168) (hC : At w cb (intA n (cntE v)) 3) (hT : At w tb (bosA n v.chg) 4) (s t : St) (hWm : v.W m = some t) (hl : liesR s t = true) :
 Calls Tryz.prog 96 #[.pointer (some ⟨V, 0, none⟩), .agg (plC true s), .int .i64 m] w fun e w' => e = .returned (.tuple #[]) /\ ComesP n wb cb tb v w w' := by
 have hVM := hB.vM
 have hbM := hB.bM
 have hV := hB.v
 have hK := hB.b
 have hVt : V ∉ [cb, tb] := fun h => hVM (List.mem_cons_of_mem _ h)
 have hk := Kn.three hW hC hT hB.wc hB.wt hB.ct
 have hWi : (v.W m).isSome = true := by rw [hWm]; rfl
 have hWs : stO (v.W m) = t := by rw [hWm]; rfl
 have HL := hide hl
 clear hWm hl
 go_enter Tryz.func96, Tryz.ntmps96
 go_upto_region 5 with (first | ((with_reducible show wpList _ _ _ (⟨some 19, _, _, _, _, _⟩ :: _) _ _); refine wLoad1 hk ?_ (hv := get_is _ _ _ hm); simp only [pw]; rw [hWi]) | ((with_reducible apply gL); (first | refine wS hk ?_ | (refine wN hk ?_; clear hk; intro w1 hk)); simp only [pw]))
 (refine wp_regK hk (.op 0 (.op 1 (.op 2 (.op 3 (.op 4 (.op 5 (.op 6 (.op 7 (.op 8 (.op 9 (.op 10 (.op 11 .nil)))))))))))) (fun i => decide (i < 11)) mixT (by decide) (by kernel_rfl) (by kernel_rfl) ?_; clear hk; intro w1 hk)
 (repeat (refine sV hk ?_; simp only [pw]))
 refine sNil hk ?_; simp only [pw]
 (repeat (refine sV hk ?_; simp only [pw]))
 refine sLoadR hk ?_ (hc := ex_plsS _ _ _ hm); simp only [pw]
 rw [hWs]
 refine sCall ?_; intro K hK; go_step; go_at_call 88
 refine (rf_lies s t _).mono ?_
 rintro e w2 ⟨rfl, hb⟩
 replace hk := hk.call hb
 refine hK _ _ (fun _ => hk) ?_
 clear hK K hb
 rw [HL.out]
 (repeat (refine sV hk ?_; simp only [pw]))
 refine tNil ?_
 go_wp2_with ((with_reducible apply gL); (first | refine wS hk ?_ | (refine wN hk ?_; clear hk; intro w1 hk)); simp only [pw])
 exact post_0 rfl rfl ⟨rfl, hk.mod, hk.at mm, hk.at mm, hk.at mm⟩
theorem set_rg0 (r : R2) (v : Int) : (rgC r).setIfInBounds 0 (.int .i64 v) = rgC ⟨v, r.hi⟩ := rfl
theorem set_rg1 (r : R2) (v : Int) : (rgC r).setIfInBounds 1 (.int .i64 v) = rgC ⟨r.lo, v⟩ := rfl
theorem joinR_is00 {r o : R2} (h1 : ¬ o.lo < r.lo) (h2 : ¬ r.hi < o.hi) : joinR r o = ⟨r.lo, r.hi⟩ := by unfold joinR; congr 1 <;> omega
theorem joinR_is01 {r o : R2} (h1 : ¬ o.lo < r.lo) (h2 : r.hi < o.hi) : joinR r o = ⟨r.lo, o.hi⟩ := by unfold joinR; congr 1 <;> omega
theorem joinR_is10 {r o : R2} (h1 : o.lo < r.lo) (h2 : ¬ r.hi < o.hi) : joinR r o = ⟨o.lo, r.hi⟩ := by unfold joinR; congr 1 <;> omega
theorem joinR_is11 {r o : R2} (h1 : o.lo < r.lo) (h2 : r.hi < o.hi) : joinR r o = ⟨o.lo, o.hi⟩ := by unfold joinR; congr 1 <;> omega
theorem stretchR_is00 {r o : R2} (h1 : ¬ o.lo < r.lo) (h2 : ¬ r.hi < o.hi) : stretchR r o = ⟨r.lo, r.hi⟩ := by unfold stretchR; rw [if_pos (by omega), if_pos (by omega)]
theorem stretchR_is01 {r o : R2} (h1 : ¬ o.lo < r.lo) (h2 : r.hi < o.hi) : stretchR r o = ⟨r.lo, 9223372036854775807⟩ := by unfold stretchR; rw [if_pos (by omega), if_neg (by omega)]
theorem stretchR_is10 {r o : R2} (h1 : o.lo < r.lo) (h2 : ¬ r.hi < o.hi) : stretchR r o = ⟨-9223372036854775808, r.hi⟩ := by unfold stretchR; rw [if_neg (by omega), if_pos (by omega)]
theorem stretchR_is11 {r o : R2} (h1 : o.lo < r.lo) (h2 : r.hi < o.hi) : stretchR r o = ⟨-9223372036854775808, 9223372036854775807⟩ := by unfold stretchR; rw [if_neg (by omega), if_neg (by omega)]
theorem joinR_if (r o : R2) : joinR r o = ⟨cond (decide (o.lo < r.lo)) o.lo r.lo, cond (decide (r.hi < o.hi)) o.hi r.hi⟩ := by
 by_cases h1 : o.lo < r.lo <;> by_cases h2 : r.hi < o.hi <;> simp only [h1, h2, decide_true, decide_false, cond_true, cond_false]
 · exact joinR_is11 h1 h2
 · exact joinR_is10 h1 h2
 · exact joinR_is01 h1 h2
 · exact joinR_is00 h1 h2
theorem stretchR_if (r o : R2) : stretchR r o = ⟨cond (decide (o.lo < r.lo)) (-9223372036854775808) r.lo, cond (decide (r.hi < o.hi)) 9223372036854775807 r.hi⟩ := by
 by_cases h1 : o.lo < r.lo <;> by_cases h2 : r.hi < o.hi <;> simp only [h1, h2, decide_true, decide_false, cond_true, cond_false]
 · exact stretchR_is11 h1 h2
 · exact stretchR_is10 h1 h2
 · exact stretchR_is01 h1 h2
 · exact stretchR_is00 h1 h2
theorem set_w : (∀ (a0 a1 a2 a3 a4 a5 a6 a7 : Value) (l : List Value) (n : Nat) (v : Value), (a0 :: a1 :: a2 :: a3 :: a4 :: a5 :: a6 :: a7 :: l).set (n + 8) v = a0 :: a1 :: a2 :: a3 :: a4 :: a5 :: a6 :: a7 :: l.set n v) /\
 (∀ (a0 : Value) (l : List Value) (v : Value), (a0 :: l).set 0 v = v :: l) /\
 (∀ (a0 a1 : Value) (l : List Value) (v : Value), (a0 :: a1 :: l).set 1 v = a0 :: v :: l) /\
 (∀ (a0 a1 a2 : Value) (l : List Value) (v : Value), (a0 :: a1 :: a2 :: l).set 2 v = a0 :: a1 :: v :: l) /\
 (∀ (a0 a1 a2 a3 : Value) (l : List Value) (v : Value), (a0 :: a1 :: a2 :: a3 :: l).set 3 v = a0 :: a1 :: a2 :: v :: l) /\
 (∀ (a0 a1 a2 a3 a4 : Value) (l : List Value) (v : Value), (a0 :: a1 :: a2 :: a3 :: a4 :: l).set 4 v = a0 :: a1 :: a2 :: a3 :: v :: l) /\
 (∀ (a0 a1 a2 a3 a4 a5 : Value) (l : List Value) (v : Value), (a0 :: a1 :: a2 :: a3 :: a4 :: a5 :: l).set 5 v = a0 :: a1 :: a2 :: a3 :: a4 :: v :: l) /\
 (∀ (a0 a1 a2 a3 a4 a5 a6 : Value) (l : List Value) (v : Value), (a0 :: a1 :: a2 :: a3 :: a4 :: a5 :: a6 :: l).set 6 v = a0 :: a1 :: a2 :: a3 :: a4 :: a5 :: v :: l) /\
 (∀ (a0 a1 a2 a3 a4 a5 a6 a7 : Value) (l : List Value) (v : Value), (a0 :: a1 :: a2 :: a3 :: a4 :: a5 :: a6 :: a7 :: l).set 7 v = a0 :: a1 :: a2 :: a3 :: a4 :: a5 :: a6 :: v :: l) :=
 ⟨fun _ _ _ _ _ _ _ _ _ _ _ => rfl, fun _ _ _ => rfl, fun _ _ _ _ => rfl, fun _ _ _ _ _ => rfl, fun _ _ _ _ _ _ => rfl, fun _ _ _ _ _ _ _ => rfl, fun _ _ _ _ _ _ _ _ => rfl, fun _ _ _ _ _ _ _ _ _ => rfl, fun _ _ _ _ _ _ _ _ _ _ => rfl⟩
end Go.Proofs.YtamiichlbmllcabGreatDoor
