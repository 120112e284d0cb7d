import Derived.Test.YtamiichlbmllcabGreatDoorQSetW
set_option maxRecDepth 100000
set_option maxHeartbeats 32000000
namespace Go.Proofs.YtamiichlbmllcabGreatDoor
open Go.RowKit
theorem rf_comes_wf (n m : Nat) (hm : m < n) (V wb cb tb bb : Nat) (back : Nat -> Bool) (v : PS) (w : World) (hB : RpB n V wb cb tb bb back w) (hW : At w wb (plsA n v.W) 168) (hC : At w cb (intA n (cntE v)) 3) (hT : At w tb (bosA n v.chg) 4) (s t : St) (hWm : v.W m = some t) (hl : liesR s t = false) (hbk : back m = false) :
 Calls Tryz.prog 96 #[.pointer (some ⟨V, 0, none⟩), .agg (plC true s), .int .i64 m] w fun e w' => e = .returned (.tuple #[]) /\ ComesP n wb cb tb ⟨updW v.W m (some (fun j => joinR (t j) (s j))), v.cnt, updB v.chg m true⟩ w w' := by
 have hVM := hB.vM
 have hbM := hB.bM
 have hV := hB.v
 have hK := hB.b
 have hVt : V ∉ [cb, tb] := fun h => hVM (List.mem_cons_of_mem _ h)
 have hk := Kn.three hW hC hT hB.wc hB.wt hB.ct
 have hWi : (v.W m).isSome = true := by rw [hWm]; rfl
 have hWs : stO (v.W m) = t := by rw [hWm]; rfl
 have HWM := hide hWm
 have HL := hide hl
 have hlw := hW.lt
 have hlc := hC.lt
 have hlt := hT.lt
 clear hWm hl
 go_enter Tryz.func96, Tryz.ntmps96
 go_upto_region 5 with (first | ((with_reducible show wpList _ _ _ (⟨some 19, _, _, _, _, _⟩ :: _) _ _); refine wLoad1 hk ?_ (hv := get_is _ _ _ hm); simp only [pw]; rw [hWi]) | ((with_reducible apply gL); (first | refine wS hk ?_ | (refine wN hk ?_; clear hk; intro w1 hk)); simp only [pw]))
 (refine wp_regK hk (.op 0 (.op 1 (.op 2 (.op 3 (.op 4 (.op 5 (.op 6 (.op 7 (.op 8 (.op 9 (.op 10 (.op 11 .nil)))))))))))) (fun i => decide (i < 11)) mixT (by decide) (by kernel_rfl) (by kernel_rfl) ?_; clear hk; intro w1 hk)
 (repeat (refine sV hk ?_; simp only [pw]))
 refine sNil hk ?_; simp only [pw]
 (repeat (refine sV hk ?_; simp only [pw]))
 refine sLoadR hk ?_ (hc := ex_plsS _ _ _ hm); simp only [pw]
 rw [hWs]
 refine sCall ?_; intro K hK; go_step; go_at_call 88
 refine (rf_lies s t _).mono ?_
 rintro e w2 ⟨rfl, hb⟩
 replace hk := hk.call hb
 refine hK _ _ (fun _ => hk) ?_
 clear hK K hb
 rw [HL.out]
 (repeat (refine sV hk ?_; simp only [pw]))
 refine tNil ?_
 go_wp2_with ((with_reducible apply gL); (first | refine wS hk ?_ | (refine wN hk ?_; clear hk; intro w1 hk)); simp only [pw])
 go_at_call 108
 refine (rf_touch n m hm V wb cb tb bb v.W v hB.ct hVt _ (hV.mod hk.mod hVM) (hk.at mm) (hk.at mm)).mono ?_
 rintro e w2 ⟨rfl, hm2, h1, h2⟩
 replace hk := hk.four hm2 (fun b hb => List.mem_cons_of_mem _ hb) ((hk.at (A := plC true s) mm).mod hm2 (by simp; omega)) ((hk.at (A := plsA n v.W) mm).mod hm2 (by simp [hB.wc, hB.wt])) h1 h2
 clear hm2 h1 h2
 obtain ⟨C, hCe⟩ : ∃ C, cntE ⟨v.W, v.cnt, updB v.chg m true⟩ = C := ⟨_, rfl⟩
 obtain ⟨H, hHe⟩ : ∃ H, updB v.chg m true = H := ⟨_, rfl⟩
 have HCE : Hid (∀ W, intA n (cntE ⟨W, v.cnt, updB v.chg m true⟩) = intA n C) := hide fun W => by rw [<- hCe]; rfl
 have HHE := hide hHe
 rw [hCe] at hk
 rw [hHe] at hk
 clear hCe hHe
 have e0 : updW v.W m (some (joinU joinR t s 0)) = v.W := by
  funext j
  unfold updW joinU
  split
  · rename_i e; rw [e, HWM.out]; simp
  · rfl
 rw [<- e0] at hk
 clear e0
 go_wp2_with ((with_reducible apply gL); (first | refine wS hk ?_ | (refine wN hk ?_; clear hk; intro w1 hk)); simp only [pw])
 go_loopg [7] 8 (fun k u7 wr => ∃ i : Nat, i + k = 8 /\ u7 = .int .i64 i /\ Kn [wb, cb, tb] w wr [(w.heap.size, plC true s, 168), (wb, plsA n (updW v.W m (some (joinU joinR t s i))), 168), (cb, intA n C, 3), (tb, bosA n H, 4)])
 case atStart => exact ⟨0, by omega, rfl, hk⟩
 case round =>
  clear hk
  obtain ⟨i, hik, rfl, hk⟩ := hrel
  match gk, hik with
  | gk + 1, hik =>
    have hl8 : i < 8 := by omega
    have HUW : Hid ((updW v.W m (some (joinU joinR t s i))) m = some (joinU joinR t s i)) := hide (by unfold updW; rw [if_pos rfl])
    have HRD : Hid (stO (updW v.W m (some (joinU joinR t s i)) m) i = t i) := hide (by rw [HUW.out]; show joinU joinR t s i i = t i; unfold joinU; rw [if_neg (by omega)])
    have HST : Hid (updW (updW v.W m (some (joinU joinR t s i))) m (some (updS (joinU joinR t s i) i (joinR (t i) (s i)))) = updW v.W m (some (joinU joinR t s (i + 1)))) := hide (by
     rw [joinU_step]
     funext j
     unfold updW
     split <;> rfl)
    obtain ⟨u, hu⟩ : ∃ u, joinU joinR t s i = u := ⟨_, rfl⟩
    rw [hu] at HUW HRD HST hk
    obtain ⟨U, hU⟩ : ∃ U, updW v.W m (some u) = U := ⟨_, rfl⟩
    rw [hU] at HUW HRD HST hk
    clear hu hU
    obtain ⟨d1, hd1⟩ : ∃ d, decide ((s i).lo < (t i).lo) = d := ⟨_, rfl⟩
    obtain ⟨d2, hd2⟩ : ∃ d, decide ((t i).hi < (s i).hi) = d := ⟨_, rfl⟩
    have R : Hid (joinR (t i) (s i) = ⟨cond d1 (s i).lo (t i).lo, cond d2 (s i).hi (t i).hi⟩) := hide (by rw [joinR_if, hd1, hd2])
    have D1 := hide hd1
    have D2 := hide hd2
    clear hd1 hd2
    go_upto_region 11 with ((with_reducible apply gL); (first | refine wS hk ?_ | (refine wN hk ?_; clear hk; intro w1 hk)); simp only [pw])
    (refine wp_regLK hk (.op 0 (.op 1 (.op 2 (.op 3 (.op 4 (.op 5 (.op 6 (.op 7 (.op 8 (.op 9 (.op 10 (.op 11 .nil)))))))))))) (by rfl) ?_)
    (repeat (refine sV hk ?_; simp only [pw]))
    refine sNil hk ?_; simp only [pw]
    (repeat (refine sV hk ?_; simp only [pw]))
    refine sLoadR hk ?_ (hc := ex_plsR _ _ _ hm _ hl8); simp only [pw]
    rw [HRD.out]
    (refine sAlloc hk ?_; clear hk; intro w1 hk; refine ⟨fun h => absurd h (by decide), ?_⟩; simp only [pw])
    (refine sStore hk ?_; clear hk; intro w1 hk; refine ⟨fun h => absurd h (by decide), ?_⟩; simp only [pw])
    refine tNil ?_
    generalize hR0 : wr.heap.size = R0 at hk ⊢
    clear hR0
    go_upto_region 12 with ((with_reducible apply gL); (first | refine wS hk ?_ | (refine wN hk ?_; clear hk; intro w1 hk)); simp only [pw])
    (refine wp_regK hk (.op 0 (.op 1 (.op 2 (.op 3 (.op 4 (.op 5 (.op 6 (.op 7 .nil)))))))) (fun i => decide (i < 8)) mixT (by decide) (by kernel_rfl) (by kernel_rfl) ?_; clear hk; intro w1 hk)
    (repeat (refine sV hk ?_; simp only [pw]; (try rw [D1.out])))
    refine tNil ?_
    go_upto_if 67 with ((with_reducible apply gL); (first | refine wS hk ?_ | (refine wN hk ?_; clear hk; intro w1 hk)); simp only [pw])
    go_cut [] (fun wc => Kn [wb, cb, tb] w wc ((R0, rgC ⟨cond d1 (s i).lo (t i).lo, (t i).hi⟩, 27) :: [(w.heap.size, plC true s, 168), (wb, plsA n U, 168), (cb, intA n C, 3), (tb, bosA n H, 4)]))
    case first =>
     clear D1 D2 R
     cases d1 with
     | true =>
       go_upto_region 14 with (first | ((with_reducible show wpList _ _ _ (⟨none, _, _, _, _, _⟩ :: _) _ _); (first | refine wStore1I hk ?_ (hj := by show 0 + 1 <= 2; omega) (hA := set_rg0 _ _) | refine wStore1I hk ?_ (hj := by show 1 + 1 <= 2; omega) (hA := set_rg1 _ _)); clear hk; intro w1 hk; simp only [pw]) | ((with_reducible apply gL); (first | refine wS hk ?_ | (refine wN hk ?_; clear hk; intro w1 hk)); simp only [pw]))
       (refine wp_regLK hk (.op 0 (.op 1 (.op 2 (.op 3 (.op 4 (.op 5 (.op 6 (.op 7 (.op 8 (.op 9 (.op 10 (.op 11 (.op 12 (.op 13 (.op 14 (.op 15 (.op 16 .nil))))))))))))))))) (by rfl) ?_)
       (repeat (refine sV hk ?_; simp only [pw]))
       refine sNil hk ?_; simp only [pw]
       (repeat (refine sV hk ?_; simp only [pw]; (try rw [hbk])))
       refine tNil ?_
       go_wp2_with (first | ((with_reducible show wpList _ _ _ (⟨none, _, _, _, _, _⟩ :: _) _ _); (first | refine wStore1I hk ?_ (hj := by show 0 + 1 <= 2; omega) (hA := set_rg0 _ _) | refine wStore1I hk ?_ (hj := by show 1 + 1 <= 2; omega) (hA := set_rg1 _ _)); clear hk; intro w1 hk; simp only [pw]) | ((with_reducible apply gL); (first | refine wS hk ?_ | (refine wN hk ?_; clear hk; intro w1 hk)); simp only [pw]))
       go_meet
       case rel => exact hk
     | false =>
       go_wp2_with ((with_reducible apply gL); (first | refine wS hk ?_ | (refine wN hk ?_; clear hk; intro w1 hk)); simp only [pw])
       go_meet
       case rel => exact hk
    case rest =>
     clear hk
     replace hk := hcut
     clear hcut
     obtain ⟨lo1, hlo1⟩ : ∃ q, cond d1 (s i).lo (t i).lo = q := ⟨_, rfl⟩
     rw [hlo1] at hk R
     clear hlo1 D1
     go_upto_region 16 with ((with_reducible apply gL); (first | refine wS hk ?_ | (refine wN hk ?_; clear hk; intro w1 hk)); simp only [pw])
     (refine wp_regK hk (.op 0 (.op 1 (.op 2 (.op 3 (.op 4 (.op 5 (.op 6 (.op 7 .nil)))))))) (fun i => decide (i < 8)) mixT (by decide) (by kernel_rfl) (by kernel_rfl) ?_; clear hk; intro w1 hk)
     (repeat (refine sV hk ?_; simp only [pw]; (try rw [D2.out])))
     refine tNil ?_
     go_upto_if 99 with ((with_reducible apply gL); (first | refine wS hk ?_ | (refine wN hk ?_; clear hk; intro w1 hk)); simp only [pw])
     go_cut [] (fun wc => Kn [wb, cb, tb] w wc ((R0, rgC ⟨lo1, cond d2 (s i).hi (t i).hi⟩, 27) :: [(w.heap.size, plC true s, 168), (wb, plsA n U, 168), (cb, intA n C, 3), (tb, bosA n H, 4)]))
     case first =>
      clear D2 R
      cases d2 with
      | true =>
        go_upto_region 18 with (first | ((with_reducible show wpList _ _ _ (⟨none, _, _, _, _, _⟩ :: _) _ _); (first | refine wStore1I hk ?_ (hj := by show 0 + 1 <= 2; omega) (hA := set_rg0 _ _) | refine wStore1I hk ?_ (hj := by show 1 + 1 <= 2; omega) (hA := set_rg1 _ _)); clear hk; intro w1 hk; simp only [pw]) | ((with_reducible apply gL); (first | refine wS hk ?_ | (refine wN hk ?_; clear hk; intro w1 hk)); simp only [pw]))
        (refine wp_regLK hk (.op 0 (.op 1 (.op 2 (.op 3 (.op 4 (.op 5 (.op 6 (.op 7 (.op 8 (.op 9 (.op 10 (.op 11 (.op 12 (.op 13 (.op 14 (.op 15 (.op 16 .nil))))))))))))))))) (by rfl) ?_)
        (repeat (refine sV hk ?_; simp only [pw]))
        refine sNil hk ?_; simp only [pw]
        (repeat (refine sV hk ?_; simp only [pw]; (try rw [hbk])))
        refine tNil ?_
        go_wp2_with (first | ((with_reducible show wpList _ _ _ (⟨none, _, _, _, _, _⟩ :: _) _ _); (first | refine wStore1I hk ?_ (hj := by show 0 + 1 <= 2; omega) (hA := set_rg0 _ _) | refine wStore1I hk ?_ (hj := by show 1 + 1 <= 2; omega) (hA := set_rg1 _ _)); clear hk; intro w1 hk; simp only [pw]) | ((with_reducible apply gL); (first | refine wS hk ?_ | (refine wN hk ?_; clear hk; intro w1 hk)); simp only [pw]))
        go_meet
        case rel => exact hk
      | false =>
        go_wp2_with ((with_reducible apply gL); (first | refine wS hk ?_ | (refine wN hk ?_; clear hk; intro w1 hk)); simp only [pw])
        go_meet
        case rel => exact hk
     case rest =>
      clear hk
      replace hk := hcut
      clear hcut
      obtain ⟨hi1, hhi1⟩ : ∃ q, cond d2 (s i).hi (t i).hi = q := ⟨_, rfl⟩
      rw [hhi1] at hk R
      clear hhi1 D2
      go_upto_region 20 with ((with_reducible apply gL); (first | refine wS hk ?_ | (refine wN hk ?_; clear hk; intro w1 hk)); simp only [pw])
      refine wp_reg1 hk (.op 0 (.op 1 (.op 2 (.op 3 (.op 4 (.op 5 (.op 6 (.op 7 (.op 8 (.op 9 (.op 10 .nil))))))))))) (fun i => decide (i < 11)) mixT (by decide) (by kernel_rfl) (by kernel_rfl) ?_; clear hk; intro w1 hk
      (repeat (refine sV hk.first ?_; simp only [pw]))
      refine sNil hk.first ?_; simp only [pw]
      (repeat (refine sV hk.first ?_; simp only [pw]))
      refine sStore hk ?_ (hj := by rw [plsA_size]; omega) (hA := put_plsR _ _ _ HUW.out _ hl8 _); clear hk; intro w1 hk; refine ⟨fun _ => hk.first, ?_⟩; simp only [pw]
      refine tNil ?_
      go_wp2_with ((with_reducible apply gL); (first | refine wS hk ?_ | (refine wN hk ?_; clear hk; intro w1 hk)); simp only [pw])
      go_roundg gk
      case measure => omega
      case rel => exact ⟨i + 1, by omega, by go_num, by rw [<- HST.out, R.out]; exact hk.drop⟩
  | 0, hik =>
    have e8 : i = 8 := by omega
    subst e8
    have HP : Hid (plsA n (updW v.W m (some (joinU joinR t s 8))) = plsA n (updW v.W m (some (fun j => joinR (t j) (s j))))) := hide (rows_congr fun j _ => by
     unfold updW
     split
     · exact plC_congr fun k hk => by show joinU joinR t s 8 k = _; unfold joinU; rw [if_pos hk]; rfl
     · rfl)
    rw [HP.out] at hk
    go_wp2_with ((with_reducible apply gL); (first | refine wS hk ?_ | (refine wN hk ?_; clear hk; intro w1 hk)); simp only [pw])
    go_end0
    exact ⟨rfl, hk.mod, hk.at mm, by rw [HCE.out]; exact hk.at mm, by rw [HHE.out]; exact hk.at mm⟩
end Go.Proofs.YtamiichlbmllcabGreatDoor
