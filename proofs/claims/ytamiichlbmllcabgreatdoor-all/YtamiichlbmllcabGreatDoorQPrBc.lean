import Derived.Test.YtamiichlbmllcabGreatDoorQPrB
set_option maxRecDepth 100000
set_option maxHeartbeats 32000000
namespace Go.Proofs.YtamiichlbmllcabGreatDoor
open Go.RowKit
theorem takes_pv5 (n m : Nat) (hm : m < n) (V pb pc mb sb kb cb hb : Nat) (back : Nat -> Bool) (v : PS) (come : Option St) (hsh : sb ≠ hb) (hVM : V ∉ [sb, hb]) (hkM : kb ∉ [sb, hb]) (hcM : cb ∉ [sb, hb]) (w : World) (hV : At w V (prC pb pc mb sb kb cb hb n) 209) (hS : At w sb (plsA n v.W) 190) (hK : At w kb (bosA n back) 4) (hC : At w cb (intA n v.cnt) 3) (hH : At w hb (bosA n v.chg) 4) (hbk : back m = true) (hcn : decide ((3 : Int) <= wrap64 (v.cnt m : Int)) = true) (hD : placeEq (joinO stretchR (v.W m) come) (v.W m) = false) :
 Calls Tryz.prog 182 #[.pointer (some ⟨V, 0, none⟩), .int .i64 m, .agg (plC come.isSome (stO come))] w fun e w' => e = .returned (.bool true) /\ TakeP n sb hb (⟨updW v.W m (joinO stretchR (v.W m) come), v.cnt, updB v.chg m true⟩) w w' := by
 have hk := Kn.two hS hH hsh
 have HD : Hid ((!((joinO stretchR (v.W m) come).isSome == (v.W m).isSome && eqS (stO (joinO stretchR (v.W m) come)) (stO (v.W m)))) = true) := hide (by unfold placeEq at hD; rw [hD]; rfl)
 clear hD
 go_enter Tryz.func182, Tryz.ntmps182
 go_upto_region 5 with (first | (first | ((go_at_call 183; refine (pl_join _ _ _).mono ?_; rintro e w1 ⟨rfl, hb⟩; replace hk := hk.call hb; clear hb)) | ((go_at_call 184; refine (pl_str _ _ _).mono ?_; rintro e w1 ⟨rfl, hb⟩; replace hk := hk.call hb; clear hb)) | (refine wOld1 hk ?_ (hat := hC) (hv := get_int _ _ _ hm); simp only [pw])) | ((with_reducible apply gL); (first | refine wS hk ?_ | (refine wN hk ?_; clear hk; intro w1 hk)); simp only [pw]))
 (refine wp_regLK hk (.op 0 (.op 1 (.op 2 .nil))) (by rfl) ?_)
 (repeat (refine sV hk ?_; simp only [pw]))
 refine sNeqP hk ?_; simp only [pw]
 rw [HD.out]
 (repeat (refine sV hk ?_; simp only [pw]))
 refine tNil ?_
 go_wp2_with ((with_reducible apply gL); (first | refine wS hk ?_ | (refine wN hk ?_; clear hk; intro w1 hk)); simp only [pw])
 (refine wp_regK hk (.op 0 (.op 1 (.op 2 (.op 3 (.op 4 (.op 5 (.op 6 (.op 7 (.op 8 .nil))))))))) (fun i => decide (i < 8)) mixT (by decide) (by kernel_rfl) (by kernel_rfl) ?_; clear hk; intro w1 hk)
 (repeat (refine sV hk ?_; simp only [pw]))
 refine sNil hk ?_; simp only [pw]
 (repeat (refine sV hk ?_; simp only [pw]))
 (refine sStore hk ?_; clear hk; intro w1 hk; refine ⟨fun h => absurd h (by decide), ?_⟩; simp only [pw])
 refine tNil ?_
 go_wp2_with ((with_reducible apply gL); (first | refine wS hk ?_ | (refine wN hk ?_; clear hk; intro w1 hk)); simp only [pw])
 go_ret
 exact ⟨rfl, hk.mod, hk.at mm, hk.at mm⟩
theorem takes_pv6 (n m : Nat) (hm : m < n) (V pb pc mb sb kb cb hb : Nat) (back : Nat -> Bool) (v : PS) (come : Option St) (hsh : sb ≠ hb) (hVM : V ∉ [sb, hb]) (hkM : kb ∉ [sb, hb]) (hcM : cb ∉ [sb, hb]) (w : World) (hV : At w V (prC pb pc mb sb kb cb hb n) 209) (hS : At w sb (plsA n v.W) 190) (hK : At w kb (bosA n back) 4) (hC : At w cb (intA n v.cnt) 3) (hH : At w hb (bosA n v.chg) 4) (hbk : back m = true) (hcn : decide ((3 : Int) <= wrap64 (v.cnt m : Int)) = true) (hD : placeEq (joinO stretchR (v.W m) come) (v.W m) = true) :
 Calls Tryz.prog 182 #[.pointer (some ⟨V, 0, none⟩), .int .i64 m, .agg (plC come.isSome (stO come))] w fun e w' => e = .returned (.bool true) /\ TakeP n sb hb (v) w w' := by
 have hk := Kn.two hS hH hsh
 have HD : Hid ((!((joinO stretchR (v.W m) come).isSome == (v.W m).isSome && eqS (stO (joinO stretchR (v.W m) come)) (stO (v.W m)))) = false) := hide (by unfold placeEq at hD; rw [hD]; rfl)
 clear hD
 go_enter Tryz.func182, Tryz.ntmps182
 go_upto_region 5 with (first | (first | ((go_at_call 183; refine (pl_join _ _ _).mono ?_; rintro e w1 ⟨rfl, hb⟩; replace hk := hk.call hb; clear hb)) | ((go_at_call 184; refine (pl_str _ _ _).mono ?_; rintro e w1 ⟨rfl, hb⟩; replace hk := hk.call hb; clear hb)) | (refine wOld1 hk ?_ (hat := hC) (hv := get_int _ _ _ hm); simp only [pw])) | ((with_reducible apply gL); (first | refine wS hk ?_ | (refine wN hk ?_; clear hk; intro w1 hk)); simp only [pw]))
 (refine wp_regLK hk (.op 0 (.op 1 (.op 2 .nil))) (by rfl) ?_)
 (repeat (refine sV hk ?_; simp only [pw]))
 refine sNeqP hk ?_; simp only [pw]
 rw [HD.out]
 (repeat (refine sV hk ?_; simp only [pw]))
 refine tNil ?_
 go_wp2_with ((with_reducible apply gL); (first | refine wS hk ?_ | (refine wN hk ?_; clear hk; intro w1 hk)); simp only [pw])
 go_ret
 exact ⟨rfl, hk.mod, hk.at mm, hk.at mm⟩
end Go.Proofs.YtamiichlbmllcabGreatDoor
