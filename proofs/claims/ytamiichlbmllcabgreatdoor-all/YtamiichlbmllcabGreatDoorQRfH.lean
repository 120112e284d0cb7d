import Derived.Test.YtamiichlbmllcabGreatDoorQRfC
import Derived.Test.YtamiichlbmllcabGreatDoorQChF
set_option maxRecDepth 100000
set_option maxHeartbeats 32000000
namespace Go.Proofs.YtamiichlbmllcabGreatDoor
open Go.RowKit
section
variable {l : List Oper} {Q : Exit -> Act -> World -> Prop} {F : Nat -> Bool} {S : World -> Prop} {i : Nat} {r : OT} {a : Act} {w : World} {d : Option Tmp} {x y : Operand} {t tt : TypeId} {pos : String} {aft : Array Edge} {g : Option (Nat × Bool)}
theorem sQuo {p q : Int} (hk : S w) (h : wpT Tryz.prog l Q F S r (a.put d (.int .i64 (wrap64 (p.tdiv q)))) w) (ho : nthO i l = some ⟨d, .binOp .quo 3 x y t, tt, pos, aft, g⟩ := by rfl) (hw : Region.wanted ⟨d, .binOp .quo 3 x y t, tt, pos, aft, g⟩ (yielded l.toArray a.tmps) = true := by rfl) (hx : a.eval x = .int .i64 p := by rfl) (hy : a.eval y = .int .i64 q := by rfl) (hq : q ≠ 0 := by assumption) : wpT Tryz.prog l Q F S (.op i r) a w :=
 tRun ho rfl hw hk (fun wx => quo_run _ _ _ _ _ _ _ _ _ p q wx hq hx hy) h
end
theorem rf_div1 (b c : R2) (h1 : decide (c.lo <= 0) = true) (h2 : decide (0 <= c.hi) = true) (w : World) : Calls Tryz.prog 92 #[.int .i64 6, .agg (rgC b), .agg (rgC c)] w fun e w' => e = .returned (.agg (rgC (allR))) /\ Below w.heap.size w w' := by
 have hk := Kn.nil [] w
 have H1 := hide h1
 clear h1
 have H2 := hide h2
 clear h2
 go_enter Tryz.func92, Tryz.ntmps92
 generalize hR : Code.region 20 _ false = R
 go_wp2_with ((with_reducible apply gL); (first | refine wS hk ?_ | (refine wN hk ?_; clear hk; intro w1 hk)); simp only [pw])
 rw [<- hR]
 clear hR
 (refine wp_regLK hk (.op 0 (.op 1 (.op 2 (.op 3 (.op 4 (.op 5 (.op 6 (.op 7 (.op 8 (.op 9 (.op 10 (.op 11 (.op 12 (.op 13 (.op 14 (.op 15 (.op 16 (.op 17 (.op 18 (.op 19 (.op 20 (.op 21 (.op 22 .nil))))))))))))))))))))))) (by rfl) ?_)
 (repeat (refine sV hk ?_; simp only [pw]; (try rw [H1.out]); (try rw [H2.out])))
 refine tNil ?_
 go_wp2_with (first | (go_at_call 89; refine (rf_all _).mono ?_; rintro e w1 ⟨rfl, hb⟩; replace hk := hk.call hb; clear hb) | ((with_reducible apply gL); (first | refine wS hk ?_ | (refine wN hk ?_; clear hk; intro w1 hk)); simp only [pw]))
 exact post_1 rfl (by rfl) (hk.at mm) (rowT_of (by rfl)) (by rfl) rfl ⟨rfl, hk.mod.below⟩
theorem rf_div2 (b c : R2) (hl : c.lo ≠ 0) (hh : c.hi ≠ 0) (h1 : decide (c.lo <= 0) = false) (h3 : (b.lo == (-9223372036854775808)) = false) (w : World) : Calls Tryz.prog 92 #[.int .i64 6, .agg (rgC b), .agg (rgC c)] w fun e w' => e = .returned (.agg (rgC (spanR (wrap64 (b.lo.tdiv c.lo)) (wrap64 (b.lo.tdiv c.hi)) (wrap64 (b.hi.tdiv c.lo)) (wrap64 (b.hi.tdiv c.hi))))) /\ Below w.heap.size w w' := by
 have hk := Kn.nil [] w
 have H1 := hide h1
 clear h1
 have H3 := hide h3
 clear h3
 go_enter Tryz.func92, Tryz.ntmps92
 generalize hR : Code.region 20 _ false = R
 go_wp2_with ((with_reducible apply gL); (first | refine wS hk ?_ | (refine wN hk ?_; clear hk; intro w1 hk)); simp only [pw])
 rw [<- hR]
 clear hR
 (refine wp_regLK hk (.op 0 (.op 1 (.op 2 (.op 3 (.op 4 (.op 5 (.op 6 (.op 7 (.op 8 (.op 9 (.op 10 (.op 11 (.op 12 (.op 13 (.op 14 (.op 15 (.op 16 (.op 17 (.op 18 (.op 19 (.op 20 (.op 21 (.op 22 .nil))))))))))))))))))))))) (by rfl) ?_)
 (repeat (refine sV hk ?_; simp only [pw]; (try rw [H1.out]); (try rw [H3.out])))
 refine tNil ?_
 go_wp2_with ((with_reducible apply gL); (first | refine wS hk ?_ | (refine wN hk ?_; clear hk; intro w1 hk)); simp only [pw])
 (refine wp_regK hk (.op 0 (.op 1 (.op 2 (.op 3 (.op 4 (.op 5 (.op 6 (.op 7 (.op 8 (.op 9 (.op 10 (.op 11 (.op 12 (.op 13 (.op 14 (.op 15 (.op 16 (.op 17 (.op 18 (.op 19 (.op 20 (.op 21 .nil)))))))))))))))))))))) (fun i => decide (i < 21)) mixT (by decide) (by kernel_rfl) (by kernel_rfl) ?_; clear hk; intro w1 hk)
 iterate 4 ((repeat (refine sV hk ?_; simp only [pw])); refine sQuo hk ?_; simp only [pw])
 (refine sCall ?_; intro K hK; go_step; go_at_call 104; refine (rf_corners _ _ _ _ _).mono ?_; rintro e w1 ⟨rfl, hb⟩; replace hk := hk.call hb; clear hb; refine hK _ _ (fun _ => kH hk) ?_; clear hK K)
 (refine sStore hk ?_; clear hk; intro w1 hk; refine ⟨fun h => absurd h (by decide), ?_⟩; simp only [pw])
 refine tNil ?_
 go_wp2_with ((with_reducible apply gL); (first | refine wS hk ?_ | (refine wN hk ?_; clear hk; intro w1 hk)); simp only [pw])
 exact post_1 rfl (by rfl) (hk.at mm) (rowT_of (by rfl)) (by rfl) rfl ⟨rfl, hk.mod.below⟩
theorem rf_div3 (b c : R2) (hl : c.lo ≠ 0) (hh : c.hi ≠ 0) (h1 : decide (c.lo <= 0) = false) (h3 : (b.lo == (-9223372036854775808)) = true) (h4 : decide (c.lo <= -1) = false) (w : World) : Calls Tryz.prog 92 #[.int .i64 6, .agg (rgC b), .agg (rgC c)] w fun e w' => e = .returned (.agg (rgC (spanR (wrap64 (b.lo.tdiv c.lo)) (wrap64 (b.lo.tdiv c.hi)) (wrap64 (b.hi.tdiv c.lo)) (wrap64 (b.hi.tdiv c.hi))))) /\ Below w.heap.size w w' := by
 have hk := Kn.nil [] w
 have H1 := hide h1
 clear h1
 have H3 := hide h3
 clear h3
 have H4 := hide h4
 clear h4
 go_enter Tryz.func92, Tryz.ntmps92
 generalize hR : Code.region 20 _ false = R
 go_wp2_with ((with_reducible apply gL); (first | refine wS hk ?_ | (refine wN hk ?_; clear hk; intro w1 hk)); simp only [pw])
 rw [<- hR]
 clear hR
 (refine wp_regLK hk (.op 0 (.op 1 (.op 2 (.op 3 (.op 4 (.op 5 (.op 6 (.op 7 (.op 8 (.op 9 (.op 10 (.op 11 (.op 12 (.op 13 (.op 14 (.op 15 (.op 16 (.op 17 (.op 18 (.op 19 (.op 20 (.op 21 (.op 22 .nil))))))))))))))))))))))) (by rfl) ?_)
 (repeat (refine sV hk ?_; simp only [pw]; (try rw [H1.out]); (try rw [H3.out]); (try rw [H4.out])))
 refine tNil ?_
 go_wp2_with ((with_reducible apply gL); (first | refine wS hk ?_ | (refine wN hk ?_; clear hk; intro w1 hk)); simp only [pw])
 (refine wp_regK hk (.op 0 (.op 1 (.op 2 (.op 3 (.op 4 (.op 5 (.op 6 (.op 7 (.op 8 (.op 9 (.op 10 (.op 11 (.op 12 (.op 13 (.op 14 (.op 15 (.op 16 (.op 17 (.op 18 (.op 19 (.op 20 (.op 21 .nil)))))))))))))))))))))) (fun i => decide (i < 21)) mixT (by decide) (by kernel_rfl) (by kernel_rfl) ?_; clear hk; intro w1 hk)
 iterate 4 ((repeat (refine sV hk ?_; simp only [pw])); refine sQuo hk ?_; simp only [pw])
 (refine sCall ?_; intro K hK; go_step; go_at_call 104; refine (rf_corners _ _ _ _ _).mono ?_; rintro e w1 ⟨rfl, hb⟩; replace hk := hk.call hb; clear hb; refine hK _ _ (fun _ => kH hk) ?_; clear hK K)
 (refine sStore hk ?_; clear hk; intro w1 hk; refine ⟨fun h => absurd h (by decide), ?_⟩; simp only [pw])
 refine tNil ?_
 go_wp2_with ((with_reducible apply gL); (first | refine wS hk ?_ | (refine wN hk ?_; clear hk; intro w1 hk)); simp only [pw])
 exact post_1 rfl (by rfl) (hk.at mm) (rowT_of (by rfl)) (by rfl) rfl ⟨rfl, hk.mod.below⟩
theorem rf_div4 (b c : R2) (hl : c.lo ≠ 0) (hh : c.hi ≠ 0) (h1 : decide (c.lo <= 0) = true) (h2 : decide (0 <= c.hi) = false) (h3 : (b.lo == (-9223372036854775808)) = false) (w : World) : Calls Tryz.prog 92 #[.int .i64 6, .agg (rgC b), .agg (rgC c)] w fun e w' => e = .returned (.agg (rgC (spanR (wrap64 (b.lo.tdiv c.lo)) (wrap64 (b.lo.tdiv c.hi)) (wrap64 (b.hi.tdiv c.lo)) (wrap64 (b.hi.tdiv c.hi))))) /\ Below w.heap.size w w' := by
 have hk := Kn.nil [] w
 have H1 := hide h1
 clear h1
 have H2 := hide h2
 clear h2
 have H3 := hide h3
 clear h3
 go_enter Tryz.func92, Tryz.ntmps92
 generalize hR : Code.region 20 _ false = R
 go_wp2_with ((with_reducible apply gL); (first | refine wS hk ?_ | (refine wN hk ?_; clear hk; intro w1 hk)); simp only [pw])
 rw [<- hR]
 clear hR
 (refine wp_regLK hk (.op 0 (.op 1 (.op 2 (.op 3 (.op 4 (.op 5 (.op 6 (.op 7 (.op 8 (.op 9 (.op 10 (.op 11 (.op 12 (.op 13 (.op 14 (.op 15 (.op 16 (.op 17 (.op 18 (.op 19 (.op 20 (.op 21 (.op 22 .nil))))))))))))))))))))))) (by rfl) ?_)
 (repeat (refine sV hk ?_; simp only [pw]; (try rw [H1.out]); (try rw [H2.out]); (try rw [H3.out])))
 refine tNil ?_
 go_wp2_with ((with_reducible apply gL); (first | refine wS hk ?_ | (refine wN hk ?_; clear hk; intro w1 hk)); simp only [pw])
 (refine wp_regK hk (.op 0 (.op 1 (.op 2 (.op 3 (.op 4 (.op 5 (.op 6 (.op 7 (.op 8 (.op 9 (.op 10 (.op 11 (.op 12 (.op 13 (.op 14 (.op 15 (.op 16 (.op 17 (.op 18 (.op 19 (.op 20 (.op 21 .nil)))))))))))))))))))))) (fun i => decide (i < 21)) mixT (by decide) (by kernel_rfl) (by kernel_rfl) ?_; clear hk; intro w1 hk)
 iterate 4 ((repeat (refine sV hk ?_; simp only [pw])); refine sQuo hk ?_; simp only [pw])
 (refine sCall ?_; intro K hK; go_step; go_at_call 104; refine (rf_corners _ _ _ _ _).mono ?_; rintro e w1 ⟨rfl, hb⟩; replace hk := hk.call hb; clear hb; refine hK _ _ (fun _ => kH hk) ?_; clear hK K)
 (refine sStore hk ?_; clear hk; intro w1 hk; refine ⟨fun h => absurd h (by decide), ?_⟩; simp only [pw])
 refine tNil ?_
 go_wp2_with ((with_reducible apply gL); (first | refine wS hk ?_ | (refine wN hk ?_; clear hk; intro w1 hk)); simp only [pw])
 exact post_1 rfl (by rfl) (hk.at mm) (rowT_of (by rfl)) (by rfl) rfl ⟨rfl, hk.mod.below⟩
theorem rf_div5 (b c : R2) (h1 : decide (c.lo <= 0) = true) (h2 : decide (0 <= c.hi) = false) (h3 : (b.lo == (-9223372036854775808)) = true) (h4 : decide (c.lo <= -1) = true) (h5 : decide (-1 <= c.hi) = true) (w : World) : Calls Tryz.prog 92 #[.int .i64 6, .agg (rgC b), .agg (rgC c)] w fun e w' => e = .returned (.agg (rgC (allR))) /\ Below w.heap.size w w' := by
 have hk := Kn.nil [] w
 have H1 := hide h1
 clear h1
 have H2 := hide h2
 clear h2
 have H3 := hide h3
 clear h3
 have H4 := hide h4
 clear h4
 have H5 := hide h5
 clear h5
 go_enter Tryz.func92, Tryz.ntmps92
 generalize hR : Code.region 20 _ false = R
 go_wp2_with ((with_reducible apply gL); (first | refine wS hk ?_ | (refine wN hk ?_; clear hk; intro w1 hk)); simp only [pw])
 rw [<- hR]
 clear hR
 (refine wp_regLK hk (.op 0 (.op 1 (.op 2 (.op 3 (.op 4 (.op 5 (.op 6 (.op 7 (.op 8 (.op 9 (.op 10 (.op 11 (.op 12 (.op 13 (.op 14 (.op 15 (.op 16 (.op 17 (.op 18 (.op 19 (.op 20 (.op 21 (.op 22 .nil))))))))))))))))))))))) (by rfl) ?_)
 (repeat (refine sV hk ?_; simp only [pw]; (try rw [H1.out]); (try rw [H2.out]); (try rw [H3.out]); (try rw [H4.out]); (try rw [H5.out])))
 refine tNil ?_
 go_wp2_with (first | (go_at_call 89; refine (rf_all _).mono ?_; rintro e w1 ⟨rfl, hb⟩; replace hk := hk.call hb; clear hb) | ((with_reducible apply gL); (first | refine wS hk ?_ | (refine wN hk ?_; clear hk; intro w1 hk)); simp only [pw]))
 exact post_1 rfl (by rfl) (hk.at mm) (rowT_of (by rfl)) (by rfl) rfl ⟨rfl, hk.mod.below⟩
theorem rf_div6 (b c : R2) (hl : c.lo ≠ 0) (hh : c.hi ≠ 0) (h1 : decide (c.lo <= 0) = true) (h2 : decide (0 <= c.hi) = false) (h3 : (b.lo == (-9223372036854775808)) = true) (h4 : decide (c.lo <= -1) = true) (h5 : decide (-1 <= c.hi) = false) (w : World) : Calls Tryz.prog 92 #[.int .i64 6, .agg (rgC b), .agg (rgC c)] w fun e w' => e = .returned (.agg (rgC (spanR (wrap64 (b.lo.tdiv c.lo)) (wrap64 (b.lo.tdiv c.hi)) (wrap64 (b.hi.tdiv c.lo)) (wrap64 (b.hi.tdiv c.hi))))) /\ Below w.heap.size w w' := by
 have hk := Kn.nil [] w
 have H1 := hide h1
 clear h1
 have H2 := hide h2
 clear h2
 have H3 := hide h3
 clear h3
 have H4 := hide h4
 clear h4
 have H5 := hide h5
 clear h5
 go_enter Tryz.func92, Tryz.ntmps92
 generalize hR : Code.region 20 _ false = R
 go_wp2_with ((with_reducible apply gL); (first | refine wS hk ?_ | (refine wN hk ?_; clear hk; intro w1 hk)); simp only [pw])
 rw [<- hR]
 clear hR
 (refine wp_regLK hk (.op 0 (.op 1 (.op 2 (.op 3 (.op 4 (.op 5 (.op 6 (.op 7 (.op 8 (.op 9 (.op 10 (.op 11 (.op 12 (.op 13 (.op 14 (.op 15 (.op 16 (.op 17 (.op 18 (.op 19 (.op 20 (.op 21 (.op 22 .nil))))))))))))))))))))))) (by rfl) ?_)
 (repeat (refine sV hk ?_; simp only [pw]; (try rw [H1.out]); (try rw [H2.out]); (try rw [H3.out]); (try rw [H4.out]); (try rw [H5.out])))
 refine tNil ?_
 go_wp2_with ((with_reducible apply gL); (first | refine wS hk ?_ | (refine wN hk ?_; clear hk; intro w1 hk)); simp only [pw])
 (refine wp_regK hk (.op 0 (.op 1 (.op 2 (.op 3 (.op 4 (.op 5 (.op 6 (.op 7 (.op 8 (.op 9 (.op 10 (.op 11 (.op 12 (.op 13 (.op 14 (.op 15 (.op 16 (.op 17 (.op 18 (.op 19 (.op 20 (.op 21 .nil)))))))))))))))))))))) (fun i => decide (i < 21)) mixT (by decide) (by kernel_rfl) (by kernel_rfl) ?_; clear hk; intro w1 hk)
 iterate 4 ((repeat (refine sV hk ?_; simp only [pw])); refine sQuo hk ?_; simp only [pw])
 (refine sCall ?_; intro K hK; go_step; go_at_call 104; refine (rf_corners _ _ _ _ _).mono ?_; rintro e w1 ⟨rfl, hb⟩; replace hk := hk.call hb; clear hb; refine hK _ _ (fun _ => kH hk) ?_; clear hK K)
 (refine sStore hk ?_; clear hk; intro w1 hk; refine ⟨fun h => absurd h (by decide), ?_⟩; simp only [pw])
 refine tNil ?_
 go_wp2_with ((with_reducible apply gL); (first | refine wS hk ?_ | (refine wN hk ?_; clear hk; intro w1 hk)); simp only [pw])
 exact post_1 rfl (by rfl) (hk.at mm) (rowT_of (by rfl)) (by rfl) rfl ⟨rfl, hk.mod.below⟩
end Go.Proofs.YtamiichlbmllcabGreatDoor
