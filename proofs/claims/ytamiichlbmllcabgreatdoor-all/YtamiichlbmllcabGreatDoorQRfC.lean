import Derived.Test.YtamiichlbmllcabGreatDoorQFlD
set_option maxRecDepth 100000
set_option maxHeartbeats 32000000
namespace Go.Proofs.YtamiichlbmllcabGreatDoor
open Go.RowKit
theorem rf_least (a b : Int) (w : World) : Calls Tryz.prog 99 #[.int .i64 a, .int .i64 b] w fun e w' => e = .returned (.int .i64 (min a b)) /\ Below w.heap.size w w' := by
 have hk := Kn.nil [] w
 by_cases h : a < b
 · have R : Hid (min a b = a) := hide (by omega)
   rw [R.out]
   go_enter Tryz.func99, Tryz.ntmps99
   go_wp2_with ((with_reducible apply gL); (first | refine wS hk ?_ | (refine wN hk ?_; clear hk; intro w1 hk)); simp only [pw])
   go_ret
   exact ⟨rfl, hk.mod.below⟩
 · have R : Hid (min a b = b) := hide (by omega)
   rw [R.out]
   go_enter Tryz.func99, Tryz.ntmps99
   go_wp2_with ((with_reducible apply gL); (first | refine wS hk ?_ | (refine wN hk ?_; clear hk; intro w1 hk)); simp only [pw])
   go_ret
   exact ⟨rfl, hk.mod.below⟩
theorem rf_most (a b : Int) (w : World) : Calls Tryz.prog 100 #[.int .i64 a, .int .i64 b] w fun e w' => e = .returned (.int .i64 (max a b)) /\ Below w.heap.size w w' := by
 have hk := Kn.nil [] w
 by_cases h : b < a
 · have R : Hid (max a b = a) := hide (by omega)
   rw [R.out]
   go_enter Tryz.func100, Tryz.ntmps100
   go_wp2_with ((with_reducible apply gL); (first | refine wS hk ?_ | (refine wN hk ?_; clear hk; intro w1 hk)); simp only [pw])
   go_ret
   exact ⟨rfl, hk.mod.below⟩
 · have R : Hid (max a b = b) := hide (by omega)
   rw [R.out]
   go_enter Tryz.func100, Tryz.ntmps100
   go_wp2_with ((with_reducible apply gL); (first | refine wS hk ?_ | (refine wN hk ?_; clear hk; intro w1 hk)); simp only [pw])
   go_ret
   exact ⟨rfl, hk.mod.below⟩
theorem rf_corners (a b c d : Int) (w : World) : Calls Tryz.prog 104 #[.int .i64 a, .int .i64 b, .int .i64 c, .int .i64 d] w fun e w' => e = .returned (.agg (rgC (spanR a b c d))) /\ Below w.heap.size w w' := by
 have hk := Kn.nil [] w
 go_enter Tryz.func104, Tryz.ntmps104
 go_wp2_with (first | (go_at_call 99; refine (rf_least _ _ _).mono ?_; rintro e w1 ⟨rfl, hb⟩; replace hk := hk.call hb; clear hb) | (go_at_call 100; refine (rf_most _ _ _).mono ?_; rintro e w1 ⟨rfl, hb⟩; replace hk := hk.call hb; clear hb) | ((with_reducible apply gL); (first | refine wS hk ?_ | (refine wN hk ?_; clear hk; intro w1 hk)); simp only [pw]))
 have R : rgC ⟨min a (min b (min c d)), max a (max b (max c d))⟩ = rgC (spanR a b c d) := by
  unfold spanR min4 max4
  rw [<- Int.min_assoc, <- Int.max_assoc]
 rw [R] at hk
 exact post_1 rfl (by rfl) (hk.at mm) (rowT_of (by rfl)) (by rfl) rfl ⟨rfl, hk.mod.below⟩
theorem rf_all (w : World) : Calls Tryz.prog 89 #[] w fun e w' => e = .returned (.agg (rgC allR)) /\ Below w.heap.size w w' := by
 have hk := Kn.nil [] w
 go_enter Tryz.func89, Tryz.ntmps89
 go_wp2_with (first | ((with_reducible show wpList _ _ _ (⟨some 0, _, _, _, _, _⟩ :: _) _ _); refine wAllocR hk ?_; clear hk; intro w1 hk; simp only [Act.put, List.setIfInBounds_toArray, List.set_cons_zero]) | ((with_reducible apply gL); (first | refine wS hk ?_ | (refine wN hk ?_; clear hk; intro w1 hk)); simp only [pw]))
 replace hk : Kn [] w w1 [(w.heap.size, rgC allR, 27)] := hk
 exact post_1 rfl (by rfl) (hk.at mm) (rowT_of (by rfl)) (by rfl) rfl ⟨rfl, hk.mod.below⟩
theorem rf_plus (a b : Int) (ha : I64 a) (hb : I64 b) (w : World) : Calls Tryz.prog 101 #[.int .i64 a, .int .i64 b] w fun e w' => e = .returned (.bool (inI (a + b))) /\ Below w.heap.size w w' := by
 have hk := Kn.nil [] w
 unfold I64 at ha hb
 by_cases h : 0 <= b
 · have R : Hid (decide (a <= 9223372036854775807 - b) = inI (a + b)) := hide (by unfold inI; by_cases e : a <= 9223372036854775807 - b <;> simp [e] <;> omega)
   go_enter Tryz.func101, Tryz.ntmps101
   go_wp2_with ((with_reducible apply gL); (first | refine wS hk ?_ | (refine wN hk ?_; clear hk; intro w1 hk)); simp only [pw])
   go_ret
   exact ⟨ret_bool R.out, hk.mod.below⟩
 · have R : Hid (decide (-9223372036854775808 - b <= a) = inI (a + b)) := hide (by unfold inI; by_cases e : -9223372036854775808 - b <= a <;> simp [e] <;> omega)
   go_enter Tryz.func101, Tryz.ntmps101
   go_wp2_with ((with_reducible apply gL); (first | refine wS hk ?_ | (refine wN hk ?_; clear hk; intro w1 hk)); simp only [pw])
   go_ret
   exact ⟨ret_bool R.out, hk.mod.below⟩
theorem rf_minus (a b : Int) (ha : I64 a) (hb : I64 b) (w : World) : Calls Tryz.prog 102 #[.int .i64 a, .int .i64 b] w fun e w' => e = .returned (.bool (inI (a - b))) /\ Below w.heap.size w w' := by
 have hk := Kn.nil [] w
 unfold I64 at ha hb
 by_cases h : 0 <= b
 · have R : Hid (decide (-9223372036854775808 + b <= a) = inI (a - b)) := hide (by unfold inI; by_cases e : -9223372036854775808 + b <= a <;> simp [e] <;> omega)
   go_enter Tryz.func102, Tryz.ntmps102
   go_wp2_with ((with_reducible apply gL); (first | refine wS hk ?_ | (refine wN hk ?_; clear hk; intro w1 hk)); simp only [pw])
   go_ret
   exact ⟨ret_bool R.out, hk.mod.below⟩
 · have R : Hid (decide (a <= 9223372036854775807 + b) = inI (a - b)) := hide (by unfold inI; by_cases e : a <= 9223372036854775807 + b <;> simp [e] <;> omega)
   go_enter Tryz.func102, Tryz.ntmps102
   go_wp2_with ((with_reducible apply gL); (first | refine wS hk ?_ | (refine wN hk ?_; clear hk; intro w1 hk)); simp only [pw])
   go_ret
   exact ⟨ret_bool R.out, hk.mod.below⟩
theorem rf_small (r : R2) (w : World) : Calls Tryz.prog 103 #[.agg (rgC r)] w fun e w' => e = .returned (.bool (inRg r smallR)) /\ Below w.heap.size w w' := by
 have hk := Kn.nil [] w
 by_cases h : -2147483648 <= r.lo
 · have R : Hid (decide (r.hi <= 2147483648) = inRg r smallR) := hide (by unfold inRg smallR; simp [h])
   go_enter Tryz.func103, Tryz.ntmps103
   go_wp2_with ((with_reducible apply gL); (first | refine wS hk ?_ | (refine wN hk ?_; clear hk; intro w1 hk)); simp only [pw])
   go_ret
   exact ⟨ret_bool R.out, hk.mod.below⟩
 · have R : Hid (false = inRg r smallR) := hide (by unfold inRg smallR; simp [h])
   go_enter Tryz.func103, Tryz.ntmps103
   go_wp2_with ((with_reducible apply gL); (first | refine wS hk ?_ | (refine wN hk ?_; clear hk; intro w1 hk)); simp only [pw])
   go_ret
   exact ⟨ret_bool R.out, hk.mod.below⟩
theorem rf_empty (s : Nat -> R2) (w : World) : Calls Tryz.prog 72 #[.agg (stC s)] w fun e w' => e = .returned (.bool (!isStR s)) /\ Below w.heap.size w w' := by
 have hk := Kn.nil [] w
 go_enter Tryz.func72, Tryz.ntmps72
 go_wp2_with ((with_reducible apply gL); (first | refine wS hk ?_ | (refine wN hk ?_; clear hk; intro w1 hk)); simp only [pw])
 go_loopw [3] (fun j wr => ∃ n : Nat, n <= 8 /\ j = .int .i64 n /\ (∀ i, i < n -> (s i).lo <= (s i).hi) /\ Kn [] w wr [(w.heap.size, stC s, 29)]) (fun j _ => 8 - (intOf j).toNat)
 case atStart => exact ⟨0, by omega, rfl, fun i hi => by omega, hk⟩
 case round =>
  clear hk
  obtain ⟨n, hn, rfl, hall, hk⟩ := hrel
  have HA := hide hall
  clear hall
  by_cases hlt : n < 8
  · by_cases he : (s n).hi < (s n).lo
    · have HE : Hid (isStR s = false) := hide (isStR_no hlt he)
      have hd : decide ((s n).hi < (s n).lo) = true := by simpa using he
      clear he
      go_wp2_with ((with_reducible apply gL); (first | refine wS hk ?_ | (refine wN hk ?_; clear hk; intro w1 hk)); simp only [pw])
      (refine wp_regK hk (.op 0 (.op 1 (.op 2 (.op 3 (.op 4 (.op 5 (.op 6 (.op 7 (.op 8 .nil))))))))) (fun i => decide (i < 9)) mixT (by decide) (by kernel_rfl) (by kernel_rfl) ?_; clear hk; intro w1 hk)
      (repeat (refine sS hk ?_; simp only [pw]; (try rw [hd])))
      refine tNil ?_
      go_wp2_with ((with_reducible apply gL); (first | refine wS hk ?_ | (refine wN hk ?_; clear hk; intro w1 hk)); simp only [pw])
      go_ret
      exact ⟨ret_bool (by rw [HE.out]; rfl), hk.mod.below⟩
    · have hle : (s n).lo <= (s n).hi := by omega
      have hd : decide ((s n).hi < (s n).lo) = false := by simpa using hle
      have HLE := hide hle
      clear he hle
      go_wp2_with ((with_reducible apply gL); (first | refine wS hk ?_ | (refine wN hk ?_; clear hk; intro w1 hk)); simp only [pw])
      (refine wp_regK hk (.op 0 (.op 1 (.op 2 (.op 3 (.op 4 (.op 5 (.op 6 (.op 7 (.op 8 .nil))))))))) (fun i => decide (i < 9)) mixT (by decide) (by kernel_rfl) (by kernel_rfl) ?_; clear hk; intro w1 hk)
      (repeat (refine sS hk ?_; simp only [pw]; (try rw [hd])))
      refine tNil ?_
      go_wp2_with ((with_reducible apply gL); (first | refine wS hk ?_ | (refine wN hk ?_; clear hk; intro w1 hk)); simp only [pw])
      go_roundw
      case rel => exact ⟨n + 1, by omega, by go_num, fun i hi => by rcases Nat.lt_succ_iff_lt_or_eq.1 hi with h | h; exact HA.out i h; subst h; exact HLE.out, hk⟩
      case measure => simp [intOf]; omega
  · have HE : Hid (isStR s = true) := hide (isStR_yes fun i hi => HA.out i (by omega))
    go_wp2_with ((with_reducible apply gL); (first | refine wS hk ?_ | (refine wN hk ?_; clear hk; intro w1 hk)); simp only [pw])
    go_ret
    exact ⟨ret_bool (by rw [HE.out]; rfl), hk.mod.below⟩
theorem rf_lies (s t : Nat -> R2) (w : World) : Calls Tryz.prog 88 #[.agg (stC s), .agg (stC t)] w fun e w' => e = .returned (.bool (liesR s t)) /\ Below w.heap.size w w' := by
 have hk := Kn.nil [] w
 go_enter Tryz.func88, Tryz.ntmps88
 go_wp2_with (first | ((with_reducible show wpList _ _ _ (⟨some 2, _, _, _, _, _⟩ :: _) _ _); refine wBox hk ?_; clear hk; intro wa hk; simp only [pw]) | ((with_reducible apply gL); (first | refine wS hk ?_ | (refine wN hk ?_; clear hk; intro w1 hk)); simp only [pw]))
 go_loopw [5] (fun j wr => ∃ n : Nat, n <= 8 /\ j = .int .i64 n /\ (∀ i, i < n -> inRg (s i) (t i) = true) /\ Kn [] w wr [(wa.heap.size, stC t, 29), (w.heap.size, stC s, 29)]) (fun j _ => 8 - (intOf j).toNat)
 case atStart => exact ⟨0, by omega, rfl, fun i hi => by omega, hk⟩
 case round =>
  clear hk
  obtain ⟨n, hn, rfl, hall, hk⟩ := hrel
  have HA := hide hall
  clear hall
  by_cases hlt : n < 8
  · by_cases h1 : (s n).lo < (t n).lo
    · have HE : Hid (liesR s t = false) := hide (liesR_no hlt (by unfold inRg; simp; omega))
      have hd : decide ((s n).lo < (t n).lo) = true := by simpa using h1
      clear h1
      go_wp2_with ((with_reducible apply gL); (first | refine wS hk ?_ | (refine wN hk ?_; clear hk; intro w1 hk)); simp only [pw])
      (refine wp_regK hk (.op 0 (.op 1 (.op 2 (.op 3 (.op 4 (.op 5 (.op 6 (.op 7 (.op 8 (.op 9 (.op 10 (.op 11 (.op 12 (.op 13 (.op 14 (.op 15 (.op 16 (.op 17 (.op 18 (.op 19 .nil)))))))))))))))))))) (fun i => decide (i < 20)) mixT (by decide) (by kernel_rfl) (by kernel_rfl) ?_; clear hk; intro w1 hk)
      (repeat (refine sS hk ?_; simp only [pw]; (try rw [hd])))
      refine tNil ?_
      go_wp2_with ((with_reducible apply gL); (first | refine wS hk ?_ | (refine wN hk ?_; clear hk; intro w1 hk)); simp only [pw])
      go_ret
      exact ⟨ret_bool HE.out.symm, hk.mod.below⟩
    · have hd : decide ((s n).lo < (t n).lo) = false := by simpa using h1
      by_cases he : (t n).hi < (s n).hi
      · have HE : Hid (liesR s t = false) := hide (liesR_no hlt (by unfold inRg; simp; omega))
        have hf : decide ((t n).hi < (s n).hi) = true := by simpa using he
        clear he h1
        go_wp2_with ((with_reducible apply gL); (first | refine wS hk ?_ | (refine wN hk ?_; clear hk; intro w1 hk)); simp only [pw])
        (refine wp_regK hk (.op 0 (.op 1 (.op 2 (.op 3 (.op 4 (.op 5 (.op 6 (.op 7 (.op 8 (.op 9 (.op 10 (.op 11 (.op 12 (.op 13 (.op 14 (.op 15 (.op 16 (.op 17 (.op 18 (.op 19 .nil)))))))))))))))))))) (fun i => decide (i < 20)) mixT (by decide) (by kernel_rfl) (by kernel_rfl) ?_; clear hk; intro w1 hk)
        (repeat (refine sS hk ?_; simp only [pw]; (try rw [hd]); (try rw [hf])))
        refine tNil ?_
        go_wp2_with ((with_reducible apply gL); (first | refine wS hk ?_ | (refine wN hk ?_; clear hk; intro w1 hk)); simp only [pw])
        go_ret
        exact ⟨ret_bool HE.out.symm, hk.mod.below⟩
      · have HLE : Hid (inRg (s n) (t n) = true) := hide (by unfold inRg; simp; omega)
        have hf : decide ((t n).hi < (s n).hi) = false := by simpa using he
        clear he h1
        go_wp2_with ((with_reducible apply gL); (first | refine wS hk ?_ | (refine wN hk ?_; clear hk; intro w1 hk)); simp only [pw])
        (refine wp_regK hk (.op 0 (.op 1 (.op 2 (.op 3 (.op 4 (.op 5 (.op 6 (.op 7 (.op 8 (.op 9 (.op 10 (.op 11 (.op 12 (.op 13 (.op 14 (.op 15 (.op 16 (.op 17 (.op 18 (.op 19 .nil)))))))))))))))))))) (fun i => decide (i < 20)) mixT (by decide) (by kernel_rfl) (by kernel_rfl) ?_; clear hk; intro w1 hk)
        (repeat (refine sS hk ?_; simp only [pw]; (try rw [hd]); (try rw [hf])))
        refine tNil ?_
        go_wp2_with ((with_reducible apply gL); (first | refine wS hk ?_ | (refine wN hk ?_; clear hk; intro w1 hk)); simp only [pw])
        go_roundw
        case rel => exact ⟨n + 1, by omega, by go_num, fun i hi => by rcases Nat.lt_succ_iff_lt_or_eq.1 hi with h | h; exact HA.out i h; subst h; exact HLE.out, hk⟩
        case measure => simp [intOf]; omega
  · have HE : Hid (liesR s t = true) := hide (liesR_yes fun i hi => HA.out i (by omega))
    go_wp2_with ((with_reducible apply gL); (first | refine wS hk ?_ | (refine wN hk ?_; clear hk; intro w1 hk)); simp only [pw])
    go_ret
    exact ⟨ret_bool HE.out.symm, hk.mod.below⟩
theorem rf_in0 (s t : Nat -> R2) (y : Bool) (w : World) : Calls Tryz.prog 74 #[.agg (plC false s), .agg (plC y t)] w fun e w' => e = .returned (.bool true) /\ Below w.heap.size w w' := by
 have hk := Kn.nil [] w
 go_enter Tryz.func74, Tryz.ntmps74
 go_wp2_with ((with_reducible apply gL); (first | refine wS hk ?_ | (refine wN hk ?_; clear hk; intro w1 hk)); simp only [pw])
 go_ret
 exact ⟨rfl, hk.mod.below⟩
theorem rf_in1 (s t : Nat -> R2) (y : Bool) (w : World) : Calls Tryz.prog 74 #[.agg (plC true s), .agg (plC y t)] w fun e w' => e = .returned (.bool (y && liesR s t)) /\ Below w.heap.size w w' := by
 have hk := Kn.nil [] w
 cases y with
 | false =>
   go_enter Tryz.func74, Tryz.ntmps74
   go_wp2_with (first | (go_at_call 88; refine (rf_lies _ _ _).mono ?_; rintro e w1 ⟨rfl, hb⟩; replace hk := hk.call hb; clear hb) | ((with_reducible apply gL); (first | refine wS hk ?_ | (refine wN hk ?_; clear hk; intro w1 hk)); simp only [pw]))
   go_ret
   exact ⟨rfl, hk.mod.below⟩
 | true =>
   go_enter Tryz.func74, Tryz.ntmps74
   go_wp2_with (first | (go_at_call 88; refine (rf_lies _ _ _).mono ?_; rintro e w1 ⟨rfl, hb⟩; replace hk := hk.call hb; clear hb) | ((with_reducible apply gL); (first | refine wS hk ?_ | (refine wN hk ?_; clear hk; intro w1 hk)); simp only [pw]))
   go_ret
   exact ⟨rfl, hk.mod.below⟩
theorem inI_of {x : Int} (h : inI x = true) : -9223372036854775808 <= x /\ x <= 9223372036854775807 := by
 unfold inI at h; simpa using h
theorem sumR_yes {b c : R2} (h : inI (b.lo + c.lo) = true) (h' : inI (b.hi + c.hi) = true) : sumR b c = ⟨b.lo + c.lo, b.hi + c.hi⟩ := by
 unfold sumR fitR; rw [h, h']; rfl
theorem difR_yes {b c : R2} (h : inI (b.lo - c.hi) = true) (h' : inI (b.hi - c.lo) = true) : difR b c = ⟨b.lo - c.hi, b.hi - c.lo⟩ := by
 unfold difR fitR; rw [h, h']; rfl
theorem rf_add (b c : R2) (hb : b.in64) (hc : c.in64) (w : World) : Calls Tryz.prog 92 #[.int .i64 3, .agg (rgC b), .agg (rgC c)] w fun e w' => e = .returned (.agg (rgC (sumR b c))) /\ Below w.heap.size w w' := by
 have hk := Kn.nil [] w
 cases hx : inI (b.lo + c.lo) with
 | false =>
   have R : Hid (allR = sumR b c) := hide (by unfold sumR fitR; rw [hx]; rfl)
   rw [<- R.out]
   have HX := hide hx
   clear hx
   cases hy : inI (b.hi + c.hi) with
   | false =>
     have HY := hide hy
     clear hy
     go_enter Tryz.func92, Tryz.ntmps92
     go_wp2_with (first | (go_at_call 101; refine (rf_plus _ _ (by first | exact hb.1 | exact hb.2) (by first | exact hc.1 | exact hc.2) _).mono ?_; rintro e w1 ⟨rfl, hb⟩; replace hk := hk.call hb; clear hb); (first | rw [HX.out] | rw [HY.out]) | (go_at_call 89; refine (rf_all _).mono ?_; rintro e w1 ⟨rfl, hb⟩; replace hk := hk.call hb; clear hb) | ((with_reducible apply gL); (first | refine wS hk ?_ | (refine wN hk ?_; clear hk; intro w1 hk)); simp only [pw]))
     exact post_1 rfl (by rfl) (hk.at mm) (rowT_of (by rfl)) (by rfl) rfl ⟨rfl, hk.mod.below⟩
   | true =>
     have HY := hide hy
     clear hy
     go_enter Tryz.func92, Tryz.ntmps92
     go_wp2_with (first | (go_at_call 101; refine (rf_plus _ _ (by first | exact hb.1 | exact hb.2) (by first | exact hc.1 | exact hc.2) _).mono ?_; rintro e w1 ⟨rfl, hb⟩; replace hk := hk.call hb; clear hb); (first | rw [HX.out] | rw [HY.out]) | (go_at_call 89; refine (rf_all _).mono ?_; rintro e w1 ⟨rfl, hb⟩; replace hk := hk.call hb; clear hb) | ((with_reducible apply gL); (first | refine wS hk ?_ | (refine wN hk ?_; clear hk; intro w1 hk)); simp only [pw]))
     exact post_1 rfl (by rfl) (hk.at mm) (rowT_of (by rfl)) (by rfl) rfl ⟨rfl, hk.mod.below⟩
 | true =>
   cases hy : inI (b.hi + c.hi) with
   | false =>
     have R : Hid (allR = sumR b c) := hide (by unfold sumR fitR; rw [hx, hy]; rfl)
     rw [<- R.out]
     have HX := hide hx
     have HY := hide hy
     clear hx hy
     go_enter Tryz.func92, Tryz.ntmps92
     go_wp2_with (first | (go_at_call 101; refine (rf_plus _ _ (by first | exact hb.1 | exact hb.2) (by first | exact hc.1 | exact hc.2) _).mono ?_; rintro e w1 ⟨rfl, hb⟩; replace hk := hk.call hb; clear hb); (first | rw [HX.out] | rw [HY.out]) | (go_at_call 89; refine (rf_all _).mono ?_; rintro e w1 ⟨rfl, hb⟩; replace hk := hk.call hb; clear hb) | ((with_reducible apply gL); (first | refine wS hk ?_ | (refine wN hk ?_; clear hk; intro w1 hk)); simp only [pw]))
     exact post_1 rfl (by rfl) (hk.at mm) (rowT_of (by rfl)) (by rfl) rfl ⟨rfl, hk.mod.below⟩
   | true =>
     have ox := inI_of hx
     have oy := inI_of hy
     rw [sumR_yes hx hy]
     have HX := hide hx
     have HY := hide hy
     clear hx hy
     go_enter Tryz.func92, Tryz.ntmps92
     go_wp2_with (first | (go_at_call 101; refine (rf_plus _ _ (by first | exact hb.1 | exact hb.2) (by first | exact hc.1 | exact hc.2) _).mono ?_; rintro e w1 ⟨rfl, hb⟩; replace hk := hk.call hb; clear hb); (first | rw [HX.out] | rw [HY.out]) | ((with_reducible apply gL); (first | refine wS hk ?_ | (refine wN hk ?_; clear hk; intro w1 hk)); simp only [pw]))
     exact post_1 rfl (by rfl) (hk.at mm) (rowT_of (by rfl)) (by rfl) rfl ⟨rfl, hk.mod.below⟩
theorem rf_sub (b c : R2) (hb : b.in64) (hc : c.in64) (w : World) : Calls Tryz.prog 92 #[.int .i64 4, .agg (rgC b), .agg (rgC c)] w fun e w' => e = .returned (.agg (rgC (difR b c))) /\ Below w.heap.size w w' := by
 have hk := Kn.nil [] w
 cases hx : inI (b.lo - c.hi) with
 | false =>
   have R : Hid (allR = difR b c) := hide (by unfold difR fitR; rw [hx]; rfl)
   rw [<- R.out]
   have HX := hide hx
   clear hx
   cases hy : inI (b.hi - c.lo) with
   | false =>
     have HY := hide hy
     clear hy
     go_enter Tryz.func92, Tryz.ntmps92
     go_wp2_with (first | (go_at_call 102; refine (rf_minus _ _ (by first | exact hb.1 | exact hb.2) (by first | exact hc.1 | exact hc.2) _).mono ?_; rintro e w1 ⟨rfl, hb⟩; replace hk := hk.call hb; clear hb); (first | rw [HX.out] | rw [HY.out]) | (go_at_call 89; refine (rf_all _).mono ?_; rintro e w1 ⟨rfl, hb⟩; replace hk := hk.call hb; clear hb) | ((with_reducible apply gL); (first | refine wS hk ?_ | (refine wN hk ?_; clear hk; intro w1 hk)); simp only [pw]))
     exact post_1 rfl (by rfl) (hk.at mm) (rowT_of (by rfl)) (by rfl) rfl ⟨rfl, hk.mod.below⟩
   | true =>
     have HY := hide hy
     clear hy
     go_enter Tryz.func92, Tryz.ntmps92
     go_wp2_with (first | (go_at_call 102; refine (rf_minus _ _ (by first | exact hb.1 | exact hb.2) (by first | exact hc.1 | exact hc.2) _).mono ?_; rintro e w1 ⟨rfl, hb⟩; replace hk := hk.call hb; clear hb); (first | rw [HX.out] | rw [HY.out]) | (go_at_call 89; refine (rf_all _).mono ?_; rintro e w1 ⟨rfl, hb⟩; replace hk := hk.call hb; clear hb) | ((with_reducible apply gL); (first | refine wS hk ?_ | (refine wN hk ?_; clear hk; intro w1 hk)); simp only [pw]))
     exact post_1 rfl (by rfl) (hk.at mm) (rowT_of (by rfl)) (by rfl) rfl ⟨rfl, hk.mod.below⟩
 | true =>
   cases hy : inI (b.hi - c.lo) with
   | false =>
     have R : Hid (allR = difR b c) := hide (by unfold difR fitR; rw [hx, hy]; rfl)
     rw [<- R.out]
     have HX := hide hx
     have HY := hide hy
     clear hx hy
     go_enter Tryz.func92, Tryz.ntmps92
     go_wp2_with (first | (go_at_call 102; refine (rf_minus _ _ (by first | exact hb.1 | exact hb.2) (by first | exact hc.1 | exact hc.2) _).mono ?_; rintro e w1 ⟨rfl, hb⟩; replace hk := hk.call hb; clear hb); (first | rw [HX.out] | rw [HY.out]) | (go_at_call 89; refine (rf_all _).mono ?_; rintro e w1 ⟨rfl, hb⟩; replace hk := hk.call hb; clear hb) | ((with_reducible apply gL); (first | refine wS hk ?_ | (refine wN hk ?_; clear hk; intro w1 hk)); simp only [pw]))
     exact post_1 rfl (by rfl) (hk.at mm) (rowT_of (by rfl)) (by rfl) rfl ⟨rfl, hk.mod.below⟩
   | true =>
     have ox := inI_of hx
     have oy := inI_of hy
     rw [difR_yes hx hy]
     have HX := hide hx
     have HY := hide hy
     clear hx hy
     go_enter Tryz.func92, Tryz.ntmps92
     go_wp2_with (first | (go_at_call 102; refine (rf_minus _ _ (by first | exact hb.1 | exact hb.2) (by first | exact hc.1 | exact hc.2) _).mono ?_; rintro e w1 ⟨rfl, hb⟩; replace hk := hk.call hb; clear hb); (first | rw [HX.out] | rw [HY.out]) | ((with_reducible apply gL); (first | refine wS hk ?_ | (refine wN hk ?_; clear hk; intro w1 hk)); simp only [pw]))
     exact post_1 rfl (by rfl) (hk.at mm) (rowT_of (by rfl)) (by rfl) rfl ⟨rfl, hk.mod.below⟩
theorem prodR_no {b c : R2} (h : (inRg b smallR && inRg c smallR) = false) : prodR b c = allR := by
 unfold prodR; rw [h]; rfl
theorem prodR_yes {b c : R2} (h : inRg b smallR = true) (h' : inRg c smallR = true) : prodR b c = spanR (wrap64 (b.lo * c.lo)) (wrap64 (b.lo * c.hi)) (wrap64 (b.hi * c.lo)) (wrap64 (b.hi * c.hi)) := by
 unfold prodR; rw [h, h']; rfl
theorem rf_mul (b c : R2) (w : World) : Calls Tryz.prog 92 #[.int .i64 5, .agg (rgC b), .agg (rgC c)] w fun e w' => e = .returned (.agg (rgC (prodR b c))) /\ Below w.heap.size w w' := by
 have hk := Kn.nil [] w
 cases hx : inRg b smallR with
 | false =>
   rw [prodR_no (by rw [hx]; rfl)]
   have HX := hide hx
   clear hx
   cases hy : inRg c smallR with
   | false =>
     have HY := hide hy
     clear hy
     go_enter Tryz.func92, Tryz.ntmps92
     go_wp2_with (first | (go_at_call 103; refine (rf_small _ _).mono ?_; rintro e w1 ⟨rfl, hb⟩; replace hk := hk.call hb; clear hb); (first | rw [HX.out] | rw [HY.out]) | (go_at_call 89; refine (rf_all _).mono ?_; rintro e w1 ⟨rfl, hb⟩; replace hk := hk.call hb; clear hb) | ((with_reducible apply gL); (first | refine wS hk ?_ | (refine wN hk ?_; clear hk; intro w1 hk)); simp only [pw]))
     exact post_1 rfl (by rfl) (hk.at mm) (rowT_of (by rfl)) (by rfl) rfl ⟨rfl, hk.mod.below⟩
   | true =>
     have HY := hide hy
     clear hy
     go_enter Tryz.func92, Tryz.ntmps92
     go_wp2_with (first | (go_at_call 103; refine (rf_small _ _).mono ?_; rintro e w1 ⟨rfl, hb⟩; replace hk := hk.call hb; clear hb); (first | rw [HX.out] | rw [HY.out]) | (go_at_call 89; refine (rf_all _).mono ?_; rintro e w1 ⟨rfl, hb⟩; replace hk := hk.call hb; clear hb) | ((with_reducible apply gL); (first | refine wS hk ?_ | (refine wN hk ?_; clear hk; intro w1 hk)); simp only [pw]))
     exact post_1 rfl (by rfl) (hk.at mm) (rowT_of (by rfl)) (by rfl) rfl ⟨rfl, hk.mod.below⟩
 | true =>
   cases hy : inRg c smallR with
   | false =>
     rw [prodR_no (by rw [hx, hy]; rfl)]
     have HX := hide hx
     have HY := hide hy
     clear hx hy
     go_enter Tryz.func92, Tryz.ntmps92
     go_wp2_with (first | (go_at_call 103; refine (rf_small _ _).mono ?_; rintro e w1 ⟨rfl, hb⟩; replace hk := hk.call hb; clear hb); (first | rw [HX.out] | rw [HY.out]) | (go_at_call 89; refine (rf_all _).mono ?_; rintro e w1 ⟨rfl, hb⟩; replace hk := hk.call hb; clear hb) | ((with_reducible apply gL); (first | refine wS hk ?_ | (refine wN hk ?_; clear hk; intro w1 hk)); simp only [pw]))
     exact post_1 rfl (by rfl) (hk.at mm) (rowT_of (by rfl)) (by rfl) rfl ⟨rfl, hk.mod.below⟩
   | true =>
     rw [prodR_yes hx hy]
     have HX := hide hx
     have HY := hide hy
     clear hx hy
     go_enter Tryz.func92, Tryz.ntmps92
     go_wp2_with (first | (go_at_call 103; refine (rf_small _ _).mono ?_; rintro e w1 ⟨rfl, hb⟩; replace hk := hk.call hb; clear hb); (first | rw [HX.out] | rw [HY.out]) | (go_at_call 104; refine (rf_corners _ _ _ _ _).mono ?_; rintro e w1 ⟨rfl, hb⟩; replace hk := hk.call hb; clear hb) | ((with_reducible apply gL); (first | refine wS hk ?_ | (refine wN hk ?_; clear hk; intro w1 hk)); simp only [pw]))
     exact post_1 rfl (by rfl) (hk.at mm) (rowT_of (by rfl)) (by rfl) rfl ⟨rfl, hk.mod.below⟩
theorem quo_run (ρ : Operand -> Value) (d : Option Tmp) (x y : Operand) (tt t' : TypeId) (pos : String) (aft : Array Edge) (g : Option (Nat × Bool)) (p q : Int) (w : World) (hq : q ≠ 0) (hx : ρ x = .int .i64 p) (hy : ρ y = .int .i64 q) : (execOp ρ ⟨d, .binOp .quo 3 x y t', tt, pos, aft, g⟩).run Tryz.prog w = .ok (.value (.int .i64 (wrap64 (p.tdiv q)))) w := by
 unfold execOp; simp only [hx, hy]; simp [go_sem, hq]; exact IntWalk.i64_left _
theorem quoR_no {b c : R2} (h : quoAll b c = true) : quoR b c = allR := by
 unfold quoR; rw [h]; rfl
theorem quoR_yes {b c : R2} (h : quoAll b c = false) : quoR b c = spanR (wrap64 (b.lo.tdiv c.lo)) (wrap64 (b.lo.tdiv c.hi)) (wrap64 (b.hi.tdiv c.lo)) (wrap64 (b.hi.tdiv c.hi)) := by
 unfold quoR; rw [h]; rfl
end Go.Proofs.YtamiichlbmllcabGreatDoor
