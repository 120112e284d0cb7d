import Derived.Test.YtamiichlbmllcabGreatDoorQChF
import Derived.Test.YtamiichlbmllcabGreatDoorQRfC
set_option maxRecDepth 100000
set_option maxHeartbeats 32000000
namespace Go.Proofs.YtamiichlbmllcabGreatDoor
open Go.RowKit
def jmB (x : I5) (at_ : Int) : Bool := (x.o == 9 || x.o == 10 || x.o == 11) && x.k == at_
def markI (l : List I5) (at_ : Int) : Bool := l.any fun x => jmB x at_
theorem markI_no {l : List I5} {n : Int} (h : ∀ j, j < l.length -> jmB (insAt l j) n = false) : markI l n = false := by
 unfold markI
 rw [List.any_eq_false]
 intro x hx
 obtain ⟨j, hj, rfl⟩ := List.mem_iff_getElem.1 hx
 have := h j hj
 rw [insAt_get hj] at this
 simp [this]
theorem markI_yes {l : List I5} {n : Int} {i : Nat} (hi : i < l.length) (h : jmB (insAt l i) n = true) : markI l n = true := by
 unfold markI
 rw [List.any_eq_true]
 exact ⟨l[i], List.getElem_mem hi, by rw [insAt_get hi] at h; exact h⟩
theorem rf_mark_some (l : List I5) (hl : l.length < 4000000000000) (b off cap : Nat) (n : Int) (w : World) (_hb : b < w.heap.size) (hc : ∀ i (h : i < l.length), InsAt w b (off + i * 5) l[i]) :
 Calls Tryz.prog 71 #[.slice (some ⟨b, off, none⟩) l.length cap, .int .i64 n] w fun e w' => e = .returned (.bool (markI l n)) /\ Below w.heap.size w w' := by
 have hk := Kn.nil [] w
 have HC := hide hc
 clear hc
 go_enter Tryz.func71, Tryz.ntmps71
 go_wp2_with ((with_reducible apply gL); (first | refine wS hk ?_ | (refine wN hk ?_; clear hk; intro w1 hk)); simp only [pw])
 go_loopw [5] (fun j wr => ∃ i : Nat, i <= l.length /\ j = .int .i64 i /\ (∀ j, j < i -> jmB (insAt l j) n = false) /\ Kn [] w wr []) (fun j _ => l.length - (intOf j).toNat)
 case atStart => exact ⟨0, by omega, rfl, fun j hj => by omega, hk⟩
 case round =>
  clear hk
  obtain ⟨i, hi, rfl, hall, hk⟩ := hrel
  have HA := hide hall
  clear hall
  by_cases hlt : i < l.length
  · have hci := HC.out i hlt
    rw [<- insAt_get hlt] at hci
    obtain ⟨x, hx⟩ : ∃ x, x = insAt l i := ⟨_, rfl⟩
    rw [<- hx] at hci
    have HX := hide hx
    clear hx
    have hc0 := hci.1
    have hc4 := hci.2.2.2.2
    clear hci
    cases h9 : (x.o == 9) with
    | true =>
      cases hkk : (x.k == n) with
      | false =>
        have H9 := hide h9
        clear h9
        have HKK := hide hkk
        clear hkk
        generalize hR : Code.region 4 _ false = R
        go_wp2_with ((with_reducible apply gL); (first | refine wS hk ?_ | (refine wN hk ?_; clear hk; intro w1 hk)); simp only [pw])
        rw [<- hR]
        clear hR
        (refine wp_regLK hk (.op 0 (.op 1 (.op 2 (.op 3 (.op 4 (.op 5 (.op 6 (.op 7 (.op 8 (.op 9 (.op 10 (.op 11 (.op 12 (.op 13 (.op 14 (.op 15 (.op 16 (.op 17 (.op 18 (.op 19 (.op 20 (.op 21 (.op 22 (.op 23 (.op 24 (.op 25 (.op 26 (.op 27 (.op 28 (.op 29 (.op 30 .nil))))))))))))))))))))))))))))))) (by rfl) ?_)
        (repeat (refine sV hk ?_; simp only [pw]; (try rw [H9.out]); (try rw [HKK.out])))
        refine tNil ?_
        go_wp2_with ((with_reducible apply gL); (first | refine wS hk ?_ | (refine wN hk ?_; clear hk; intro w1 hk)); simp only [pw])
        go_roundw
        case rel => exact ⟨i + 1, by omega, by go_num, fun j hj => by rcases Nat.lt_succ_iff_lt_or_eq.1 hj with h | h; exact HA.out j h; subst h; rw [<- HX.out]; unfold jmB; simp [H9.out, HKK.out], hk⟩
        case measure => simp [intOf]; omega
      | true =>
        have H9 := hide h9
        clear h9
        have HKK := hide hkk
        clear hkk
        generalize hR : Code.region 4 _ false = R
        go_wp2_with ((with_reducible apply gL); (first | refine wS hk ?_ | (refine wN hk ?_; clear hk; intro w1 hk)); simp only [pw])
        rw [<- hR]
        clear hR
        (refine wp_regLK hk (.op 0 (.op 1 (.op 2 (.op 3 (.op 4 (.op 5 (.op 6 (.op 7 (.op 8 (.op 9 (.op 10 (.op 11 (.op 12 (.op 13 (.op 14 (.op 15 (.op 16 (.op 17 (.op 18 (.op 19 (.op 20 (.op 21 (.op 22 (.op 23 (.op 24 (.op 25 (.op 26 (.op 27 (.op 28 (.op 29 (.op 30 .nil))))))))))))))))))))))))))))))) (by rfl) ?_)
        (repeat (refine sV hk ?_; simp only [pw]; (try rw [H9.out]); (try rw [HKK.out])))
        refine tNil ?_
        go_wp2_with ((with_reducible apply gL); (first | refine wS hk ?_ | (refine wN hk ?_; clear hk; intro w1 hk)); simp only [pw])
        go_ret
        exact ⟨ret_bool (markI_yes hlt (by rw [<- HX.out]; unfold jmB; simp [H9.out, HKK.out])).symm, hk.mod.below⟩
    | false =>
      cases h10 : (x.o == 10) with
      | true =>
        cases hkk : (x.k == n) with
        | false =>
          have H9 := hide h9
          clear h9
          have H10 := hide h10
          clear h10
          have HKK := hide hkk
          clear hkk
          generalize hR : Code.region 4 _ false = R
          go_wp2_with ((with_reducible apply gL); (first | refine wS hk ?_ | (refine wN hk ?_; clear hk; intro w1 hk)); simp only [pw])
          rw [<- hR]
          clear hR
          (refine wp_regLK hk (.op 0 (.op 1 (.op 2 (.op 3 (.op 4 (.op 5 (.op 6 (.op 7 (.op 8 (.op 9 (.op 10 (.op 11 (.op 12 (.op 13 (.op 14 (.op 15 (.op 16 (.op 17 (.op 18 (.op 19 (.op 20 (.op 21 (.op 22 (.op 23 (.op 24 (.op 25 (.op 26 (.op 27 (.op 28 (.op 29 (.op 30 .nil))))))))))))))))))))))))))))))) (by rfl) ?_)
          (repeat (refine sV hk ?_; simp only [pw]; (try rw [H9.out]); (try rw [H10.out]); (try rw [HKK.out])))
          refine tNil ?_
          go_wp2_with ((with_reducible apply gL); (first | refine wS hk ?_ | (refine wN hk ?_; clear hk; intro w1 hk)); simp only [pw])
          go_roundw
          case rel => exact ⟨i + 1, by omega, by go_num, fun j hj => by rcases Nat.lt_succ_iff_lt_or_eq.1 hj with h | h; exact HA.out j h; subst h; rw [<- HX.out]; unfold jmB; simp [H9.out, H10.out, HKK.out], hk⟩
          case measure => simp [intOf]; omega
        | true =>
          have H9 := hide h9
          clear h9
          have H10 := hide h10
          clear h10
          have HKK := hide hkk
          clear hkk
          generalize hR : Code.region 4 _ false = R
          go_wp2_with ((with_reducible apply gL); (first | refine wS hk ?_ | (refine wN hk ?_; clear hk; intro w1 hk)); simp only [pw])
          rw [<- hR]
          clear hR
          (refine wp_regLK hk (.op 0 (.op 1 (.op 2 (.op 3 (.op 4 (.op 5 (.op 6 (.op 7 (.op 8 (.op 9 (.op 10 (.op 11 (.op 12 (.op 13 (.op 14 (.op 15 (.op 16 (.op 17 (.op 18 (.op 19 (.op 20 (.op 21 (.op 22 (.op 23 (.op 24 (.op 25 (.op 26 (.op 27 (.op 28 (.op 29 (.op 30 .nil))))))))))))))))))))))))))))))) (by rfl) ?_)
          (repeat (refine sV hk ?_; simp only [pw]; (try rw [H9.out]); (try rw [H10.out]); (try rw [HKK.out])))
          refine tNil ?_
          go_wp2_with ((with_reducible apply gL); (first | refine wS hk ?_ | (refine wN hk ?_; clear hk; intro w1 hk)); simp only [pw])
          go_ret
          exact ⟨ret_bool (markI_yes hlt (by rw [<- HX.out]; unfold jmB; simp [H9.out, H10.out, HKK.out])).symm, hk.mod.below⟩
      | false =>
        cases h11 : (x.o == 11) with
        | true =>
          cases hkk : (x.k == n) with
          | false =>
            have H9 := hide h9
            clear h9
            have H10 := hide h10
            clear h10
            have H11 := hide h11
            clear h11
            have HKK := hide hkk
            clear hkk
            generalize hR : Code.region 4 _ false = R
            go_wp2_with ((with_reducible apply gL); (first | refine wS hk ?_ | (refine wN hk ?_; clear hk; intro w1 hk)); simp only [pw])
            rw [<- hR]
            clear hR
            (refine wp_regLK hk (.op 0 (.op 1 (.op 2 (.op 3 (.op 4 (.op 5 (.op 6 (.op 7 (.op 8 (.op 9 (.op 10 (.op 11 (.op 12 (.op 13 (.op 14 (.op 15 (.op 16 (.op 17 (.op 18 (.op 19 (.op 20 (.op 21 (.op 22 (.op 23 (.op 24 (.op 25 (.op 26 (.op 27 (.op 28 (.op 29 (.op 30 .nil))))))))))))))))))))))))))))))) (by rfl) ?_)
            (repeat (refine sV hk ?_; simp only [pw]; (try rw [H9.out]); (try rw [H10.out]); (try rw [H11.out]); (try rw [HKK.out])))
            refine tNil ?_
            go_wp2_with ((with_reducible apply gL); (first | refine wS hk ?_ | (refine wN hk ?_; clear hk; intro w1 hk)); simp only [pw])
            go_roundw
            case rel => exact ⟨i + 1, by omega, by go_num, fun j hj => by rcases Nat.lt_succ_iff_lt_or_eq.1 hj with h | h; exact HA.out j h; subst h; rw [<- HX.out]; unfold jmB; simp [H9.out, H10.out, H11.out, HKK.out], hk⟩
            case measure => simp [intOf]; omega
          | true =>
            have H9 := hide h9
            clear h9
            have H10 := hide h10
            clear h10
            have H11 := hide h11
            clear h11
            have HKK := hide hkk
            clear hkk
            generalize hR : Code.region 4 _ false = R
            go_wp2_with ((with_reducible apply gL); (first | refine wS hk ?_ | (refine wN hk ?_; clear hk; intro w1 hk)); simp only [pw])
            rw [<- hR]
            clear hR
            (refine wp_regLK hk (.op 0 (.op 1 (.op 2 (.op 3 (.op 4 (.op 5 (.op 6 (.op 7 (.op 8 (.op 9 (.op 10 (.op 11 (.op 12 (.op 13 (.op 14 (.op 15 (.op 16 (.op 17 (.op 18 (.op 19 (.op 20 (.op 21 (.op 22 (.op 23 (.op 24 (.op 25 (.op 26 (.op 27 (.op 28 (.op 29 (.op 30 .nil))))))))))))))))))))))))))))))) (by rfl) ?_)
            (repeat (refine sV hk ?_; simp only [pw]; (try rw [H9.out]); (try rw [H10.out]); (try rw [H11.out]); (try rw [HKK.out])))
            refine tNil ?_
            go_wp2_with ((with_reducible apply gL); (first | refine wS hk ?_ | (refine wN hk ?_; clear hk; intro w1 hk)); simp only [pw])
            go_ret
            exact ⟨ret_bool (markI_yes hlt (by rw [<- HX.out]; unfold jmB; simp [H9.out, H10.out, H11.out, HKK.out])).symm, hk.mod.below⟩
        | false =>
          have H9 := hide h9
          clear h9
          have H10 := hide h10
          clear h10
          have H11 := hide h11
          clear h11
          generalize hR : Code.region 4 _ false = R
          go_wp2_with ((with_reducible apply gL); (first | refine wS hk ?_ | (refine wN hk ?_; clear hk; intro w1 hk)); simp only [pw])
          rw [<- hR]
          clear hR
          (refine wp_regLK hk (.op 0 (.op 1 (.op 2 (.op 3 (.op 4 (.op 5 (.op 6 (.op 7 (.op 8 (.op 9 (.op 10 (.op 11 (.op 12 (.op 13 (.op 14 (.op 15 (.op 16 (.op 17 (.op 18 (.op 19 (.op 20 (.op 21 (.op 22 (.op 23 (.op 24 (.op 25 (.op 26 (.op 27 (.op 28 (.op 29 (.op 30 .nil))))))))))))))))))))))))))))))) (by rfl) ?_)
          (repeat (refine sV hk ?_; simp only [pw]; (try rw [H9.out]); (try rw [H10.out]); (try rw [H11.out])))
          refine tNil ?_
          go_wp2_with ((with_reducible apply gL); (first | refine wS hk ?_ | (refine wN hk ?_; clear hk; intro w1 hk)); simp only [pw])
          go_roundw
          case rel => exact ⟨i + 1, by omega, by go_num, fun j hj => by rcases Nat.lt_succ_iff_lt_or_eq.1 hj with h | h; exact HA.out j h; subst h; rw [<- HX.out]; unfold jmB; simp [H9.out, H10.out, H11.out], hk⟩
          case measure => simp [intOf]; omega
  · have e : i = l.length := by omega
    subst e
    have R : Hid (markI l n = false) := hide (markI_no HA.out)
    go_wp2_with ((with_reducible apply gL); (first | refine wS hk ?_ | (refine wN hk ?_; clear hk; intro w1 hk)); simp only [pw])
    go_ret
    exact ⟨ret_bool R.out.symm, hk.mod.below⟩
theorem rf_mark_nil (a : Option Addr) (cap : Nat) (n : Int) (w : World) : Calls Tryz.prog 71 #[.slice a 0 cap, .int .i64 n] w fun e w' => e = .returned (.bool false) /\ Below w.heap.size w w' := by
 have hk := Kn.nil [] w
 go_enter Tryz.func71, Tryz.ntmps71
 go_wp2_with ((with_reducible apply gL); (first | refine wS hk ?_ | (refine wN hk ?_; clear hk; intro w1 hk)); simp only [pw])
 go_loopw [5] (fun j wr => j = .int .i64 0 /\ Kn [] w wr []) (fun _ _ => 0)
 case atStart => exact ⟨rfl, hk⟩
 case round =>
  clear hk
  obtain ⟨rfl, hk⟩ := hrel
  go_wp2_with ((with_reducible apply gL); (first | refine wS hk ?_ | (refine wN hk ?_; clear hk; intro w1 hk)); simp only [pw])
  go_ret
  exact ⟨rfl, hk.mod.below⟩
theorem rf_mark (l : List I5) (hl : l.length < 4000000000000) (v : Value) (n : Int) (w : World) (h : Slc w v l) : Calls Tryz.prog 71 #[v, .int .i64 n] w fun e w' => e = .returned (.bool (markI l n)) /\ Below w.heap.size w w' := by
 rcases h with ⟨⟨a, cap, rfl⟩, rfl⟩ | ⟨b, off, cap, rfl, hb, hc⟩
 · exact rf_mark_nil a cap n w
 · exact rf_mark_some l hl b off cap n w hb hc
end Go.Proofs.YtamiichlbmllcabGreatDoor
