import Derived.Test.YtamiichlbmllcabGreatDoorQRfN
set_option maxRecDepth 100000
set_option maxHeartbeats 32000000
namespace Go.Proofs.YtamiichlbmllcabGreatDoor
open Go.RowKit
theorem Kn.swap {M : List Nat} {w0 w : World} {L : RowL} {x y : Nat × Array Value × TypeId} (h : Kn M w0 w (x :: y :: L)) : Kn M w0 w (y :: x :: L) := ⟨h.mod, fun z hz => h.has z (by simp only [List.mem_cons] at hz ⊢; rcases hz with h | h | h <;> simp [h]), by have := h.dis; simp only [List.pairwise_cons, List.mem_cons] at this ⊢; obtain ⟨h1, h2, h3⟩ := this; exact ⟨fun z hz => (by rcases hz with rfl | hz; exact (h1 _ (Or.inl rfl)).symm; exact h2 z hz), fun z hz => h1 z (Or.inr hz), h3⟩⟩
theorem SlcC.at {w : World} {a : Option Addr} {n cap : Nat} {cl : List C2} {i : Nat} (h : SlcC w (.slice a n cap) cl) (hi : i < cl.length) : ∃ b off, a = some ⟨b, off, none⟩ /\ b < w.heap.size /\ ∀ i, i < cl.length -> w.rangeAt b (off + i * 17) (clC (clAt cl i).pl (clAt cl i).st).toList := by
 rcases h with ⟨⟨_, _, _⟩, rfl⟩ | ⟨b, off, cap', h1, h2, h3⟩
 · simp at hi
 · cases h1; exact ⟨b, off, rfl, h2, h3⟩
theorem okO_way {b : Bool} {s : St} (h : s.ok) (h' : s.in64) : OkO (wayO b s) := by
 intro t ht; cases b with
 | false => cases ht
 | true => cases ht; exact ⟨h, h'⟩
theorem pair_two {p : Int × Nat} {a : Int} {b : Nat} (h : p = (a, b)) : Ending.returned (.tuple #[.int .i64 a, .int .i64 (b : Int)]) = .returned (.tuple #[.int .i64 p.1, .int .i64 (p.2 : Int)]) := by rw [h]
theorem rf_Check_ok (l : List I5) (hr : rightR l = (0, 0)) (e : St) (hst : isStR e = true) (cl : List C2) (h64 : In64 l e cl) (hcl : cl.length < 4000000000000) (pb poff pcap : Nat) (a : Option Addr) (cap : Nat) (w : World) (hpb : pb < w.heap.size) (hI : ∀ i (h : i < l.length), InsAt w pb (poff + i * 5) l[i]) (hc : SlcC w (.slice a cl.length cap) cl) :
 Calls Tryz.prog 50 #[.slice (some ⟨pb, poff, none⟩) l.length pcap, .agg (stC e), .slice a cl.length cap] w fun r w' => r = .returned (.tuple #[.int .i64 (checkR l e cl).1, .int .i64 ((checkR l e cl).2 : Int)]) /\ Below w.heap.size w w' := by
 have hk := Kn.nil [] w
 have HR := hide hr
 have HST := hide hst
 have HAF := hide (right_fit hr)
 have hL : l.length < 4000000000000 := by have := HAF.out.2.1; omega
 have HV : Hid (Slc w (.slice (some ⟨pb, poff, none⟩) l.length pcap) l) := hide (Or.inr ⟨pb, poff, pcap, rfl, hpb, hI⟩)
 have HI := hide hI
 have HC := hide hc
 have H64 := hide h64
 have HPB := hide hpb
 clear hI hc hr hst h64
 go_enter Tryz.func50, Tryz.ntmps50
 go_wp2_with (first | (first | (go_at_call 71; refine (rf_mark l hL _ _ _ (HV.out.below hk.mod.below (Nat.le_refl _))).mono ?_; rintro e w1 ⟨rfl, hb⟩; replace hk := hk.call hb; clear hb; rw [HM.out]) | ((go_at_call 72; refine (rf_empty _ _).mono ?_; rintro e w1 ⟨rfl, hb⟩; replace hk := hk.call hb; clear hb); rw [HE.out]) | (go_at_call 70; refine (rf_first_st l e HR.out true HST.out _ _ (HV.out.below hk.mod.below (Nat.le_refl _))).mono ?_; rintro e w1 ⟨rfl, hb⟩; replace hk := hk.call hb; clear hb)) | ((with_reducible apply gL); (first | refine wS hk ?_ | (refine wN hk ?_; clear hk; intro w1 hk)); simp only [pw]))
 go_loopw [10] (fun j wr => ∃ i : Nat, i <= cl.length /\ j = .int .i64 i /\ (∀ j, j < i -> badC (markB l) l.length (lastOf cl j) (clAt cl j) = false) /\ Kn [] w wr [(w.heap.size, stC e, 29)]) (fun j _ => cl.length - (intOf j).toNat)
 case atStart => exact ⟨0, by omega, rfl, fun j hj => by omega, hk⟩
 case round =>
  clear hk
  obtain ⟨i, hi, rfl, hall, hk⟩ := hrel
  have HA := hide hall
  clear hall
  by_cases hlt : i < cl.length
  · obtain ⟨b, off, rfl, hb, hcs⟩ := HC.out.at hlt
    have hci := hcs i hlt
    have HCS := hide hcs
    have HBR := hide (bad_ref HAF.out HA.out)
    clear hcs
    obtain ⟨st, hst⟩ : ∃ st, st = (clAt cl i).st := ⟨_, rfl⟩
    obtain ⟨p, hp⟩ : ∃ p, p = (clAt cl i).pl := ⟨_, rfl⟩
    rw [<- hst, <- hp] at hci
    have HX : Hid (badC (markB l) l.length (lastOf cl i) (clAt cl i) = (!markI l p || !isStR st || (decide (0 < i) && decide (p <= (clAt cl (i - 1)).pl)))) := hide (by rw [HBR.out, hst, hp])
    clear hst hp HBR
    have hc0 : w.cell? ⟨b, off + i * 17, none⟩ = some (.int .i64 p) := hci 0 _ rfl
    have hc1 := range1 hci
    clear hci
    cases hM : markI l p with
    | false =>
      have HM := hide hM
      clear hM
      cases hE : (!isStR st) with
      | false =>
        have HE := hide hE
        clear hE
        go_wp2_with (first | (first | (go_at_call 71; refine (rf_mark l hL _ _ _ (HV.out.below hk.mod.below (Nat.le_refl _))).mono ?_; rintro e w1 ⟨rfl, hb⟩; replace hk := hk.call hb; clear hb; rw [HM.out]) | ((go_at_call 72; refine (rf_empty _ _).mono ?_; rintro e w1 ⟨rfl, hb⟩; replace hk := hk.call hb; clear hb); rw [HE.out]) | (go_at_call 70; refine (rf_first_st l e HR.out true HST.out _ _ (HV.out.below hk.mod.below (Nat.le_refl _))).mono ?_; rintro e w1 ⟨rfl, hb⟩; replace hk := hk.call hb; clear hb)) | ((with_reducible apply gL); (first | refine wS hk ?_ | (refine wN hk ?_; clear hk; intro w1 hk)); simp only [pw]))
        (refine wp_regK hk (.op 0 (.op 1 (.op 2 (.op 3 (.op 4 (.op 5 (.op 6 (.op 7 (.op 8 (.op 9 (.op 10 (.op 11 (.op 12 (.op 13 (.op 14 (.op 15 (.op 16 (.op 17 (.op 18 (.op 19 (.op 20 (.op 21 (.op 22 .nil))))))))))))))))))))))) (fun i => decide (i < 23)) mixT (by decide) (by kernel_rfl) (by kernel_rfl) ?_; clear hk; intro w1 hk)
        (repeat (refine sV hk ?_; simp only [pw]))
        refine tNil ?_
        go_wp2_with ((with_reducible apply gL); (first | refine wS hk ?_ | (refine wN hk ?_; clear hk; intro w1 hk)); simp only [pw])
        go_ret2
        exact ⟨pair_two (by unfold checkR; rw [if_pos HST.out, fwR_upto i hi HA.out, fwR_bad hlt (by rw [HX.out, HM.out]; simp [HE.out])]; rw [if_pos hlt]), hk.mod.below⟩
      | true =>
        have HE := hide hE
        clear hE
        go_wp2_with (first | (first | (go_at_call 71; refine (rf_mark l hL _ _ _ (HV.out.below hk.mod.below (Nat.le_refl _))).mono ?_; rintro e w1 ⟨rfl, hb⟩; replace hk := hk.call hb; clear hb; rw [HM.out]) | ((go_at_call 72; refine (rf_empty _ _).mono ?_; rintro e w1 ⟨rfl, hb⟩; replace hk := hk.call hb; clear hb); rw [HE.out]) | (go_at_call 70; refine (rf_first_st l e HR.out true HST.out _ _ (HV.out.below hk.mod.below (Nat.le_refl _))).mono ?_; rintro e w1 ⟨rfl, hb⟩; replace hk := hk.call hb; clear hb)) | ((with_reducible apply gL); (first | refine wS hk ?_ | (refine wN hk ?_; clear hk; intro w1 hk)); simp only [pw]))
        (refine wp_regK hk (.op 0 (.op 1 (.op 2 (.op 3 (.op 4 (.op 5 (.op 6 (.op 7 (.op 8 (.op 9 (.op 10 (.op 11 (.op 12 (.op 13 (.op 14 (.op 15 (.op 16 (.op 17 (.op 18 (.op 19 (.op 20 (.op 21 (.op 22 .nil))))))))))))))))))))))) (fun i => decide (i < 23)) mixT (by decide) (by kernel_rfl) (by kernel_rfl) ?_; clear hk; intro w1 hk)
        (repeat (refine sV hk ?_; simp only [pw]))
        refine tNil ?_
        go_wp2_with ((with_reducible apply gL); (first | refine wS hk ?_ | (refine wN hk ?_; clear hk; intro w1 hk)); simp only [pw])
        go_ret2
        exact ⟨pair_two (by unfold checkR; rw [if_pos HST.out, fwR_upto i hi HA.out, fwR_bad hlt (by rw [HX.out, HM.out]; simp [HE.out])]; rw [if_pos hlt]), hk.mod.below⟩
    | true =>
      have HM := hide hM
      clear hM
      cases hE : (!isStR st) with
      | true =>
        have HE := hide hE
        clear hE
        go_wp2_with (first | (first | (go_at_call 71; refine (rf_mark l hL _ _ _ (HV.out.below hk.mod.below (Nat.le_refl _))).mono ?_; rintro e w1 ⟨rfl, hb⟩; replace hk := hk.call hb; clear hb; rw [HM.out]) | ((go_at_call 72; refine (rf_empty _ _).mono ?_; rintro e w1 ⟨rfl, hb⟩; replace hk := hk.call hb; clear hb); rw [HE.out]) | (go_at_call 70; refine (rf_first_st l e HR.out true HST.out _ _ (HV.out.below hk.mod.below (Nat.le_refl _))).mono ?_; rintro e w1 ⟨rfl, hb⟩; replace hk := hk.call hb; clear hb)) | ((with_reducible apply gL); (first | refine wS hk ?_ | (refine wN hk ?_; clear hk; intro w1 hk)); simp only [pw]))
        (refine wp_regK hk (.op 0 (.op 1 (.op 2 (.op 3 (.op 4 (.op 5 (.op 6 (.op 7 (.op 8 (.op 9 (.op 10 (.op 11 (.op 12 (.op 13 (.op 14 (.op 15 (.op 16 (.op 17 (.op 18 (.op 19 (.op 20 (.op 21 (.op 22 .nil))))))))))))))))))))))) (fun i => decide (i < 23)) mixT (by decide) (by kernel_rfl) (by kernel_rfl) ?_; clear hk; intro w1 hk)
        (repeat (refine sV hk ?_; simp only [pw]))
        refine tNil ?_
        go_wp2_with ((with_reducible apply gL); (first | refine wS hk ?_ | (refine wN hk ?_; clear hk; intro w1 hk)); simp only [pw])
        go_ret2
        exact ⟨pair_two (by unfold checkR; rw [if_pos HST.out, fwR_upto i hi HA.out, fwR_bad hlt (by rw [HX.out, HM.out]; simp [HE.out])]; rw [if_pos hlt]), hk.mod.below⟩
      | false =>
        have HE := hide hE
        clear hE
        by_cases h0 : i = 0
        · have hgt : decide ((0 : Int) < (i : Int)) = false := by rw [decide_eq_false_iff_not]; omega
          have H0 : Hid (decide (0 < i) = false) := hide (by rw [decide_eq_false_iff_not]; omega)
          clear h0
          go_wp2_with (first | (first | (go_at_call 71; refine (rf_mark l hL _ _ _ (HV.out.below hk.mod.below (Nat.le_refl _))).mono ?_; rintro e w1 ⟨rfl, hb⟩; replace hk := hk.call hb; clear hb; rw [HM.out]) | ((go_at_call 72; refine (rf_empty _ _).mono ?_; rintro e w1 ⟨rfl, hb⟩; replace hk := hk.call hb; clear hb); rw [HE.out]) | (go_at_call 70; refine (rf_first_st l e HR.out true HST.out _ _ (HV.out.below hk.mod.below (Nat.le_refl _))).mono ?_; rintro e w1 ⟨rfl, hb⟩; replace hk := hk.call hb; clear hb)) | ((with_reducible apply gL); (first | refine wS hk ?_ | (refine wN hk ?_; clear hk; intro w1 hk)); simp only [pw]))
          (refine wp_regK hk (.op 0 (.op 1 (.op 2 (.op 3 (.op 4 (.op 5 (.op 6 (.op 7 (.op 8 (.op 9 (.op 10 (.op 11 (.op 12 (.op 13 (.op 14 (.op 15 (.op 16 (.op 17 (.op 18 (.op 19 (.op 20 (.op 21 (.op 22 .nil))))))))))))))))))))))) (fun i => decide (i < 23)) mixT (by decide) (by kernel_rfl) (by kernel_rfl) ?_; clear hk; intro w1 hk)
          (repeat (refine sV hk ?_; simp only [pw]; (try rw [hgt])))
          refine tNil ?_
          go_wp2_with ((with_reducible apply gL); (first | refine wS hk ?_ | (refine wN hk ?_; clear hk; intro w1 hk)); simp only [pw])
          go_roundw
          case rel => exact ⟨i + 1, by omega, by go_num, fun j hj => by rcases Nat.lt_succ_iff_lt_or_eq.1 hj with h | h; exact HA.out j h; subst h; rw [HX.out, HM.out, H0.out]; simp [HE.out], hk⟩
          case measure => simp [intOf]; omega
        · have hgt : decide ((0 : Int) < (i : Int)) = true := by rw [decide_eq_true_eq]; omega
          have H0 : Hid (decide (0 < i) = true) := hide (by rw [decide_eq_true_eq]; omega)
          have hcm := HCS.out (i - 1) (by omega)
          obtain ⟨m, hm⟩ : ∃ m, m = i - 1 := ⟨_, rfl⟩
          have hsub : wrap64 ((i : Int) - 1) = (m : Int) := by unfold wrap64; omega
          have hml : m < cl.length := by omega
          rw [<- hm] at hcm HX
          obtain ⟨q, hq⟩ : ∃ q, q = (clAt cl m).pl := ⟨_, rfl⟩
          rw [<- hq] at hcm HX
          have hd0 : w.cell? ⟨b, off + m * 17, none⟩ = some (.int .i64 q) := hcm 0 _ rfl
          clear hcm hq h0 hm
          cases hle : decide (p <= q) with
          | true =>
            have HLE := hide hle
            clear hle
            go_wp2_with (first | (first | (go_at_call 71; refine (rf_mark l hL _ _ _ (HV.out.below hk.mod.below (Nat.le_refl _))).mono ?_; rintro e w1 ⟨rfl, hb⟩; replace hk := hk.call hb; clear hb; rw [HM.out]) | ((go_at_call 72; refine (rf_empty _ _).mono ?_; rintro e w1 ⟨rfl, hb⟩; replace hk := hk.call hb; clear hb); rw [HE.out]) | (go_at_call 70; refine (rf_first_st l e HR.out true HST.out _ _ (HV.out.below hk.mod.below (Nat.le_refl _))).mono ?_; rintro e w1 ⟨rfl, hb⟩; replace hk := hk.call hb; clear hb)) | ((with_reducible apply gL); (first | refine wS hk ?_ | (refine wN hk ?_; clear hk; intro w1 hk)); simp only [pw]))
            (refine wp_regK hk (.op 0 (.op 1 (.op 2 (.op 3 (.op 4 (.op 5 (.op 6 (.op 7 (.op 8 (.op 9 (.op 10 (.op 11 (.op 12 (.op 13 (.op 14 (.op 15 (.op 16 (.op 17 (.op 18 (.op 19 (.op 20 (.op 21 (.op 22 .nil))))))))))))))))))))))) (fun i => decide (i < 23)) mixT (by decide) (by kernel_rfl) (by kernel_rfl) ?_; clear hk; intro w1 hk)
            (repeat (refine sV hk ?_; simp only [pw]; (try rw [hgt])))
            refine sSub hk ?_; simp only [pw]
            (repeat (refine sV hk ?_; simp only [pw]; (try rw [HLE.out])))
            refine tNil ?_
            go_wp2_with ((with_reducible apply gL); (first | refine wS hk ?_ | (refine wN hk ?_; clear hk; intro w1 hk)); simp only [pw])
            go_ret2
            exact ⟨pair_two (by unfold checkR; rw [if_pos HST.out, fwR_upto i hi HA.out, fwR_bad hlt (by rw [HX.out, HM.out, H0.out, HLE.out]; simp [HE.out])]; rw [if_pos hlt]), hk.mod.below⟩
          | false =>
            have HLE := hide hle
            clear hle
            go_wp2_with (first | (first | (go_at_call 71; refine (rf_mark l hL _ _ _ (HV.out.below hk.mod.below (Nat.le_refl _))).mono ?_; rintro e w1 ⟨rfl, hb⟩; replace hk := hk.call hb; clear hb; rw [HM.out]) | ((go_at_call 72; refine (rf_empty _ _).mono ?_; rintro e w1 ⟨rfl, hb⟩; replace hk := hk.call hb; clear hb); rw [HE.out]) | (go_at_call 70; refine (rf_first_st l e HR.out true HST.out _ _ (HV.out.below hk.mod.below (Nat.le_refl _))).mono ?_; rintro e w1 ⟨rfl, hb⟩; replace hk := hk.call hb; clear hb)) | ((with_reducible apply gL); (first | refine wS hk ?_ | (refine wN hk ?_; clear hk; intro w1 hk)); simp only [pw]))
            (refine wp_regK hk (.op 0 (.op 1 (.op 2 (.op 3 (.op 4 (.op 5 (.op 6 (.op 7 (.op 8 (.op 9 (.op 10 (.op 11 (.op 12 (.op 13 (.op 14 (.op 15 (.op 16 (.op 17 (.op 18 (.op 19 (.op 20 (.op 21 (.op 22 .nil))))))))))))))))))))))) (fun i => decide (i < 23)) mixT (by decide) (by kernel_rfl) (by kernel_rfl) ?_; clear hk; intro w1 hk)
            (repeat (refine sV hk ?_; simp only [pw]; (try rw [hgt])))
            refine sSub hk ?_; simp only [pw]
            (repeat (refine sV hk ?_; simp only [pw]; (try rw [HLE.out])))
            refine tNil ?_
            go_wp2_with ((with_reducible apply gL); (first | refine wS hk ?_ | (refine wN hk ?_; clear hk; intro w1 hk)); simp only [pw])
            go_roundw
            case rel => exact ⟨i + 1, by omega, by go_num, fun j hj => by rcases Nat.lt_succ_iff_lt_or_eq.1 hj with h | h; exact HA.out j h; subst h; rw [HX.out, HM.out, H0.out, HLE.out]; simp [HE.out], hk⟩
            case measure => simp [intOf]; omega
  · have e1 : i = cl.length := by omega
    subst e1
    have hfw : fwR (markB l) l.length cl (-1) 0 = 0 + cl.length := by rw [fwR_upto cl.length (Nat.le_refl _) HA.out, List.drop_length, fwR, Nat.zero_add]
    have HCH : Hid (checkR l e cl = passC l (layR cl) l.length 0 (some e)) := hide (by unfold checkR; rw [if_pos HST.out, if_neg (by omega)])
    have HPW := hide (fwR_rise cl (-1) 0 hfw).2
    have HP0 : Hid (∀ i, i < cl.length -> 0 <= (clAt cl i).pl) := hide fun i hi => by obtain ⟨⟨k, hk, _⟩, _⟩ := fwR_good cl (-1) 0 (by omega) hfw _ (clAt_mem hi); omega
    have HOK : Hid (∀ k, OkO (layR cl k)) := hide fun k => layU_ok (fun i hi => ⟨ok_of_st (fwR_good cl (-1) 0 (by omega) hfw _ (clAt_mem hi)).2, H64.out.c i hi⟩) cl.length (Nat.le_refl _) k
    clear hfw HA hi hlt
    have HE0 : Hid (OkO (wayO true e)) := hide (okO_way (ok_of_st HST.out) H64.out.e)
    go_wp2_with ((with_reducible apply gL); (first | refine wS hk ?_ | (refine wN hk ?_; clear hk; intro w1 hk)); simp only [pw])
    generalize wr.heap.size = B at hk ⊢
    go_loopg [14] l.length (fun k u14 wx => ∃ i b s, i + k = l.length /\ u14 = .int .i64 i /\ OkO (wayO b s) /\ passC l (layR cl) l.length 0 (some e) = passC l (layR cl) k i (wayO b s) /\ Kn [] w wx [(B, plC b s, 168), (w.heap.size, stC e, 29)])
    case atStart => exact ⟨0, true, e, by omega, rfl, HE0.out, rfl, hk⟩
    case round =>
     clear hk HE0
     obtain ⟨i, b, s, hik, rfl, hok, hpass, hk⟩ := hrel
     have HOKS := hide hok
     have HPS := hide (HCH.out.trans hpass)
     clear hok hpass
     match gk, hik, HPS with
     | 0, hik, HPS =>
       have e2 : i = l.length := by omega
       subst e2
       clear hik
       have HPZ : Hid (checkR l e cl = if b then (8, l.length) else (0, 0)) := hide (by rw [HPS.out, pass_zero, wayO_is])
       clear HPS HOKS
       cases b
       · go_wp2_with ((with_reducible apply gL); (first | refine wS hk ?_ | (refine wN hk ?_; clear hk; intro w1 hk)); simp only [pw])
         go_ret2
         exact ⟨pair_two HPZ.out, hk.mod.below⟩
       · go_wp2_with ((with_reducible apply gL); (first | refine wS hk ?_ | (refine wN hk ?_; clear hk; intro w1 hk)); simp only [pw])
         go_ret2
         exact ⟨pair_two HPZ.out, hk.mod.below⟩
     | k + 1, hik, HPS =>
       have hlt : i < l.length := by omega
       have hfit := HAF.out.fit hlt
       have hin := HI.out i hlt
       rw [<- insAt_get hlt] at hin
       have hx5 := hin.range
       have hx4 := hin.2.2.2.2
       clear hin
       have HIK := hide hik
       clear hik
       obtain ⟨M, hM⟩ : ∃ M, markI l i = M := ⟨_, rfl⟩
       have HM := hide hM
       have HMB : Hid (markB l i = M) := hide (by rw [<- markI_nat HAF.out, hM])
       clear hM
       go_upto_if 86 with (first | (go_at_call 71; refine (rf_mark l hL _ _ _ (HV.out.below hk.mod.below (Nat.le_refl _))).mono ?_; rintro e w1 ⟨rfl, hb⟩; replace hk := hk.call hb; clear hb; rw [HM.out]) | ((with_reducible apply gL); (first | refine wS hk ?_ | (refine wN hk ?_; clear hk; intro w1 hk)); simp only [pw]))
       go_cut [15] (fun _ wc => ∃ b' s', (markB l i = true -> liesO (wayO b s) (layR cl i) = true) /\ (if markB l i = true then layR cl i else wayO b s) = wayO b' s' /\ Kn [] w wc [(B, plC b' s', 168), (w.heap.size, stC e, 29)])
       case first =>
        cases M with
        | false =>
          go_wp2_with ((with_reducible apply gL); (first | refine wS hk ?_ | (refine wN hk ?_; clear hk; intro w1 hk)); simp only [pw])
          go_meet
          case rel => exact ⟨b, s, fun h => (by rw [HMB.out] at h; cases h), by rw [HMB.out]; rfl, hk⟩
        | true =>
          obtain ⟨yb, hyb⟩ : ∃ yb, (findC cl i).isSome = yb := ⟨_, rfl⟩
          obtain ⟨ys, hys⟩ : ∃ ys, stO (findC cl i) = ys := ⟨_, rfl⟩
          have HY : Hid (wayO yb ys = layR cl i) := hide (by rw [<- hyb, <- hys, way_of, lay_find HP0.out HPW.out])
          have HYB := hide hyb
          have HYS := hide hys
          clear hyb hys
          cases b with
          | false =>
            go_wp2_with (first | (first | (go_at_call 73; refine (rf_claim cl hcl _ _ _ (HC.out.below hk.mod.below (Nat.le_refl _))).mono ?_; rintro e w1 ⟨rfl, hb⟩; replace hk := hk.call hb; clear hb); rw [HYB.out, HYS.out] | (go_at_call 74; refine (rf_in0 _ _ _ _).mono ?_; rintro e w1 ⟨rfl, hb⟩; replace hk := hk.call hb; clear hb)) | ((with_reducible apply gL); (first | refine wS hk ?_ | (refine wN hk ?_; clear hk; intro w1 hk)); simp only [pw]))
            go_meet
            case rel => exact ⟨yb, ys, fun _ => rfl, by rw [HMB.out, HY.out]; rfl, hk.drop⟩
          | true =>
            cases hL : (yb && liesR s ys) with
            | false =>
              have HL := hide hL
              clear hL
              go_wp2_with (first | (first | (go_at_call 73; refine (rf_claim cl hcl _ _ _ (HC.out.below hk.mod.below (Nat.le_refl _))).mono ?_; rintro e w1 ⟨rfl, hb⟩; replace hk := hk.call hb; clear hb); rw [HYB.out, HYS.out] | (go_at_call 74; refine (rf_in1 _ _ _ _).mono ?_; rintro e w1 ⟨rfl, hb⟩; replace hk := hk.call hb; clear hb); rw [HL.out]) | ((with_reducible apply gL); (first | refine wS hk ?_ | (refine wN hk ?_; clear hk; intro w1 hk)); simp only [pw]))
              go_ret2
              exact ⟨pair_two (HPS.out.trans (step_lies HMB.out ((way_lies HY.out).trans HL.out))), hk.mod.below⟩
            | true =>
              have HL := hide hL
              clear hL
              go_wp2_with (first | (first | (go_at_call 73; refine (rf_claim cl hcl _ _ _ (HC.out.below hk.mod.below (Nat.le_refl _))).mono ?_; rintro e w1 ⟨rfl, hb⟩; replace hk := hk.call hb; clear hb); rw [HYB.out, HYS.out] | (go_at_call 74; refine (rf_in1 _ _ _ _).mono ?_; rintro e w1 ⟨rfl, hb⟩; replace hk := hk.call hb; clear hb); rw [HL.out]) | ((with_reducible apply gL); (first | refine wS hk ?_ | (refine wN hk ?_; clear hk; intro w1 hk)); simp only [pw]))
              go_meet
              case rel => exact ⟨yb, ys, fun _ => (way_lies HY.out).trans HL.out, by rw [HMB.out, HY.out]; rfl, hk.drop⟩
       case rest =>
        clear hk HM
        obtain ⟨b', s', h1, h2, hk⟩ := hcut
        have H1 := hide h1
        have H2 := hide h2
        clear h1 h2
        cases b' with
        | false =>
          go_wp2_with ((with_reducible apply gL); (first | refine wS hk ?_ | (refine wN hk ?_; clear hk; intro w1 hk)); simp only [pw])
          go_roundg k
          case measure => omega
          case rel => exact ⟨i + 1, false, s', by have := HIK.out; omega, by go_num, fun t ht => (by cases ht), HCH.out.symm.trans (HPS.out.trans (step_none H1.out H2.out)), hk⟩
        | true =>
          have hok' : s'.ok /\ s'.in64 := by
           have : OkO (wayO true s') := by
            rw [<- H2.out]
            split
            · exact HOK.out i
            · exact HOKS.out
           exact this s' rfl
          have hfl : OkO (flowOn (insAt l i) s') := fun t ht => flowOn_keeps (HAF.out.regs hlt) (H64.out.k i hlt) hok'.1 hok'.2 ht
          obtain ⟨b1, s1, b2, s2, hbec⟩ := rf_becomes (insAt l i) l.length hfit s' hok'.1 hok'.2
          have HFL : Hid (OkO (wayO b2 s2)) := hide (by rw [hbec.2.1]; exact hfl)
          have HBF := hide hbec.1
          have HBO := hide hbec.2.1
          have HBW := hide hbec.2.2
          clear hbec hfl hok'
          obtain ⟨yb, hyb⟩ : ∃ yb, (findC cl (insAt l i).k).isSome = yb := ⟨_, rfl⟩
          obtain ⟨ys, hys⟩ : ∃ ys, stO (findC cl (insAt l i).k) = ys := ⟨_, rfl⟩
          have HFF := hide (far_find HAF.out HP0.out HPW.out hlt HBF.out (yb := yb) (ys := ys) (by rw [<- hyb, <- hys, way_of]))
          have HYB := hide hyb
          have HYS := hide hys
          clear hyb hys
          obtain ⟨x, hx⟩ : ∃ x, insAt l i = x := ⟨_, rfl⟩
          rw [hx] at hfit hx5 hx4 HBW HYB HYS
          have HX := hide hx
          clear hx
          obtain ⟨D, hD⟩ : ∃ D, dangR x s' = D := ⟨_, rfl⟩
          have HD := hide hD
          clear hD
          by_cases hD0 : D = 0
          · subst hD0
            go_wp2_with ((with_reducible apply gL); (first | refine wS hk ?_ | (refine wN hk ?_; clear hk; intro w1 hk)); simp only [pw])
            (refine wp_regK hk (.op 0 (.op 1 (.op 2 (.op 3 (.op 4 (.op 5 (.op 6 (.op 7 .nil)))))))) (fun i => decide (i < 7)) mixT (by decide) (by kernel_rfl) (by kernel_rfl) ?_; clear hk; intro w1 hk)
            (repeat (refine sV hk ?_; simp only [pw]))
            (refine sCall ?_; intro K hK; go_step; go_at_call 75; refine (rf_danger x _ hfit _ _).mono ?_; rintro e w1 ⟨rfl, hb⟩; replace hk := hk.call hb; clear hb; refine hK _ _ (fun _ => kH hk) ?_; clear hK K)
            rw [HD.out]
            (repeat (refine sV hk ?_; simp only [pw]))
            refine tNil ?_
            go_upto_region 26 with ((with_reducible apply gL); (first | refine wS hk ?_ | (refine wN hk ?_; clear hk; intro w1 hk)); simp only [pw])
            go_cut [18, 19] (fun u18 u19 wc => ∃ g1 g2, u18 = .pointer (some ⟨g1, 0, none⟩) /\ u19 = .pointer (some ⟨g2, 0, none⟩) /\ Kn [] w wc [(g1, plC b1 s1, 168), (g2, plC b2 s2, 168), (B, plC true s', 168), (w.heap.size, stC e, 29)])
            case first =>
             refine wp_reg3 hk (.op 0 (.op 1 (.op 2 (.op 3 (.op 4 (.op 5 .nil)))))) (fun i => decide (i < 14)) 7 6 10 11 (.op 7 (.op 8 (.op 9 (.either 10 11 (.op 11 (.op 12 (.op 13 .nil))) (.op 10 (.op 12 (.op 13 .nil))))))) (.either 6 11 (.op 7 (.op 8 (.op 9 (.op 11 (.op 12 (.op 13 .nil)))))) (.op 6 (.op 7 (.op 8 (.op 9 (.op 12 (.op 13 .nil))))))) (.either 6 10 (.op 7 (.op 8 (.op 9 (.op 10 (.op 12 (.op 13 .nil)))))) (.op 6 (.op 7 (.op 8 (.op 9 (.op 12 (.op 13 .nil))))))) #[true, true, true, true, true, true, false, false, false, false, false, false, false, false] mixT (by decide) (by kernel_rfl) (by kernel_rfl) (by kernel_rfl) (by kernel_rfl) (by kernel_rfl) (by kernel_rfl) (by decide) ?_
             clear hk
             intro w1 hk
             (repeat (refine sV (by first | exact hk | exact hk.drop | exact hk.drop.drop) ?_; simp only [pw]))
             refine tNil ?_
             refine ⟨?_, ?_, ?_⟩
             · (refine sCall ?_; intro K hK; go_step; go_at_call 76; refine (HBW.out _).mono ?_; rintro e w1 ⟨rfl, hb⟩; replace hk := hk.call hb; clear hb; refine hK _ _ (fun _ => kH hk) ?_; clear hK K)
               (repeat (refine sV (by first | exact hk | exact hk.drop | exact hk.drop.drop) ?_; simp only [pw]))
               refine tSplit (by rfl) (by rfl) (by rfl) (by rfl) (by rfl) (by rfl) ?_ ?_
               · (refine sAlloc hk ?_; clear hk; intro w1 hk; refine ⟨fun _ => kH hk, ?_⟩; simp only [pw])
                 (refine sAlloc hk ?_; clear hk; intro w1 hk; refine ⟨fun _ => kH hk, ?_⟩; simp only [pw])
                 (refine sStore hk ?_; clear hk; intro w1 hk; refine ⟨fun _ => kH hk, ?_⟩; simp only [pw])
                 (refine sStore hk ?_; clear hk; intro w1 hk; refine ⟨fun _ => kH hk, ?_⟩; simp only [pw])
                 refine tNil ?_
                 go_wp2_with ((with_reducible apply gL); (first | refine wS hk ?_ | (refine wN hk ?_; clear hk; intro w1 hk)); simp only [pw])
                 go_meet
                 case rel => exact ⟨_, _, rfl, rfl, hk.swap⟩
               · (refine sAlloc hk ?_; clear hk; intro w1 hk; refine ⟨fun _ => kH hk, ?_⟩; simp only [pw])
                 (refine sAlloc hk ?_; clear hk; intro w1 hk; refine ⟨fun _ => kH hk, ?_⟩; simp only [pw])
                 (refine sStore hk ?_; clear hk; intro w1 hk; refine ⟨fun _ => kH hk, ?_⟩; simp only [pw])
                 (refine sStore hk ?_; clear hk; intro w1 hk; refine ⟨fun _ => kH hk, ?_⟩; simp only [pw])
                 refine tNil ?_
                 go_wp2_with ((with_reducible apply gL); (first | refine wS hk ?_ | (refine wN hk ?_; clear hk; intro w1 hk)); simp only [pw])
                 go_meet
                 case rel => exact ⟨_, _, rfl, rfl, hk⟩
             · (refine sAlloc hk ?_; clear hk; intro w1 hk; refine ⟨fun _ => kH hk, ?_⟩; simp only [pw])
               refine tSplit (by rfl) (by rfl) (by rfl) (by rfl) (by rfl) (by rfl) ?_ ?_
               · (refine sCall ?_; intro K hK; go_step; go_at_call 76; refine (HBW.out _).mono ?_; rintro e w1 ⟨rfl, hb⟩; replace hk := hk.call hb; clear hb; refine hK _ _ (fun _ => kH hk) ?_; clear hK K)
                 (repeat (refine sV (by first | exact hk | exact hk.drop | exact hk.drop.drop) ?_; simp only [pw]))
                 (refine sAlloc hk ?_; clear hk; intro w1 hk; refine ⟨fun _ => kH hk, ?_⟩; simp only [pw])
                 (refine sStore hk ?_; clear hk; intro w1 hk; refine ⟨fun _ => kH hk, ?_⟩; simp only [pw])
                 (refine sStore hk ?_; clear hk; intro w1 hk; refine ⟨fun _ => kH hk, ?_⟩; simp only [pw])
                 refine tNil ?_
                 go_wp2_with ((with_reducible apply gL); (first | refine wS hk ?_ | (refine wN hk ?_; clear hk; intro w1 hk)); simp only [pw])
                 go_meet
                 case rel => exact ⟨_, _, rfl, rfl, hk.swap⟩
               · (refine sAlloc hk ?_; clear hk; intro w1 hk; refine ⟨fun _ => kH hk, ?_⟩; simp only [pw])
                 (refine sCall ?_; intro K hK; go_step; go_at_call 76; refine (HBW.out _).mono ?_; rintro e w1 ⟨rfl, hb⟩; replace hk := hk.call hb; clear hb; refine hK _ _ (fun _ => kH hk) ?_; clear hK K)
                 (repeat (refine sV (by first | exact hk | exact hk.drop | exact hk.drop.drop) ?_; simp only [pw]))
                 (refine sStore hk ?_; clear hk; intro w1 hk; refine ⟨fun _ => kH hk, ?_⟩; simp only [pw])
                 (refine sStore hk ?_; clear hk; intro w1 hk; refine ⟨fun _ => kH hk, ?_⟩; simp only [pw])
                 refine tNil ?_
                 go_wp2_with ((with_reducible apply gL); (first | refine wS hk ?_ | (refine wN hk ?_; clear hk; intro w1 hk)); simp only [pw])
                 go_meet
                 case rel => exact ⟨_, _, rfl, rfl, hk.swap⟩
             · (refine sAlloc hk ?_; clear hk; intro w1 hk; refine ⟨fun _ => kH hk, ?_⟩; simp only [pw])
               refine tSplit (by rfl) (by rfl) (by rfl) (by rfl) (by rfl) (by rfl) ?_ ?_
               · (refine sCall ?_; intro K hK; go_step; go_at_call 76; refine (HBW.out _).mono ?_; rintro e w1 ⟨rfl, hb⟩; replace hk := hk.call hb; clear hb; refine hK _ _ (fun _ => kH hk) ?_; clear hK K)
                 (repeat (refine sV (by first | exact hk | exact hk.drop | exact hk.drop.drop) ?_; simp only [pw]))
                 (refine sAlloc hk ?_; clear hk; intro w1 hk; refine ⟨fun _ => kH hk, ?_⟩; simp only [pw])
                 (refine sStore hk ?_; clear hk; intro w1 hk; refine ⟨fun _ => kH hk, ?_⟩; simp only [pw])
                 (refine sStore hk ?_; clear hk; intro w1 hk; refine ⟨fun _ => kH hk, ?_⟩; simp only [pw])
                 refine tNil ?_
                 go_wp2_with ((with_reducible apply gL); (first | refine wS hk ?_ | (refine wN hk ?_; clear hk; intro w1 hk)); simp only [pw])
                 go_meet
                 case rel => exact ⟨_, _, rfl, rfl, hk⟩
               · (refine sAlloc hk ?_; clear hk; intro w1 hk; refine ⟨fun _ => kH hk, ?_⟩; simp only [pw])
                 (refine sCall ?_; intro K hK; go_step; go_at_call 76; refine (HBW.out _).mono ?_; rintro e w1 ⟨rfl, hb⟩; replace hk := hk.call hb; clear hb; refine hK _ _ (fun _ => kH hk) ?_; clear hK K)
                 (repeat (refine sV (by first | exact hk | exact hk.drop | exact hk.drop.drop) ?_; simp only [pw]))
                 (refine sStore hk ?_; clear hk; intro w1 hk; refine ⟨fun _ => kH hk, ?_⟩; simp only [pw])
                 (refine sStore hk ?_; clear hk; intro w1 hk; refine ⟨fun _ => kH hk, ?_⟩; simp only [pw])
                 refine tNil ?_
                 go_wp2_with ((with_reducible apply gL); (first | refine wS hk ?_ | (refine wN hk ?_; clear hk; intro w1 hk)); simp only [pw])
                 go_meet
                 case rel => exact ⟨_, _, rfl, rfl, hk⟩
            case rest =>
             clear hk
             obtain ⟨g1, g2, rfl, rfl, hk⟩ := hcut
             cases b1 with
             | false =>
               go_wp2_with (first | (first | (go_at_call 73; refine (rf_claim cl hcl _ _ _ (HC.out.below hk.mod.below (Nat.le_refl _))).mono ?_; rintro e w1 ⟨rfl, hb⟩; replace hk := hk.call hb; clear hb); rw [HYB.out, HYS.out] | (go_at_call 74; refine (rf_in0 _ _ _ _).mono ?_; rintro e w1 ⟨rfl, hb⟩; replace hk := hk.call hb; clear hb)) | ((with_reducible apply gL); (first | refine wS hk ?_ | (refine wN hk ?_; clear hk; intro w1 hk)); simp only [pw]))
               go_roundg k
               case measure => omega
               case rel => exact ⟨i + 1, b2, s2, by have := HIK.out; omega, by go_num, HFL.out, HCH.out.symm.trans (HPS.out.trans ((step_on H1.out H2.out (by rw [HX.out]; exact HD.out) (fun h9 => by rw [HFF.out.1 h9]; rfl)).trans (by rw [HBO.out]))), hk.sub (by repeat (first | exact List.Sublist.slnil | refine List.Sublist.cons_cons _ ?_ | refine List.Sublist.cons _ ?_))⟩
             | true =>
               have H9 := hide (HFF.out.2 rfl)
               have HFA : Hid (liesO (flowFar (insAt l i) s') (layR cl (insAt l i).k.toNat) = (yb && liesR s1 ys)) := hide (HFF.out.1 H9.out)
               cases hL : (yb && liesR s1 ys) with
               | false =>
                 have HL := hide hL
                 clear hL
                 go_wp2_with (first | (first | (go_at_call 73; refine (rf_claim cl hcl _ _ _ (HC.out.below hk.mod.below (Nat.le_refl _))).mono ?_; rintro e w1 ⟨rfl, hb⟩; replace hk := hk.call hb; clear hb); rw [HYB.out, HYS.out] | (go_at_call 74; refine (rf_in1 _ _ _ _).mono ?_; rintro e w1 ⟨rfl, hb⟩; replace hk := hk.call hb; clear hb); rw [HL.out]) | ((with_reducible apply gL); (first | refine wS hk ?_ | (refine wN hk ?_; clear hk; intro w1 hk)); simp only [pw]))
                 go_ret2
                 exact ⟨pair_two (HPS.out.trans (step_far H1.out H2.out (by rw [HX.out]; exact HD.out) H9.out (HFA.out.trans HL.out))), hk.mod.below⟩
               | true =>
                 have HL := hide hL
                 clear hL
                 go_wp2_with (first | (first | (go_at_call 73; refine (rf_claim cl hcl _ _ _ (HC.out.below hk.mod.below (Nat.le_refl _))).mono ?_; rintro e w1 ⟨rfl, hb⟩; replace hk := hk.call hb; clear hb); rw [HYB.out, HYS.out] | (go_at_call 74; refine (rf_in1 _ _ _ _).mono ?_; rintro e w1 ⟨rfl, hb⟩; replace hk := hk.call hb; clear hb); rw [HL.out]) | ((with_reducible apply gL); (first | refine wS hk ?_ | (refine wN hk ?_; clear hk; intro w1 hk)); simp only [pw]))
                 go_roundg k
                 case measure => omega
                 case rel => exact ⟨i + 1, b2, s2, by have := HIK.out; omega, by go_num, HFL.out, HCH.out.symm.trans (HPS.out.trans ((step_on H1.out H2.out (by rw [HX.out]; exact HD.out) (fun _ => HFA.out.trans HL.out)).trans (by rw [HBO.out]))), hk.sub (by repeat (first | exact List.Sublist.slnil | refine List.Sublist.cons_cons _ ?_ | refine List.Sublist.cons _ ?_))⟩
          · have hDn : (D == 0) = false := by rw [beq_eq_false_iff_ne]; exact hD0
            go_wp2_with ((with_reducible apply gL); (first | refine wS hk ?_ | (refine wN hk ?_; clear hk; intro w1 hk)); simp only [pw])
            (refine wp_regK hk (.op 0 (.op 1 (.op 2 (.op 3 (.op 4 (.op 5 (.op 6 (.op 7 .nil)))))))) (fun i => decide (i < 7)) mixT (by decide) (by kernel_rfl) (by kernel_rfl) ?_; clear hk; intro w1 hk)
            (repeat (refine sV hk ?_; simp only [pw]))
            (refine sCall ?_; intro K hK; go_step; go_at_call 75; refine (rf_danger x _ hfit _ _).mono ?_; rintro e w1 ⟨rfl, hb⟩; replace hk := hk.call hb; clear hb; refine hK _ _ (fun _ => kH hk) ?_; clear hK K)
            rw [HD.out]
            (repeat (refine sV hk ?_; simp only [pw]))
            refine tNil ?_
            go_wp2_with ((with_reducible apply gL); (first | refine wS hk ?_ | (refine wN hk ?_; clear hk; intro w1 hk)); simp only [pw])
            go_ret2
            exact ⟨pair_two (HPS.out.trans ((step_dang H1.out H2.out (by rw [HX.out, HD.out]; exact hD0)).trans (by rw [HX.out, HD.out]))), hk.mod.below⟩
end Go.Proofs.YtamiichlbmllcabGreatDoor
