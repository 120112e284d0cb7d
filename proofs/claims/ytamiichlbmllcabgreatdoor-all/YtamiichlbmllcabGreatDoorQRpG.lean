import Derived.Test.YtamiichlbmllcabGreatDoorQRpH
set_option maxRecDepth 100000
set_option maxHeartbeats 32000000
namespace Go.Proofs.YtamiichlbmllcabGreatDoor
open Go.RowKit
theorem InsAt.mod {w w' : World} {b o : Nat} {i : I5} {M : List Nat} (h : InsAt w b o i) (hm : Mod M w w') (hb : b < w.heap.size) (hM : b ∉ M) : InsAt w' b o i := by
 have e : ∀ q, w'.cell? ⟨b, q, none⟩ = w.cell? ⟨b, q, none⟩ := fun q => World.cell?_of_block (w := w) (a := ⟨b, q, none⟩) (hm.block b hb hM)
 unfold InsAt at *
 rw [e, e, e, e, e]
 exact h
theorem takes_cnt (back : Nat -> Bool) (v : PS) (m : Nat) (x : Option St) : (takesP back v m x).cnt = v.cnt := by
 cases hl : liesO x (v.W m) with
 | true => rw [takes_no hl]
 | false => rw [takes_at hl]
theorem cntE_zero {v : PS} (h : v.chg = fun _ => false) : cntE v = v.cnt := by
 funext j
 unfold cntE
 rw [h]
 simp
theorem stepP_un {l : List I5} {i : Nat} {come : Option St} {vi v' : PS} (hv : (if markB l i = true then takesP (backB l) vi i come else vi) = v') (hh : (if markB l i = true then v'.W i else come) = none) : stepP l i come vi = (v', none) := by
 unfold stepP
 cases hm : markB l i with
 | true =>
   rw [hm] at hv hh
   simp only [if_true] at hv hh ⊢
   rw [hv, hh]
 | false =>
   rw [hm] at hv hh
   simp only [Bool.false_eq_true, if_false] at hv hh ⊢
   rw [hv, hh]
theorem stepP_on {l : List I5} {i : Nat} {come : Option St} {vi v' : PS} {s : St} (hv : (if markB l i = true then takesP (backB l) vi i come else vi) = v') (hh : (if markB l i = true then v'.W i else come) = some s) : stepP l i come vi = (if 9 <= (insAt l i).o then takesP (backB l) v' (insAt l i).k.toNat (flowFar (insAt l i) s) else v', flowOn (insAt l i) s) := by
 unfold stepP
 cases hm : markB l i with
 | true =>
   rw [hm] at hv hh
   simp only [if_true] at hv hh ⊢
   rw [hv, hh]
 | false =>
   rw [hm] at hv hh
   simp only [Bool.false_eq_true, if_false] at hv hh ⊢
   rw [hv, hh]
theorem any_no {l : List I5} {v : PS} (h : ∀ q, q < l.length -> v.chg q = false) : anyChg l v = false := by
 unfold anyChg
 rw [List.any_eq_false]
 intro q hq
 rw [h q (List.mem_range.1 hq)]
 simp
theorem any_yes {l : List I5} {v : PS} {j : Nat} (hj : j < l.length) (h : v.chg j = true) : anyChg l v = true := List.any_eq_true.2 ⟨j, List.mem_range.2 hj, h⟩
theorem Kn.comes {V wb cb tb B wz n : Nat} {w0 w w' : World} {PB PV PE : Array Value} {v v' : PS} {L0 : RowL} (h : Kn [V, wb, cb] w0 w (L0 ++ [(B, PB, 168), (tb, bosA n v.chg, 4), (wz, PE, 29), (V, PV, 178), (wb, plsA n v.W, 168), (cb, intA n (cntE v), 3)])) (hc : ComesP n wb cb tb v' w w') (ht : w0.heap.size <= tb) :
 Kn [V, wb, cb] w0 w' (L0 ++ [(B, PB, 168), (tb, bosA n v'.chg, 4), (wz, PE, 29), (V, PV, 178), (wb, plsA n v'.W, 168), (cb, intA n (cntE v'), 3)]) := by
 obtain ⟨hm, q1, q2, q3⟩ := hc
 have hd := h.dis
 have key : ∀ x, x ∈ L0 ++ [(B, PB, 168), (tb, bosA n v.chg, 4), (wz, PE, 29), (V, PV, 178), (wb, plsA n v.W, 168), (cb, intA n (cntE v), 3)] -> x.1 ∉ [wb, cb, tb] -> At w' x.1 x.2.1 x.2.2 := fun x hx hn => (h.has x hx).1.mod hm hn
 have apart : ∀ x, x ∈ L0 -> x.1 ≠ wb /\ x.1 ≠ cb /\ x.1 ≠ tb := fun x hx => by
  have := (List.pairwise_append.1 hd).2.2 x hx
  exact ⟨this (wb, plsA n v.W, 168) (by simp), this (cb, intA n (cntE v), 3) (by simp), this (tb, bosA n v.chg, 4) (by simp)⟩
 have hd2 := (List.pairwise_append.1 hd).2.1
 simp only [List.pairwise_cons, List.mem_cons, List.not_mem_nil, or_false, forall_eq_or_imp, forall_eq] at hd2
 refine h.callY hm (fun b hb => ?_) (by simp) (fun x hx => ?_)
 · simp only [List.mem_cons, List.not_mem_nil, or_false] at hb
   rcases hb with rfl | rfl | rfl
   · exact Or.inr (by simp)
   · exact Or.inr (by simp)
   · exact Or.inl ht
 · rcases List.mem_append.1 hx with hx | hx
   · obtain ⟨a1, a2, a3⟩ := apart x hx
     exact key x (List.mem_append_left _ hx) (by simp [a1, a2, a3])
   · simp only [List.mem_cons, List.not_mem_nil, or_false] at hx
     rcases hx with rfl | rfl | rfl | rfl | rfl | rfl
     · exact key _ (List.mem_append_right _ (by simp)) (by simp; omega)
     · exact q3
     · exact key _ (List.mem_append_right _ (by simp)) (by simp; omega)
     · exact key _ (List.mem_append_right _ (by simp)) (by simp; omega)
     · exact q1
     · exact q2
def PassP (l : List I5) (V wb cb bb : Nat) (v1 : PS) (r : Ending) (w w' : World) : Prop := r = .returned (.bool (anyChg l v1)) /\ Mod [V, wb, cb] w w' /\ (∃ tp tn tc, At w' V (rpT wb cb (.slice tp tn tc) bb l.length) 178) /\ At w' wb (plsA l.length v1.W) 168 /\ At w' cb (intA l.length (cntE v1)) 3
theorem rf_pass (l : List I5) (hr : rightR l = (0, 0)) (h64 : ∀ i, i < l.length -> I64 (insAt l i).k) (V wb cb bb : Nat) (tp : Option Addr) (tn tc : Nat) (v : PS) (hch : v.chg = fun _ => false) (e : St) (he : e.ok /\ e.in64) (hI : PInv l v) (hcb : ∀ k, backB l k = true -> v.cnt k <= 20) (pb poff pcap : Nat) (w : World) (hpb : pb < w.heap.size) (hIn : ∀ i (h : i < l.length), InsAt w pb (poff + i * 5) l[i]) (hne : wb ≠ cb) (hVw : V ≠ wb) (hVc : V ≠ cb) (hbM : bb ∉ [V, wb, cb]) (hpM : pb ∉ [V, wb, cb])
 (hV : At w V (rpT wb cb (.slice tp tn tc) bb l.length) 178) (hW : At w wb (plsA l.length v.W) 168) (hC : At w cb (intA l.length v.cnt) 3) (hK : At w bb (bosA l.length (backB l)) 4) :
 Calls Tryz.prog 78 #[.pointer (some ⟨V, 0, none⟩), .slice (some ⟨pb, poff, none⟩) l.length pcap, .agg (stC e)] w fun r w' => PassP l V wb cb bb (passP l l.length 0 (some e) v) r w w' := by
 have HAF := hide (right_fit hr)
 have hL : l.length < 4000000000000 := by have := HAF.out.2.1; omega
 have hl64 := HAF.out.2.1
 have HIN := hide hIn
 have H64 := hide h64
 have HSL : Hid (∀ w', Mod [V, wb, cb] w w' -> Slc w' (.slice (some ⟨pb, poff, none⟩) l.length pcap) l) := hide fun w' hm => Or.inr ⟨pb, poff, pcap, rfl, Nat.lt_of_lt_of_le hpb hm.size, fun i hi => (HIN.out i hi).mod hm hpb hpM⟩
 rw [<- cntE_zero hch] at hC
 have HVL := hide hV.lt
 have HWL := hide hW.lt
 have HCL := hide hC.lt
 have HKK := hide hK
 have HI := hide hI
 have HCB := hide hcb
 have HE := hide he
 have hk := Kn.three hV hW hC hVw hVc hne
 clear hV hW hC hIn h64 hr hI hcb he hK
 obtain ⟨v1, hv1⟩ : ∃ v1, passP l l.length 0 (some e) v = v1 := ⟨_, rfl⟩
 rw [hv1]
 have HV1 := hide hv1
 clear hv1
 go_enter Tryz.func78, Tryz.ntmps78
 go_upto_region 2 with (first | ((with_reducible show wpList _ _ _ (⟨some 5, _, _, _, _, _⟩ :: _) _ _); refine wBox hk ?_; clear hk; intro wa hk; have HTB := hide (hk.at (A := stC e) mm).lt; simp only [pw]) | ((with_reducible show wpList _ _ _ (⟨none, _, _, _, _, _⟩ :: _) _ _); refine wStore1S hk ?_ (hj := by show 2 + 1 <= 4; omega) (hA := rfl); clear hk; intro w1 hk; simp only [pw]) | ((with_reducible apply gL); (first | refine wS hk ?_ | (refine wN hk ?_; clear hk; intro w1 hk)); simp only [pw]))
 obtain ⟨tb, htb⟩ : ∃ t, wa.heap.size = t := ⟨_, rfl⟩
 rw [htb] at HTB hk ⊢
 clear htb
 replace hk : Kn [V, wb, cb] w w1 [(tb, bosA l.length v.chg, 4), (w.heap.size, stC e, 29), (V, rpC wb cb tb bb l.length, 178), (wb, plsA l.length v.W, 168), (cb, intA l.length (cntE v), 3)] := by rw [hch]; exact hk
 obtain ⟨B, hBe⟩ : ∃ b, w1.heap.size = b := ⟨_, rfl⟩
 have HBT : Hid (tb < B) := hide (by rw [<- hBe]; exact (hk.at (A := bosA l.length v.chg) mm).lt)
 go_wp2_with ((with_reducible apply gL); (first | refine wS hk ?_ | (refine wN hk ?_; clear hk; intro w1 hk)); simp only [pw])
 simp only [hBe] at hk ⊢
 clear hBe
 have HNB : Hid (tb ≠ V /\ tb ≠ wb /\ tb ≠ cb /\ B ≠ wb /\ B ≠ cb /\ B ≠ tb /\ w.heap.size ≠ wb /\ w.heap.size ≠ cb /\ w.heap.size ≠ tb) := hide (by have h1 := HVL.out; have h2 := HWL.out; have h3 := HCL.out; have h4 := HTB.out; have h5 := HBT.out; omega)
 have HBB : Hid (bb ∉ [wb, cb, tb]) := hide (by have h1 := HKK.out.lt; have h2 := HTB.out; simp at hbM ⊢; omega)
 go_loopg [8] l.length (fun k u8 wx => ∃ i b s vi, i + k = l.length /\ u8 = .int .i64 i /\ OkO (wayO b s) /\ PInv l vi /\ vi.cnt = v.cnt /\ v1 = passP l k i (wayO b s) vi /\ Kn [V, wb, cb] w wx [(B, plC b s, 168), (tb, bosA l.length vi.chg, 4), (w.heap.size, stC e, 29), (V, rpC wb cb tb bb l.length, 178), (wb, plsA l.length vi.W, 168), (cb, intA l.length (cntE vi), 3)])
 case atStart => exact ⟨0, true, e, v, by omega, rfl, okO_way HE.out.1 HE.out.2, HI.out, rfl, HV1.out.symm, hk⟩
 case round =>
  clear hk HV1 HI hch
  obtain ⟨i, b, s, vi, hik, rfl, hok, hinv, hcnt, hpass, hk⟩ := hrel
  have HOKS := hide hok
  have HINV := hide hinv
  have HCN := hide hcnt
  have HPS := hide hpass
  clear hok hinv hcnt hpass
  match gk, hik, HPS with
  | 0, hik, HPS =>
    have e2 : i = l.length := by omega
    subst e2
    have e3 : v1 = vi := HPS.out
    subst e3
    clear hik HPS HOKS
    go_wp2_with ((with_reducible apply gL); (first | refine wS hk ?_ | (refine wN hk ?_; clear hk; intro w1 hk)); simp only [pw])
    go_loopw [12] (fun u wx => ∃ j : Nat, j <= l.length /\ u = .int .i64 j /\ (∀ q, q < j -> v1.chg q = false) /\ Kn [V, wb, cb] w wx [(B, plC b s, 168), (tb, bosA l.length v1.chg, 4), (w.heap.size, stC e, 29), (V, rpC wb cb tb bb l.length, 178), (wb, plsA l.length v1.W, 168), (cb, intA l.length (cntE v1), 3)]) (fun u _ => l.length - (intOf u).toNat)
    case atStart => exact ⟨0, by omega, rfl, fun q hq => by omega, hk⟩
    case round =>
     clear hk
     obtain ⟨j, hj, rfl, hno, hk⟩ := hrel
     have HNO := hide hno
     clear hno
     by_cases hlj : j < l.length
     · cases hc : v1.chg j with
       | true =>
         have R := hide (any_yes hlj hc)
         go_wp2_with ((with_reducible apply gL); (first | (refine wS hk ?_; simp only [pw]; (try rw [hc])) | (refine wN hk ?_; clear hk; intro w1 hk; simp only [pw])))
         go_ret
         exact ⟨ret_bool R.out.symm, hk.mod, ⟨_, _, _, hk.at (A := rpC wb cb tb bb l.length) mm⟩, hk.at mm, hk.at mm⟩
       | false =>
         go_wp2_with ((with_reducible apply gL); (first | (refine wS hk ?_; simp only [pw]; (try rw [hc])) | (refine wN hk ?_; clear hk; intro w1 hk; simp only [pw])))
         go_roundw
         case rel => exact ⟨j + 1, by omega, by go_num, fun q hq => by
          rcases Nat.lt_succ_iff_lt_or_eq.1 hq with h | h
          · exact HNO.out q h
          · rw [h]; exact hc, hk⟩
         case measure => simp [intOf]; omega
     · have e4 : j = l.length := by omega
       subst e4
       have R := hide (any_no HNO.out)
       go_wp2_with ((with_reducible apply gL); (first | refine wS hk ?_ | (refine wN hk ?_; clear hk; intro w1 hk)); simp only [pw])
       go_ret
       exact ⟨ret_bool R.out.symm, hk.mod, ⟨_, _, _, hk.at (A := rpC wb cb tb bb l.length) mm⟩, hk.at mm, hk.at mm⟩
  | k + 1, hik, HPS =>
    have hlt : i < l.length := by omega
    have hfit := HAF.out.fit hlt
    have hin := (HIN.out i hlt)
    rw [<- insAt_get hlt] at hin
    have hx5 := hin.range
    have hx4 := hin.2.2.2.2
    clear hin
    have HIK := hide hik
    clear hik
    obtain ⟨M, hM⟩ : ∃ M, markI l i = M := ⟨_, rfl⟩
    have HM := hide hM
    have HMB : Hid (markB l i = M) := hide (by rw [<- markI_nat HAF.out, hM])
    clear hM
    go_upto_if 30 with (first | (go_at_call 71; refine (rf_mark l hL _ _ _ (HSL.out _ hk.mod)).mono ?_; rintro e w1 ⟨rfl, hb⟩; replace hk := hk.call hb; clear hb; rw [HM.out]) | ((with_reducible apply gL); (first | refine wS hk ?_ | (refine wN hk ?_; clear hk; intro w1 hk)); simp only [pw]))
    go_cut [9] (fun _ wc => ∃ b' s' v', (if markB l i = true then takesP (backB l) vi i (wayO b s) else vi) = v' /\ (if markB l i = true then v'.W i else wayO b s) = wayO b' s' /\ Kn [V, wb, cb] w wc [(B, plC b' s', 168), (tb, bosA l.length v'.chg, 4), (w.heap.size, stC e, 29), (V, rpC wb cb tb bb l.length, 178), (wb, plsA l.length v'.W, 168), (cb, intA l.length (cntE v'), 3)])
    case first =>
     cases M with
     | false =>
       go_wp2_with ((with_reducible apply gL); (first | refine wS hk ?_ | (refine wN hk ?_; clear hk; intro w1 hk)); simp only [pw])
       go_meet
       case rel => exact ⟨b, s, vi, by rw [HMB.out]; rfl, by rw [HMB.out]; rfl, hk⟩
     | true =>
       go_wp2_with ((with_reducible apply gL); (first | refine wS hk ?_ | (refine wN hk ?_; clear hk; intro w1 hk)); simp only [pw])
       go_at_call 96
       refine (rf_comes l.length i hlt V wb cb tb bb (backB l) vi _ ⟨hk.at mm, HKK.out.mod hk.mod hbM, by simp [hVw, hVc, HNB.out.1.symm], HBB.out, hne, HNB.out.2.1.symm, HNB.out.2.2.1.symm⟩ (hk.at mm) (hk.at mm) (hk.at mm) b s (fun h => by rw [HCN.out]; exact HCB.out i h)).mono ?_
       rintro x w2 ⟨rfl, hcm⟩
       replace hk := Kn.comes (L0 := []) hk hcm (Nat.le_of_lt HTB.out)
       clear hcm
       obtain ⟨v', hv'⟩ : ∃ v', takesP (backB l) vi i (wayO b s) = v' := ⟨_, rfl⟩
       rw [hv'] at hk
       have HV' := hide hv'
       clear hv'
       simp only [List.nil_append] at hk
       go_wp2_with ((with_reducible apply gL); (first | refine wS hk ?_ | (refine wN hk ?_; clear hk; intro w1 hk)); simp only [pw])
       go_meet
       case rel => exact ⟨(v'.W i).isSome, stO (v'.W i), v', by rw [HMB.out]; exact HV'.out, by rw [HMB.out]; exact (way_of _).symm, hk⟩
    case rest =>
     clear hk HM
     obtain ⟨b', s', v', h1, h2, hk⟩ := hcut
     have HINV2 : Hid (PInv l v') := hide (by
      rw [<- h1]
      split
      · rename_i hm; exact takes_inv HINV.out hm HOKS.out
      · exact HINV.out)
     have HCN2 : Hid (v'.cnt = v.cnt) := hide (by
      rw [<- h1]
      split
      · rw [takes_cnt]; exact HCN.out
      · exact HCN.out)
     have H1 := hide h1
     have H2 := hide h2
     clear h1 h2
     cases b' with
     | false =>
       go_wp2_with ((with_reducible apply gL); (first | refine wS hk ?_ | (refine wN hk ?_; clear hk; intro w1 hk)); simp only [pw])
       go_roundg k
       case measure => omega
       case rel => exact ⟨i + 1, false, s', v', by have := HIK.out; omega, by go_num, fun t ht => (by cases ht), HINV2.out, HCN2.out, HPS.out.trans (by rw [passP, stepP_un H1.out H2.out]; rfl), hk⟩
     | true =>
       have hok' : s'.ok /\ s'.in64 := by
        have : OkO (wayO true s') := by
         rw [<- H2.out]
         split
         · exact HINV2.out.ok i
         · exact HOKS.out
        exact this s' rfl
       have hfl : OkO (flowOn (insAt l i) s') := fun t ht => flowOn_keeps (HAF.out.regs hlt) (H64.out i hlt) hok'.1 hok'.2 ht
       have hff : OkO (flowFar (insAt l i) s') := fun t ht => flowFar_keeps (HAF.out.regs hlt) hok'.1 hok'.2 ht
       obtain ⟨b1, s1, b2, s2, hbec⟩ := rf_becomes (insAt l i) l.length hfit s' hok'.1 hok'.2
       have HFL : Hid (OkO (wayO b2 s2)) := hide (by rw [hbec.2.1]; exact hfl)
       have HFF : Hid (OkO (wayO b1 s1)) := hide (by rw [hbec.1]; exact hff)
       have HBF := hide hbec.1
       have HBO := hide hbec.2.1
       have HBW := hide hbec.2.2
       clear hbec hfl hff hok'
       have HST := hide (stepP_on H1.out H2.out)
       have H9 : Hid (b1 = true -> 9 <= (insAt l i).o) := hide (fun h => by
        by_cases h9 : 9 <= (insAt l i).o
        · exact h9
        · have := HBF.out
          rw [far_none h9, h] at this
          cases this)
       have HKJ : Hid (b1 = true -> 0 <= (insAt l i).k /\ (insAt l i).k.toNat < l.length) := hide (fun h => HAF.out.k hlt (H9.out h))
       rw [<- HBF.out, <- HBO.out] at HST
       have HJM : Hid (9 <= (insAt l i).o -> ∀ kn : Nat, (insAt l i).k = kn -> markB l kn = true) := hide (fun h9 kn hk => by
        unfold markB
        rw [List.any_eq_true]
        exact ⟨insAt l i, by rw [insAt_get hlt]; exact List.getElem_mem hlt, by rw [decide_eq_true h9, decide_eq_true hk]; rfl⟩)
       obtain ⟨x, hx⟩ : ∃ x, insAt l i = x := ⟨_, rfl⟩
       rw [hx] at hfit hx5 hx4 HBW HST H9 HKJ HJM
       clear hx
       go_upto_region 11 with ((with_reducible apply gL); (first | refine wS hk ?_ | (refine wN hk ?_; clear hk; intro w1 hk)); simp only [pw])
       go_cut [10, 11] (fun u10 u11 wc => ∃ g1 g2, u10 = .pointer (some ⟨g1, 0, none⟩) /\ u11 = .pointer (some ⟨g2, 0, none⟩) /\ Kn [V, wb, cb] w wc ([(g1, plC b1 s1, 168), (g2, plC b2 s2, 168)] ++ [(B, plC true s', 168), (tb, bosA l.length v'.chg, 4), (w.heap.size, stC e, 29), (V, rpC wb cb tb bb l.length, 178), (wb, plsA l.length v'.W, 168), (cb, intA l.length (cntE v'), 3)]))
       case first =>
        refine wp_reg3 hk (.op 0 (.op 1 (.op 2 (.op 3 (.op 4 (.op 5 .nil)))))) (fun i => decide (i < 14)) 7 6 10 11 (.op 7 (.op 8 (.op 9 (.either 10 11 (.op 11 (.op 12 (.op 13 .nil))) (.op 10 (.op 12 (.op 13 .nil))))))) (.either 6 11 (.op 7 (.op 8 (.op 9 (.op 11 (.op 12 (.op 13 .nil)))))) (.op 6 (.op 7 (.op 8 (.op 9 (.op 12 (.op 13 .nil))))))) (.either 6 10 (.op 7 (.op 8 (.op 9 (.op 10 (.op 12 (.op 13 .nil)))))) (.op 6 (.op 7 (.op 8 (.op 9 (.op 12 (.op 13 .nil))))))) #[true, true, true, true, true, true, false, false, false, false, false, false, false, false] mixT (by decide) (by kernel_rfl) (by kernel_rfl) (by kernel_rfl) (by kernel_rfl) (by kernel_rfl) (by kernel_rfl) (by decide) ?_
        clear hk
        intro w1 hk
        (repeat (refine sV (by first | exact hk | exact hk.drop | exact hk.drop.drop) ?_; simp only [pw]))
        refine tNil ?_
        refine ⟨?_, ?_, ?_⟩
        · (refine sCall ?_; intro K hK; go_step; go_at_call 76; refine (HBW.out _).mono ?_; rintro e w1 ⟨rfl, hb⟩; replace hk := hk.call hb; clear hb; refine hK _ _ (fun _ => kH hk) ?_; clear hK K)
          (repeat (refine sV (by first | exact hk | exact hk.drop | exact hk.drop.drop) ?_; simp only [pw]))
          refine tSplit (by rfl) (by rfl) (by rfl) (by rfl) (by rfl) (by rfl) ?_ ?_
          · (refine sAlloc hk ?_; clear hk; intro w1 hk; refine ⟨fun _ => kH hk, ?_⟩; simp only [pw])
            (refine sAlloc hk ?_; clear hk; intro w1 hk; refine ⟨fun _ => kH hk, ?_⟩; simp only [pw])
            (refine sStore hk ?_; clear hk; intro w1 hk; refine ⟨fun _ => kH hk, ?_⟩; simp only [pw])
            (refine sStore hk ?_; clear hk; intro w1 hk; refine ⟨fun _ => kH hk, ?_⟩; simp only [pw])
            refine tNil ?_
            go_wp2_with ((with_reducible apply gL); (first | refine wS hk ?_ | (refine wN hk ?_; clear hk; intro w1 hk)); simp only [pw])
            go_meet
            case rel => exact ⟨_, _, rfl, rfl, hk.swap⟩
          · (refine sAlloc hk ?_; clear hk; intro w1 hk; refine ⟨fun _ => kH hk, ?_⟩; simp only [pw])
            (refine sAlloc hk ?_; clear hk; intro w1 hk; refine ⟨fun _ => kH hk, ?_⟩; simp only [pw])
            (refine sStore hk ?_; clear hk; intro w1 hk; refine ⟨fun _ => kH hk, ?_⟩; simp only [pw])
            (refine sStore hk ?_; clear hk; intro w1 hk; refine ⟨fun _ => kH hk, ?_⟩; simp only [pw])
            refine tNil ?_
            go_wp2_with ((with_reducible apply gL); (first | refine wS hk ?_ | (refine wN hk ?_; clear hk; intro w1 hk)); simp only [pw])
            go_meet
            case rel => exact ⟨_, _, rfl, rfl, hk⟩
        · (refine sAlloc hk ?_; clear hk; intro w1 hk; refine ⟨fun _ => kH hk, ?_⟩; simp only [pw])
          refine tSplit (by rfl) (by rfl) (by rfl) (by rfl) (by rfl) (by rfl) ?_ ?_
          · (refine sCall ?_; intro K hK; go_step; go_at_call 76; refine (HBW.out _).mono ?_; rintro e w1 ⟨rfl, hb⟩; replace hk := hk.call hb; clear hb; refine hK _ _ (fun _ => kH hk) ?_; clear hK K)
            (repeat (refine sV (by first | exact hk | exact hk.drop | exact hk.drop.drop) ?_; simp only [pw]))
            (refine sAlloc hk ?_; clear hk; intro w1 hk; refine ⟨fun _ => kH hk, ?_⟩; simp only [pw])
            (refine sStore hk ?_; clear hk; intro w1 hk; refine ⟨fun _ => kH hk, ?_⟩; simp only [pw])
            (refine sStore hk ?_; clear hk; intro w1 hk; refine ⟨fun _ => kH hk, ?_⟩; simp only [pw])
            refine tNil ?_
            go_wp2_with ((with_reducible apply gL); (first | refine wS hk ?_ | (refine wN hk ?_; clear hk; intro w1 hk)); simp only [pw])
            go_meet
            case rel => exact ⟨_, _, rfl, rfl, hk.swap⟩
          · (refine sAlloc hk ?_; clear hk; intro w1 hk; refine ⟨fun _ => kH hk, ?_⟩; simp only [pw])
            (refine sCall ?_; intro K hK; go_step; go_at_call 76; refine (HBW.out _).mono ?_; rintro e w1 ⟨rfl, hb⟩; replace hk := hk.call hb; clear hb; refine hK _ _ (fun _ => kH hk) ?_; clear hK K)
            (repeat (refine sV (by first | exact hk | exact hk.drop | exact hk.drop.drop) ?_; simp only [pw]))
            (refine sStore hk ?_; clear hk; intro w1 hk; refine ⟨fun _ => kH hk, ?_⟩; simp only [pw])
            (refine sStore hk ?_; clear hk; intro w1 hk; refine ⟨fun _ => kH hk, ?_⟩; simp only [pw])
            refine tNil ?_
            go_wp2_with ((with_reducible apply gL); (first | refine wS hk ?_ | (refine wN hk ?_; clear hk; intro w1 hk)); simp only [pw])
            go_meet
            case rel => exact ⟨_, _, rfl, rfl, hk.swap⟩
        · (refine sAlloc hk ?_; clear hk; intro w1 hk; refine ⟨fun _ => kH hk, ?_⟩; simp only [pw])
          refine tSplit (by rfl) (by rfl) (by rfl) (by rfl) (by rfl) (by rfl) ?_ ?_
          · (refine sCall ?_; intro K hK; go_step; go_at_call 76; refine (HBW.out _).mono ?_; rintro e w1 ⟨rfl, hb⟩; replace hk := hk.call hb; clear hb; refine hK _ _ (fun _ => kH hk) ?_; clear hK K)
            (repeat (refine sV (by first | exact hk | exact hk.drop | exact hk.drop.drop) ?_; simp only [pw]))
            (refine sAlloc hk ?_; clear hk; intro w1 hk; refine ⟨fun _ => kH hk, ?_⟩; simp only [pw])
            (refine sStore hk ?_; clear hk; intro w1 hk; refine ⟨fun _ => kH hk, ?_⟩; simp only [pw])
            (refine sStore hk ?_; clear hk; intro w1 hk; refine ⟨fun _ => kH hk, ?_⟩; simp only [pw])
            refine tNil ?_
            go_wp2_with ((with_reducible apply gL); (first | refine wS hk ?_ | (refine wN hk ?_; clear hk; intro w1 hk)); simp only [pw])
            go_meet
            case rel => exact ⟨_, _, rfl, rfl, hk⟩
          · (refine sAlloc hk ?_; clear hk; intro w1 hk; refine ⟨fun _ => kH hk, ?_⟩; simp only [pw])
            (refine sCall ?_; intro K hK; go_step; go_at_call 76; refine (HBW.out _).mono ?_; rintro e w1 ⟨rfl, hb⟩; replace hk := hk.call hb; clear hb; refine hK _ _ (fun _ => kH hk) ?_; clear hK K)
            (repeat (refine sV (by first | exact hk | exact hk.drop | exact hk.drop.drop) ?_; simp only [pw]))
            (refine sStore hk ?_; clear hk; intro w1 hk; refine ⟨fun _ => kH hk, ?_⟩; simp only [pw])
            (refine sStore hk ?_; clear hk; intro w1 hk; refine ⟨fun _ => kH hk, ?_⟩; simp only [pw])
            refine tNil ?_
            go_wp2_with ((with_reducible apply gL); (first | refine wS hk ?_ | (refine wN hk ?_; clear hk; intro w1 hk)); simp only [pw])
            go_meet
            case rel => exact ⟨_, _, rfl, rfl, hk⟩
       case rest =>
        clear hk
        obtain ⟨g1, g2, rfl, rfl, hk⟩ := hcut
        simp only [List.cons_append, List.nil_append] at hk
        cases b1 with
        | false =>
           go_wp2_with ((with_reducible apply gL); (first | refine wS hk ?_ | (refine wN hk ?_; clear hk; intro w1 hk)); simp only [pw])
           refine wp_reg1 hk (.op 0 (.op 1 (.op 2 (.op 3 (.op 4 (.op 5 (.op 6 (.op 7 .nil)))))))) (fun i => decide (i < 8)) mixT (by decide) (by kernel_rfl) (by kernel_rfl) ?_; clear hk; intro w1 hk
           (repeat (refine sV hk.first ?_; simp only [pw]))
           refine sCall ?_; intro K hK; go_step; go_at_call 96
           refine (rf_comes_un x.k s1 l.length V wb cb tb bb (backB l) v' _ ⟨hk.at mm, HKK.out.mod hk.mod hbM, by simp [hVw, hVc, HNB.out.1.symm], HBB.out, hne, HNB.out.2.1.symm, HNB.out.2.2.1.symm⟩ (hk.at mm) (hk.at mm) (hk.at mm)).mono ?_
           rintro y w2 ⟨rfl, hcm⟩
           replace hk := Kn.comes (L0 := [(g1, plC false s1, 168), (g2, plC b2 s2, 168)]) hk hcm (Nat.le_of_lt HTB.out)
           clear hcm
           refine hK _ _ (fun _ => hk.first) ?_
           clear hK K
           simp only [List.cons_append, List.nil_append] at hk
           refine tNil ?_
           go_wp2_with ((with_reducible apply gL); (first | refine wS hk ?_ | (refine wN hk ?_; clear hk; intro w1 hk)); simp only [pw])
           go_roundg k
           case measure => omega
           case rel => exact ⟨i + 1, b2, s2, v', by have := HIK.out; omega, by go_num, HFL.out, HINV2.out, HCN2.out, HPS.out.trans (by rw [passP, HST.out]; simp only [show takesP (backB l) v' x.k.toNat (wayO false s1) = v' from takes_no rfl, ite_self]), hk.sub (by repeat (first | exact List.Sublist.slnil | refine List.Sublist.cons_cons _ ?_ | refine List.Sublist.cons _ ?_))⟩
        | true =>
           obtain ⟨h0, hkl⟩ := HKJ.out rfl
           obtain ⟨kn, hkn⟩ : ∃ kn : Nat, x.k.toNat = kn := ⟨_, rfl⟩
           have hkk : x.k = (kn : Int) := by omega
           rw [hkn] at hkl
           have HKN := hide hkk
           have H99 := hide (H9.out rfl)
           have HMK : Hid (markB l kn = true) := hide (HJM.out (H9.out rfl) kn hkk)
           clear H9 HKJ
           rw [hkk] at hx4
           clear h0 hkn hkk
           go_wp2_with ((with_reducible apply gL); (first | refine wS hk ?_ | (refine wN hk ?_; clear hk; intro w1 hk)); simp only [pw])
           refine wp_reg1 hk (.op 0 (.op 1 (.op 2 (.op 3 (.op 4 (.op 5 (.op 6 (.op 7 .nil)))))))) (fun i => decide (i < 8)) mixT (by decide) (by kernel_rfl) (by kernel_rfl) ?_; clear hk; intro w1 hk
           (repeat (refine sV hk.first ?_; simp only [pw]))
           refine sCall ?_; intro K hK; go_step; go_at_call 96
           refine (rf_comes l.length kn hkl V wb cb tb bb (backB l) v' _ ⟨hk.at mm, HKK.out.mod hk.mod hbM, by simp [hVw, hVc, HNB.out.1.symm], HBB.out, hne, HNB.out.2.1.symm, HNB.out.2.2.1.symm⟩ (hk.at mm) (hk.at mm) (hk.at mm) true s1 (fun h => by rw [HCN2.out]; exact HCB.out kn h)).mono ?_
           rintro y w2 ⟨rfl, hcm⟩
           replace hk := Kn.comes (L0 := [(g1, plC true s1, 168), (g2, plC b2 s2, 168)]) hk hcm (Nat.le_of_lt HTB.out)
           clear hcm
           refine hK _ _ (fun _ => hk.first) ?_
           clear hK K
           simp only [List.cons_append, List.nil_append] at hk
           obtain ⟨v2, hv2⟩ : ∃ v2, takesP (backB l) v' kn (wayO true s1) = v2 := ⟨_, rfl⟩
           rw [hv2] at hk
           have HV2 := hide hv2
           clear hv2
           refine tNil ?_
           go_wp2_with ((with_reducible apply gL); (first | refine wS hk ?_ | (refine wN hk ?_; clear hk; intro w1 hk)); simp only [pw])
           go_roundg k
           case measure => omega
           case rel => exact ⟨i + 1, b2, s2, v2, by have := HIK.out; omega, by go_num, HFL.out, by rw [<- HV2.out]; exact takes_inv HINV2.out HMK.out HFF.out, by rw [<- HV2.out, takes_cnt]; exact HCN2.out, HPS.out.trans (by rw [passP, HST.out]; show passP l k (i + 1) (wayO b2 s2) (if 9 <= x.o then takesP (backB l) v' x.k.toNat (wayO true s1) else v') = _; rw [if_pos H99.out, HKN.out, Int.toNat_natCast, HV2.out]), hk.sub (by repeat (first | exact List.Sublist.slnil | refine List.Sublist.cons_cons _ ?_ | refine List.Sublist.cons _ ?_))⟩
end Go.Proofs.YtamiichlbmllcabGreatDoor
