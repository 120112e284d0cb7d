import Derived.Test.YtamiichlbmllcabGreatDoorQRefRunA
set_option maxRecDepth 100000
set_option maxHeartbeats 32000000
namespace Go.Proofs.YtamiichlbmllcabGreatDoor
open Go.RowKit
theorem refRun_right (l : List I5) (b off cp : Nat) (r : Nat -> Int) (f : Int) (w : World) (hb : b < w.heap.size) (hi : ∀ i (h : i < l.length), InsAt w b (off + i * 5) l[i]) (hr : rightR l = (0, 0)) (hl : AllFit l) :
 Calls Tryz.prog 44 #[.slice (some ⟨b, off, none⟩) l.length cp, regsV r, .int .i64 f] w fun e w' => ∃ u, e = .returned (.tuple #[(runO l r f).val, u, .int .i64 0]) /\ OwnV w' w.heap.size u (runV l r f) /\ Below w.heap.size w w' := by
 obtain ⟨i0, hii, hz0, hzs, hz2⟩ := info_three Tryz.infoVis
 have HSL : Hid (Slc w (.slice (some ⟨b, off, none⟩) l.length cp) l) := hide (Or.inr ⟨b, off, cp, rfl, hb, hi⟩)
 have HI := hide hi
 clear hi
 have HRV : Hid (regsV r = .agg #[.int .i64 (r 0), .int .i64 (r 1), .int .i64 (r 2), .int .i64 (r 3), .int .i64 (r 4), .int .i64 (r 5), .int .i64 (r 6), .int .i64 (r 7)]) := hide rfl
 obtain ⟨O, hO⟩ : ∃ O, O = runO l r f := ⟨_, rfl⟩
 rw [<- hO]
 have HO := hide hO
 clear hO
 obtain ⟨V, hV⟩ : ∃ V, V = runV l r f := ⟨_, rfl⟩
 rw [<- hV]
 have HV := hide hV
 clear hV
 rw [HRV.out]
 have HR := hide hr
 clear hr
 go_enter Tryz.func44, Tryz.ntmps44
 go_wp2_with fail
 generalize hW : (w.alloc (.cells #[.int .i64 (r 0), .int .i64 (r 1), .int .i64 (r 2), .int .i64 (r 3), .int .i64 (r 4), .int .i64 (r 5), .int .i64 (r 6), .int .i64 (r 7)] 41)).alloc (.cells #[.int .i64 0, .int .i64 0, .int .i64 0, .int .i64 0] 38) = w1
 have hH : w1.heap[w.heap.size + 1]? = some (.cells #[.int .i64 0, .int .i64 0, .int .i64 0, .int .i64 0] 38 (0, 0)) := by
  rw [<- hW]
  have := heap_alloc_new (w.alloc (.cells #[.int .i64 (r 0), .int .i64 (r 1), .int .i64 (r 2), .int .i64 (r 3), .int .i64 (r 4), .int .i64 (r 5), .int .i64 (r 6), .int .i64 (r 7)] 41)) (.cells #[.int .i64 0, .int .i64 0, .int .i64 0, .int .i64 0] 38)
  simpa using this
 have hRg : w1.heap[w.heap.size]? = some (.cells #[.int .i64 (r 0), .int .i64 (r 1), .int .i64 (r 2), .int .i64 (r 3), .int .i64 (r 4), .int .i64 (r 5), .int .i64 (r 6), .int .i64 (r 7)] 41 (0, 0)) := by
  rw [<- hW, Below.heap_alloc _ _ _ (by simp)]
  exact heap_alloc_new _ _
 have hb1 : Below w.heap.size w w1 := by rw [<- hW]; exact ((belA _ _).alloc (by simp) _)
 have hs1 := HSL.out.below hb1 (Nat.le_refl _)
 have hlt := lt_of_block hH
 refine (refRight_any l _ w1 hs1).mono ?_
 rintro e w2 ⟨rfl, hb2⟩
 rw [HR.out]
 have hRg2 := (hb2.block _ (by omega)).trans hRg
 have hH2 := (hb2.block _ hlt).trans hH
 have hbw2 := hb1.trans (hb2.mono hb1.size)
 have hsz2 := hb2.size
 clear hW hs1 hb2 hb1 hRg hH
 have HB2 := hide hbw2
 have HRG := hide hRg2
 have HHH := hide hH2
 clear hbw2 hRg2 hH2
 obtain ⟨G, hGe⟩ : ∃ G : Int, G = min f 10000 := ⟨_, rfl⟩
 have hG : G <= 10000 := by omega
 have HGF : Hid (max G 0 = fuelI f) := hide (by unfold fuelI; omega)
 have HGE := hide hGe
 clear hGe
 have HAL := hide hl
 clear hl
 have HF : Hid (O = (runR l (fuelI f).toNat (startS r)).2 /\ V = (runR l (fuelI f).toNat (startS r)).1.take 100) := hide ⟨HO.out, HV.out⟩
 obtain ⟨F, hF⟩ : ∃ F, F = (fuelI f).toNat := ⟨_, rfl⟩
 have hF2 : (F : Int) = max G 0 := by have := fuelI_bd f; rw [HGF.out]; omega
 rw [<- hF] at HF
 clear hF
 go_upto_if 29 with fail
 go_cut [2] from 28 (fun u2 wc => u2 = .int .i64 G /\ wc = w2)
 case first =>
  by_cases hf : 10000 < f
  · have : G = 10000 := by have := HGE.out; omega
    subst this
    go_wp2_with fail
    go_meet
    case rel => exact ⟨rfl, rfl⟩
  · have : f = G := by have := HGE.out; omega
    subst this
    go_wp2_with fail
    go_meet
    case rel => exact ⟨rfl, rfl⟩
 case rest =>
  obtain ⟨rfl, hw⟩ := hcut
  have hw' := hw.symm
  subst hw'
  go_wp2_with fail
  generalize hW3 : w2.alloc _ = w3
  have hWd : WordR w3 w2.heap.size zeroW := by rw [<- hW3]; exact wordR_of (heap_alloc_new _ _)
  have hb3 : Below w2.heap.size w2 w3 := by rw [<- hW3]; exact belA _ _
  have hs3 : w2.heap.size + 1 <= w3.heap.size := by rw [<- hW3]; simp
  have hz1 := HB2.out.size
  have HST : Hid (RefSt w w3 w.heap.size w2.heap.size l F (runR l F (startS r)).1 O F (startS r) (.slice none 0 0) [] (.int .i64 0) (.int .i64 0)) := hide
   ⟨rfl, rfl, regR_of ((hb3.block _ (by omega)).trans HRG.out), hWd, (hb3.block _ (by omega)).trans HHH.out, World.ownsRow_nil _ _ _ _, HB2.out.trans (hb3.mono hz1), hs3, Nat.zero_le _, Nat.zero_add _, ⟨[], rfl, rfl⟩, HF.out.1.symm⟩
  have HVF : Hid (V = (runR l F (startS r)).1.take 100) := hide HF.out.2
  generalize (runR l F (startS r)).1 = full at HST HVF
  clear hW3 hWd hb3 HF
  go_loopg [11, 13, 14] (F + 1) (fun k u11 u13 u14 wr => ∃ k' s vs, k = k' + 1 /\ RefSt w wr w.heap.size w2.heap.size l F full O k' s u11 vs u13 u14)
  case atStart => exact ⟨F, _, _, rfl, HST.out⟩
  case round =>
   obtain ⟨k, s, vs, hgk, hst⟩ := hrel
   have HGK := hide hgk
   obtain rfl := hst.pc
   obtain rfl := hst.st
   obtain ⟨au, cu, rfl⟩ := own_any_len hst.own
   have hsz := hst.sz
   have hkF := hst.hk
   have hpl := hst.hpc
   have HS := hide hst
   clear hgk hst HST
   by_cases hp : s.pc = l.length
   · have hpb : ((s.pc : Int) == (l.length : Int)) = true := by simp; omega
     obtain ⟨z0, z1, z2, z3, f0, f1, f2, f3⟩ := four_of HS.out.res
     have HX := hide (HS.out.stop (runR_end hp))
     clear hp
     go_wp2
     exact bodyPost_ret (v := .tuple #[O.val, .slice au vs.length cu, .int .i64 0]) (by rw [HX.out.2]; simp [results, Tryz.results44, go_sem, z0, z1, z2, z3, O4.val, endO]) rfl ⟨_, rfl, by rw [HVF.out, HX.out.1]; exact own_low (own_set4 HS.out.own (by omega) _ _ _ _ _ _ _ _) (by omega), below_set4 HS.out.bel (by omega) _ _ _ _ _ _ _ _⟩
   · have hpb : ((s.pc : Int) == (l.length : Int)) = false := by rw [beq_eq_false_iff_ne]; omega
     match k, HS, HGK, hkF with
     | 0, HS, HGK, hkF =>
       have hge : G <= (s.n : Int) := by omega
       obtain ⟨z0, z1, z2, z3, f0, f1, f2, f3⟩ := four_of HS.out.res
       have HX := hide (HS.out.stop (runR_fuel hp))
       clear hp
       go_wp2
       exact bodyPost_ret (v := .tuple #[O.val, .slice au vs.length cu, .int .i64 0]) (by rw [HX.out.2]; simp [results, Tryz.results44, go_sem, z0, z1, z2, z3, O4.val, endO]) rfl ⟨_, rfl, by rw [HVF.out, HX.out.1]; exact own_low (own_set4 HS.out.own (by omega) _ _ _ _ _ _ _ _) (by omega), below_set4 HS.out.bel (by omega) _ _ _ _ _ _ _ _⟩
     | k + 1, HS, HGK, hkF =>
       have hge : ¬ G <= (s.n : Int) := by omega
       have hpl2 : s.pc < l.length := by omega
       have HP := hide hp
       clear hp
       go_upto_if 47 with fail
       go_cut [11] from 30 to 234 (fun u11 wc2 => ∃ vs', RefMid w wc2 w.heap.size w2.heap.size l F full O k s u11 vs' /\ vs'.length <= 100)
       case first =>
        by_cases h100 : vs.length < 100
        · obtain ⟨e0, e1, e2, e3, e4, e5, e6, e7⟩ := RefSt.regCells HS.out.regs
          go_wp2_with (at_builtin; go_must (refine wpList_append_own _ rfl (.tmp 48) (.tmp 52) 67 rfl (w2.heap.size + 1) 69 i0 _ 9 72 Tryz.underlying67 hii hz0 hzs hz2 rfl (by decide) (.slice au vs.length cu) vs.length (vs.flatMap V9.cells) rfl ?o1 ⟨wr.heap.size, 0, none⟩ 1 1 (V9.mk s.pc s.r).cells rfl rfl ?n1 ?u1 ?m1 ?b1 ?s1 ?_))
          case o1 => exact World.ownsRow.alloc HS.out.own _
          case n1 => exact fun j u h => by first | exact nine_new _ (V9.mk s.pc s.r) _ _ rfl j u h | simpa [V9.cells] using h
          case u1 => exact nine_one _
          case m1 => unfold maxLen; omega
          case b1 => omega
          case s1 => first | omega | (simp; omega)
          intro v4 w4 hown4 hg4 _
          have HMI := hide (HS.out.mid hpl2 (Below.grown ((Below.refl _ _).alloc hsz _) hg4 (by simp; omega) (fun k hk => (World.ownsRow.lt HS.out.own k hk).1)) (by omega) (Or.inl ⟨h100, OwnV.push hown4 rfl⟩))
          clear hown4 hg4
          go_wp2_with fail
          go_meet
          case rel => exact HMI.out
        · have hd : decide ((vs.length : Int) < 100) = false := by simp; omega
          have hd2 : decide (vs.length < 100) = false := by simp; omega
          have HMI := hide (HS.out.mid hpl2 (Below.refl _ _) (by omega) (Or.inr ⟨h100, HS.out.own⟩))
          go_wp2_with fail
          go_meet
          case rel => exact HMI.out
       case rest =>
        obtain ⟨vs', hmid, hvl⟩ := hcut
        obtain ⟨a5, c5, rfl⟩ := own_any_len hmid.own
        have HM := hide hmid
        clear hmid HS
        have hl64 : l.length <= 64 := HAL.out.2.1
        obtain ⟨c0, c1, c2, c3, c4⟩ := (HI.out s.pc hpl2).below HM.out.bel hb
        have hfc := fit_cases (HAL.out.2.2 s.pc hpl2)
        obtain ⟨x, hx⟩ : ∃ x, x = l[s.pc] := ⟨_, rfl⟩
        rw [<- hx] at c0 c1 c2 c3 c4 hfc
        have HD : Hid (doAt l s = doI x (nxt s)) := hide (by unfold doAt; rw [insAt_get hpl2, hx])
        clear hx
        have hsz' := HM.out.sz
        have hN1 : w.heap.size < wc.heap.size := by omega
        have hN2 : w.heap.size + 1 < wc.heap.size := by omega
        have hN3 : w2.heap.size < wc.heap.size := by omega
        have hN4 : b < wc.heap.size := by omega
        have hWN : w2.heap.size ≠ w.heap.size := by omega
        have hNW : w.heap.size ≠ w2.heap.size := by omega
        obtain ⟨op, a, bb, c, kk⟩ := x
        simp only at c0 c1 c2 c3 c4 hfc
        rcases hfc with rfl | ⟨rfl, ha⟩ | ⟨rfl, ha, hb2⟩ | ⟨rfl, ha, hb2, hc⟩ | ⟨rfl, ha, hb2, hc⟩ | ⟨rfl, ha, hb2, hc⟩ | ⟨rfl, ha, hb2, hc⟩ | ⟨rfl, ha, hb2⟩ | ⟨rfl, ha, hb2⟩ | ⟨rfl, hk0, hk1⟩ | ⟨rfl, ha, hb2, hk0, hk1⟩ | ⟨rfl, ha, hb2, hk0, hk1⟩
        · as_aux_lemma =>
           have HE : Hid (doAt l s = (1, nxt s)) := hide (HD.out.trans (by simp [doI]))
           obtain ⟨z0, z1, z2, z3, f0, f1, f2, f3⟩ := four_of HM.out.res
           have HX := hide (HM.out.halt HE.out (by decide))
           obtain ⟨g0, _⟩ := RowF.cell HM.out.regs 0 (by omega)
           try simp only at g0
           go_wp2
           exact bodyPost_ret (v := .tuple #[O.val, .slice a5 vs'.length c5, .int .i64 0]) (by rw [HX.out.2]; simp [results, Tryz.results44, go_sem, z0, z1, z2, z3, hN2, O4.val, endO, nxt]) rfl ⟨_, rfl, by rw [HVF.out, HX.out.1]; exact (HM.out.out _ (by omega) _ _ _ _ _ _ _ _).1, (HM.out.out _ (by omega) _ _ _ _ _ _ _ _).2⟩
        · as_aux_lemma =>
           obtain ⟨a, ha', rfl⟩ := ha.nat
           obtain ⟨g1, k1⟩ := RowF.cell HM.out.regs a ha'
           try simp only at g1
           have HE : Hid (doAt l s = (0, { nxt s with r := upd (nxt s).r a kk })) := hide (HD.out.trans (by simp [doI]))
           go_wp2
           go_roundg (k + 1)
           case measure => have := HGK.out; omega
           case rel => exact ⟨k, _, vs', rfl, HM.out.next HE.out (But2.set1 _ _ _ _ _) (RegR.set HM.out.regs _ _) (RowF.block HM.out.words (Below.heap_setCell _ _ _ _ (by first | exact hWN | exact hNW))) (by first | exact belA _ _ | exact belAD _ _ | exact (belAD _ _).drew | exact belAN _ _ _) (by first | rfl | go_num) (by first | rfl | go_num) HAL.out (by omega)⟩
        · as_aux_lemma =>
           obtain ⟨a, ha', rfl⟩ := ha.nat
           obtain ⟨bb, hbb', rfl⟩ := hb2.nat
           obtain ⟨g1, k1⟩ := RowF.cell HM.out.regs a ha'
           try simp only at g1
           obtain ⟨g2, k2⟩ := RowF.cell HM.out.regs bb hbb'
           try simp only at g2
           have HE : Hid (doAt l s = (0, { nxt s with r := upd (nxt s).r a ((nxt s).r bb) })) := hide (HD.out.trans (by simp [doI]))
           go_wp2_with fail
           go_region
           go_wp2
           go_roundg (k + 1)
           case measure => have := HGK.out; omega
           case rel => exact ⟨k, _, vs', rfl, HM.out.next HE.out (But2.set1 _ _ _ _ _) (RegR.set HM.out.regs _ _) (RowF.block HM.out.words (Below.heap_setCell _ _ _ _ (by first | exact hWN | exact hNW))) (by first | exact belA _ _ | exact belAD _ _ | exact (belAD _ _).drew | exact belAN _ _ _) (by first | rfl | go_num) (by first | rfl | go_num) HAL.out (by omega)⟩
        · as_aux_lemma =>
           obtain ⟨a, ha', rfl⟩ := ha.nat
           obtain ⟨bb, hbb', rfl⟩ := hb2.nat
           obtain ⟨c, hc', rfl⟩ := hc.nat
           obtain ⟨g1, k1⟩ := RowF.cell HM.out.regs a ha'
           try simp only at g1
           obtain ⟨g2, k2⟩ := RowF.cell HM.out.regs bb hbb'
           try simp only at g2
           obtain ⟨g3, k3⟩ := RowF.cell HM.out.regs c hc'
           try simp only at g3
           have HE : Hid (doAt l s = (0, { nxt s with r := upd (nxt s).r a (wrap64 ((nxt s).r bb + (nxt s).r c)) })) := hide (HD.out.trans (by simp [doI]))
           go_wp2_with fail
           go_region
           go_wp2
           go_roundg (k + 1)
           case measure => have := HGK.out; omega
           case rel => exact ⟨k, _, vs', rfl, HM.out.next HE.out (But2.set1 _ _ _ _ _) (RegR.set HM.out.regs _ _) (RowF.block HM.out.words (Below.heap_setCell _ _ _ _ (by first | exact hWN | exact hNW))) (by first | exact belA _ _ | exact belAD _ _ | exact (belAD _ _).drew | exact belAN _ _ _) (by first | rfl | go_num) (by first | rfl | go_num) HAL.out (by omega)⟩
        · as_aux_lemma =>
           obtain ⟨a, ha', rfl⟩ := ha.nat
           obtain ⟨bb, hbb', rfl⟩ := hb2.nat
           obtain ⟨c, hc', rfl⟩ := hc.nat
           obtain ⟨g1, k1⟩ := RowF.cell HM.out.regs a ha'
           try simp only at g1
           obtain ⟨g2, k2⟩ := RowF.cell HM.out.regs bb hbb'
           try simp only at g2
           obtain ⟨g3, k3⟩ := RowF.cell HM.out.regs c hc'
           try simp only at g3
           have HE : Hid (doAt l s = (0, { nxt s with r := upd (nxt s).r a (wrap64 ((nxt s).r bb - (nxt s).r c)) })) := hide (HD.out.trans (by simp [doI]))
           go_wp2_with fail
           go_region
           go_wp2
           go_roundg (k + 1)
           case measure => have := HGK.out; omega
           case rel => exact ⟨k, _, vs', rfl, HM.out.next HE.out (But2.set1 _ _ _ _ _) (RegR.set HM.out.regs _ _) (RowF.block HM.out.words (Below.heap_setCell _ _ _ _ (by first | exact hWN | exact hNW))) (by first | exact belA _ _ | exact belAD _ _ | exact (belAD _ _).drew | exact belAN _ _ _) (by first | rfl | go_num) (by first | rfl | go_num) HAL.out (by omega)⟩
        · as_aux_lemma =>
           obtain ⟨a, ha', rfl⟩ := ha.nat
           obtain ⟨bb, hbb', rfl⟩ := hb2.nat
           obtain ⟨c, hc', rfl⟩ := hc.nat
           obtain ⟨g1, k1⟩ := RowF.cell HM.out.regs a ha'
           try simp only at g1
           obtain ⟨g2, k2⟩ := RowF.cell HM.out.regs bb hbb'
           try simp only at g2
           obtain ⟨g3, k3⟩ := RowF.cell HM.out.regs c hc'
           try simp only at g3
           have HE : Hid (doAt l s = (0, { nxt s with r := upd (nxt s).r a (wrap64 ((nxt s).r bb * (nxt s).r c)) })) := hide (HD.out.trans (by simp [doI]))
           go_wp2_with fail
           go_region
           go_wp2
           go_roundg (k + 1)
           case measure => have := HGK.out; omega
           case rel => exact ⟨k, _, vs', rfl, HM.out.next HE.out (But2.set1 _ _ _ _ _) (RegR.set HM.out.regs _ _) (RowF.block HM.out.words (Below.heap_setCell _ _ _ _ (by first | exact hWN | exact hNW))) (by first | exact belA _ _ | exact belAD _ _ | exact (belAD _ _).drew | exact belAN _ _ _) (by first | rfl | go_num) (by first | rfl | go_num) HAL.out (by omega)⟩
        · as_aux_lemma =>
           obtain ⟨a, ha', rfl⟩ := ha.nat
           obtain ⟨bb, hbb', rfl⟩ := hb2.nat
           obtain ⟨c, hc', rfl⟩ := hc.nat
           obtain ⟨g1, k1⟩ := RowF.cell HM.out.regs a ha'
           try simp only at g1
           obtain ⟨g2, k2⟩ := RowF.cell HM.out.regs bb hbb'
           try simp only at g2
           obtain ⟨g3, k3⟩ := RowF.cell HM.out.regs c hc'
           try simp only at g3
           by_cases hz : s.r c = 0
           · as_aux_lemma =>
              have HE : Hid (doAt l s = (3, nxt s)) := hide (HD.out.trans (by unfold doI; simp; exact hz))
              obtain ⟨z0, z1, z2, z3, f0, f1, f2, f3⟩ := four_of HM.out.res
              have HX := hide (HM.out.halt HE.out (by decide))
              have hq : (s.r c == 0) = true := by simpa using hz
              clear hz
              go_wp2
              exact bodyPost_ret (v := .tuple #[O.val, .slice a5 vs'.length c5, .int .i64 0]) (by rw [HX.out.2]; simp [results, Tryz.results44, go_sem, z0, z1, z2, z3, hN2, O4.val, endO, nxt]) rfl ⟨_, rfl, by rw [HVF.out, HX.out.1]; exact (HM.out.out _ (by omega) _ _ _ _ _ _ _ _).1, (HM.out.out _ (by omega) _ _ _ _ _ _ _ _).2⟩
           · as_aux_lemma =>
              have HE : Hid (doAt l s = (0, { nxt s with r := upd (nxt s).r a (wrap64 (((nxt s).r bb).tdiv ((nxt s).r c))) })) := hide (HD.out.trans (by unfold doI; simp; intro h; exact absurd h hz))
              have hq : (s.r c == 0) = false := by simpa using hz
              go_wp2_with fail
              go_region
              go_wp2
              go_roundg (k + 1)
              case measure => have := HGK.out; omega
              case rel => exact ⟨k, _, vs', rfl, HM.out.next HE.out (But2.set1 _ _ _ _ _) (RegR.set HM.out.regs _ _) (RowF.block HM.out.words (Below.heap_setCell _ _ _ _ (by first | exact hWN | exact hNW))) (by first | exact belA _ _ | exact belAD _ _ | exact (belAD _ _).drew | exact belAN _ _ _) (by first | rfl | go_num) (by first | rfl | go_num) HAL.out (by omega)⟩
        · as_aux_lemma =>
           obtain ⟨a, ha', rfl⟩ := ha.nat
           obtain ⟨bb, hbb', rfl⟩ := hb2.nat
           obtain ⟨g1, k1⟩ := RowF.cell HM.out.regs a ha'
           try simp only at g1
           by_cases hz : 0 <= s.r bb /\ s.r bb < 16
           · as_aux_lemma =>
              obtain ⟨n, hn, hrn⟩ : ∃ n : Nat, n < 16 /\ s.r bb = n := ⟨(s.r bb).toNat, by omega, by omega⟩
              obtain ⟨g2, _⟩ := RowF.cell HM.out.regs bb hbb'
              try simp only at g2
              rw [hrn] at g2
              obtain ⟨g3, _⟩ := RowF.cell HM.out.words n hn
              try simp only at g3
              have HE : Hid (doAt l s = (0, { nxt s with r := upd (nxt s).r a ((nxt s).m n) })) := hide (HD.out.trans (by unfold doI; simp; rw [show (nxt s).r bb = n from hrn]; simp; omega))
              have HRN := hide hrn
              have hn0 : ¬ ((n : Int) < 0) := by omega
              have hn1 : ¬ (16 <= (n : Int)) := by omega
              clear hrn hz
              go_wp2_with fail
              go_region
              go_wp2
              go_roundg (k + 1)
              case measure => have := HGK.out; omega
              case rel => exact ⟨k, _, vs', rfl, HM.out.next HE.out (But2.set1 _ _ _ _ _) (RegR.set HM.out.regs _ _) (RowF.block HM.out.words (Below.heap_setCell _ _ _ _ (by first | exact hWN | exact hNW))) (by first | exact belA _ _ | exact belAD _ _ | exact (belAD _ _).drew | exact belAN _ _ _) (by first | rfl | go_num) (by first | rfl | go_num) HAL.out (by omega)⟩
           · as_aux_lemma =>
              obtain ⟨g2, _⟩ := RowF.cell HM.out.regs bb hbb'
              try simp only at g2
              have HE : Hid (doAt l s = (4, nxt s)) := hide (HD.out.trans (by unfold doI; rw [if_neg (by simp), if_neg (by simp), if_neg (by simp), if_neg (by simp), if_neg (by simp), if_neg (by simp), if_pos rfl]; exact if_neg hz))
              obtain ⟨z0, z1, z2, z3, f0, f1, f2, f3⟩ := four_of HM.out.res
              have HX := hide (HM.out.halt HE.out (by decide))
              by_cases h0 : s.r bb < 0
              · clear hz
                go_wp2
                exact bodyPost_ret (v := .tuple #[O.val, .slice a5 vs'.length c5, .int .i64 0]) (by rw [HX.out.2]; simp [results, Tryz.results44, go_sem, z0, z1, z2, z3, hN2, O4.val, endO, nxt]) rfl ⟨_, rfl, by rw [HVF.out, HX.out.1]; exact (HM.out.out _ (by omega) _ _ _ _ _ _ _ _).1, (HM.out.out _ (by omega) _ _ _ _ _ _ _ _).2⟩
              · have h16 : 16 <= s.r bb := by omega
                clear hz
                go_wp2
                exact bodyPost_ret (v := .tuple #[O.val, .slice a5 vs'.length c5, .int .i64 0]) (by rw [HX.out.2]; simp [results, Tryz.results44, go_sem, z0, z1, z2, z3, hN2, O4.val, endO, nxt]) rfl ⟨_, rfl, by rw [HVF.out, HX.out.1]; exact (HM.out.out _ (by omega) _ _ _ _ _ _ _ _).1, (HM.out.out _ (by omega) _ _ _ _ _ _ _ _).2⟩
        · as_aux_lemma =>
           obtain ⟨a, ha', rfl⟩ := ha.nat
           obtain ⟨bb, hbb', rfl⟩ := hb2.nat
           obtain ⟨g2, k2⟩ := RowF.cell HM.out.regs bb hbb'
           try simp only at g2
           by_cases hz : 0 <= s.r a /\ s.r a < 16
           · as_aux_lemma =>
              obtain ⟨n, hn, hrn⟩ : ∃ n : Nat, n < 16 /\ s.r a = n := ⟨(s.r a).toNat, by omega, by omega⟩
              obtain ⟨g1, _⟩ := RowF.cell HM.out.regs a ha'
              try simp only at g1
              rw [hrn] at g1
              obtain ⟨g3, k3⟩ := RowF.cell HM.out.words n hn
              try simp only at g3
              have HE : Hid (doAt l s = (0, { nxt s with m := upd (nxt s).m n ((nxt s).r bb) })) := hide (HD.out.trans (by unfold doI; simp; rw [show (nxt s).r a = n from hrn]; simp; omega))
              have HRN := hide hrn
              have hn0 : ¬ ((n : Int) < 0) := by omega
              have hn1 : ¬ (16 <= (n : Int)) := by omega
              clear hrn hz
              go_wp2
              go_roundg (k + 1)
              case measure => have := HGK.out; omega
              case rel => exact ⟨k, _, vs', rfl, HM.out.next HE.out (But2.set2 _ _ _ _ _) (RowF.block HM.out.regs (Below.heap_setCell _ _ _ _ (by first | exact hWN | exact hNW))) (WordR.set HM.out.words _ _) (by first | exact belA _ _ | exact belAD _ _ | exact (belAD _ _).drew | exact belAN _ _ _) (by first | rfl | go_num) (by first | rfl | go_num) HAL.out (by omega)⟩
           · as_aux_lemma =>
              obtain ⟨g1, _⟩ := RowF.cell HM.out.regs a ha'
              try simp only at g1
              have HE : Hid (doAt l s = (4, nxt s)) := hide (HD.out.trans (by unfold doI; rw [if_neg (by simp), if_neg (by simp), if_neg (by simp), if_neg (by simp), if_neg (by simp), if_neg (by simp), if_neg (by simp), if_pos rfl]; exact if_neg hz))
              obtain ⟨z0, z1, z2, z3, f0, f1, f2, f3⟩ := four_of HM.out.res
              have HX := hide (HM.out.halt HE.out (by decide))
              by_cases h0 : s.r a < 0
              · clear hz
                go_wp2
                exact bodyPost_ret (v := .tuple #[O.val, .slice a5 vs'.length c5, .int .i64 0]) (by rw [HX.out.2]; simp [results, Tryz.results44, go_sem, z0, z1, z2, z3, hN2, O4.val, endO, nxt]) rfl ⟨_, rfl, by rw [HVF.out, HX.out.1]; exact (HM.out.out _ (by omega) _ _ _ _ _ _ _ _).1, (HM.out.out _ (by omega) _ _ _ _ _ _ _ _).2⟩
              · have h16 : 16 <= s.r a := by omega
                clear hz
                go_wp2
                exact bodyPost_ret (v := .tuple #[O.val, .slice a5 vs'.length c5, .int .i64 0]) (by rw [HX.out.2]; simp [results, Tryz.results44, go_sem, z0, z1, z2, z3, hN2, O4.val, endO, nxt]) rfl ⟨_, rfl, by rw [HVF.out, HX.out.1]; exact (HM.out.out _ (by omega) _ _ _ _ _ _ _ _).1, (HM.out.out _ (by omega) _ _ _ _ _ _ _ _).2⟩
        · as_aux_lemma =>
           obtain ⟨kk, rfl⟩ := Int.eq_ofNat_of_zero_le hk0
           have HE : Hid (doAt l s = (0, { nxt s with pc := kk })) := hide (HD.out.trans (by simp [doI]))
           go_wp2_with fail
           go_quiet (fail)
           go_wp2
           go_roundg (k + 1)
           case measure => have := HGK.out; omega
           case rel => exact ⟨k, _, vs', rfl, HM.out.next HE.out (But2.refl _ _ _) HM.out.regs HM.out.words (by first | exact belA _ _ | exact belAD _ _ | exact (belAD _ _).drew | exact belAN _ _ _) (by first | rfl | go_num) (by first | rfl | go_num) HAL.out (by omega)⟩
        · as_aux_lemma =>
           obtain ⟨a, ha', rfl⟩ := ha.nat
           obtain ⟨bb, hbb', rfl⟩ := hb2.nat
           obtain ⟨g1, k1⟩ := RowF.cell HM.out.regs a ha'
           try simp only at g1
           obtain ⟨g2, k2⟩ := RowF.cell HM.out.regs bb hbb'
           try simp only at g2
           obtain ⟨kk, rfl⟩ := Int.eq_ofNat_of_zero_le hk0
           by_cases hz : s.r a < s.r bb
           · as_aux_lemma =>
              have HE : Hid (doAt l s = (0, { nxt s with pc := kk })) := hide (HD.out.trans (by unfold doI; rw [if_neg (by simp), if_neg (by simp), if_neg (by simp), if_neg (by simp), if_neg (by simp), if_neg (by simp), if_neg (by simp), if_neg (by simp), if_neg (by simp), if_pos rfl]; exact congrArg (Prod.mk 0) (if_pos hz)))
              have hq : decide (s.r a < s.r bb) = true := by simpa using hz
              go_wp2_with fail
              go_quiet (fail)
              go_wp2
              go_roundg (k + 1)
              case measure => have := HGK.out; omega
              case rel => exact ⟨k, _, vs', rfl, HM.out.next HE.out (But2.refl _ _ _) HM.out.regs HM.out.words (by first | exact belA _ _ | exact belAD _ _ | exact (belAD _ _).drew | exact belAN _ _ _) (by first | rfl | go_num) (by first | rfl | go_num) HAL.out (by omega)⟩
           · as_aux_lemma =>
              have HE : Hid (doAt l s = (0, nxt s)) := hide (HD.out.trans (by unfold doI; rw [if_neg (by simp), if_neg (by simp), if_neg (by simp), if_neg (by simp), if_neg (by simp), if_neg (by simp), if_neg (by simp), if_neg (by simp), if_neg (by simp), if_pos rfl]; exact congrArg (Prod.mk 0) (if_neg hz)))
              have hq : decide (s.r a < s.r bb) = false := by simpa using hz
              go_wp2_with fail
              go_quiet (fail)
              go_wp2
              go_roundg (k + 1)
              case measure => have := HGK.out; omega
              case rel => exact ⟨k, _, vs', rfl, HM.out.next HE.out (But2.refl _ _ _) HM.out.regs HM.out.words (by first | exact belA _ _ | exact belAD _ _ | exact (belAD _ _).drew | exact belAN _ _ _) (by first | rfl | go_num) (by first | rfl | go_num) HAL.out (by omega)⟩
        · as_aux_lemma =>
           obtain ⟨a, ha', rfl⟩ := ha.nat
           obtain ⟨bb, hbb', rfl⟩ := hb2.nat
           obtain ⟨g1, k1⟩ := RowF.cell HM.out.regs a ha'
           try simp only at g1
           obtain ⟨g2, k2⟩ := RowF.cell HM.out.regs bb hbb'
           try simp only at g2
           obtain ⟨kk, rfl⟩ := Int.eq_ofNat_of_zero_le hk0
           by_cases hz : s.r a = s.r bb
           · as_aux_lemma =>
              have HE : Hid (doAt l s = (0, { nxt s with pc := kk })) := hide (HD.out.trans (by unfold doI; rw [if_neg (by simp), if_neg (by simp), if_neg (by simp), if_neg (by simp), if_neg (by simp), if_neg (by simp), if_neg (by simp), if_neg (by simp), if_neg (by simp), if_neg (by simp), if_pos rfl]; exact congrArg (Prod.mk 0) (if_pos hz)))
              have hq : (s.r a == s.r bb) = true := by simpa using hz
              go_wp2_with fail
              go_quiet (fail)
              go_wp2
              go_roundg (k + 1)
              case measure => have := HGK.out; omega
              case rel => exact ⟨k, _, vs', rfl, HM.out.next HE.out (But2.refl _ _ _) HM.out.regs HM.out.words (by first | exact belA _ _ | exact belAD _ _ | exact (belAD _ _).drew | exact belAN _ _ _) (by first | rfl | go_num) (by first | rfl | go_num) HAL.out (by omega)⟩
           · as_aux_lemma =>
              have HE : Hid (doAt l s = (0, nxt s)) := hide (HD.out.trans (by unfold doI; rw [if_neg (by simp), if_neg (by simp), if_neg (by simp), if_neg (by simp), if_neg (by simp), if_neg (by simp), if_neg (by simp), if_neg (by simp), if_neg (by simp), if_neg (by simp), if_pos rfl]; exact congrArg (Prod.mk 0) (if_neg hz)))
              have hq : (s.r a == s.r bb) = false := by simpa using hz
              go_wp2_with fail
              go_quiet (fail)
              go_wp2
              go_roundg (k + 1)
              case measure => have := HGK.out; omega
              case rel => exact ⟨k, _, vs', rfl, HM.out.next HE.out (But2.refl _ _ _) HM.out.regs HM.out.words (by first | exact belA _ _ | exact belAD _ _ | exact (belAD _ _).drew | exact belAN _ _ _) (by first | rfl | go_num) (by first | rfl | go_num) HAL.out (by omega)⟩
end Go.Proofs.YtamiichlbmllcabGreatDoor
