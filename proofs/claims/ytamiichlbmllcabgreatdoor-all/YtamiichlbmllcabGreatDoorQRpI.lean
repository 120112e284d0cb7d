import Derived.Test.YtamiichlbmllcabGreatDoorQRpG
import Derived.Test.YtamiichlbmllcabGreatDoorQSetW
set_option maxRecDepth 100000
set_option maxHeartbeats 32000000
namespace Go.Proofs.YtamiichlbmllcabGreatDoor
open Go.RowKit
theorem cntE_count (v : PS) : cntE v = (countP v).cnt := by
 funext m
 unfold cntE countP
 simp only
 split <;> rfl
section
variable {l : List Oper} {Q : Exit -> Act -> World -> Prop} {F : Nat -> Bool} {S : World -> Prop} {i : Nat} {r : OT} {a : Act} {w w0 : World} {M : List Nat} {L L' : RowL} {d : Option Tmp} {x y : Operand} {t tt ty : TypeId} {pos : String} {aft : Array Edge} {g : Option (Nat × Bool)} {b j n : Nat} {A A' : Array Value}
theorem sStore1B {zi : Bool} (hk : Kn M w0 w L) (h : ∀ w1, Kn M w0 w1 L' -> (F i = true -> S w1) /\ wpT Tryz.prog l Q F S r (a.put d undef) w1) (ho : nthO i l = some ⟨d, .store ty x y, tt, pos, aft, g⟩ := by rfl) (hw : Region.wanted ⟨d, .store ty x y, tt, pos, aft, g⟩ (yielded l.toArray a.tmps) = true := by rfl) (hx : a.eval x = .pointer (some ⟨b, j, none⟩) := by rfl) (hy : a.eval y = .bool zi := by rfl) (hm : (b, A, t) ∈ L := by with_reducible repeat (first | exact List.mem_cons_self | apply List.mem_cons_of_mem)) (hT : oneTab ty = some n := by rfl) (hj : j + 1 <= A.size) (hA : A.setIfInBounds j (.bool zi) = A') (hs : setB b A' L L' := by with_reducible repeat (first | exact setB_here _ _ _ _ _ | apply setB_next)) : wpT Tryz.prog l Q F S (.op i r) a w :=
 tActK ho rfl hw fun _ hK => oStore1 hx hy hk hm (oneT_of hT) rfl hj rfl hA hs fun w1 hk1 => hK _ _ (h w1 hk1).1 (h w1 hk1).2
end
theorem Kn.apart5 {w0 w : World} {a b c d f : Nat} {A B C D E : Array Value} {s t u v x : TypeId} (h : Kn [] w0 w [(a, A, s), (b, B, t), (c, C, u), (d, D, v), (f, E, x)]) : (a ≠ b /\ a ≠ c /\ b ≠ c) /\ d ∉ [a, b, c] /\ f ∉ [a, b, c] /\ w0.heap.size <= a /\ w0.heap.size <= b /\ w0.heap.size <= c := by
 have hd := h.dis
 have ha := (h.has (a, A, s) (by simp)).2
 have hb := (h.has (b, B, t) (by simp)).2
 have hc := (h.has (c, C, u) (by simp)).2
 simp only [List.not_mem_nil, or_false] at ha hb hc
 simp only [List.pairwise_cons, List.mem_cons, List.not_mem_nil, or_false, forall_eq_or_imp, forall_eq] at hd
 simp only [List.mem_cons, List.not_mem_nil, or_false, not_or]
 omega
theorem Kn.passed {l : List I5} {V wb cb bb B : Nat} {w w1 w2 : World} {A0 A1 A2 A3 A4 : Array Value} {v1 : PS} {r : Ending} (h : Kn [] w w1 [(V, A0, 178), (wb, A1, 168), (cb, A2, 3), (bb, A3, 4), (B, A4, 29)]) (hp : PassP l V wb cb bb v1 r w1 w2) : ∃ tp tn tc, Kn [] w w2 [(V, rpT wb cb (.slice tp tn tc) bb l.length, 178), (wb, plsA l.length v1.W, 168), (cb, intA l.length (countP v1).cnt, 3), (bb, A3, 4), (B, A4, 29)] := by
 obtain ⟨_, hm, ⟨tp, tn, tc, q1⟩, q2, q3⟩ := hp
 obtain ⟨_, hb, hB, h1, h2, h3⟩ := h.apart5
 refine ⟨tp, tn, tc, h.callY hm (fun b hb => ?_) (by simp) (fun x hx => ?_)⟩
 · simp only [List.mem_cons, List.not_mem_nil, or_false] at hb
   rcases hb with rfl | rfl | rfl <;> exact Or.inl (by assumption)
 · simp only [List.mem_cons, List.not_mem_nil, or_false] at hx
   rcases hx with rfl | rfl | rfl | rfl | rfl
   · exact q1
   · exact q2
   · rw [<- cntE_count]; exact q3
   · exact (h.has (bb, A3, 4) (by simp)).1.mod hm hb
   · exact (h.has (B, A4, 29) (by simp)).1.mod hm hB
structure SetQ (l : List I5) (e : St) (v : PS) : Prop where
 inv : PInv l v
 cb : CB (backB l) (countP v)
 done : anyChg l v = false -> Settles l e PS.zero v
 more : anyChg l v = true -> ∀ vf, Settles l e (countP v) vf -> Settles l e PS.zero vf
def gW (l : List I5) (v : PS) : Nat := if anyChg l v = true then muP l.length (countP v) + 1 else 0
theorem okO_some {e : St} (he : e.ok /\ e.in64) : OkO (some e) := fun s hs => by simp only [Option.some.injEq] at hs; rw [<- hs]; exact he
theorem setQ_zero {l : List I5} (hl : AllFit l) (h64 : ∀ i, i < l.length -> I64 (insAt l i).k) {e : St} (he : e.ok /\ e.in64) : SetQ l e (passP l l.length 0 (some e) PS.zero) :=
 ⟨passP_inv (hl.fitP h64) l.length 0 (some e) _ (by omega) (zero_inv l) (okO_some he), count_cb (passP_cb hl h64 l.length 0 (some e) _ (by omega) (okO_some he) (zero_inv l).ok (zero_cb _)).1, fun h => Settles.done _ h, fun h vf hs => Settles.more _ vf h hs⟩
theorem SetQ.next {l : List I5} (hl : AllFit l) (h64 : ∀ i, i < l.length -> I64 (insAt l i).k) {e : St} (he : e.ok /\ e.in64) {v : PS} (h : SetQ l e v) (ha : anyChg l v = true) : SetQ l e (passP l l.length 0 (some e) (countP v)) /\ gW l (passP l l.length 0 (some e) (countP v)) < gW l v := by
 refine ⟨⟨passP_inv (hl.fitP h64) l.length 0 (some e) _ (by omega) (count_inv h.inv) (okO_some he), count_cb (passP_cb hl h64 l.length 0 (some e) _ (by omega) (okO_some he) (count_inv h.inv).ok h.cb).1, fun h0 => h.more ha _ (Settles.done _ h0), fun h1 vf hs => h.more ha vf (Settles.more _ vf h1 hs)⟩, ?_⟩
 unfold gW
 rw [if_pos ha]
 split
 · rename_i h1
   have := pass_mu (hl.fitP h64) he (count_inv h.inv) (fun _ _ => rfl) h1
   omega
 · omega
theorem jumps_ops {x : I5} {n : Int} (hf : x.fits n = true) : jumpsB x = (x.o == 9 || x.o == 10 || x.o == 11) := by
 unfold jumpsB
 unfold I5.fits fitsB at hf
 simp only [Bool.and_eq_true, decide_eq_true_eq] at hf
 rw [Bool.eq_iff_iff]
 simp only [Bool.or_eq_true, beq_iff_eq, decide_eq_true_eq]
 omega
theorem rf_Prove_st (l : List I5) (hr : rightR l = (0, 0)) (h64 : ∀ i, i < l.length -> I64 (insAt l i).k) (e : St) (he : e.in64) (hst : isStR e = true) (pb po pc : Nat) (w : World) (hpb : pb < w.heap.size) (hIn : ∀ i (h : i < l.length), InsAt w pb (po + i * 5) l[i]) : Calls Tryz.prog 52 #[.slice (some ⟨pb, po, none⟩) l.length pc, .agg (stC e)] w fun r w' => ProveV l e r w w' := by
 have hk := Kn.nil [] w
 have HAF := hide (right_fit hr)
 have hL : l.length <= 64 := HAF.out.2.1
 have HR := hide hr
 have HST := hide hst
 have HEO : Hid (e.ok /\ e.in64) := hide ⟨ok_of_st hst, he⟩
 have H64 := hide h64
 have HIN := hide hIn
 have HV : Hid (Slc w (.slice (some ⟨pb, po, none⟩) l.length pc) l) := hide (Or.inr ⟨pb, po, pc, rfl, hpb, hIn⟩)
 have HPB : Hid (∀ w', Mod [] w w' -> pb < w'.heap.size) := hide fun w' hm => Nat.lt_of_lt_of_le hpb hm.size
 have HINM : Hid (∀ w', Mod [] w w' -> ∀ i (h : i < l.length), InsAt w' pb (po + i * 5) l[i]) := hide fun w' hm i hi => (HIN.out i hi).mod hm hpb List.not_mem_nil
 have HPL := hide hpb
 clear hr h64 he hst hIn hpb
 go_enter Tryz.func52, Tryz.ntmps52
 go_upto_region 4 with (first | (go_at_call 70; refine (rf_first_st l e HR.out true HST.out _ _ (HV.out.below hk.mod.below (Nat.le_refl _))).mono ?_; rintro x w1 ⟨rfl, hb⟩; replace hk := hk.call hb; clear hb) | ((with_reducible apply gL); (first | refine wS hk ?_ | (refine wN hk ?_; clear hk; intro w1 hk)); simp only [pw]))
 go_cut [9] (fun u9 wc => ∃ V wb cb bb, u9 = .pointer (some ⟨V, 0, none⟩) /\ Kn [] w wc [(V, rpT wb cb (.slice none 0 0) bb l.length, 178), (wb, plsA l.length (fun _ => none), 168), (cb, intA l.length (fun _ => 0), 3), (bb, bosA l.length (fun _ => false), 4), (w.heap.size, stC e, 29)])
 case first =>
  have hL2 : l.length <= 64 := hL
  refine wp_region_noPanic (wp_region_any mixT (wpAny_inv (Inv := fun ls a wx => ∃ y G, a = actR (.slice (some ⟨pb, po, none⟩) l.length pc) (.agg (stC e)) w.heap.size y /\ RIr l.length pb po pc w1 y G ls wx) ?hend ?hstep _ _ _ _ (by decide) ?hinit))
  case hinit =>
   refine ⟨fun _ => undef, fun _ => 0, rfl, ?_⟩
   have hno : ∀ i, (Array.replicate 12 false).getD i false = true -> False := fun i h => by
    rw [Array.getD_eq_getD_getElem?, Array.getElem?_replicate] at h
    split at h <;> simp at h
   exact ⟨by simp, Mod.drew _ _, fun i _ h => (hno i h).elim, fun i _ h => (hno i h).elim, fun i _ _ _ _ h _ => (hno i h).elim, fun h => (hno 9 h).elim, fun h => (hno 10 h).elim, fun h => (hno 11 h).elim⟩
  case hstep =>
   rintro ls a w3 i ⟨y, G, rfl, h⟩ hi
   obtain ⟨hun, o, ho, hdep⟩ := mem_ready.1 hi
   have hi12 : i < 12 := by
    have := (Array.getElem?_eq_some_iff.1 ho).1
    simpa using this
   rcases lt12 hi12 with rfl | rfl | rfl | rfl | rfl | rfl | rfl | rfl | rfl | rfl | rfl | rfl
   · refine wpOp_act rfl rfl (oVal (v := valR pb po pc l.length G 0) (by rfl) ?_)
     exact ⟨_, G, put_actR _ _ _ _ _ (by omega), h.step (by omega) hun (fun _ _ => rfl) (Mod.refl _ _) (fun h => by cases h) (fun h => by cases h) (fun h => by cases h) (fun h => by cases h)⟩
   · have _h0 := hun
     obtain rfl := Option.some.inj ((rfl : some _ = _).trans ho)
     have hd : ls.getD 0 false = true := hdep ⟨0, .data⟩ (by simp) rfl
     have hv : y (dstR 0) = .slice (some ⟨pb, po, none⟩) l.length pc := h.val 0 (by omega) hd
     refine wpOp_act rfl rfl (oLenS hv ?_)
     exact ⟨_, G, put_actR _ _ _ _ _ (by omega), h.step (i := 1) (by omega) hun (fun _ _ => rfl) (Mod.refl _ _) (fun h => by cases h) (fun h => by cases h) (fun h => by cases h) (fun h => by cases h)⟩
   · have _h0 := hun
     obtain rfl := Option.some.inj ((rfl : some _ = _).trans ho)
     have hd : ls.getD 1 false = true := hdep ⟨1, .data⟩ (by simp) rfl
     have hv : y (dstR 1) = .int .i64 l.length := h.val 1 (by omega) hd
     refine wpOp_act rfl rfl (oMake (n := l.length) hv hv (Kn.nil [] _) (mkT_of (by rfl)) (by omega) (by omega) ?_)
     intro w4 hk4
     exact ⟨_, fun j => if j = 2 then w3.heap.size else G j, put_actR _ _ _ _ _ (by omega), h.step (G' := fun j => if j = 2 then w3.heap.size else G j) (by omega) hun (fun j hj => if_neg hj) hk4.mod (fun _ => ⟨hk4.at List.mem_cons_self, Nat.le_refl _⟩) (fun h => by cases h) (fun h => by cases h) (fun h => by cases h)⟩
   · refine wpOp_act rfl rfl (oVal (v := valR pb po pc l.length G 3) (by rfl) ?_)
     exact ⟨_, G, put_actR _ _ _ _ _ (by omega), h.step (by omega) hun (fun _ _ => rfl) (Mod.refl _ _) (fun h => by cases h) (fun h => by cases h) (fun h => by cases h) (fun h => by cases h)⟩
   · have _h0 := hun
     obtain rfl := Option.some.inj ((rfl : some _ = _).trans ho)
     have hd : ls.getD 3 false = true := hdep ⟨3, .data⟩ (by simp) rfl
     have hv : y (dstR 3) = .slice (some ⟨pb, po, none⟩) l.length pc := h.val 3 (by omega) hd
     refine wpOp_act rfl rfl (oLenS hv ?_)
     exact ⟨_, G, put_actR _ _ _ _ _ (by omega), h.step (i := 4) (by omega) hun (fun _ _ => rfl) (Mod.refl _ _) (fun h => by cases h) (fun h => by cases h) (fun h => by cases h) (fun h => by cases h)⟩
   · have _h0 := hun
     obtain rfl := Option.some.inj ((rfl : some _ = _).trans ho)
     have hd : ls.getD 4 false = true := hdep ⟨4, .data⟩ (by simp) rfl
     have hv : y (dstR 4) = .int .i64 l.length := h.val 4 (by omega) hd
     refine wpOp_act rfl rfl (oMake (n := l.length) hv hv (Kn.nil [] _) (mkT_of (by rfl)) (by omega) (by omega) ?_)
     intro w4 hk4
     exact ⟨_, fun j => if j = 5 then w3.heap.size else G j, put_actR _ _ _ _ _ (by omega), h.step (G' := fun j => if j = 5 then w3.heap.size else G j) (by omega) hun (fun j hj => if_neg hj) hk4.mod (fun _ => ⟨(by show At w4 w3.heap.size (intA l.length fun _ => 0) _; rw [int_zero]; exact hk4.at List.mem_cons_self), Nat.le_refl _⟩) (fun h => by cases h) (fun h => by cases h) (fun h => by cases h)⟩
   · refine wpOp_act rfl rfl (oVal (v := valR pb po pc l.length G 6) (by rfl) ?_)
     exact ⟨_, G, put_actR _ _ _ _ _ (by omega), h.step (by omega) hun (fun _ _ => rfl) (Mod.refl _ _) (fun h => by cases h) (fun h => by cases h) (fun h => by cases h) (fun h => by cases h)⟩
   · have _h0 := hun
     obtain rfl := Option.some.inj ((rfl : some _ = _).trans ho)
     have hd : ls.getD 6 false = true := hdep ⟨6, .data⟩ (by simp) rfl
     have hv : y (dstR 6) = .slice (some ⟨pb, po, none⟩) l.length pc := h.val 6 (by omega) hd
     refine wpOp_act rfl rfl (oLenS hv ?_)
     exact ⟨_, G, put_actR _ _ _ _ _ (by omega), h.step (i := 7) (by omega) hun (fun _ _ => rfl) (Mod.refl _ _) (fun h => by cases h) (fun h => by cases h) (fun h => by cases h) (fun h => by cases h)⟩
   · have _h0 := hun
     obtain rfl := Option.some.inj ((rfl : some _ = _).trans ho)
     have hd : ls.getD 7 false = true := hdep ⟨7, .data⟩ (by simp) rfl
     have hv : y (dstR 7) = .int .i64 l.length := h.val 7 (by omega) hd
     refine wpOp_act rfl rfl (oMake (n := l.length) hv hv (Kn.nil [] _) (mkT_of (by rfl)) (by omega) (by omega) ?_)
     intro w4 hk4
     exact ⟨_, fun j => if j = 8 then w3.heap.size else G j, put_actR _ _ _ _ _ (by omega), h.step (G' := fun j => if j = 8 then w3.heap.size else G j) (by omega) hun (fun j hj => if_neg hj) hk4.mod (fun _ => ⟨hk4.at List.mem_cons_self, Nat.le_refl _⟩) (fun h => by cases h) (fun h => by cases h) (fun h => by cases h)⟩
   · have _h0 := hun
     obtain rfl := Option.some.inj ((rfl : some _ = _).trans ho)
     have hd2 : ls.getD 2 false = true := hdep ⟨2, .data⟩ (by simp) rfl
     have hd5 : ls.getD 5 false = true := hdep ⟨5, .data⟩ (by simp) rfl
     have hd8 : ls.getD 8 false = true := hdep ⟨8, .data⟩ (by simp) rfl
     have hv2 := h.val 2 (by omega) hd2
     have hv5 := h.val 5 (by omega) hd5
     have hv8 := h.val 8 (by omega) hd8
     refine wpOp_act rfl rfl (oBuild (ps := [(0, valR pb po pc l.length G 2), (1, valR pb po pc l.length G 5), (3, valR pb po pc l.length G 8)]) (by rw [<- hv2, <- hv5, <- hv8]; rfl) (build_rp _ _ _ _ _ _ _ _ _ _) ?_)
     exact ⟨_, G, put_actR _ _ _ _ _ (by omega), h.step (i := 9) (by omega) hun (fun _ _ => rfl) (Mod.refl _ _) (fun h => by cases h) (fun _ => ⟨hd2, hd5, hd8⟩) (fun h => by cases h) (fun h => by cases h)⟩
   · have _h0 := hun
     obtain rfl := Option.some.inj ((rfl : some _ = _).trans ho)
     have hd9 : ls.getD 9 false = true := hdep ⟨9, .data⟩ (by simp) rfl
     have hv9 : y 34 = .agg (rpT (G 2) (G 5) (.slice none 0 0) (G 8) l.length) := h.val 9 (by omega) hd9
     refine wpOp_act rfl rfl (oBox hv9 (Kn.nil [] _) ?_)
     intro w4 hk4
     exact ⟨_, fun j => if j = 10 then w3.heap.size else G j, put_actR _ _ _ _ _ (by omega), h.step (G' := fun j => if j = 10 then w3.heap.size else G j) (by omega) hun (fun j hj => if_neg hj) hk4.mod (fun _ => ⟨hk4.at List.mem_cons_self, Nat.le_refl _⟩) (fun h => by cases h) (fun _ => hd9) (fun h => by cases h)⟩
   · have _h0 := hun
     obtain rfl := Option.some.inj ((rfl : some _ = _).trans ho)
     have hd10 : ls.getD 10 false = true := hdep ⟨10, .data⟩ (by simp) rfl
     have hv10 : y 35 = .pointer (some ⟨G 10, 0, none⟩) := h.val 10 (by omega) hd10
     refine wpOp_act rfl rfl (oVal (v := y 35) (by rfl) ?_)
     rw [hv10]
     exact ⟨_, G, put_actR _ _ _ _ _ (i := 11) (by omega), h.step (i := 11) (by omega) hun (fun _ _ => rfl) (Mod.refl _ _) (fun h => by cases h) (fun h => by cases h) (fun h => by cases h) (fun _ => hd10)⟩
  case hend =>
   rintro ls a w3 ⟨y, G, rfl, h⟩ hr
   have hs := h.sz
   have l0 : ls.getD 0 false = true := all_done hr (by omega) rfl (by intro e he hb; simp at he; (repeat' (rcases he with rfl | he)); all_goals (first | assumption | (exact absurd hb (by decide)) | (subst he; first | assumption | exact absurd hb (by decide))))
   have l1 : ls.getD 1 false = true := all_done hr (by omega) rfl (by intro e he hb; simp at he; (repeat' (rcases he with rfl | he)); all_goals (first | assumption | (exact absurd hb (by decide)) | (subst he; first | assumption | exact absurd hb (by decide))))
   have l2 : ls.getD 2 false = true := all_done hr (by omega) rfl (by intro e he hb; simp at he; (repeat' (rcases he with rfl | he)); all_goals (first | assumption | (exact absurd hb (by decide)) | (subst he; first | assumption | exact absurd hb (by decide))))
   have l3 : ls.getD 3 false = true := all_done hr (by omega) rfl (by intro e he hb; simp at he; (repeat' (rcases he with rfl | he)); all_goals (first | assumption | (exact absurd hb (by decide)) | (subst he; first | assumption | exact absurd hb (by decide))))
   have l4 : ls.getD 4 false = true := all_done hr (by omega) rfl (by intro e he hb; simp at he; (repeat' (rcases he with rfl | he)); all_goals (first | assumption | (exact absurd hb (by decide)) | (subst he; first | assumption | exact absurd hb (by decide))))
   have l5 : ls.getD 5 false = true := all_done hr (by omega) rfl (by intro e he hb; simp at he; (repeat' (rcases he with rfl | he)); all_goals (first | assumption | (exact absurd hb (by decide)) | (subst he; first | assumption | exact absurd hb (by decide))))
   have l6 : ls.getD 6 false = true := all_done hr (by omega) rfl (by intro e he hb; simp at he; (repeat' (rcases he with rfl | he)); all_goals (first | assumption | (exact absurd hb (by decide)) | (subst he; first | assumption | exact absurd hb (by decide))))
   have l7 : ls.getD 7 false = true := all_done hr (by omega) rfl (by intro e he hb; simp at he; (repeat' (rcases he with rfl | he)); all_goals (first | assumption | (exact absurd hb (by decide)) | (subst he; first | assumption | exact absurd hb (by decide))))
   have l8 : ls.getD 8 false = true := all_done hr (by omega) rfl (by intro e he hb; simp at he; (repeat' (rcases he with rfl | he)); all_goals (first | assumption | (exact absurd hb (by decide)) | (subst he; first | assumption | exact absurd hb (by decide))))
   have l9 : ls.getD 9 false = true := all_done hr (by omega) rfl (by intro e he hb; simp at he; (repeat' (rcases he with rfl | he)); all_goals (first | assumption | (exact absurd hb (by decide)) | (subst he; first | assumption | exact absurd hb (by decide))))
   have l10 : ls.getD 10 false = true := all_done hr (by omega) rfl (by intro e he hb; simp at he; (repeat' (rcases he with rfl | he)); all_goals (first | assumption | (exact absurd hb (by decide)) | (subst he; first | assumption | exact absurd hb (by decide))))
   have l11 : ls.getD 11 false = true := all_done hr (by omega) rfl (by intro e he hb; simp at he; (repeat' (rcases he with rfl | he)); all_goals (first | assumption | (exact absurd hb (by decide)) | (subst he; first | assumption | exact absurd hb (by decide))))
   have hy9 : y 9 = .pointer (some ⟨G 10, 0, none⟩) := h.val 11 (by omega) l11
   have r2 := h.row 2 rfl l2
   have r5 := h.row 5 rfl l5
   have r8 := h.row 8 rfl l8
   have r10 := h.row 10 rfl l10
   have hbx := hk.at (A := stC e) List.mem_cons_self
   have hlb := lt_of_block hbx
   have n1 := h.ne 10 2 rfl rfl (by omega) l10 l2
   have n2 := h.ne 10 5 rfl rfl (by omega) l10 l5
   have n3 := h.ne 10 8 rfl rfl (by omega) l10 l8
   have n4 := h.ne 2 5 rfl rfl (by omega) l2 l5
   have n5 := h.ne 2 8 rfl rfl (by omega) l2 l8
   have n6 := h.ne 5 8 rfl rfl (by omega) l5 l8
   have z2 := r2.2
   have z5 := r5.2
   have z8 := r8.2
   have z10 := r10.2
   have HKN : Hid (Kn [] w w3 [(G 10, rpT (G 2) (G 5) (.slice none 0 0) (G 8) l.length, 178), (G 2, plsA l.length (fun _ => none), 168), (G 5, intA l.length (fun _ => 0), 3), (G 8, bosA l.length (fun _ => false), 4), (w.heap.size, stC e, 29)]) := hide ⟨hk.mod.trans h.mod, fun x hx => by
    simp only [List.mem_cons, List.not_mem_nil, or_false] at hx
    rcases hx with rfl | rfl | rfl | rfl | rfl
    · exact ⟨r10.1, Or.inl (by simp only; omega)⟩
    · exact ⟨r2.1, Or.inl (by simp only; omega)⟩
    · exact ⟨r5.1, Or.inl (by simp only; omega)⟩
    · exact ⟨r8.1, Or.inl (by simp only; omega)⟩
    · exact ⟨hbx.mod h.mod List.not_mem_nil, Or.inl (Nat.le_refl _)⟩, by
    simp only [List.pairwise_cons, List.mem_cons, List.not_mem_nil, or_false, forall_eq_or_imp, forall_eq, false_implies, implies_true, List.Pairwise.nil, and_true]
    omega⟩
   clear r2 r5 r8 r10 h hr hbx hk
   refine NoPanic.normal ?_
   unfold actR
   rw [hy9]
   go_wp2_with fail
   go_meet
   case rel => exact ⟨_, _, _, _, rfl, HKN.out⟩
 case rest =>
  clear hk
  obtain ⟨V, wb, cb, bb, rfl, hk⟩ := hcut
  have HND := hide hk.apart5
  have HPM : Hid (pb ∉ [V, wb, cb]) := hide (by have h1 := HND.out.2.2.2; have h2 := HPL.out; simp only [List.mem_cons, List.not_mem_nil, or_false, not_or]; omega)
  replace hk : Kn [] w wc [(V, rpT wb cb (.slice none 0 0) bb l.length, 178), (wb, plsA l.length (fun _ => none), 168), (cb, intA l.length (fun _ => 0), 3), (bb, bosA l.length (bkU l 0), 4), (w.heap.size, stC e, 29)] := hk
  go_wp2_with ((with_reducible apply gL); (first | refine wS hk ?_ | (refine wN hk ?_; clear hk; intro w1 hk)); simp only [pw])
  go_loopg [10] l.length (fun k u10 wx => ∃ i : Nat, i + k = l.length /\ u10 = .int .i64 i /\ Kn [] w wx [(V, rpT wb cb (.slice none 0 0) bb l.length, 178), (wb, plsA l.length (fun _ => none), 168), (cb, intA l.length (fun _ => 0), 3), (bb, bosA l.length (bkU l i), 4), (w.heap.size, stC e, 29)])
  case atStart => exact ⟨0, by omega, rfl, hk⟩
  case round =>
   clear hk
   obtain ⟨i, hik, rfl, hk⟩ := hrel
   match gk, hik with
   | k + 1, hik =>
     have hlt : i < l.length := by omega
     have hfit := HAF.out.fit hlt
     have hci := HIN.out i hlt
     rw [<- insAt_get hlt] at hci
     have hc0 := hci.1
     have hc4 := hci.2.2.2.2
     clear hci
     have HIK := hide hik
     clear hik
     have HJO := hide (jumps_ops hfit)
     have HNO : Hid (jumpsB (insAt l i) = false -> bkU l (i + 1) = bkU l i) := hide fun hj => bkU_no fun m => by unfold bkB; unfold jumpsB at hj; rw [hj]; rfl
     have HTG : Hid (jumpsB (insAt l i) = true -> ∃ k : Nat, (insAt l i).k = k /\ k < l.length /\ (k <= i -> bkU l (i + 1) = updB (bkU l i) k true) /\ (¬ k <= i -> bkU l (i + 1) = bkU l i)) := hide fun hj => by
      obtain ⟨k, hk1, hk2⟩ := HAF.out.targ hlt hj
      have hk1' := hk1
      have hj' := hj
      unfold jumpsB at hj'
      unfold targI at hk1'
      simp only [decide_eq_true_eq] at hj'
      rw [if_pos hj'] at hk1'
      refine ⟨k, hk1', hk2, fun hle => bkU_yes hj hk1 hle, fun hle => bkU_no fun m => ?_⟩
      unfold bkB
      by_cases e : m = k
      · subst e; simp [hle]
      · have : ¬ ((insAt l i).k = (m : Int)) := by rw [hk1']; omega
        simp [this]
     obtain ⟨x, hx⟩ : ∃ x, insAt l i = x := ⟨_, rfl⟩
     rw [hx] at hfit hc0 hc4 HJO HNO HTG
     clear hx hfit
     go_upto_region 8 with ((with_reducible apply gL); (first | refine wS hk ?_ | (refine wN hk ?_; clear hk; intro w1 hk)); simp only [pw])
     go_cut [11] (fun u11 wc => u11 = .bool (jumpsB x) /\ Kn [] w wc [(V, rpT wb cb (.slice none 0 0) bb l.length, 178), (wb, plsA l.length (fun _ => none), 168), (cb, intA l.length (fun _ => 0), 3), (bb, bosA l.length (bkU l i), 4), (w.heap.size, stC e, 29)])
     case first =>
      cases h9 : (x.o == 9) with
      | true =>
        have H9 := hide h9
        clear h9
        (refine wp_regLK hk (.op 0 (.op 1 (.op 2 (.op 3 (.op 4 (.op 5 (.op 6 (.op 7 (.op 8 (.op 9 (.op 10 (.op 11 (.op 12 (.op 13 (.op 14 (.op 15 (.op 16 (.op 17 (.op 18 (.op 19 (.op 20 (.op 21 (.op 22 .nil))))))))))))))))))))))) (by rfl) ?_)
        (repeat (refine sV hk ?_; simp only [pw]; (try rw [H9.out])))
        refine tNil ?_
        go_wp2_with ((with_reducible apply gL); (first | refine wS hk ?_ | (refine wN hk ?_; clear hk; intro w1 hk)); simp only [pw])
        go_meet
        case rel => exact ⟨by rw [HJO.out, H9.out]; rfl, hk⟩
      | false =>
        cases h10 : (x.o == 10) with
        | true =>
          have H9 := hide h9
          have H10 := hide h10
          clear h9 h10
          (refine wp_regLK hk (.op 0 (.op 1 (.op 2 (.op 3 (.op 4 (.op 5 (.op 6 (.op 7 (.op 8 (.op 9 (.op 10 (.op 11 (.op 12 (.op 13 (.op 14 (.op 15 (.op 16 (.op 17 (.op 18 (.op 19 (.op 20 (.op 21 (.op 22 .nil))))))))))))))))))))))) (by rfl) ?_)
          (repeat (refine sV hk ?_; simp only [pw]; (try rw [H9.out]); (try rw [H10.out])))
          refine tNil ?_
          go_wp2_with ((with_reducible apply gL); (first | refine wS hk ?_ | (refine wN hk ?_; clear hk; intro w1 hk)); simp only [pw])
          go_meet
          case rel => exact ⟨by rw [HJO.out, H9.out, H10.out]; rfl, hk⟩
        | false =>
          obtain ⟨b11, h11⟩ : ∃ b, (x.o == 11) = b := ⟨_, rfl⟩
          have H9 := hide h9
          have H10 := hide h10
          have H11 := hide h11
          clear h9 h10 h11
          (refine wp_regLK hk (.op 0 (.op 1 (.op 2 (.op 3 (.op 4 (.op 5 (.op 6 (.op 7 (.op 8 (.op 9 (.op 10 (.op 11 (.op 12 (.op 13 (.op 14 (.op 15 (.op 16 (.op 17 (.op 18 (.op 19 (.op 20 (.op 21 (.op 22 .nil))))))))))))))))))))))) (by rfl) ?_)
          (repeat (refine sV hk ?_; simp only [pw]; (try rw [H9.out]); (try rw [H10.out]); (try rw [H11.out])))
          refine tNil ?_
          go_wp2_with ((with_reducible apply gL); (first | refine wS hk ?_ | (refine wN hk ?_; clear hk; intro w1 hk)); simp only [pw])
          go_meet
          case rel => exact ⟨by rw [HJO.out, H9.out, H10.out, H11.out]; rfl, hk⟩
     case rest =>
      clear hk
      obtain ⟨rfl, hk⟩ := hcut
      cases hj : jumpsB x with
      | false =>
        have R := hide (HNO.out hj)
        clear hj
        go_upto_region 9 with ((with_reducible apply gL); (first | refine wS hk ?_ | (refine wN hk ?_; clear hk; intro w1 hk)); simp only [pw])
        (refine wp_regLK hk (.op 0 (.op 1 (.op 2 (.op 3 (.op 4 (.op 5 (.op 6 (.op 7 (.op 8 (.op 9 .nil)))))))))) (by rfl) ?_)
        (repeat (refine sV hk ?_; simp only [pw]))
        refine tNil ?_
        go_wp2_with ((with_reducible apply gL); (first | refine wS hk ?_ | (refine wN hk ?_; clear hk; intro w1 hk)); simp only [pw])
        go_roundg k
        case measure => omega
        case rel => exact ⟨i + 1, by have := HIK.out; omega, by go_num, by rw [R.out]; exact hk⟩
      | true =>
        obtain ⟨kn, hkn, hkl, hy, hn⟩ := HTG.out hj
        rw [hkn] at hc4
        clear hj hkn
        by_cases hle : kn <= i
        · have R := hide (hy hle)
          have HD := hide (show decide ((kn : Int) <= (i : Int)) = true by rw [decide_eq_true_eq]; omega)
          clear hy hn hle
          go_upto_region 9 with ((with_reducible apply gL); (first | refine wS hk ?_ | (refine wN hk ?_; clear hk; intro w1 hk)); simp only [pw])
          (refine wp_regLK hk (.op 0 (.op 1 (.op 2 (.op 3 (.op 4 (.op 5 (.op 6 (.op 7 (.op 8 (.op 9 .nil)))))))))) (by rfl) ?_)
          (repeat (refine sV hk ?_; simp only [pw]; (try rw [HD.out])))
          refine tNil ?_
          go_upto_region 10 with ((with_reducible apply gL); (first | refine wS hk ?_ | (refine wN hk ?_; clear hk; intro w1 hk)); simp only [pw])
          refine wp_reg1 hk (.op 0 (.op 1 (.op 2 (.op 3 (.op 4 (.op 5 (.op 6 (.op 7 (.op 8 (.op 9 (.op 10 .nil))))))))))) (fun i => decide (i < 11)) mixT (by decide) (by kernel_rfl) (by kernel_rfl) ?_; clear hk; intro w1 hk
          (repeat (refine sV hk.first ?_; simp only [pw]))
          refine sNil hk.first ?_; simp only [pw]
          (repeat (refine sV hk.first ?_; simp only [pw]))
          refine sStore1B hk ?_ (hj := by rw [bosA_size]; omega) (hA := set_bos _ _ _ _); clear hk; intro w1 hk; refine ⟨fun _ => hk.first, ?_⟩; simp only [pw]
          refine tNil ?_
          go_wp2_with ((with_reducible apply gL); (first | refine wS hk ?_ | (refine wN hk ?_; clear hk; intro w1 hk)); simp only [pw])
          go_roundg k
          case measure => omega
          case rel => exact ⟨i + 1, by have := HIK.out; omega, by go_num, by rw [R.out]; exact hk⟩
        · have R := hide (hn hle)
          have HD := hide (show decide ((kn : Int) <= (i : Int)) = false by rw [decide_eq_false_iff_not]; omega)
          clear hy hn hle
          go_upto_region 9 with ((with_reducible apply gL); (first | refine wS hk ?_ | (refine wN hk ?_; clear hk; intro w1 hk)); simp only [pw])
          (refine wp_regLK hk (.op 0 (.op 1 (.op 2 (.op 3 (.op 4 (.op 5 (.op 6 (.op 7 (.op 8 (.op 9 .nil)))))))))) (by rfl) ?_)
          (repeat (refine sV hk ?_; simp only [pw]; (try rw [HD.out])))
          refine tNil ?_
          go_wp2_with ((with_reducible apply gL); (first | refine wS hk ?_ | (refine wN hk ?_; clear hk; intro w1 hk)); simp only [pw])
          go_roundg k
          case measure => omega
          case rel => exact ⟨i + 1, by have := HIK.out; omega, by go_num, by rw [R.out]; exact hk⟩
   | 0, hik =>
     have e2 : i = l.length := by omega
     subst e2
     rw [bkU_all] at hk
     clear hik
     go_wp2_with ((with_reducible apply gL); (first | refine wS hk ?_ | (refine wN hk ?_; clear hk; intro w1 hk)); simp only [pw])
     go_at_call 78
     refine (rf_pass l HR.out H64.out V wb cb bb none 0 0 PS.zero rfl e HEO.out (zero_inv l) (fun _ _ => Nat.zero_le _) pb po pc _ (HPB.out _ hk.mod) (HINM.out _ hk.mod) HND.out.1.2.2 HND.out.1.1 HND.out.1.2.1 HND.out.2.1 HPM.out (hk.at mm) (hk.at (A := plsA l.length (fun _ => none)) mm) (hk.at (A := intA l.length (fun _ => 0)) mm) (hk.at mm)).mono ?_
     intro r2 w2 hp
     obtain ⟨tp, tn, tc, hk⟩ := hk.passed hp
     obtain ⟨rfl, _⟩ := hp
     have HQ := hide (setQ_zero HAF.out H64.out HEO.out)
     obtain ⟨v1, hv1⟩ : ∃ v1, passP l l.length 0 (some e) PS.zero = v1 := ⟨_, rfl⟩
     rw [hv1] at hk HQ
     rw [hv1]
     clear hv1
     go_wp2_with ((with_reducible apply gL); (first | refine wS hk ?_ | (refine wN hk ?_; clear hk; intro w1 hk)); simp only [pw])
     go_loopg [12] (gW l v1) (fun g u12 wx => ∃ v tp tn tc, g = gW l v /\ u12 = .bool (anyChg l v) /\ SetQ l e v /\ Kn [] w wx [(V, rpT wb cb (.slice tp tn tc) bb l.length, 178), (wb, plsA l.length v.W, 168), (cb, intA l.length (countP v).cnt, 3), (bb, bosA l.length (backB l), 4), (w.heap.size, stC e, 29)])
     case atStart => exact ⟨v1, tp, tn, tc, rfl, rfl, HQ.out, hk⟩
     case round =>
      clear hk HQ
      obtain ⟨v, tp, tn, tc, hg, rfl, hq, hk⟩ := hrel
      have HQ := hide hq
      have HG := hide hg
      clear hq hg
      cases hA : anyChg l v with
      | true =>
        have HN := hide (HQ.out.next HAF.out H64.out HEO.out hA)
        clear hA
        go_wp2_with ((with_reducible apply gL); (first | refine wS hk ?_ | (refine wN hk ?_; clear hk; intro w1 hk)); simp only [pw])
        go_at_call 78
        refine (rf_pass l HR.out H64.out V wb cb bb tp tn tc (countP v) rfl e HEO.out (count_inv HQ.out.inv) (fun _ hb => HQ.out.cb.le hb) pb po pc _ (HPB.out _ hk.mod) (HINM.out _ hk.mod) HND.out.1.2.2 HND.out.1.1 HND.out.1.2.1 HND.out.2.1 HPM.out (hk.at mm) (hk.at (A := plsA l.length v.W) mm) (hk.at mm) (hk.at mm)).mono ?_
        intro r2 w2 hp
        obtain ⟨tp, tn, tc, hk⟩ := hk.passed hp
        obtain ⟨rfl, _⟩ := hp
        obtain ⟨v2, hv2⟩ : ∃ v2, passP l l.length 0 (some e) (countP v) = v2 := ⟨_, rfl⟩
        rw [hv2] at hk HN
        rw [hv2]
        clear hv2
        go_wp2_with ((with_reducible apply gL); (first | refine wS hk ?_ | (refine wN hk ?_; clear hk; intro w1 hk)); simp only [pw])
        go_roundg (gW l v2)
        case measure => rw [HG.out]; exact HN.out.2
        case rel => exact ⟨v2, tp, tn, tc, rfl, rfl, HN.out.1, hk⟩
      | false =>
        have HS := hide (HQ.out.done hA)
        have HPI := hide HQ.out.inv
        clear hA HG HQ
        go_wp2_with ((with_reducible apply gL); (first | refine wS hk ?_ | (refine wN hk ?_; clear hk; intro w1 hk)); simp only [pw])
        have HBW := hide hk.mod.below
        have HMW := hide hk.mod
        obtain ⟨w5, e5⟩ : ∃ x, x = wr := ⟨_, rfl⟩
        subst e5
        have HV5 := hide (hk.at (A := rpT wb cb (.slice tp tn tc) bb l.length) mm)
        have HW5 := hide (hk.at (A := plsA l.length v.W) mm)
        have HE5 := hide (hk.at (A := stC e) mm)
        have HL5 : Hid (V < w5.heap.size /\ wb < w5.heap.size /\ w.heap.size < w5.heap.size) := hide ⟨HV5.out.lt, HW5.out.lt, HE5.out.lt⟩
        obtain ⟨i0, ihi, ih0, ihs, ih2⟩ := info_parts Tryz.infoClaim
        clear hk
        go_loopw [13, 14] (fun u13 j wx => ∃ i : Nat, i <= l.length /\ j = .int .i64 i /\ wx.ownsRow w5.heap.size 71 17 u13 (clsW i v.W).length ((clsW i v.W).flatMap clCells) /\ Below w5.heap.size w5 wx) (fun _ j _ => l.length - (intOf j).toNat)
        case atStart => exact ⟨0, by omega, rfl, World.ownsRow_nil _ _ _ _, Below.refl _ _⟩
        case round =>
         obtain ⟨i, hi, rfl, hown, hbl⟩ := hrel
         have hVr : At wr V (rpT wb cb (.slice tp tn tc) bb l.length) 178 := HV5.out.of (hbl.block V HL5.out.1)
         have hWr : At wr wb (plsA l.length v.W) 168 := HW5.out.of (hbl.block wb HL5.out.2.1)
         have hEr : At wr w.heap.size (stC e) 29 := HE5.out.of (hbl.block _ HL5.out.2.2)
         have hk := Kn.nil [] wr
         have HO := hide hown
         have HBL := hide hbl
         have hcl := clsW_len i v.W
         clear hown hbl
         by_cases hlt : i < l.length
         · cases hWi : v.W i with
           | none =>
             have R := hide (clsW_none hWi)
             have hWb : (v.W i).isSome = false := by rw [hWi]; rfl
             clear hWi
             go_wp2_with (first | ((with_reducible show wpList _ _ _ (⟨some 106, _, _, _, _, _⟩ :: _) _ _); refine wOld1 hk ?_ (hv := get_is _ _ _ hlt); simp only [pw]; rw [hWb]) | ((with_reducible apply gL); (first | refine wS hk ?_ | (refine wN hk ?_; clear hk; intro w1 hk)); simp only [pw]))
             go_roundw
             case rel => exact ⟨i + 1, by omega, by go_num, by rw [R.out]; exact own_mod HO.out hk.mod, HBL.out.trans (hk.mod.below.mono HBL.out.size)⟩
             case measure => simp [intOf]; omega
           | some s =>
             have R := hide (clsW_some hWi)
             have hWb : (v.W i).isSome = true := by rw [hWi]; rfl
             have hWs : stO (v.W i) = s := by rw [hWi]; rfl
             clear hWi
             go_upto_region 19 with (first | ((with_reducible show wpList _ _ _ (⟨some 106, _, _, _, _, _⟩ :: _) _ _); refine wOld1 hk ?_ (hv := get_is _ _ _ hlt); simp only [pw]; rw [hWb]) | ((with_reducible apply gL); (first | refine wS hk ?_ | (refine wN hk ?_; clear hk; intro w1 hk)); simp only [pw]))
             have hgw : ∀ k, u13.ownBlock = some k -> w5.heap.size <= k /\ k < wr.heap.size := HO.out.lt
             have hMV : V ∉ ownM u13 := fun h => by unfold ownM at h; have := hgw V (by simpa using h); have := HL5.out.1; omega
             have hMW : wb ∉ ownM u13 := fun h => by unfold ownM at h; have := hgw wb (by simpa using h); have := HL5.out.2.1; omega
             have HGW := hide hgw
             clear hgw
             replace hk := hk.weak (M := ownM u13)
             (refine wp_regLK hk (.op 0 (.op 1 (.op 2 (.op 3 (.op 4 (.op 5 (.op 6 (.op 7 (.op 8 (.op 9 (.op 10 (.op 11 (.op 12 (.op 13 .nil)))))))))))))) (by rfl) ?_)
             refine sMove hk ?_; simp only [pw]
             (repeat (refine sV hk ?_; simp only [pw]))
             refine sNil hk ?_; simp only [pw]
             (repeat (refine sV hk ?_; simp only [pw]))
             refine sOldR hk ?_ (hc := ex_plsS _ _ _ hlt); simp only [pw]
             rw [hWs]
             refine sBuild hk ?_ (hb := fun wx => build_cl _ _ wx); simp only [pw]
             refine sBuildCl hk ?_; intro w2 hw2 hk3; refine ⟨fun h => absurd h (by decide), ?_⟩; simp only [pw]
             have hown2 : w2.ownsRow w5.heap.size 71 17 u13 (clsW i v.W).length ((clsW i v.W).flatMap clCells) := by rw [hw2]; exact own_mod HO.out (Mod.alloc _ _ _)
             have hat2 : At w2 wr.heap.size (clC (i : Int) s) 71 := hk3.at List.mem_cons_self
             have hz2 : w5.heap.size <= w2.heap.size := by have h1 := HBL.out.size; have h2 := hk3.mod.size; omega
             have hb2 : Below w5.heap.size w5 w2 := by
              have h1 : Mod [] wr w2 := by rw [hw2]; exact Mod.alloc _ _ _
              exact HBL.out.trans (h1.below.mono HBL.out.size)
             clear hw2
             refine tActK (by rfl) (by rfl) (by rfl) (fun K hK => wp_append_own w2 (.tmp 107) (.tmp 118) 51 rfl w5.heap.size 71 i0 _ 17 136 Tryz.underlying51 ihi ih0 ihs ih2 rfl (by decide) u13 (clsW i v.W).length _ (by rfl) hown2 ⟨wr.heap.size, 0, none⟩ 1 1 (clCells ⟨(i : Int), s⟩) (by rfl) rfl (fun j u hj => ?_) (fun u hu => List.all_eq_true.1 (clC_one (i : Int) s) u hu) (by unfold maxLen; omega) (by omega) hz2 (fun v' w' hown' hg _ => hK _ _ (fun h => absurd h (by decide)) ?_))
             · rw [addr_add, cell_of_row _ _ _ _ _ _ hat2, Nat.zero_add, <- Array.getElem?_toList]; exact hj
             · have hk4 := hk3.drop.grow (grown_mod hg) (fun x hx => (by cases hx))
               have hb4 : Below w5.heap.size w5 w' := hb2.grown hg hz2 (fun k hk => (HGW.out k hk).1)
               have HOW : Hid (w'.ownsRow w5.heap.size 71 17 v' (clsW (i + 1) v.W).length ((clsW (i + 1) v.W).flatMap clCells)) := hide (by
                rw [R.out, List.flatMap_append, List.length_append]
                simpa using hown')
               simp only [pw]
               refine sAssign hk4 ?_; simp only [pw]
               refine tNil ?_
               clear hk hk3 hk4 hown' hg
               go_wp2_with fail
               go_roundw
               case rel => exact ⟨i + 1, by omega, by go_num, HOW.out, hb4⟩
               case measure => simp [intOf]; omega
         · have e9 : i = l.length := by omega
           subst e9
           obtain ⟨cl, hcl2⟩ : ∃ cl, clsW l.length v.W = cl := ⟨_, rfl⟩
           rw [hcl2] at hcl
           have HCL := hide hcl2
           have HIN64 : Hid (In64 l e cl) := hide ⟨H64.out, HEO.out.2, fun i hi => by
            obtain ⟨k, _, hk, _⟩ := clsW_mem (n := l.length) (W := v.W) (c := clAt cl i) (by rw [hcl2]; exact clAt_mem hi)
            exact (HPI.out.ok k _ hk).2⟩
           have HOWN : Hid (wr.ownsRow w5.heap.size 71 17 u13 cl.length (cl.flatMap clCells)) := hide (by rw [<- hcl2]; exact HO.out)
           have HB0 : Hid (Below w.heap.size w wr) := hide (HBW.out.trans (HBL.out.mono HBW.out.size))
           clear hcl2 hi hVr hWr
           go_wp2_with ((with_reducible apply gL); (first | refine wS hk ?_ | (refine wN hk ?_; clear hk; intro w1 hk)); simp only [pw])
           go_at_call 50
           refine (rf_Check l e cl HIN64.out (by omega) _ u13 _ (HV.out.below (HB0.out.trans (hk.mod.below.mono HB0.out.size)) (Nat.le_refl _)) (own_slcC (own_mod HOWN.out hk.mod) rfl)).mono ?_
           rintro x w6 ⟨rfl, hb6⟩
           replace hk := hk.call hb6
           clear hb6
           have HSC : Hid (scheckR l e cl = ((checkR l e cl).1, ((checkR l e cl).2 : Int))) := hide (by unfold scheckR; rw [if_pos HR.out])
           rw [HSC.out]
           clear HSC
           obtain ⟨PE, PN, hPS⟩ : ∃ PE PN, checkR l e cl = (PE, PN) := ⟨_, _, rfl⟩
           have HPS := hide hPS
           rw [hPS]
           by_cases h0 : PE = 0
           · subst h0
             clear hPS
             go_wp2_with ((with_reducible apply gL); (first | refine wS hk ?_ | (refine wN hk ?_; clear hk; intro w1 hk)); simp only [pw])
             exact post_3 rfl rfl rfl rfl rfl ⟨_, _, _, cl, rfl, Or.inr ⟨HST.out, v, HS.out, Or.inr ⟨by rw [HCL.out, HPS.out], HCL.out.symm, rfl, rfl⟩⟩, own_low (own_mod HOWN.out hk.mod) HBW.out.size, HB0.out.trans (hk.mod.below.mono HB0.out.size)⟩
           · have hne : (PE == 0) = false := by rw [beq_eq_false_iff_ne]; exact h0
             clear hPS
             go_wp2_with ((with_reducible apply gL); (first | refine wS hk ?_ | (refine wN hk ?_; clear hk; intro w1 hk)); simp only [pw])
             exact post_3 rfl rfl rfl rfl rfl ⟨_, _, _, [], rfl, Or.inr ⟨HST.out, v, HS.out, Or.inl ⟨by rw [HCL.out, HPS.out]; exact h0, rfl, by rw [HCL.out, HPS.out], by rw [HCL.out, HPS.out]⟩⟩, World.ownsRow_nil _ _ _ _, HB0.out.trans (hk.mod.below.mono HB0.out.size)⟩
end Go.Proofs.YtamiichlbmllcabGreatDoor
