import Derived.Test.YtamiichlbmllcaaGreatDoorQDo2
import Derived.Test.YtamiichlbmllcaaGreatDoorQBackC
import Derived.Test.YtamiichlbmllcaaGreatDoorQDraw
import Derived.Test.YtamiichlbmllcaaGreatDoorQClaimed
import Derived.Test.YtamiichlbmllcaaGreatDoorRows
import Derived.Test.YtamiichlbmllcaaGreatDoorQRngE
import Derived.ProofKit
import Derived.LaidMore
import Derived.OpenShut
import Derived.Stop.Joined
import Derived.Deep.Slices
import Derived.Deep.Strs
import Derived.Test.YtamiichlbmllcaaGreatDoorQRfI
import Derived.SizedLaws
import Derived.Test.YtamiichlbmllcaaGreatDoorQPrI
import Derived.Test.YtamiichlbmllcaaGreatDoorQRfJ
/-
  The contract of suretylaw.checked: Check answers as the document asks, and what was lent is as it was.
-/
namespace Go.Proofs.YtamiichlbmllcaaGreatDoor
open Go.RowKit
/-- a step's cells, its state told -/
def opC (k on fu pv sv : Value) (s : St) (cv : Value) (r : Nat → Value) : Array Value :=
  #[k, on, fu, pv, sv, .int .i64 (s 0).lo, .int .i64 (s 0).hi, .int .i64 (s 1).lo, .int .i64 (s 1).hi, .int .i64 (s 2).lo, .int .i64 (s 2).hi, .int .i64 (s 3).lo, .int .i64 (s 3).hi, .int .i64 (s 4).lo, .int .i64 (s 4).hi, .int .i64 (s 5).lo, .int .i64 (s 5).hi, .int .i64 (s 6).lo, .int .i64 (s 6).hi, .int .i64 (s 7).lo, .int .i64 (s 7).hi, cv, r 0, r 1, r 2, r 3, r 4, r 5, r 6, r 7]
theorem ex_op (k on fu pv sv : Value) (s : St) (cv : Value) (r : Nat → Value) : (opC k on fu pv sv s cv r).extract 5 (5 + 16) = stC s := by kernel_rfl
theorem op_3 (k on fu pv sv : Value) (s : St) (cv : Value) (r : Nat → Value) : (opC k on fu pv sv s cv r)[3]? = some pv := rfl
theorem op_21 (k on fu pv sv : Value) (s : St) (cv : Value) (r : Nat → Value) : (opC k on fu pv sv s cv r)[21]? = some cv := rfl
theorem Kn.callB {M : List Nat} {w0 w w' : World} {L : RowL} {B : Nat} (h : Kn M w0 w L) (hb : Below B w w') (h0 : w0.heap.size ≤ B) (hL : ∀ x, x ∈ L → x.1 < B) : Kn M w0 w' L :=
  ⟨⟨hb.os.trans h.mod.os, hb.tape.trans h.mod.tape, hb.output.trans h.mod.output, Nat.le_trans h.mod.size hb.size, fun k hk hM => (hb.block k (by omega)).trans (h.mod.block k hk hM)⟩, fun x hx => ⟨by have := (h.has x hx).1; unfold At at this ⊢; rw [hb.block _ (hL x hx), this], (h.has x hx).2⟩, h.dis⟩
set_option maxHeartbeats 8000000 in
set_option maxRecDepth 100000 in
theorem checked_any (l : List I5) (e : St) (cl : List C2) (h64 : In64 l e cl) (k on fu sv : Value) (r : Nat → Value) (pv cv : Value) (w : World) (hs : Shapes w) (hp : Arg w pv l) (hlen : l.length * 40 ≤ 140737488351232) (hc : ArgC w cv cl) (hcl : cl.length * 136 ≤ 140737488351232) :
    Calls Tryz.prog 54 #[.agg (opC k on fu pv sv e cv r)] w fun x w' => x = .returned (.bool true) ∧ Below w.heap.size w w' := by
  have hk := Kn.nil [] w
  have hcl2 : cl.length < 4000000000000 := by omega
  have HS := hide hs
  have HP := hide hp
  have HC := hide hc
  have H64 := hide h64
  clear hs hp hc h64
  go_enter Tryz.func54, Tryz.ntmps54
  go_wp2_with (first | (refine wLoad1 hk ?_ (hv := op_3 _ _ _ _ _ _ _ _); simp only [Act.put, pw]) | (refine wLoad1 hk ?_ (hv := op_21 _ _ _ _ _ _ _ _); simp only [Act.put, pw]) | (refine wLoadR hk ?_ (hc := ex_op _ _ _ _ _ _ _ _); simp only [Act.put, pw]) | ((with_reducible show wpList _ _ _ _ _ _); (first | (refine wS hk ?_; simp only [Act.put, pw]) | (refine wN hk ?_; clear hk; intro w1 hk; simp only [Act.put, pw]) | (refine wT hk ?_; clear hk; intro w1 hk; simp only [Act.put]))))
  go_at_call 34
  have hb1 := hk.mod.below
  have hn1 : w.heap.size < w1.heap.size := lt_of_block (hk.at List.mem_cons_self)
  have HP1 := hide (HP.out.below hb1 (Nat.le_refl _))
  have HC1 := hide (HC.out.below hb1 (Nat.le_refl _))
  refine (lent_any l pv w1 HP1.out hlen).mono ?_
  rintro x w2 ⟨hv, rfl, hL2, hb2⟩
  replace hk := hk.call hb2
  go_wp2_with (first | (refine wLoad1 hk ?_ (hv := op_3 _ _ _ _ _ _ _ _); simp only [Act.put, pw]) | (refine wLoad1 hk ?_ (hv := op_21 _ _ _ _ _ _ _ _); simp only [Act.put, pw]) | (refine wLoadR hk ?_ (hc := ex_op _ _ _ _ _ _ _ _); simp only [Act.put, pw]) | ((with_reducible show wpList _ _ _ _ _ _); (first | (refine wS hk ?_; simp only [Act.put, pw]) | (refine wN hk ?_; clear hk; intro w1 hk; simp only [Act.put, pw]) | (refine wT hk ?_; clear hk; intro w1 hk; simp only [Act.put]))))
  go_at_call 87
  refine (lentC_any cl cv w2 (HC1.out.below hb2 (Nat.le_refl _)) hcl).mono ?_
  rintro x w3 ⟨hcv, rfl, hC3, hb3⟩
  have hb13 : Below w1.heap.size w1 w3 := hb2.trans (hb3.mono hb2.size)
  have hs3 : Shapes w3 := HS.out.below (hb1.trans (hb13.mono hb1.size)) HS.out.1
  have hL3 := hL2.below hb3
  have HLT : Hid (∀ k, hv.ownBlock = some k → k < w2.heap.size) := hide hL2.lt
  replace hk := hk.call hb3
  go_wp2_with (first | (refine wLoad1 hk ?_ (hv := op_3 _ _ _ _ _ _ _ _); simp only [Act.put, pw]) | (refine wLoad1 hk ?_ (hv := op_21 _ _ _ _ _ _ _ _); simp only [Act.put, pw]) | (refine wLoadR hk ?_ (hc := ex_op _ _ _ _ _ _ _ _); simp only [Act.put, pw]) | ((with_reducible show wpList _ _ _ _ _ _); (first | (refine wS hk ?_; simp only [Act.put, pw]) | (refine wN hk ?_; clear hk; intro w1 hk; simp only [Act.put, pw]) | (refine wT hk ?_; clear hk; intro w1 hk; simp only [Act.put]))))
  go_at_call 22
  refine (SCheck_any l e cl H64.out hcl2 hv hcv w3 hs3 hL3.slc hC3.slc).mono ?_
  rintro x w4 ⟨rfl, hb4⟩
  obtain ⟨PE, PN, hPS⟩ : ∃ PE PN, scheckR l e cl = (PE, PN) := ⟨_, _, rfl⟩
  have HPS := hide hPS
  rw [hPS]
  clear hPS
  have hb14 : Below w1.heap.size w1 w4 := hb13.trans (hb4.mono hb13.size)
  have HL4 := hide (hL3.below hb4)
  have HC4 := hide (hC3.below hb4)
  have H12 := hide hb2.size
  have H24 := hide (Nat.le_trans hb3.size hb4.size)
  replace hk := hk.call hb4
  clear hL2 hL3 hC3 hs3 hb13
  go_wp2_with (first | (refine wLoad1 hk ?_ (hv := op_3 _ _ _ _ _ _ _ _); simp only [Act.put, pw]) | (refine wLoad1 hk ?_ (hv := op_21 _ _ _ _ _ _ _ _); simp only [Act.put, pw]) | (refine wLoadR hk ?_ (hc := ex_op _ _ _ _ _ _ _ _); simp only [Act.put, pw]) | ((with_reducible show wpList _ _ _ _ _ _); (first | (refine wS hk ?_; simp only [Act.put, pw]) | (refine wN hk ?_; clear hk; intro w1 hk; simp only [Act.put, pw]) | (refine wT hk ?_; clear hk; intro w1 hk; simp only [Act.put]))))
  go_at_call 35
  refine (lawBack2 l pv hv w1.heap.size w1 w4 HL4.out HP1.out (Nat.le_refl _) hb14 hlen).mono ?_
  rintro x w5 ⟨rfl, hb5, hk5⟩
  have hb15 : Below w1.heap.size w1 w5 := hb14.trans hb5
  have HC5 : Hid (LentC w5 w2.heap.size cv hcv cl) := hide (by
    rcases HC4.out with h | ⟨a, c, g, h1, h2, h3, h4⟩
    · exact Or.inl h
    · refine Or.inr ⟨a, c, g, h1, h2, h3, ?_⟩
      unfold At at h4 ⊢
      rw [hk5 g (lt_of_block h4) (fun hh => by have := HLT.out g hh.symm; omega), h4])
  replace hk := hk.callB hb5 (by omega) (fun x hx => by simp at hx; subst hx; exact hn1)
  clear hk5
  go_wp2_with (first | (refine wLoad1 hk ?_ (hv := op_3 _ _ _ _ _ _ _ _); simp only [Act.put, pw]) | (refine wLoad1 hk ?_ (hv := op_21 _ _ _ _ _ _ _ _); simp only [Act.put, pw]) | (refine wLoadR hk ?_ (hc := ex_op _ _ _ _ _ _ _ _); simp only [Act.put, pw]) | ((with_reducible show wpList _ _ _ _ _ _); (first | (refine wS hk ?_; simp only [Act.put, pw]) | (refine wN hk ?_; clear hk; intro w1 hk; simp only [Act.put, pw]) | (refine wT hk ?_; clear hk; intro w1 hk; simp only [Act.put]))))
  go_at_call 88
  refine (backC_any cl cv hcv w2.heap.size w1 w5 HC5.out HC1.out H12.out hb15 hcl).mono ?_
  rintro x w6 ⟨rfl, hb6⟩
  have hb16 : Below w1.heap.size w1 w6 := hb15.trans (hb6.mono H12.out)
  replace hk := hk.callB hb6 (by have := H12.out; omega) (fun x hx => by simp at hx; subst hx; have := H12.out; omega)
  go_wp2_with (first | (refine wLoad1 hk ?_ (hv := op_3 _ _ _ _ _ _ _ _); simp only [Act.put, pw]) | (refine wLoad1 hk ?_ (hv := op_21 _ _ _ _ _ _ _ _); simp only [Act.put, pw]) | (refine wLoadR hk ?_ (hc := ex_op _ _ _ _ _ _ _ _); simp only [Act.put, pw]) | ((with_reducible show wpList _ _ _ _ _ _); (first | (refine wS hk ?_; simp only [Act.put, pw]) | (refine wN hk ?_; clear hk; intro w1 hk; simp only [Act.put, pw]) | (refine wT hk ?_; clear hk; intro w1 hk; simp only [Act.put]))))
  go_at_call 60
  refine (rf_Check l e cl H64.out hcl2 pv cv w6 (HP1.out.below hb16 (Nat.le_refl _)).1 (HC1.out.below hb16 (Nat.le_refl _)).1).mono ?_
  rintro x w7 ⟨rfl, hb7⟩
  rw [HPS.out]
  replace hk := hk.call hb7
  clear hb1 hb2 hb3 hb4 hb5 hb6 hb7 hb14 hb15 hb16
  go_wp2_with (first | (go_at_call 39; refine (num_any _ _).mono ?_; rintro x w8 ⟨rfl, rfl⟩) | ((with_reducible show wpList _ _ _ _ _ _); (first | (refine wS hk ?_; simp only [Act.put, pw]) | (refine wN hk ?_; clear hk; intro w1 hk; simp only [Act.put, pw]) | (refine wT hk ?_; clear hk; intro w1 hk; simp only [Act.put]))))
  go_ret
  exact ⟨rfl, hk.mod.below⟩
end Go.Proofs.YtamiichlbmllcaaGreatDoor
/-
  The contract of (*suretylaw.world).proved: Prove answers as the document asks, and its list is the caller's.
-/
namespace Go.Proofs.YtamiichlbmllcaaGreatDoor
open Go.RowKit
set_option maxHeartbeats 8000000 in
set_option maxRecDepth 100000 in
theorem proved_any (l : List I5) (e : St) (h64 : ∀ i, i < l.length → I64 (insAt l i).k) (he : e.in64) (k on fu sv : Value) (r : Nat → Value) (pv cv : Value) (wb B : Nat) (lv vi vv vd : Value) (xs : List Value) (w : World) (hs : Shapes w) (hp : Arg w pv l) (hlen : l.length * 40 ≤ 140737488351232) (hw : w.heap[wb]? = some (.cells #[lv, vi, vv, vd] 39 (0, 0))) (hd : DList w B 41 78 17 markL vd xs) (hB : B ≤ w.heap.size) (hn : xs.length < 5000000000000) :
    Calls Tryz.prog 16 #[.pointer (some ⟨wb, 0, none⟩), .agg (opC k on fu pv sv e cv r)] w fun x w' => x = .returned (.bool true) ∧ ∃ vd' xs', xs'.length = xs.length + 4 ∧ w'.heap[wb]? = some (.cells #[lv, vi, vv, vd'] 39 (0, 0)) ∧ DList w' B 41 78 17 markL vd' xs' ∧ Fr w w' w.heap.size wb vd.ownBlock := by
  have hk := Kn.nil [] w
  have HS := hide hs
  have HP := hide hp
  have H64 := hide h64
  have HEI := hide he
  have HW := hide hw
  have HD := hide hd
  have hwl := lt_of_block hw
  clear hs hp h64 he hw hd
  go_enter Tryz.func16, Tryz.ntmps16
  go_wp2_with (first | (refine wLoad1 hk ?_ (hv := op_3 _ _ _ _ _ _ _ _); simp only [Act.put, pw]) | (refine wLoadR hk ?_ (hc := ex_op _ _ _ _ _ _ _ _); simp only [Act.put, pw]) | ((with_reducible show wpList _ _ _ _ _ _); (first | (refine wS hk ?_; simp only [Act.put, pw]) | (refine wN hk ?_; clear hk; intro w1 hk; simp only [Act.put, pw]) | (refine wT hk ?_; clear hk; intro w1 hk; simp only [Act.put]))))
  go_at_call 34
  have hb1 := hk.mod.below
  have hn1 : w.heap.size < w1.heap.size := lt_of_block (hk.at List.mem_cons_self)
  have HP1 := hide (HP.out.below hb1 (Nat.le_refl _))
  refine (lent_any l pv w1 HP1.out hlen).mono ?_
  rintro x w2 ⟨hv, rfl, hL2, hb2⟩
  have hs2 : Shapes w2 := HS.out.below (hb1.trans (hb2.mono hb1.size)) HS.out.1
  have HLT : Hid (∀ k, hv.ownBlock = some k → k < w2.heap.size) := hide hL2.lt
  replace hk := hk.call hb2
  go_wp2_with (first | (refine wLoad1 hk ?_ (hv := op_3 _ _ _ _ _ _ _ _); simp only [Act.put, pw]) | (refine wLoadR hk ?_ (hc := ex_op _ _ _ _ _ _ _ _); simp only [Act.put, pw]) | ((with_reducible show wpList _ _ _ _ _ _); (first | (refine wS hk ?_; simp only [Act.put, pw]) | (refine wN hk ?_; clear hk; intro w1 hk; simp only [Act.put, pw]) | (refine wT hk ?_; clear hk; intro w1 hk; simp only [Act.put]))))
  go_at_call 27
  refine (SProve_any l H64.out e HEI.out hv w2 hs2 hL2.slc).mono ?_
  rintro x w3 ⟨c1, er, pl, cl, rfl, hP1, hown, hb3⟩
  obtain ⟨ca, cc, rfl⟩ := own_len hown
  have hb13 : Below w1.heap.size w1 w3 := hb2.trans (hb3.mono hb2.size)
  have HL3 := hide (hL2.below hb3)
  have HPP := hide hP1
  have H12 := hide hb2.size
  have HOW := hide hown
  replace hk := hk.call hb3
  clear hL2 hs2 hP1 hown
  go_wp2_with (first | (refine wLoad1 hk ?_ (hv := op_3 _ _ _ _ _ _ _ _); simp only [Act.put, pw]) | (refine wLoadR hk ?_ (hc := ex_op _ _ _ _ _ _ _ _); simp only [Act.put, pw]) | ((with_reducible show wpList _ _ _ _ _ _); (first | (refine wS hk ?_; simp only [Act.put, pw]) | (refine wN hk ?_; clear hk; intro w1 hk; simp only [Act.put, pw]) | (refine wT hk ?_; clear hk; intro w1 hk; simp only [Act.put]))))
  go_at_call 35
  refine (lawBack2 l pv hv w1.heap.size w1 w3 HL3.out HP1.out (Nat.le_refl _) hb13 hlen).mono ?_
  rintro x w4 ⟨rfl, hb4, hk4⟩
  have hb14 : Below w1.heap.size w1 w4 := hb13.trans hb4
  have HO4 : Hid (w4.ownsRow w2.heap.size 78 17 (.slice ca cl.length cc) cl.length (cl.flatMap clCells)) := hide (by
    refine ⟨HOW.out.1, ?_⟩
    rcases HOW.out.2 with h2 | ⟨g2, cap, cur, h3, h4, hh, rr⟩
    · exact Or.inl h2
    · exact Or.inr ⟨g2, cap, cur, h3, h4, by rw [hk4 g2 (lt_of_block hh) (fun e => by have := HLT.out _ e.symm; omega)]; exact hh, rr⟩)
  replace hk := hk.callB hb4 (by omega) (fun x hx => by simp at hx; subst hx; exact hn1)
  clear hk4
  go_wp2_with (first | (refine wLoad1 hk ?_ (hv := op_3 _ _ _ _ _ _ _ _); simp only [Act.put, pw]) | (refine wLoadR hk ?_ (hc := ex_op _ _ _ _ _ _ _ _); simp only [Act.put, pw]) | ((with_reducible show wpList _ _ _ _ _ _); (first | (refine wS hk ?_; simp only [Act.put, pw]) | (refine wN hk ?_; clear hk; intro w1 hk; simp only [Act.put, pw]) | (refine wT hk ?_; clear hk; intro w1 hk; simp only [Act.put]))))
  go_at_call 36
  refine (rf_Prove l H64.out e HEI.out pv w4 (HP1.out.below hb14 (Nat.le_refl _)).1).mono ?_
  rintro x w5 ⟨c2, er2, pl2, cl2, rfl, hP2, hown2, hb5⟩
  obtain ⟨rfl, rfl, rfl⟩ := SProveP_det HPP.out hP2
  obtain ⟨da, dc, rfl⟩ := own_len hown2
  have HLE := hide (SProveP_len hP2)
  have hb15 : Below w1.heap.size w1 w5 := hb14.trans (hb5.mono hb14.size)
  have HO5 := hide (own_bel HO4.out hb5)
  have HQ5 := hide hown2
  replace hk := hk.call hb5
  clear hP2 hown2
  go_wp2_with (first | ((with_reducible show wpList _ _ _ _ _ _); (first | (refine wS hk ?_; simp only [Act.put, pw]) | (refine wN hk ?_; clear hk; intro w1 hk; simp only [Act.put, pw]) | (refine wT hk ?_; clear hk; intro w1 hk; simp only [Act.put]))))
  go_at_call 37
  refine (sameC_any cl (by have := HLE.out; omega) ca da cc dc w5 (own_slcC HO5.out rfl) (own_slcC HQ5.out rfl)).mono ?_
  rintro x w6 ⟨rfl, hb6⟩
  have hb16 : Below w1.heap.size w1 w6 := hb15.trans (hb6.mono hb15.size)
  have HO6 := hide (own_bel HO5.out hb6)
  have HB01 := hide hb1
  have HB16 := hide hb16
  replace hk := hk.call hb6
  clear hb1 hb2 hb3 hb4 hb5 hb6 hb13 hb14 hb15 hb16
  go_wp2_with (first | ((with_reducible show wpList _ _ _ _ _ _); (first | (refine wS hk ?_; simp only [Act.put, pw]) | (refine wN hk ?_; clear hk; intro w1 hk; simp only [Act.put, pw]) | (refine wT hk ?_; clear hk; intro w1 hk; simp only [Act.put]))))
  go_at_call 38
  have hb06 : Below w.heap.size w w6 := HB01.out.trans (HB16.out.mono HB01.out.size)
  have hw6 : w6.heap[wb]? = some (.cells #[lv, vi, vv, vd] 39 (0, 0)) := by rw [hb06.block wb hwl]; exact HW.out
  have hd6 := HD.out.below hb06
  have hz1 := HB01.out.size
  refine (claim_any wb B w1.heap.size vd _ lv vi vv xs cl.length (cl.flatMap clCells) w6 hw6 hd6 hn (own_low HO6.out H12.out) (by omega) HB16.out.size (by omega) (fun k hk => by have := (World.ownsRow.lt HD.out.1 k hk).2; omega) (fun k h b hb => by
    obtain ⟨m, _, ho⟩ := HD.out.2.2 k h
    have := (World.ownsRow.lt ho b hb).2
    omega) (by have := HLE.out; omega)).mono ?_
  rintro x w7 ⟨rfl, vd', xs', hx', hw', hd', hf⟩
  have HF : Hid (Fr w w7 w.heap.size wb vd.ownBlock) := hide ⟨hf.os.trans hb06.os, hf.tape.trans hb06.tape, hf.output.trans hb06.output, Nat.le_trans hb06.size hf.size, fun k h1 h2 h3 => (hf.block k (by omega) h2 h3).trans (hb06.block k h1)⟩
  have HR : Hid (∃ vd' xs', xs'.length = xs.length + 4 ∧ w7.heap[wb]? = some (.cells #[lv, vi, vv, vd'] 39 (0, 0)) ∧ DList w7 B 41 78 17 markL vd' xs' ∧ Fr w w7 w.heap.size wb vd.ownBlock) := hide ⟨vd', xs', hx', hw', hd', HF.out⟩
  clear hk hf hd' hw' hx' hd6 hw6 hb06
  have hk := Kn.nil [] w7
  go_wp2_with (first | (go_at_call 39; refine (num_any _ _).mono ?_; rintro x w8 ⟨rfl, rfl⟩) | ((with_reducible show wpList _ _ _ _ _ _); (first | (refine wS hk ?_; simp only [Act.put, pw]) | (refine wN hk ?_; clear hk; intro w1 hk; simp only [Act.put, pw]) | (refine wT hk ?_; clear hk; intro w1 hk; simp only [Act.put]))))
  go_ret
  exact ⟨rfl, HR.out⟩
end Go.Proofs.YtamiichlbmllcaaGreatDoor
/-
  The contract of suretylaw.checks: a Halt is taken, and a Set alone is not.
-/
namespace Go.Proofs.YtamiichlbmllcaaGreatDoor
open Go.RowKit
theorem slc_one {w : World} {g : Nat} {o a b c k : Int} (h : At w g #[.int .i64 o, .int .i64 a, .int .i64 b, .int .i64 c, .int .i64 k] 62) : Slc w (.slice (some ⟨g, 0, none⟩) 1 1) [⟨o, a, b, c, k⟩] := by
  refine Or.inr ⟨g, 0, 1, rfl, lt_of_block h, fun i hi => ?_⟩
  match i, hi with
  | 0, _ => refine ⟨?_, ?_, ?_, ?_, ?_⟩ <;> rw [cell_of_row _ _ _ _ _ _ h] <;> rfl
  | j + 1, hj => simp at hj
theorem scheck_halt : scheckR [⟨0, 0, 0, 0, 0⟩] zeroS [] = (0, 0) := by kernel_rfl
theorem scheck_set : scheckR [⟨1, 1, 0, 0, 0⟩] zeroS [] = (8, 1) := by kernel_rfl
theorem in64_one {o a b c k : Int} (hk : I64 k) : In64 [⟨o, a, b, c, k⟩] zeroS [] := ⟨fun i hi => by match i, hi with | 0, _ => exact hk | j + 1, hj => simp at hj, fun j _ => by unfold zeroS R2.in64 I64; simp, fun i hi => by simp at hi⟩
set_option maxHeartbeats 8000000 in
set_option maxRecDepth 100000 in
theorem lawChecks_any (w : World) (hs : Shapes w) : Calls Tryz.prog 15 #[] w fun x w' => x = .returned (.bool true) ∧ Below w.heap.size w w' := by
  have hk := Kn.nil [] w
  have HS := hide hs
  clear hs
  go_enter Tryz.func15, Tryz.ntmps15
  go_wp2_with (first | (refine wKnAlloc hk ?_; clear hk; intro w1 hk) | (go_at_call 22; first | (refine (SCheck_any [⟨0, 0, 0, 0, 0⟩] zeroS [] (in64_one (by unfold I64; omega)) (by decide) _ _ _ (HS.out.below hk.mod.below HS.out.1) (slc_one (hk.at List.mem_cons_self)) (Or.inl ⟨⟨_, _, rfl⟩, rfl⟩)).mono ?_; rintro e w1 ⟨rfl, hb⟩; replace hk := hk.call hb; clear hb; rw [scheck_halt]) | (refine (SCheck_any [⟨1, 1, 0, 0, 0⟩] zeroS [] (in64_one (by unfold I64; omega)) (by decide) _ _ _ (HS.out.below hk.mod.below HS.out.1) (slc_one (hk.at List.mem_cons_self)) (Or.inl ⟨⟨_, _, rfl⟩, rfl⟩)).mono ?_; rintro e w1 ⟨rfl, hb⟩; replace hk := hk.call hb; clear hb; rw [scheck_set])) | ((with_reducible show wpList _ _ _ _ _ _); (first | (refine wS hk ?_; simp only [Act.put, pw]) | (refine wN hk ?_; clear hk; intro w1 hk; simp only [Act.put, pw]) | (refine wT hk ?_; clear hk; intro w1 hk; simp only [Act.put]))))
  go_ret
  exact ⟨rfl, hk.mod.below⟩
end Go.Proofs.YtamiichlbmllcaaGreatDoor
/-
  The contract of suretylaw.Proves.
-/
namespace Go.Proofs.YtamiichlbmllcaaGreatDoor
open Go.RowKit
theorem build_op2 (p : Option Addr) (a b : Nat) (s : St) (w : World) : (Instr.build 44 [(3, .slice p a b), (5, .agg (stC s))].toArray).run Tryz.prog w = .ok (.agg (opC (.int .i64 0) (.int .i64 0) (.int .i64 0) (.slice p a b) (.string ⟨#[]⟩) s (.slice none 0 0) (fun _ => .int .i64 0))) w := run_build w _ _ _ (by kernel_rfl)
theorem build_wd (w : World) : (Instr.build 39 ([] : List (Nat × Value)).toArray).run Tryz.prog w = .ok (.agg #[.slice none 0 0, .slice none 0 0, .slice none 0 0, .slice none 0 0]) w := run_build w _ _ _ (by kernel_rfl)
theorem dlist_new (w : World) (B st et size : Nat) (X : Nat → List Value) : DList w B st et size X (.slice none 0 0) [] := ⟨World.ownsRow_nil _ _ _ _, rfl, fun k h => by simp at h⟩
set_option maxHeartbeats 8000000 in
set_option maxRecDepth 100000 in
theorem Proves_any (l : List I5) (e : St) (h64 : ∀ i, i < l.length → I64 (insAt l i).k) (he : e.in64) (p : Option Addr) (a b : Nat) (w : World) (hs : Shapes w) (hp : Arg w (.slice p a b) l) (hlen : l.length * 40 ≤ 140737488351232) :
    Calls Tryz.prog 5 #[.slice p a b, .agg (stC e)] w fun x w' => x = .returned (.bool true) ∧ Below w.heap.size w w' := by
  have hk := Kn.nil [] w
  have HS := hide hs
  have HP := hide hp
  have H64 := hide h64
  have HEI := hide he
  clear hs hp h64 he
  go_enter Tryz.func5, Tryz.ntmps5
  go_wp2_with (first | (refine wBuild hk ?_ (hb := build_wd _); simp only [Act.put, pw]) | (refine wBuild hk ?_ (hb := build_op2 _ _ _ _ _); simp only [Act.put, pw]) | (go_at_call 15; refine (lawChecks_any _ (HS.out.below hk.mod.below HS.out.1)).mono ?_; rintro e w1 ⟨rfl, hb⟩; replace hk := hk.call hb; clear hb) | ((with_reducible show wpList _ _ _ _ _ _); (first | (refine wS hk ?_; simp only [Act.put, pw]) | (refine wN hk ?_; clear hk; intro w1 hk; simp only [Act.put, pw]) | (refine wT hk ?_; clear hk; intro w1 hk; simp only [Act.put]))))
  go_at_call 16
  have hb1 := hk.mod.below
  have hrow := hk.at (A := #[.slice none 0 0, .slice none 0 0, .slice none 0 0, .slice none 0 0]) (t := 39) (by with_reducible repeat (first | exact List.mem_cons_self | apply List.mem_cons_of_mem))
  have hge := (hk.has _ (List.mem_cons_self)).2
  refine (proved_any l e H64.out HEI.out _ _ _ _ _ _ _ _ _ _ _ _ _ [] _ (HS.out.below hb1 HS.out.1) (HP.out.below hb1 (Nat.le_refl _)) hlen hrow (dlist_new _ _ _ _ _ _) (Nat.zero_le _) (by simp)).mono ?_
  rintro x w9 ⟨rfl, _, _, _, _, _, hf⟩
  have HB : Hid (Below w.heap.size w w9) := hide (hb1.trans ⟨hf.os, hf.tape, hf.output, hf.size, fun k hk' => hf.block k (by have := hb1.size; omega) (by simp at hge; omega) (by simp [Value.ownBlock])⟩)
  clear hk hb1 hrow hge hf
  have hk := Kn.nil [] w9
  go_wp2_with (first | ((with_reducible show wpList _ _ _ _ _ _); (first | (refine wS hk ?_; simp only [Act.put, pw]) | (refine wN hk ?_; clear hk; intro w1 hk; simp only [Act.put, pw]) | (refine wT hk ?_; clear hk; intro w1 hk; simp only [Act.put]))))
  go_ret
  exact ⟨rfl, HB.out⟩
end Go.Proofs.YtamiichlbmllcaaGreatDoor
/-
  What the given readings of the arguments and of the listed table tell: a slice of instructions that came in, and the table 'shapes'.
-/
namespace Go.Proofs.YtamiichlbmllcaaGreatDoor
open Go.ChangeShapes Go.WideShapes Go.ChangeAt Go.RowKit Go.Deep
theorem own : ownKnob Tryz.prog.godebug = none := by kernel_rfl
theorem laidOut : laidOutB Tryz.prog = true := by kernel_rfl
theorem gShapes : Tryz.prog.globalNamed "surety/code.shapes" = some 0 := by kernel_rfl
theorem tShapes : (Tryz.prog.globals[0]?).map (·.type) = some 166 := by kernel_rfl
theorem cInt : Tryz.prog.cellsOf 3 = 1 := by kernel_rfl
theorem cIns : Tryz.prog.cellsOf 62 = 5 := by kernel_rfl
theorem cShape : Tryz.prog.cellsOf 165 = 3 := by kernel_rfl
theorem wf64 {n : Int} (h : (Lit.int .i64 n).wf = true) : I64 n := by
  have := bounds_i64 h
  exact ⟨by omega, by omega⟩
section
variable {H : Type} {enc : TypeId × Value → H} {W : World} {base : Nat} {spare : Nat → Bool} {held : Bool}
set_option maxRecDepth 10000 in
/-- five fields of an instruction, out of its cells' reading -/
theorem read_ins {n : Nat} {cs : List Value} {x : DataW H × List MemPlace} (h : DataW.trod enc Tryz.prog W base spare held n 62 cs = some x) : ∃ i : I5, cs = i.cells ∧ i.in64 := by
  obtain ⟨xs, m, _, _, hl, hlen, hf⟩ := DataW.trod_struct Tryz.underlying62 h
  rw [cIns] at hl
  replace hlen : xs.length = 5 := hlen
  match cs, hl, xs, hlen with
  | [v0, v1, v2, v3, v4], _, [y0, y1, y2, y3, y4], _ =>
    have g0 := hf 0 _ rfl
    have g1 := hf 1 _ rfl
    have g2 := hf 2 _ rfl
    have g3 := hf 3 _ rfl
    have g4 := hf 4 _ rfl
    simp [cInt] at g0 g1 g2 g3 g4
    obtain ⟨a0, e0, _, w0⟩ := DataW.trod_int Tryz.underlying3 g0
    obtain ⟨a1, e1, _, w1⟩ := DataW.trod_int Tryz.underlying3 g1
    obtain ⟨a2, e2, _, w2⟩ := DataW.trod_int Tryz.underlying3 g2
    obtain ⟨a3, e3, _, w3⟩ := DataW.trod_int Tryz.underlying3 g3
    obtain ⟨a4, e4, _, w4⟩ := DataW.trod_int Tryz.underlying3 g4
    simp at e0 e1 e2 e3 e4
    subst e0 e1 e2 e3 e4
    exact ⟨⟨a0, a1, a2, a3, a4⟩, rfl, wf64 w0, wf64 w1, wf64 w2, wf64 w3, wf64 w4⟩
/-- A SLICE OF INSTRUCTIONS THAT CAME IN. -/
theorem open_ins {v : Value} {d : DataW H} {ps : List MemPlace} (hv : ∃ a len cap, v = .slice a len cap) (h : DataW.Trod enc Tryz.prog W base spare held 26 v d ps) :
    ∃ l : List I5, Slc W v l ∧ l.length < 9223372036854775808 ∧ ∀ i (h : i < l.length), l[i].in64 := by
  obtain ⟨a0, len0, cap0, rfl⟩ := hv
  obtain ⟨fuel, hf⟩ := h
  rcases open_slice Tryz.underlying26 hf with ⟨hcs, _⟩ | ⟨a, len, cap, m, n, D, Pl, hcs, _, hl, hm, hmm, _, hx⟩
  · simp [Value.cells] at hcs
    obtain ⟨rfl, rfl, rfl⟩ := hcs
    exact ⟨[], Or.inl ⟨⟨_, _, rfl⟩, rfl⟩, by simp, fun i h => by simp at h⟩
  · simp [Value.cells] at hcs
    obtain ⟨rfl, rfl, rfl⟩ := hcs
    have hlm : len0 ≤ m := by rw [hmm]; split <;> omega
    have each : ∀ i, i < len0 → ∃ x : I5, x.in64 ∧ ∀ f, f < 5 → W.cell? (a.add (i * 5 + f)) = x.cells[f]? := by
      intro i hi
      obtain ⟨cs', h1, h2⟩ := hx i (by omega)
      obtain ⟨x, rfl, hx64⟩ := read_ins h2
      rw [cIns] at h1
      obtain ⟨_, _, hcell⟩ := World.cells?_some h1
      exact ⟨x, hx64, fun f hf => by rw [← add_add]; exact hcell f hf⟩
    have : Inhabited I5 := ⟨I5.zero⟩
    obtain ⟨q, hq⟩ := choose_lt each
    refine ⟨(List.range len0).map q, ?_, by simp; unfold maxLen at hm; omega, fun i hi => by simp at hi ⊢; exact (hq i hi).1⟩
    by_cases h0 : len0 = 0
    · subst h0
      exact Or.inl ⟨⟨_, _, rfl⟩, rfl⟩
    · obtain ⟨b, off, spot⟩ := a
      have hc := (hq 0 (by omega)).2 0 (by omega)
      have hspot : spot = none := by
        simp only [Nat.zero_mul, Nat.zero_add, I5.cells, List.getElem?_cons_zero] at hc
        simpa [Addr.add] using World.cell?_spot hc
      subst hspot
      have hadd : ∀ k, (⟨b, off, none⟩ : Addr).add k = ⟨b, off + k, none⟩ := fun k => add_plain _ _ _
      have hcl : ∀ i (hi : i < len0) f, f < 5 → W.cell? ⟨b, off + i * 5 + f, none⟩ = (q i).cells[f]? := by
        intro i hi f hf
        have := (hq i hi).2 f hf
        rw [hadd, ← Nat.add_assoc] at this
        exact this
      refine Or.inr ⟨b, off, cap0, by simp, ?_, fun i hi => ?_⟩
      · have := hcl 0 (by omega) 0 (by omega)
        exact World.block_lt_of_cell? W ⟨b, _, none⟩ this
      · simp at hi ⊢
        exact ⟨hcl i hi 0 (by omega), hcl i hi 1 (by omega), hcl i hi 2 (by omega), hcl i hi 3 (by omega), hcl i hi 4 (by omega)⟩
end
/-- THE TABLE. -/
theorem shapes_of_laid {W : World} (h : laidMetH Tryz.prog [("surety/code.shapes", Rows.laid_surety_code_shapes)] W) : Shapes W := by
  rw [MakeChecks.laidMetH_plain _ _ _ (by kernel_rfl)] at h
  obtain ⟨ps, ⟨g0, t0, cs0, f0, p0, q0, hg0, ht0, hv0, hd0, _, _⟩, _, _⟩ := h
  obtain rfl := Option.some.inj (gShapes.symm.trans hg0)
  obtain rfl := Option.some.inj (tShapes.symm.trans ht0)
  obtain ⟨xs, m1, rfl, hx1, hlen, hn12, hel⟩ := DataW.trod_array Tryz.underlying166 hd0
  have hcell := World.var?_cell hg0 hv0
  have one : ∀ i, i < 12 → ∀ y, xs[i]? = some y → ∃ a b c : Int, y.1 = .agg [.lit (.int .i64 a), .lit (.int .i64 b), .lit (.int .i64 c)] ∧ W.cell? ⟨0, i * 3, none⟩ = some (.int .i64 a) ∧ W.cell? ⟨0, i * 3 + 1, none⟩ = some (.int .i64 b) ∧ W.cell? ⟨0, i * 3 + 2, none⟩ = some (.int .i64 c) := by
    intro i hi y hy
    have h0 := hel i hi
    rw [hy, cShape] at h0
    obtain ⟨y0, y1, y2, n, hyy, hl3, g0, g1, g2⟩ := trod_struct3 Tryz.underlying165 h0
    simp only [cInt] at g0 g1 g2
    obtain ⟨a, e0, r0, _⟩ := DataW.trod_int Tryz.underlying3 g0
    obtain ⟨b, e1, r1, _⟩ := DataW.trod_int Tryz.underlying3 g1
    obtain ⟨c, e2, r2, _⟩ := DataW.trod_int Tryz.underlying3 g2
    subst r0 r1 r2
    refine ⟨a, b, c, by rw [hyy], ?_, ?_, ?_⟩
    · rw [hcell]
      have := congrArg (fun l => l[0]?) e0
      simpa [List.getElem?_take, List.getElem?_drop] using this
    · rw [hcell]
      have := congrArg (fun l => l[0]?) e1
      simpa [List.getElem?_take, List.getElem?_drop] using this
    · rw [hcell]
      have := congrArg (fun l => l[0]?) e2
      simpa [List.getElem?_take, List.getElem?_drop] using this
  simp only [Prod.mk.injEq, Rows.laid_surety_code_shapes, DataW.agg.injEq] at hx1
  match xs, hn12, hx1, one with
  | [x0, x1, x2, x3, x4, x5, x6, x7, x8, x9, x10, x11], _, hx1, one =>
    simp only [List.map_cons, List.map_nil, List.cons.injEq] at hx1
    obtain ⟨⟨h0, h1, h2, h3, h4, h5, h6, h7, h8, h9, h10, h11, _⟩, _⟩ := hx1
    have fin : ∀ (i : Nat) (hi : i < 12) (y : DataW Unit × List MemPlace) (a b c : Int), [x0, x1, x2, x3, x4, x5, x6, x7, x8, x9, x10, x11][i]? = some y → .agg [.lit (.int .i64 a), .lit (.int .i64 b), .lit (.int .i64 c)] = y.1 →
        W.cell? ⟨0, i * 3, none⟩ = some (.int .i64 a) ∧ W.cell? ⟨0, i * 3 + 1, none⟩ = some (.int .i64 b) ∧ W.cell? ⟨0, i * 3 + 2, none⟩ = some (.int .i64 c) := by
      intro i hi y a b c hy he
      obtain ⟨a', b', c', e, r0, r1, r2⟩ := one i hi y hy
      rw [e] at he
      simp at he
      obtain ⟨rfl, rfl, rfl⟩ := he
      exact ⟨r0, r1, r2⟩
    refine ⟨World.block_lt_of_cell? W ⟨0, 0, none⟩ (fin 0 (by omega) _ _ _ _ rfl h0).1, fun o ho0 ho1 => ?_⟩
    have ho : o = 0 ∨ o = 1 ∨ o = 2 ∨ o = 3 ∨ o = 4 ∨ o = 5 ∨ o = 6 ∨ o = 7 ∨ o = 8 ∨ o = 9 ∨ o = 10 ∨ o = 11 := by omega
    rcases ho with rfl | rfl | rfl | rfl | rfl | rfl | rfl | rfl | rfl | rfl | rfl | rfl
    · exact fin 0 (by omega) _ _ _ _ rfl h0
    · exact fin 1 (by omega) _ _ _ _ rfl h1
    · exact fin 2 (by omega) _ _ _ _ rfl h2
    · exact fin 3 (by omega) _ _ _ _ rfl h3
    · exact fin 4 (by omega) _ _ _ _ rfl h4
    · exact fin 5 (by omega) _ _ _ _ rfl h5
    · exact fin 6 (by omega) _ _ _ _ rfl h6
    · exact fin 7 (by omega) _ _ _ _ rfl h7
    · exact fin 8 (by omega) _ _ _ _ rfl h8
    · exact fin 9 (by omega) _ _ _ _ rfl h9
    · exact fin 10 (by omega) _ _ _ _ rfl h10
    · exact fin 11 (by omega) _ _ _ _ rfl h11
end Go.Proofs.YtamiichlbmllcaaGreatDoor
/-
  What the given reading of a state tells.
-/
namespace Go.Proofs.YtamiichlbmllcaaGreatDoor
open Go.ChangeShapes Go.WideShapes Go.ChangeAt Go.RowKit Go.Deep
theorem cRg : Tryz.prog.cellsOf 28 = 2 := by kernel_rfl
theorem cState : Tryz.prog.cellsOf 30 = 16 := by kernel_rfl
section
variable {H : Type} {enc : TypeId × Value → H} {W : World} {base : Nat} {spare : Nat → Bool} {held : Bool}
set_option maxRecDepth 10000 in
theorem read_rg {n : Nat} {cs : List Value} {x : DataW H × List MemPlace} (h : DataW.trod enc Tryz.prog W base spare held n 28 cs = some x) : ∃ r : R2, cs = [.int .i64 r.lo, .int .i64 r.hi] ∧ r.in64 := by
  obtain ⟨xs, m, _, _, hl, hlen, hf⟩ := DataW.trod_struct Tryz.underlying28 h
  rw [cRg] at hl
  replace hlen : xs.length = 2 := hlen
  match cs, hl, xs, hlen with
  | [v0, v1], _, [y0, y1], _ =>
    have g0 := hf 0 _ rfl
    have g1 := hf 1 _ rfl
    simp [cInt] at g0 g1
    obtain ⟨a0, e0, _, w0⟩ := DataW.trod_int Tryz.underlying3 g0
    obtain ⟨a1, e1, _, w1⟩ := DataW.trod_int Tryz.underlying3 g1
    simp at e0 e1
    subst e0 e1
    exact ⟨⟨a0, a1⟩, rfl, wf64 w0, wf64 w1⟩
theorem pick_two {cs : List Value} {j : Nat} {a b : Value} (h : (cs.drop (j * 2)).take 2 = [a, b]) : cs[j * 2]? = some a ∧ cs[j * 2 + 1]? = some b := by
  have h0 := congrArg (fun l => l[0]?) h
  have h1 := congrArg (fun l => l[1]?) h
  simp [List.getElem?_drop] at h0 h1
  exact ⟨h0, h1⟩
set_option maxRecDepth 10000 in
theorem read_st {n : Nat} {cs : List Value} {x : DataW H × List MemPlace} (h : DataW.trod enc Tryz.prog W base spare held n 30 cs = some x) : ∃ s : St, cs = (stC s).toList ∧ s.in64 := by
  obtain ⟨xs, m, _, _, hl, hlen, hf⟩ := DataW.trod_array Tryz.underlying30 h
  rw [cState] at hl
  have each : ∀ j, j < 8 → ∃ r : R2, r.in64 ∧ cs[j * 2]? = some (.int .i64 r.lo) ∧ cs[j * 2 + 1]? = some (.int .i64 r.hi) := by
    intro j hj
    have := hf j hj
    rw [cRg, List.getElem?_eq_getElem (by omega)] at this
    obtain ⟨r, e, h64⟩ := read_rg this
    exact ⟨r, h64, pick_two e⟩
  have : Inhabited R2 := ⟨⟨0, 0⟩⟩
  obtain ⟨q, hq⟩ := choose_lt each
  refine ⟨q, ?_, fun j hj => (hq j hj).1⟩
  have hcs : cs.length = 16 := hl
  apply List.ext_getElem?
  intro j
  by_cases hj : j < 16
  · have h0 := (hq 0 (by omega)).2
    have h1 := (hq 1 (by omega)).2
    have h2 := (hq 2 (by omega)).2
    have h3 := (hq 3 (by omega)).2
    have h4 := (hq 4 (by omega)).2
    have h5 := (hq 5 (by omega)).2
    have h6 := (hq 6 (by omega)).2
    have h7 := (hq 7 (by omega)).2
    match j, hj with
    | 0, _ => exact h0.1
    | 1, _ => exact h0.2
    | 2, _ => exact h1.1
    | 3, _ => exact h1.2
    | 4, _ => exact h2.1
    | 5, _ => exact h2.2
    | 6, _ => exact h3.1
    | 7, _ => exact h3.2
    | 8, _ => exact h4.1
    | 9, _ => exact h4.2
    | 10, _ => exact h5.1
    | 11, _ => exact h5.2
    | 12, _ => exact h6.1
    | 13, _ => exact h6.2
    | 14, _ => exact h7.1
    | 15, _ => exact h7.2
    | j + 16, hj => exact absurd hj (by omega)
  · rw [List.getElem?_eq_none (by omega), List.getElem?_eq_none (by show 16 ≤ j; omega)]
set_option maxRecDepth 100000 in
/-- A STATE THAT CAME IN. -/
theorem open_st {r : Reach} {b0 : Nat} {v : Value} {d : DataW H} {ps : List MemPlace} (hv : Value.okWide Tryz.prog W r b0 30 v) (h : DataW.Trod enc Tryz.prog W base spare held 30 v d ps) : ∃ s : St, v = .agg (stC s) ∧ s.in64 := by
  have hag : ∃ cs, v = .agg cs := by
    simp only [Value.okWide, Tryz.underlying30] at hv
    obtain ⟨cs, h1, _⟩ := hv
    exact ⟨cs, h1⟩
  obtain ⟨cs, rfl⟩ := hag
  obtain ⟨fuel, hf⟩ := h
  obtain ⟨s, e, h64⟩ := read_st hf
  refine ⟨s, ?_, h64⟩
  have e' : cs.toList = (stC s).toList := e
  rw [Array.toList_inj.1 e']
end
end Go.Proofs.YtamiichlbmllcaaGreatDoor
/-
  What the given readings of a program, a state and a list of claims tell.
-/
namespace Go.Proofs.YtamiichlbmllcaaGreatDoor
open Go.ChangeShapes Go.WideShapes Go.ChangeAt Go.RowKit Go.Deep
theorem cClaim : Tryz.prog.cellsOf 78 = 17 := by kernel_rfl
theorem byInsC : Tryz.prog.bytesOf 62 = 40 := by kernel_rfl
theorem byClaim : Tryz.prog.bytesOf 78 = 136 := by kernel_rfl
/-- all that is read lies within the reach -/
def FitsC (t : TypeId) {H : Type} (d : DataW H) : Prop := ∀ n ∈ DataW.weights Tryz.prog t d, n ≤ reachBytes
section
variable {H : Type} {enc : TypeId × Value → H} {W : World} {base : Nat} {spare : Nat → Bool} {held : Bool}
set_option maxRecDepth 10000 in
theorem read_cl {n : Nat} {cs : List Value} {x : DataW H × List MemPlace} (h : DataW.trod enc Tryz.prog W base spare held n 78 cs = some x) : ∃ c : C2, cs = (clC c.pl c.st).toList ∧ St.in64 c.st := by
  obtain ⟨xs, m, _, _, hl, hlen, hf⟩ := DataW.trod_struct Tryz.underlying78 h
  rw [cClaim] at hl
  replace hlen : xs.length = 2 := hlen
  have g0 : DataW.trod enc Tryz.prog W base spare held m 3 ((cs.drop 0).take (Tryz.prog.cellsOf 3)) = xs[0]? := hf 0 _ rfl
  have g1 : DataW.trod enc Tryz.prog W base spare held m 30 ((cs.drop 1).take (Tryz.prog.cellsOf 30)) = xs[1]? := hf 1 _ rfl
  rw [cInt, List.getElem?_eq_getElem (by omega)] at g0
  rw [cState, List.getElem?_eq_getElem (by omega)] at g1
  obtain ⟨a0, e0, _, _⟩ := DataW.trod_int Tryz.underlying3 g0
  obtain ⟨s, e1, h64⟩ := read_st g1
  refine ⟨⟨a0, s⟩, ?_, h64⟩
  cases cs with
  | nil => simp at hl
  | cons y r =>
    simp at e0 hl
    rw [List.drop_succ_cons, List.drop_zero, List.take_of_length_le (by omega)] at e1
    rw [e1, e0]
    rfl
/-- A PROGRAM THAT CAME IN, NIL AS NIL. -/
theorem open_insA {v : Value} {d : DataW H} {ps : List MemPlace} (hv : ∃ a len cap, v = .slice a len cap) (h : DataW.Trod enc Tryz.prog W base spare held 26 v d ps) (hfit : FitsC 26 d) :
    ∃ l : List I5, Arg W v l ∧ (∀ i (h : i < l.length), l[i].in64) ∧ l.length * 40 ≤ 140737488351232 := by
  obtain ⟨l, hS, _, h64⟩ := open_ins hv h
  obtain ⟨a0, len0, cap0, rfl⟩ := hv
  obtain ⟨fuel, hf⟩ := h
  rcases open_slice Tryz.underlying26 hf with ⟨hcs, _⟩ | ⟨a, len, cap, m, n, D, Pl, hcs, _, hl, hm, hmm, hd, _⟩
  · simp [Value.cells] at hcs
    obtain ⟨rfl, rfl, rfl⟩ := hcs
    have hlen : l.length = 0 := by
      obtain ⟨a', c', e⟩ := hS.len
      simp at e; exact e.2.1.symm
    exact ⟨l, ⟨hS, fun n c hh => by simp at hh; omega⟩, h64, by rw [hlen]; omega⟩
  · simp [Value.cells] at hcs
    obtain ⟨rfl, rfl, rfl⟩ := hcs
    have hlen : l.length = len0 := by
      obtain ⟨a', c', e⟩ := hS.len
      simp at e; exact e.2.1.symm
    refine ⟨l, ⟨hS, fun n c hh => by simp at hh⟩, h64, ?_⟩
    simp only [Prod.mk.injEq] at hd
    obtain ⟨rfl, _⟩ := hd
    have := hfit _ (by simp only [DataW.weights, Tryz.underlying26]; exact List.mem_cons_self)
    rw [byInsC] at this
    simp only [List.length_map, List.length_range, reachBytes] at this
    omega
/-- CLAIMS THAT CAME IN. -/
theorem open_cls {v : Value} {d : DataW H} {ps : List MemPlace} (hv : ∃ a len cap, v = .slice a len cap) (h : DataW.Trod enc Tryz.prog W base spare held 41 v d ps) (hfit : FitsC 41 d) :
    ∃ cl : List C2, ArgC W v cl ∧ (∀ i, i < cl.length → St.in64 (clAt cl i).st) ∧ cl.length * 136 ≤ 140737488351232 := by
  obtain ⟨a0, len0, cap0, rfl⟩ := hv
  obtain ⟨fuel, hf⟩ := h
  rcases open_slice Tryz.underlying41 hf with ⟨hcs, _⟩ | ⟨a, len, cap, m, n, D, Pl, hcs, _, hl, hm, hmm, hd, hx⟩
  · simp [Value.cells] at hcs
    obtain ⟨rfl, rfl, rfl⟩ := hcs
    exact ⟨[], ⟨Or.inl ⟨⟨_, _, rfl⟩, rfl⟩, fun n c hh => by simp at hh; omega⟩, fun i h => by simp at h, by simp⟩
  · simp [Value.cells] at hcs
    obtain ⟨rfl, rfl, rfl⟩ := hcs
    have hlm : len0 ≤ m := by rw [hmm]; split <;> omega
    have hsz : len0 * 136 ≤ 140737488351232 := by
      simp only [Prod.mk.injEq] at hd
      obtain ⟨rfl, _⟩ := hd
      have := hfit _ (by simp only [DataW.weights, Tryz.underlying41]; exact List.mem_cons_self)
      rw [byClaim] at this
      simp only [List.length_map, List.length_range, reachBytes] at this
      omega
    have each : ∀ i, i < len0 → ∃ x : C2, St.in64 x.st ∧ ∀ f, f < 17 → W.cell? (a.add (i * 17 + f)) = (clC x.pl x.st).toList[f]? := by
      intro i hi
      obtain ⟨cs', h1, h2⟩ := hx i (by omega)
      obtain ⟨x, rfl, hx64⟩ := read_cl h2
      rw [cClaim] at h1
      obtain ⟨_, _, hcell⟩ := World.cells?_some h1
      exact ⟨x, hx64, fun f hf => by rw [← add_add]; exact hcell f hf⟩
    have : Inhabited C2 := ⟨zeroC⟩
    obtain ⟨q, hq⟩ := choose_lt each
    have hat : ∀ i, i < len0 → clAt ((List.range len0).map q) i = q i := fun i hi => by rw [clAt_get (by simpa using hi)]; simp
    refine ⟨(List.range len0).map q, ⟨?_, fun n c hh => by simp at hh⟩, fun i hi => by simp at hi; rw [hat i hi]; exact (hq i hi).1, by simpa using hsz⟩
    by_cases h0 : len0 = 0
    · subst h0
      exact Or.inl ⟨⟨_, _, rfl⟩, rfl⟩
    · obtain ⟨b, off, spot⟩ := a
      have hc := (hq 0 (by omega)).2 0 (by omega)
      have hspot : spot = none := by
        have e : (clC (q 0).pl (q 0).st).toList[0]? = some (.int .i64 (q 0).pl) := rfl
        rw [e] at hc
        simpa [Addr.add] using World.cell?_spot hc
      subst hspot
      have hadd : ∀ k, (⟨b, off, none⟩ : Addr).add k = ⟨b, off + k, none⟩ := fun k => add_plain _ _ _
      have hcl : ∀ i (hi : i < len0) f, f < 17 → W.cell? ⟨b, off + i * 17 + f, none⟩ = (clC (q i).pl (q i).st).toList[f]? := by
        intro i hi f hf
        have := (hq i hi).2 f hf
        rw [hadd, ← Nat.add_assoc] at this
        exact this
      refine Or.inr ⟨b, off, cap0, by simp, ?_, fun i hi => ?_⟩
      · have := hcl 0 (by omega) 0 (by omega)
        exact World.block_lt_of_cell? W ⟨b, _, none⟩ this
      · simp at hi
        rw [hat i hi]
        intro j u hj
        rw [hcl i hi j (by have := (List.getElem?_eq_some_iff.1 hj).1; exact this)]
        exact hj
end
end Go.Proofs.YtamiichlbmllcaaGreatDoor
