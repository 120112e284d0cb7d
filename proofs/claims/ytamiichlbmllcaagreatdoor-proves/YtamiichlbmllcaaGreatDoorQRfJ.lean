import Derived.Test.YtamiichlbmllcaaGreatDoorQMthA
import Derived.Test.YtamiichlbmllcaaGreatDoorQDec
import Derived.Test.YtamiichlbmllcaaGreatDoorQRfH
import Derived.Test.YtamiichlbmllcaaGreatDoorQRfI
import Derived.Test.YtamiichlbmllcaaGreatDoorQRfE
import Derived.Test.YtamiichlbmllcaaGreatDoorQChF
/-
  The contracts of proof.Check and surety.Check, for every program, entry and list of claims.
-/
namespace Go.Proofs.YtamiichlbmllcaaGreatDoor
open Go.RowKit
/-- a row that holds a program's instructions -/
def progA (A : Array Value) (vf : I5 → Value) (l : List I5) : Prop := ∀ i, i < l.length → A[i * 1]? = some (vf (insAt l i))
theorem progA.at {A : Array Value} {vf : I5 → Value} {l : List I5} {w : World} {pb : Nat} {t : TypeId} (h : progA A vf l) (hat : At w pb A t) : ProgC w pb vf l := fun i hi => by rw [hat.cell]; exact h i hi
/-- behind a call that made a row -/
theorem Kn.make {M : List Nat} {w0 w w' : World} {L : RowL} {b : Nat} {A : Array Value} {t : TypeId} (h : Kn M w0 w L) (hb : Below w.heap.size w w') (hat : At w' b A t) (hge : w.heap.size ≤ b) : Kn M w0 w' ((b, A, t) :: L) := by
  have hk := h.call hb
  refine ⟨hk.mod, fun x hx => ?_, List.Pairwise.cons (fun y hy e => ?_) hk.dis⟩
  · rcases List.mem_cons.1 hx with rfl | hx
    · exact ⟨hat, Or.inl (Nat.le_trans h.mod.size hge)⟩
    · exact hk.has x hx
  · have := (h.has y hy).1.lt
    simp only at e
    omega
theorem progOf_c (l : List I5) (v : Value) (w : World) (h : Slc w v l) (hl : 0 < l.length) (hl2 : l.length ≤ 64) : Calls Tryz.prog 43 #[v] w fun e w' => ∃ pb cap A, e = .returned (.slice (some ⟨pb, 0, none⟩) l.length cap) ∧ At w' pb A 124 ∧ progA A iVal l ∧ w.heap.size ≤ pb ∧ Below w.heap.size w w' := by
  refine (progOf_any l v w h hl hl2).mono ?_
  rintro e w' ⟨pv, rfl, ho, hb⟩
  rcases ho.2 with ⟨_, h2⟩ | ⟨g, cap, cur, rfl, h4, hh, h5, h6, h7, h8⟩
  · omega
  · refine ⟨g, cap, cur, rfl, hh, fun i hi => ?_, h4, hb⟩
    have h9 : (cur.toList.take (l.length * 1))[i * 1]? = (l.map iVal)[i * 1]? := by rw [h8]
    rw [List.getElem?_take, if_pos (by omega), Nat.mul_one, List.getElem?_map, List.getElem?_eq_getElem hi, Array.getElem?_toList] at h9
    rw [Nat.mul_one, h9, insAt_get hi]
    rfl
theorem fwR_le (mk : Nat → Bool) (n : Nat) : ∀ (cl : List C2) (last : Int) (i : Nat), i ≤ fwR mk n cl last i ∧ fwR mk n cl last i ≤ i + cl.length
  | [], _, i => by unfold fwR; simp
  | c :: r, last, i => by
    unfold fwR
    split
    · simp
    · have := fwR_le mk n r c.pl (i + 1)
      simp only [List.length_cons]
      omega
/-- what right claims are like -/
theorem fwR_good {mk : Nat → Bool} {n : Nat} : ∀ (cl : List C2) (last : Int) (i : Nat), -1 ≤ last → fwR mk n cl last i = i + cl.length → ∀ c, c ∈ cl → (∃ k : Nat, c.pl = k ∧ k < n ∧ mk k = true) ∧ isStR c.st = true
  | [], _, _, _, _, c, hc => by cases hc
  | d :: r, last, i, hl, h, c, hc => by
    unfold fwR at h
    by_cases hb : badC mk n last d = true
    · rw [if_pos hb] at h; simp at h
    · rw [if_neg hb] at h
      have hb' : badC mk n last d = false := by simpa using hb
      unfold badC at hb'
      simp only [Bool.or_eq_false_iff, decide_eq_false_iff_not, Bool.not_eq_false'] at hb'
      obtain ⟨⟨⟨h1, h2⟩, h3⟩, h4⟩ := hb'
      rcases List.mem_cons.1 hc with rfl | hc
      · exact ⟨⟨c.pl.toNat, by omega, by omega, h3⟩, h4⟩
      · exact fwR_good r d.pl (i + 1) (by omega) (by rw [h]; simp; omega) c hc
theorem clAt_mem {cl : List C2} {i : Nat} (h : i < cl.length) : clAt cl i ∈ cl := by rw [clAt_get h]; exact List.getElem_mem h
theorem layU_ok {cl : List C2} (h : ∀ i, i < cl.length → St.ok (clAt cl i).st ∧ St.in64 (clAt cl i).st) : ∀ (i : Nat), i ≤ cl.length → ∀ k, OkO (layU cl i k)
  | 0, _, k => fun s hs => by cases hs
  | i + 1, hi, k => fun s hs => by
    unfold layU updW at hs
    split at hs
    · cases hs; exact h i (by omega)
    · exact layU_ok h i (by omega) k s hs
/-- what Check answers of a right program -/
def checkR (l : List I5) (e : St) (cl : List C2) : Int × Nat :=
  if isStR e then (if fwR (markB l) l.length cl (-1) 0 < cl.length then (4, fwR (markB l) l.length cl (-1) 0) else passC l (layR cl) l.length 0 (some e)) else (3, 0)
/-- numbers are those of int -/
structure In64 (l : List I5) (e : St) (cl : List C2) : Prop where
  k : ∀ i, i < l.length → I64 (insAt l i).k
  e : St.in64 e
  c : ∀ i, i < cl.length → St.in64 (clAt cl i).st
theorem AllFit.regs {l : List I5} (h : AllFit l) {i : Nat} (hi : i < l.length) : RegsIn (insAt l i) := by
  have := h.fit hi
  unfold RegsIn
  unfold I5.fits fitsB at this
  simp only [Bool.and_eq_true, decide_eq_true_eq] at this
  obtain ⟨⟨⟨⟨⟨h0, h1⟩, ha⟩, hb⟩, hc⟩, hk⟩ := this
  unfold regOk at ha hb hc
  split at ha <;> split at hb <;> split at hc <;> simp only [decide_eq_true_eq, Bool.and_eq_true] at ha hb hc <;> omega
theorem stepC_keeps {l : List I5} (hl : AllFit l) (h64 : ∀ i, i < l.length → I64 (insAt l i).k) {cl : Nat → Option St} (hcl : ∀ k, OkO (cl k)) (m : Nat) (come : Option St) (hm : m < l.length) (hco : OkO come) : OkO (stepC l cl m come).2 := by
  intro s hs
  have hh : OkO (if markB l m then cl m else come) := by split; exact hcl m; exact hco
  unfold stepC at hs
  split at hs
  · cases hs
  · cases hx : (if markB l m then cl m else come) with
    | none => rw [hx] at hs; cases hs
    | some t =>
      rw [hx] at hs
      simp only at hs
      split at hs
      · cases hs
      · split at hs
        · cases hs
        · have ht := hh t hx
          exact flowOn_keeps (hl.regs hm) (h64 m hm) ht.1 ht.2 hs
theorem ok_of_st {s : St} (h : isStR s = true) : St.ok s := fun j hj => isStR_at h j hj
set_option maxHeartbeats 8000000 in
set_option maxRecDepth 100000 in
theorem check_any (l : List I5) (hl : AllFit l) (e : St) (cl : List C2) (h64 : In64 l e cl) (hcl : cl.length < 4000000000000) (v cv : Value) (w : World) (h : Slc w v l) (hc : SlcC w cv cl) :
    Calls Tryz.prog 42 #[v, .agg (stC e), cv] w fun r w' => r = .returned (.tuple #[.int .i64 (checkR l e cl).1, .int .i64 ((checkR l e cl).2 : Nat)]) ∧ Below w.heap.size w w' := by
  have hk := Kn.nil [] w
  have HV := hide h
  have HC := hide hc
  obtain ⟨ca, cc, hcv⟩ : ∃ a c, cv = .slice a cl.length c := by
    rcases hc with ⟨⟨a, cap, rfl⟩, rfl⟩ | ⟨b, off, cap, rfl, _⟩
    · exact ⟨a, cap, rfl⟩
    · exact ⟨_, cap, rfl⟩
  obtain ⟨va, vc, hvv⟩ := h.len
  subst hcv
  subst hvv
  clear h hc
  cases hE : isStR e with
  | false =>
    have R : checkR l e cl = (3, 0) := by unfold checkR; rw [hE]; rfl
    rw [R]
    clear R
    go_enter Tryz.func42, Tryz.ntmps42
    go_wp2_with (first | (first | (go_at_call 62; refine (isState_any _ _).mono ?_; rintro e w1 ⟨rfl, hb⟩; replace hk := hk.call hb; clear hb; rw [hE]) | (go_at_call 43; refine (progOf_c l _ _ (HV.out.below hk.mod.below (Nat.le_refl _)) hl.1 hl.2.1).mono ?_; rintro e w1 ⟨pb, pc, PA, rfl, hat, hpa, hge, hb⟩; replace hk := hk.make hb hat hge; have HPA := hide hpa; clear hb hat hge hpa) | (go_at_call 63; refine (marksOf_any l hl _ _ _ (HPA.out.at (hk.at (by with_reducible repeat (first | exact List.mem_cons_self | apply List.mem_cons_of_mem))))).mono ?_; rintro e w1 ⟨mb, rfl, hat, hge, hb⟩; replace hk := hk.make hb hat hge; clear hb hat hge) | (go_at_call 64; refine (firstWrong_any (markB l) l.length _ _ cl hcl _ _ (hk.at (by with_reducible repeat (first | exact List.mem_cons_self | apply List.mem_cons_of_mem))) (HC.out.below hk.mod.below (Nat.le_refl _))).mono ?_; rintro e w1 ⟨rfl, hb⟩; replace hk := hk.call hb; clear hb; rw [hFW]) | (go_at_call 65; refine (layOut_any l.length hl.2.1 cl hcl HG.out _ _ (HC.out.below hk.mod.below (Nat.le_refl _))).mono ?_; rintro e w1 ⟨sb, rfl, hat, hge, hb⟩; replace hk := hk.make hb hat hge; clear hb hat hge) | (go_at_call 66; refine (pass_ck l hl _ _ _ _ (layR cl) e _ (HPA.out.at (hk.at (by with_reducible repeat (first | exact List.mem_cons_self | apply List.mem_cons_of_mem)))) (hk.at (by with_reducible repeat (first | exact List.mem_cons_self | apply List.mem_cons_of_mem))) (hk.at (by with_reducible repeat (first | exact List.mem_cons_self | apply List.mem_cons_of_mem))) HOK.out ⟨ok_of_st hE, h64.e⟩ (stepC_keeps hl h64.k HOK.out)).mono ?_; rintro r w1 ⟨rfl, hb⟩; replace hk := hk.call hb; clear hb; rw [hPS])) | ((with_reducible show wpList _ _ _ _ _ _); (first | (refine wS hk ?_; simp only [Act.put, pw]) | (refine wN hk ?_; clear hk; intro w1 hk; simp only [Act.put, pw]) | (refine wT hk ?_; clear hk; intro w1 hk; simp only [Act.put]))))
    go_ret2
    exact ⟨rfl, hk.mod.below⟩
  | true =>
    obtain ⟨FW, hFW⟩ : ∃ FW, fwR (markB l) l.length cl (-1) 0 = FW := ⟨_, rfl⟩
    have hle := fwR_le (markB l) l.length cl (-1) 0
    rw [hFW] at hle
    by_cases hlt : FW < cl.length
    · have R : checkR l e cl = (4, FW) := by unfold checkR; rw [hE, hFW, if_pos hlt]; rfl
      rw [R]
      clear R
      go_enter Tryz.func42, Tryz.ntmps42
      go_wp2_with (first | (first | (go_at_call 62; refine (isState_any _ _).mono ?_; rintro e w1 ⟨rfl, hb⟩; replace hk := hk.call hb; clear hb; rw [hE]) | (go_at_call 43; refine (progOf_c l _ _ (HV.out.below hk.mod.below (Nat.le_refl _)) hl.1 hl.2.1).mono ?_; rintro e w1 ⟨pb, pc, PA, rfl, hat, hpa, hge, hb⟩; replace hk := hk.make hb hat hge; have HPA := hide hpa; clear hb hat hge hpa) | (go_at_call 63; refine (marksOf_any l hl _ _ _ (HPA.out.at (hk.at (by with_reducible repeat (first | exact List.mem_cons_self | apply List.mem_cons_of_mem))))).mono ?_; rintro e w1 ⟨mb, rfl, hat, hge, hb⟩; replace hk := hk.make hb hat hge; clear hb hat hge) | (go_at_call 64; refine (firstWrong_any (markB l) l.length _ _ cl hcl _ _ (hk.at (by with_reducible repeat (first | exact List.mem_cons_self | apply List.mem_cons_of_mem))) (HC.out.below hk.mod.below (Nat.le_refl _))).mono ?_; rintro e w1 ⟨rfl, hb⟩; replace hk := hk.call hb; clear hb; rw [hFW]) | (go_at_call 65; refine (layOut_any l.length hl.2.1 cl hcl HG.out _ _ (HC.out.below hk.mod.below (Nat.le_refl _))).mono ?_; rintro e w1 ⟨sb, rfl, hat, hge, hb⟩; replace hk := hk.make hb hat hge; clear hb hat hge) | (go_at_call 66; refine (pass_ck l hl _ _ _ _ (layR cl) e _ (HPA.out.at (hk.at (by with_reducible repeat (first | exact List.mem_cons_self | apply List.mem_cons_of_mem)))) (hk.at (by with_reducible repeat (first | exact List.mem_cons_self | apply List.mem_cons_of_mem))) (hk.at (by with_reducible repeat (first | exact List.mem_cons_self | apply List.mem_cons_of_mem))) HOK.out ⟨ok_of_st hE, h64.e⟩ (stepC_keeps hl h64.k HOK.out)).mono ?_; rintro r w1 ⟨rfl, hb⟩; replace hk := hk.call hb; clear hb; rw [hPS])) | ((with_reducible show wpList _ _ _ _ _ _); (first | (refine wS hk ?_; simp only [Act.put, pw]) | (refine wN hk ?_; clear hk; intro w1 hk; simp only [Act.put, pw]) | (refine wT hk ?_; clear hk; intro w1 hk; simp only [Act.put]))))
      go_ret2
      exact ⟨rfl, hk.mod.below⟩
    · have R : checkR l e cl = passC l (layR cl) l.length 0 (some e) := by unfold checkR; rw [hE, hFW, if_neg hlt]; rfl
      rw [R]
      clear R
      have hgood := fwR_good cl (-1) 0 (by omega) (show fwR (markB l) l.length cl (-1) 0 = 0 + cl.length by rw [hFW]; omega)
      have HG : Hid (∀ i, i < cl.length → ∃ k : Nat, (clAt cl i).pl = k ∧ k < l.length) := hide (fun i hi => by obtain ⟨⟨k, h1, h2, _⟩, _⟩ := hgood _ (clAt_mem hi); exact ⟨k, h1, h2⟩)
      have HOK : Hid (∀ k, OkO (layR cl k)) := hide (layU_ok (fun i hi => ⟨ok_of_st (hgood _ (clAt_mem hi)).2, h64.c i hi⟩) cl.length (Nat.le_refl _))
      clear hgood
      obtain ⟨PE, PN, hPS⟩ : ∃ PE PN, passC l (layR cl) l.length 0 (some e) = (PE, PN) := ⟨_, _, rfl⟩
      rw [hPS]
      go_enter Tryz.func42, Tryz.ntmps42
      go_wp2_with (first | (first | (go_at_call 62; refine (isState_any _ _).mono ?_; rintro e w1 ⟨rfl, hb⟩; replace hk := hk.call hb; clear hb; rw [hE]) | (go_at_call 43; refine (progOf_c l _ _ (HV.out.below hk.mod.below (Nat.le_refl _)) hl.1 hl.2.1).mono ?_; rintro e w1 ⟨pb, pc, PA, rfl, hat, hpa, hge, hb⟩; replace hk := hk.make hb hat hge; have HPA := hide hpa; clear hb hat hge hpa) | (go_at_call 63; refine (marksOf_any l hl _ _ _ (HPA.out.at (hk.at (by with_reducible repeat (first | exact List.mem_cons_self | apply List.mem_cons_of_mem))))).mono ?_; rintro e w1 ⟨mb, rfl, hat, hge, hb⟩; replace hk := hk.make hb hat hge; clear hb hat hge) | (go_at_call 64; refine (firstWrong_any (markB l) l.length _ _ cl hcl _ _ (hk.at (by with_reducible repeat (first | exact List.mem_cons_self | apply List.mem_cons_of_mem))) (HC.out.below hk.mod.below (Nat.le_refl _))).mono ?_; rintro e w1 ⟨rfl, hb⟩; replace hk := hk.call hb; clear hb; rw [hFW]) | (go_at_call 65; refine (layOut_any l.length hl.2.1 cl hcl HG.out _ _ (HC.out.below hk.mod.below (Nat.le_refl _))).mono ?_; rintro e w1 ⟨sb, rfl, hat, hge, hb⟩; replace hk := hk.make hb hat hge; clear hb hat hge) | (go_at_call 66; refine (pass_ck l hl _ _ _ _ (layR cl) e _ (HPA.out.at (hk.at (by with_reducible repeat (first | exact List.mem_cons_self | apply List.mem_cons_of_mem)))) (hk.at (by with_reducible repeat (first | exact List.mem_cons_self | apply List.mem_cons_of_mem))) (hk.at (by with_reducible repeat (first | exact List.mem_cons_self | apply List.mem_cons_of_mem))) HOK.out ⟨ok_of_st hE, h64.e⟩ (stepC_keeps hl h64.k HOK.out)).mono ?_; rintro r w1 ⟨rfl, hb⟩; replace hk := hk.call hb; clear hb; rw [hPS])) | ((with_reducible show wpList _ _ _ _ _ _); (first | (refine wS hk ?_; simp only [Act.put, pw]) | (refine wN hk ?_; clear hk; intro w1 hk; simp only [Act.put, pw]) | (refine wT hk ?_; clear hk; intro w1 hk; simp only [Act.put]))))
      go_ret2
      exact ⟨rfl, hk.mod.below⟩
end Go.Proofs.YtamiichlbmllcaaGreatDoor
/-
  The contract of surety.Check, for every program, entry and list of claims.
-/
namespace Go.Proofs.YtamiichlbmllcaaGreatDoor
open Go.RowKit
theorem right_fit {l : List I5} (h : rightR l = (0, 0)) : AllFit l := by
  unfold rightR at h
  by_cases hl : l.length = 0 ∨ 64 < l.length
  · rw [if_pos hl] at h; simp at h
  · rw [if_neg hl] at h
    refine ⟨by omega, by omega, fun i hi => ?_⟩
    cases hb : badFrom l l.length with
    | some j => rw [hb] at h; simp at h
    | none =>
      unfold badFrom at hb
      rw [List.findIdx?_eq_none_iff] at hb
      have := hb l[i] (List.getElem_mem hi)
      simpa using this
/-- what Check answers -/
def scheckR (l : List I5) (e : St) (cl : List C2) : Int × Int := if rightR l = (0, 0) then ((checkR l e cl).1, ((checkR l e cl).2 : Int)) else rightR l
set_option maxHeartbeats 4000000 in
set_option maxRecDepth 100000 in
theorem SCheck_any (l : List I5) (e : St) (cl : List C2) (h64 : In64 l e cl) (hcl : cl.length < 4000000000000) (v cv : Value) (w : World) (hs : Shapes w) (h : Slc w v l) (hc : SlcC w cv cl) :
    Calls Tryz.prog 22 #[v, .agg (stC e), cv] w fun r w' => r = .returned (.tuple #[.int .i64 (scheckR l e cl).1, .int .i64 (scheckR l e cl).2]) ∧ Below w.heap.size w w' := by
  have hk := Kn.nil [] w
  have HS := hide hs
  have HV := hide h
  have HC := hide hc
  clear hs h hc
  rcases rightR_or l with hr | hr
  · have R : scheckR l e cl = ((checkR l e cl).1, ((checkR l e cl).2 : Int)) := by unfold scheckR; rw [if_pos hr]
    rw [R]
    clear R
    have HAF := hide (right_fit hr)
    obtain ⟨PE, PN, hPS⟩ : ∃ PE PN, checkR l e cl = (PE, PN) := ⟨_, _, rfl⟩
    rw [hPS]
    go_enter Tryz.func22, Tryz.ntmps22
    go_wp2_with (first | (first | (go_at_call 41; refine (codeRight_any l _ _ (HS.out.below hk.mod.below HS.out.1) (HV.out.below hk.mod.below (Nat.le_refl _))).mono ?_; rintro e w1 ⟨rfl, hb⟩; replace hk := hk.call hb; clear hb; rw [hr]) | (go_at_call 42; refine (check_any l HAF.out e cl h64 hcl _ _ _ (HV.out.below hk.mod.below (Nat.le_refl _)) (HC.out.below hk.mod.below (Nat.le_refl _))).mono ?_; rintro r w1 ⟨rfl, hb⟩; replace hk := hk.call hb; clear hb; rw [hPS])) | ((with_reducible show wpList _ _ _ _ _ _); (first | (refine wS hk ?_; simp only [Act.put, pw]) | (refine wN hk ?_; clear hk; intro w1 hk; simp only [Act.put, pw]) | (refine wT hk ?_; clear hk; intro w1 hk; simp only [Act.put]))))
    go_ret2
    exact ⟨rfl, hk.mod.below⟩
  · have R : scheckR l e cl = rightR l := by unfold scheckR; rw [if_neg (by intro h; rw [h] at hr; simp at hr)]
    rw [R]
    clear R
    obtain ⟨PE, PN, hPS⟩ : ∃ PE PN, rightR l = (PE, PN) := ⟨_, _, rfl⟩
    rw [hPS] at hr
    simp only at hr
    subst hr
    rw [hPS]
    go_enter Tryz.func22, Tryz.ntmps22
    go_wp2_with (first | (go_at_call 41; refine (codeRight_any l _ _ (HS.out.below hk.mod.below HS.out.1) (HV.out.below hk.mod.below (Nat.le_refl _))).mono ?_; rintro e w1 ⟨rfl, hb⟩; replace hk := hk.call hb; clear hb; rw [hPS]) | ((with_reducible show wpList _ _ _ _ _ _); (first | (refine wS hk ?_; simp only [Act.put, pw]) | (refine wN hk ?_; clear hk; intro w1 hk; simp only [Act.put, pw]) | (refine wT hk ?_; clear hk; intro w1 hk; simp only [Act.put]))))
    go_ret2
    exact ⟨rfl, hk.mod.below⟩
end Go.Proofs.YtamiichlbmllcaaGreatDoor
/-
  suretyref: the ways as options; less, same and the division of states that hold numbers; claims that rise are laid as they are found.
-/
namespace Go.Proofs.YtamiichlbmllcaaGreatDoor
open Go.RowKit
def wayO (b : Bool) (s : St) : Option St := if b then some s else none
theorem wayO_is (b : Bool) (s : St) : (wayO b s).isSome = b := by cases b <;> rfl
theorem rf_div (b c : R2) (hb : b.in64) (_hbo : b.lo ≤ b.hi) (hco : c.lo ≤ c.hi) (w : World) : Calls Tryz.prog 118 #[.int .i64 6, .agg (rgC b), .agg (rgC c)] w fun e w' => e = .returned (.agg (rgC (quoR b c))) ∧ Below w.heap.size w w' := by
  unfold R2.in64 I64 at hb
  have e0 : hasR c 0 = (decide (c.lo ≤ 0) && decide (0 ≤ c.hi)) := by unfold hasR; rw [Bool.decide_and]
  have e1 : hasR c (-1) = (decide (c.lo ≤ -1) && decide (-1 ≤ c.hi)) := by unfold hasR; rw [Bool.decide_and]
  have e2 : hasR b (-9223372036854775808) = (b.lo == (-9223372036854775808)) := by
    unfold hasR
    rw [Bool.eq_iff_iff, decide_eq_true_eq, beq_iff_eq]
    omega
  cases h1 : decide (c.lo ≤ 0) with
  | true => cases h2 : decide (0 ≤ c.hi) with
    | true =>
      rw [quoR_no (by unfold quoAll; rw [e0, h1, h2]; rfl)]
      exact rf_div1 b c h1 h2 w
    | false =>
      have hl : c.lo ≠ 0 := by simp at h1 h2; omega
      have hh : c.hi ≠ 0 := by simp at h2; omega
      cases h3 : (b.lo == (-9223372036854775808)) with
      | false =>
        rw [quoR_yes (by unfold quoAll; rw [e0, e2, h1, h2, h3]; simp)]
        exact rf_div4 b c hl hh h1 h2 h3 w
      | true =>
        have h4 : decide (c.lo ≤ -1) = true := by simp at h1 h2 ⊢; omega
        cases h5 : decide (-1 ≤ c.hi) with
        | true =>
          rw [quoR_no (by unfold quoAll; rw [e0, e1, e2, h1, h2, h3, h4, h5]; rfl)]
          exact rf_div5 b c h1 h2 h3 h4 h5 w
        | false =>
          rw [quoR_yes (by unfold quoAll; rw [e0, e1, e2, h1, h2, h3, h4, h5]; rfl)]
          exact rf_div6 b c hl hh h1 h2 h3 h4 h5 w
  | false =>
    have hl : c.lo ≠ 0 := by simp at h1; omega
    have hh : c.hi ≠ 0 := by simp at h1; omega
    cases h3 : (b.lo == (-9223372036854775808)) with
    | false =>
      rw [quoR_yes (by unfold quoAll; rw [e0, e2, h1, h3]; simp)]
      exact rf_div2 b c hl hh h1 h3 w
    | true =>
      have h4 : decide (c.lo ≤ -1) = false := by simp at h1 ⊢; omega
      rw [quoR_yes (by unfold quoAll; rw [e0, e1, e2, h1, h3, h4]; simp)]
      exact rf_div3 b c hl hh h1 h3 h4 w
theorem isSt_iff {s : St} : isStR s = true ↔ St.ok s := by
  unfold isStR St.ok
  rw [List.all_eq_true]
  simp
theorem narr_way {s : St} {a b : Nat} {x y z : R2} (hs : s.ok) (ha : a < 8) (hb : b < 8) (hab : a ≠ b) (hz : z = y) : wayO (isStR (updS (updS s a x) b z)) (updS (updS s a x) b z) = narrR s a x b y := by
  subst hz
  unfold narrR wayO emptyR
  by_cases h1 : x.hi < x.lo
  · have : isStR (updS (updS s a x) b z) = false := by
      rw [Bool.eq_false_iff]; intro h
      have := isSt_iff.1 h a ha
      rw [upd_other hab, upd_same] at this
      omega
    simp [h1, this]
  · by_cases h2 : z.hi < z.lo
    · have : isStR (updS (updS s a x) b z) = false := by
        rw [Bool.eq_false_iff]; intro h
        have := isSt_iff.1 h b hb
        rw [upd_same] at this
        omega
      simp [h2, this]
    · have : isStR (updS (updS s a x) b z) = true := isSt_iff.2 (upd_ok (upd_ok hs (by omega)) (by omega))
      simp [h1, h2, this]
theorem rf_less (a b : Nat) (ha : a < 8) (hb : b < 8) (hab : a ≠ b) (s : St) (hs : s.ok) (h64 : s.in64) : ∃ b1 s1 b2 s2,
    wayO b1 s1 = (if (s b).hi = -9223372036854775808 ∨ (s a).lo = 9223372036854775807 then none else narrR s a ⟨(s a).lo, min (s a).hi ((s b).hi - 1)⟩ b ⟨max (s b).lo ((s a).lo + 1), (s b).hi⟩) ∧
    wayO b2 s2 = narrR s a ⟨max (s a).lo (s b).lo, (s a).hi⟩ b ⟨(s b).lo, min (s b).hi (s a).hi⟩ ∧
    ∀ w, Calls Tryz.prog 116 #[.agg (stC s), .int .i64 a, .int .i64 b] w fun e w' => e = .returned (.tuple #[.agg (plC b1 s1), .agg (plC b2 s2)]) ∧ Below w.heap.size w w' := by
  have h1 := h64 b hb
  have h2 := h64 a ha
  unfold R2.in64 I64 at h1 h2
  by_cases c1 : -9223372036854775808 < (s b).hi
  · by_cases c2 : (s a).lo < 9223372036854775807
    · refine ⟨_, _, _, _, ?_, ?_, fun w => rf_less1 a b ha hb s _ _ _ (hide rfl) (hide rfl) (hide rfl) _ _ _ (hide rfl) (hide rfl) (hide rfl) c1 c2 (by omega) (by omega) w⟩
      · rw [if_neg (by omega), Bool.not_not]
        exact narr_way hs ha hb hab (by rw [upd_other hab.symm])
      · rw [Bool.not_not]
        exact narr_way hs ha hb hab (by rw [upd_other hab.symm])
    · refine ⟨_, _, _, _, ?_, ?_, fun w => rf_less3 a b ha hb s _ _ _ (hide rfl) (hide rfl) (hide rfl) c1 c2 w⟩
      · rw [if_pos (by omega)]; rfl
      · rw [Bool.not_not]
        exact narr_way hs ha hb hab (by rw [upd_other hab.symm])
  · refine ⟨_, _, _, _, ?_, ?_, fun w => rf_less2 a b ha hb s _ _ _ (hide rfl) (hide rfl) (hide rfl) c1 w⟩
    · rw [if_pos (by omega)]; rfl
    · rw [Bool.not_not]
      exact narr_way hs ha hb hab (by rw [upd_other hab.symm])
theorem same_way {s : St} {a b : Nat} {x : R2} : wayO (!emptyR x) (updS (updS s a x) b x) = narrR s a x b x := by
  unfold narrR wayO
  cases emptyR x <;> rfl
/-- claims that rise -/
theorem fwR_rise {mk : Nat → Bool} {n : Nat} : ∀ (cl : List C2) (last : Int) (i : Nat), fwR mk n cl last i = i + cl.length → (∀ c, c ∈ cl → last < c.pl) ∧ cl.Pairwise (fun x y => x.pl < y.pl)
  | [], _, _, _ => ⟨fun c hc => (by cases hc), .nil⟩
  | d :: r, last, i, h => by
    unfold fwR at h
    by_cases hb : badC mk n last d = true
    · rw [if_pos hb] at h; simp at h
    · rw [if_neg hb] at h
      have hb' : badC mk n last d = false := by simpa using hb
      unfold badC at hb'
      simp only [Bool.or_eq_false_iff, decide_eq_false_iff_not, Bool.not_eq_false'] at hb'
      obtain ⟨⟨⟨h1, _⟩, _⟩, _⟩ := hb'
      have ih := fwR_rise r d.pl (i + 1) (by rw [h]; simp; omega)
      refine ⟨fun c hc => ?_, List.pairwise_cons.2 ⟨ih.1, ih.2⟩⟩
      rcases List.mem_cons.1 hc with rfl | hc
      · omega
      · have := ih.1 c hc; omega
theorem layU_no {cl : List C2} {k : Nat} : ∀ (i : Nat), (∀ j, j < i → (clAt cl j).pl.toNat ≠ k) → layU cl i k = none
  | 0, _ => rfl
  | i + 1, h => by
    unfold layU updW
    rw [if_neg (fun e => h i (by omega) e.symm)]
    exact layU_no i fun j hj => h j (by omega)
theorem layU_yes {cl : List C2} {k m : Nat} (hm : (clAt cl m).pl.toNat = k) : ∀ (i : Nat), m < i → (∀ j, m < j → j < i → (clAt cl j).pl.toNat ≠ k) → layU cl i k = some (clAt cl m).st
  | 0, h, _ => by omega
  | i + 1, h, hj => by
    unfold layU updW
    by_cases e : k = (clAt cl i).pl.toNat
    · rw [if_pos e]
      by_cases e2 : m = i
      · rw [e2]
      · exact absurd e.symm (hj i (by omega) (by omega))
    · rw [if_neg e]
      refine layU_yes hm i ?_ fun j h1 h2 => hj j h1 (by omega)
      rcases Nat.lt_succ_iff_lt_or_eq.1 h with h | h
      · exact h
      · subst h; exact absurd hm.symm e
theorem lay_find {cl : List C2} (h0 : ∀ i, i < cl.length → 0 ≤ (clAt cl i).pl) (hp : cl.Pairwise (fun x y => x.pl < y.pl)) (k : Nat) : findC cl (k : Int) = layR cl k := by
  unfold layR
  by_cases h : ∃ m, m < cl.length ∧ (clAt cl m).pl = (k : Int)
  · obtain ⟨m, hm, he⟩ := h
    have hlt : ∀ i j, i < j → j < cl.length → (clAt cl i).pl < (clAt cl j).pl := fun i j hij hj => by
      rw [clAt_get hj, clAt_get (by omega)]
      exact List.pairwise_iff_getElem.1 hp i j (by omega) hj hij
    rw [findC_yes hm (fun j hj e => by have := hlt j m hj hm; omega) he, layU_yes (by omega) _ hm fun j h1 h2 e => by have := hlt m j h1 h2; omega]
  · rw [findC_no fun j hj e => h ⟨j, hj, e⟩, layU_no _ fun j hj e => h ⟨j, hj, by have := h0 j hj; omega⟩]
/-- marks of a right program -/
theorem jm_fit {l : List I5} (hl : AllFit l) {i : Nat} (hi : i < l.length) (k : Int) : jmB (insAt l i) k = (decide (9 ≤ (insAt l i).o) && decide ((insAt l i).k = k)) := by
  have hf := hl.fit hi
  have ho : (insAt l i).o < 12 := by
    unfold I5.fits fitsB at hf
    simp only [Bool.and_eq_true, decide_eq_true_eq] at hf
    omega
  unfold jmB
  rw [Bool.eq_iff_iff]
  simp only [Bool.and_eq_true, Bool.or_eq_true, beq_iff_eq, decide_eq_true_eq]
  constructor
  · rintro ⟨h1, h2⟩; exact ⟨by omega, h2⟩
  · rintro ⟨h1, h2⟩; exact ⟨by omega, h2⟩
theorem markI_nat {l : List I5} (hl : AllFit l) (k : Nat) : markI l (k : Int) = markB l k := by
  unfold markI markB
  rw [Bool.eq_iff_iff, List.any_eq_true, List.any_eq_true]
  constructor
  · rintro ⟨x, hx, h⟩
    obtain ⟨j, hj, rfl⟩ := List.mem_iff_getElem.1 hx
    rw [← insAt_get hj, jm_fit hl hj] at h
    exact ⟨_, List.getElem_mem hj, by rw [← insAt_get hj]; exact h⟩
  · rintro ⟨x, hx, h⟩
    obtain ⟨j, hj, rfl⟩ := List.mem_iff_getElem.1 hx
    rw [← insAt_get hj] at h
    exact ⟨_, List.getElem_mem hj, by rw [← insAt_get hj, jm_fit hl hj]; exact h⟩
theorem markI_in {l : List I5} (hl : AllFit l) {k : Int} (h : markI l k = true) : 0 ≤ k ∧ k < l.length := by
  unfold markI at h
  rw [List.any_eq_true] at h
  obtain ⟨x, hx, h⟩ := h
  obtain ⟨j, hj, rfl⟩ := List.mem_iff_getElem.1 hx
  rw [← insAt_get hj, jm_fit hl hj] at h
  simp only [Bool.and_eq_true, decide_eq_true_eq] at h
  have := hl.k hj h.1
  omega
def lastOf (cl : List C2) (i : Nat) : Int := if i = 0 then -1 else (clAt cl (i - 1)).pl
theorem fwR_upto {mk : Nat → Bool} {n : Nat} {cl : List C2} : ∀ (i : Nat), i ≤ cl.length → (∀ j, j < i → badC mk n (lastOf cl j) (clAt cl j) = false) → fwR mk n cl (-1) 0 = fwR mk n (cl.drop i) (lastOf cl i) i
  | 0, _, _ => rfl
  | i + 1, hi, h => by
    rw [fwR_upto i (by omega) fun j hj => h j (by omega), fwR_ok (by omega) (h i (by omega))]
    rfl
theorem last_ge {mk : Nat → Bool} {n : Nat} {cl : List C2} : ∀ (i : Nat), (∀ j, j < i → badC mk n (lastOf cl j) (clAt cl j) = false) → -1 ≤ lastOf cl i
  | 0, _ => by unfold lastOf; simp
  | i + 1, h => by
    have h1 := last_ge i fun j hj => h j (by omega)
    have h2 := h i (by omega)
    unfold badC at h2
    simp only [Bool.or_eq_false_iff, decide_eq_false_iff_not] at h2
    show -1 ≤ (clAt cl i).pl
    omega
/-- what the reference asks of a claim is what the program asks -/
theorem bad_ref {l : List I5} (hl : AllFit l) {cl : List C2} {i : Nat} (h : ∀ j, j < i → badC (markB l) l.length (lastOf cl j) (clAt cl j) = false) : badC (markB l) l.length (lastOf cl i) (clAt cl i) = (!markI l (clAt cl i).pl || !isStR (clAt cl i).st || (decide (0 < i) && decide ((clAt cl i).pl ≤ (clAt cl (i - 1)).pl))) := by
  have hge := last_ge i h
  unfold badC
  by_cases hm : markI l (clAt cl i).pl = true
  · have hin := markI_in hl hm
    have e : markB l (clAt cl i).pl.toNat = true := by rw [← markI_nat hl]; rw [show (((clAt cl i).pl.toNat : Nat) : Int) = (clAt cl i).pl by omega]; exact hm
    rw [hm, e]
    rw [Bool.eq_iff_iff]
    simp only [Bool.or_eq_true, Bool.and_eq_true, decide_eq_true_eq, Bool.not_true, Bool.false_eq_true, or_false, false_or]
    unfold lastOf at *
    by_cases h0 : i = 0
    · rw [if_pos h0] at *
      constructor
      · rintro ((h1 | h1) | h1)
        · omega
        · omega
        · exact Or.inl h1
      · rintro (h1 | h1)
        · exact Or.inr h1
        · omega
    · rw [if_neg h0] at *
      constructor
      · rintro ((h1 | h1) | h1)
        · exact Or.inr ⟨by omega, h1⟩
        · omega
        · exact Or.inl h1
      · rintro (h1 | h1)
        · exact Or.inr h1
        · exact Or.inl (Or.inl h1.2)
  · have hm' : markI l (clAt cl i).pl = false := by simpa using hm
    rw [hm']
    simp only [Bool.not_false, Bool.true_or]
    by_cases h1 : (clAt cl i).pl ≤ lastOf cl i
    · simp [h1]
    · have e : markB l (clAt cl i).pl.toNat = false := by rw [← markI_nat hl]; rw [show (((clAt cl i).pl.toNat : Nat) : Int) = (clAt cl i).pl by omega]; exact hm'
      simp [e]
end Go.Proofs.YtamiichlbmllcaaGreatDoor
