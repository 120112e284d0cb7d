import Derived.Test.YtamiichlbmllcaaGreatDoorTMthA
import Derived.Test.YtamiichlbmllcaaGreatDoorTRowF
import Derived.Test.YtamiichlbmllcaaGreatDoorTLawB
import Derived.Test.YtamiichlbmllcaaGreatDoorTChF
import Derived.SizedLaws
/-
  The contracts of proof.Check and surety.Check, for every program, entry and list of claims.
-/
namespace Go.Proofs.YtamiichlbmllcaaGreatDoor
open Go.RowKit
/-- a row that holds a program's instructions -/
def progA (A : Array Value) (vf : I5 → Value) (l : List I5) : Prop := ∀ i, i < l.length → A[i * 1]? = some (vf (insAt l i))
theorem progA.at {A : Array Value} {vf : I5 → Value} {l : List I5} {w : World} {pb : Nat} {t : TypeId} (h : progA A vf l) (hat : At w pb A t) : ProgC w pb vf l := fun i hi => by rw [hat.cell]; exact h i hi
/-- behind a call that made a row -/
theorem Kn.make {M : List Nat} {w0 w w' : World} {L : RowL} {b : Nat} {A : Array Value} {t : TypeId} (h : Kn M w0 w L) (hb : Below w.heap.size w w') (hat : At w' b A t) (hge : w.heap.size ≤ b) : Kn M w0 w' ((b, A, t) :: L) := by
  have hk := h.call hb
  refine ⟨hk.mod, fun x hx => ?_, List.Pairwise.cons (fun y hy e => ?_) hk.dis⟩
  · rcases List.mem_cons.1 hx with rfl | hx
    · exact ⟨hat, Or.inl (Nat.le_trans h.mod.size hge)⟩
    · exact hk.has x hx
  · have := (h.has y hy).1.lt
    simp only at e
    omega
theorem progOf_c (l : List I5) (v : Value) (w : World) (h : Slc w v l) (hl : 0 < l.length) (hl2 : l.length ≤ 64) : Calls Tryz.prog 43 #[v] w fun e w' => ∃ pb cap A, e = .returned (.slice (some ⟨pb, 0, none⟩) l.length cap) ∧ At w' pb A 124 ∧ progA A iVal l ∧ w.heap.size ≤ pb ∧ Below w.heap.size w w' := by
  refine (progOf_any l v w h hl hl2).mono ?_
  rintro e w' ⟨pv, rfl, ho, hb⟩
  rcases ho.2 with ⟨_, h2⟩ | ⟨g, cap, cur, rfl, h4, hh, h5, h6, h7, h8⟩
  · omega
  · refine ⟨g, cap, cur, rfl, hh, fun i hi => ?_, h4, hb⟩
    have h9 : (cur.toList.take (l.length * 1))[i * 1]? = (l.map iVal)[i * 1]? := by rw [h8]
    rw [List.getElem?_take, if_pos (by omega), Nat.mul_one, List.getElem?_map, List.getElem?_eq_getElem hi, Array.getElem?_toList] at h9
    rw [Nat.mul_one, h9, insAt_get hi]
    rfl
theorem fwR_le (mk : Nat → Bool) (n : Nat) : ∀ (cl : List C2) (last : Int) (i : Nat), i ≤ fwR mk n cl last i ∧ fwR mk n cl last i ≤ i + cl.length
  | [], _, i => by unfold fwR; simp
  | c :: r, last, i => by
    unfold fwR
    split
    · simp
    · have := fwR_le mk n r c.pl (i + 1)
      simp only [List.length_cons]
      omega
/-- what right claims are like -/
theorem fwR_good {mk : Nat → Bool} {n : Nat} : ∀ (cl : List C2) (last : Int) (i : Nat), -1 ≤ last → fwR mk n cl last i = i + cl.length → ∀ c, c ∈ cl → (∃ k : Nat, c.pl = k ∧ k < n ∧ mk k = true) ∧ isStR c.st = true
  | [], _, _, _, _, c, hc => by cases hc
  | d :: r, last, i, hl, h, c, hc => by
    unfold fwR at h
    by_cases hb : badC mk n last d = true
    · rw [if_pos hb] at h; simp at h
    · rw [if_neg hb] at h
      have hb' : badC mk n last d = false := by simpa using hb
      unfold badC at hb'
      simp only [Bool.or_eq_false_iff, decide_eq_false_iff_not, Bool.not_eq_false'] at hb'
      obtain ⟨⟨⟨h1, h2⟩, h3⟩, h4⟩ := hb'
      rcases List.mem_cons.1 hc with rfl | hc
      · exact ⟨⟨c.pl.toNat, by omega, by omega, h3⟩, h4⟩
      · exact fwR_good r d.pl (i + 1) (by omega) (by rw [h]; simp; omega) c hc
theorem clAt_mem {cl : List C2} {i : Nat} (h : i < cl.length) : clAt cl i ∈ cl := by rw [clAt_get h]; exact List.getElem_mem h
theorem layU_ok {cl : List C2} (h : ∀ i, i < cl.length → St.ok (clAt cl i).st ∧ St.in64 (clAt cl i).st) : ∀ (i : Nat), i ≤ cl.length → ∀ k, OkO (layU cl i k)
  | 0, _, k => fun s hs => by cases hs
  | i + 1, hi, k => fun s hs => by
    unfold layU updW at hs
    split at hs
    · cases hs; exact h i (by omega)
    · exact layU_ok h i (by omega) k s hs
/-- what Check answers of a right program -/
def checkR (l : List I5) (e : St) (cl : List C2) : Int × Nat :=
  if isStR e then (if fwR (markB l) l.length cl (-1) 0 < cl.length then (4, fwR (markB l) l.length cl (-1) 0) else passC l (layR cl) l.length 0 (some e)) else (3, 0)
/-- numbers are those of int -/
structure In64 (l : List I5) (e : St) (cl : List C2) : Prop where
  k : ∀ i, i < l.length → I64 (insAt l i).k
  e : St.in64 e
  c : ∀ i, i < cl.length → St.in64 (clAt cl i).st
theorem AllFit.regs {l : List I5} (h : AllFit l) {i : Nat} (hi : i < l.length) : RegsIn (insAt l i) := by
  have := h.fit hi
  unfold RegsIn
  unfold I5.fits fitsB at this
  simp only [Bool.and_eq_true, decide_eq_true_eq] at this
  obtain ⟨⟨⟨⟨⟨h0, h1⟩, ha⟩, hb⟩, hc⟩, hk⟩ := this
  unfold regOk at ha hb hc
  split at ha <;> split at hb <;> split at hc <;> simp only [decide_eq_true_eq, Bool.and_eq_true] at ha hb hc <;> omega
theorem stepC_keeps {l : List I5} (hl : AllFit l) (h64 : ∀ i, i < l.length → I64 (insAt l i).k) {cl : Nat → Option St} (hcl : ∀ k, OkO (cl k)) (m : Nat) (come : Option St) (hm : m < l.length) (hco : OkO come) : OkO (stepC l cl m come).2 := by
  intro s hs
  have hh : OkO (if markB l m then cl m else come) := by split; exact hcl m; exact hco
  unfold stepC at hs
  split at hs
  · cases hs
  · cases hx : (if markB l m then cl m else come) with
    | none => rw [hx] at hs; cases hs
    | some t =>
      rw [hx] at hs
      simp only at hs
      split at hs
      · cases hs
      · split at hs
        · cases hs
        · have ht := hh t hx
          exact flowOn_keeps (hl.regs hm) (h64 m hm) ht.1 ht.2 hs
theorem ok_of_st {s : St} (h : isStR s = true) : St.ok s := fun j hj => isStR_at h j hj
set_option maxHeartbeats 8000000 in
set_option maxRecDepth 100000 in
theorem check_any (l : List I5) (hl : AllFit l) (e : St) (cl : List C2) (h64 : In64 l e cl) (hcl : cl.length < 4000000000000) (v cv : Value) (w : World) (h : Slc w v l) (hc : SlcC w cv cl) :
    Calls Tryz.prog 42 #[v, .agg (stC e), cv] w fun r w' => r = .returned (.tuple #[.int .i64 (checkR l e cl).1, .int .i64 ((checkR l e cl).2 : Nat)]) ∧ Below w.heap.size w w' := by
  have hk := Kn.nil [] w
  have HV := hide h
  have HC := hide hc
  obtain ⟨ca, cc, hcv⟩ : ∃ a c, cv = .slice a cl.length c := by
    rcases hc with ⟨⟨a, cap, rfl⟩, rfl⟩ | ⟨b, off, cap, rfl, _⟩
    · exact ⟨a, cap, rfl⟩
    · exact ⟨_, cap, rfl⟩
  obtain ⟨va, vc, hvv⟩ := h.len
  subst hcv
  subst hvv
  clear h hc
  cases hE : isStR e with
  | false =>
    have R : checkR l e cl = (3, 0) := by unfold checkR; rw [hE]; rfl
    rw [R]
    clear R
    go_enter Tryz.func42, Tryz.ntmps42
    go_wp2_with (first | (first | (go_at_call 62; refine (isState_any _ _).mono ?_; rintro e w1 ⟨rfl, hb⟩; replace hk := hk.call hb; clear hb; rw [hE]) | (go_at_call 43; refine (progOf_c l _ _ (HV.out.below hk.mod.below (Nat.le_refl _)) hl.1 hl.2.1).mono ?_; rintro e w1 ⟨pb, pc, PA, rfl, hat, hpa, hge, hb⟩; replace hk := hk.make hb hat hge; have HPA := hide hpa; clear hb hat hge hpa) | (go_at_call 63; refine (marksOf_any l hl _ _ _ (HPA.out.at (hk.at (by with_reducible repeat (first | exact List.mem_cons_self | apply List.mem_cons_of_mem))))).mono ?_; rintro e w1 ⟨mb, rfl, hat, hge, hb⟩; replace hk := hk.make hb hat hge; clear hb hat hge) | (go_at_call 64; refine (firstWrong_any (markB l) l.length _ _ cl hcl _ _ (hk.at (by with_reducible repeat (first | exact List.mem_cons_self | apply List.mem_cons_of_mem))) (HC.out.below hk.mod.below (Nat.le_refl _))).mono ?_; rintro e w1 ⟨rfl, hb⟩; replace hk := hk.call hb; clear hb; rw [hFW]) | (go_at_call 65; refine (layOut_any l.length hl.2.1 cl hcl HG.out _ _ (HC.out.below hk.mod.below (Nat.le_refl _))).mono ?_; rintro e w1 ⟨sb, rfl, hat, hge, hb⟩; replace hk := hk.make hb hat hge; clear hb hat hge) | (go_at_call 66; refine (pass_ck l hl _ _ _ _ (layR cl) e _ (HPA.out.at (hk.at (by with_reducible repeat (first | exact List.mem_cons_self | apply List.mem_cons_of_mem)))) (hk.at (by with_reducible repeat (first | exact List.mem_cons_self | apply List.mem_cons_of_mem))) (hk.at (by with_reducible repeat (first | exact List.mem_cons_self | apply List.mem_cons_of_mem))) HOK.out ⟨ok_of_st hE, h64.e⟩ (stepC_keeps hl h64.k HOK.out)).mono ?_; rintro r w1 ⟨rfl, hb⟩; replace hk := hk.call hb; clear hb; rw [hPS])) | ((with_reducible show wpList _ _ _ _ _ _); (first | (refine wS hk ?_; simp only [Act.put, pw]) | (refine wN hk ?_; clear hk; intro w1 hk; simp only [Act.put, pw]) | (refine wT hk ?_; clear hk; intro w1 hk; simp only [Act.put]))))
    go_ret2
    exact ⟨rfl, hk.mod.below⟩
  | true =>
    obtain ⟨FW, hFW⟩ : ∃ FW, fwR (markB l) l.length cl (-1) 0 = FW := ⟨_, rfl⟩
    have hle := fwR_le (markB l) l.length cl (-1) 0
    rw [hFW] at hle
    by_cases hlt : FW < cl.length
    · have R : checkR l e cl = (4, FW) := by unfold checkR; rw [hE, hFW, if_pos hlt]; rfl
      rw [R]
      clear R
      go_enter Tryz.func42, Tryz.ntmps42
      go_wp2_with (first | (first | (go_at_call 62; refine (isState_any _ _).mono ?_; rintro e w1 ⟨rfl, hb⟩; replace hk := hk.call hb; clear hb; rw [hE]) | (go_at_call 43; refine (progOf_c l _ _ (HV.out.below hk.mod.below (Nat.le_refl _)) hl.1 hl.2.1).mono ?_; rintro e w1 ⟨pb, pc, PA, rfl, hat, hpa, hge, hb⟩; replace hk := hk.make hb hat hge; have HPA := hide hpa; clear hb hat hge hpa) | (go_at_call 63; refine (marksOf_any l hl _ _ _ (HPA.out.at (hk.at (by with_reducible repeat (first | exact List.mem_cons_self | apply List.mem_cons_of_mem))))).mono ?_; rintro e w1 ⟨mb, rfl, hat, hge, hb⟩; replace hk := hk.make hb hat hge; clear hb hat hge) | (go_at_call 64; refine (firstWrong_any (markB l) l.length _ _ cl hcl _ _ (hk.at (by with_reducible repeat (first | exact List.mem_cons_self | apply List.mem_cons_of_mem))) (HC.out.below hk.mod.below (Nat.le_refl _))).mono ?_; rintro e w1 ⟨rfl, hb⟩; replace hk := hk.call hb; clear hb; rw [hFW]) | (go_at_call 65; refine (layOut_any l.length hl.2.1 cl hcl HG.out _ _ (HC.out.below hk.mod.below (Nat.le_refl _))).mono ?_; rintro e w1 ⟨sb, rfl, hat, hge, hb⟩; replace hk := hk.make hb hat hge; clear hb hat hge) | (go_at_call 66; refine (pass_ck l hl _ _ _ _ (layR cl) e _ (HPA.out.at (hk.at (by with_reducible repeat (first | exact List.mem_cons_self | apply List.mem_cons_of_mem)))) (hk.at (by with_reducible repeat (first | exact List.mem_cons_self | apply List.mem_cons_of_mem))) (hk.at (by with_reducible repeat (first | exact List.mem_cons_self | apply List.mem_cons_of_mem))) HOK.out ⟨ok_of_st hE, h64.e⟩ (stepC_keeps hl h64.k HOK.out)).mono ?_; rintro r w1 ⟨rfl, hb⟩; replace hk := hk.call hb; clear hb; rw [hPS])) | ((with_reducible show wpList _ _ _ _ _ _); (first | (refine wS hk ?_; simp only [Act.put, pw]) | (refine wN hk ?_; clear hk; intro w1 hk; simp only [Act.put, pw]) | (refine wT hk ?_; clear hk; intro w1 hk; simp only [Act.put]))))
      go_ret2
      exact ⟨rfl, hk.mod.below⟩
    · have R : checkR l e cl = passC l (layR cl) l.length 0 (some e) := by unfold checkR; rw [hE, hFW, if_neg hlt]; rfl
      rw [R]
      clear R
      have hgood := fwR_good cl (-1) 0 (by omega) (show fwR (markB l) l.length cl (-1) 0 = 0 + cl.length by rw [hFW]; omega)
      have HG : Hid (∀ i, i < cl.length → ∃ k : Nat, (clAt cl i).pl = k ∧ k < l.length) := hide (fun i hi => by obtain ⟨⟨k, h1, h2, _⟩, _⟩ := hgood _ (clAt_mem hi); exact ⟨k, h1, h2⟩)
      have HOK : Hid (∀ k, OkO (layR cl k)) := hide (layU_ok (fun i hi => ⟨ok_of_st (hgood _ (clAt_mem hi)).2, h64.c i hi⟩) cl.length (Nat.le_refl _))
      clear hgood
      obtain ⟨PE, PN, hPS⟩ : ∃ PE PN, passC l (layR cl) l.length 0 (some e) = (PE, PN) := ⟨_, _, rfl⟩
      rw [hPS]
      go_enter Tryz.func42, Tryz.ntmps42
      go_wp2_with (first | (first | (go_at_call 62; refine (isState_any _ _).mono ?_; rintro e w1 ⟨rfl, hb⟩; replace hk := hk.call hb; clear hb; rw [hE]) | (go_at_call 43; refine (progOf_c l _ _ (HV.out.below hk.mod.below (Nat.le_refl _)) hl.1 hl.2.1).mono ?_; rintro e w1 ⟨pb, pc, PA, rfl, hat, hpa, hge, hb⟩; replace hk := hk.make hb hat hge; have HPA := hide hpa; clear hb hat hge hpa) | (go_at_call 63; refine (marksOf_any l hl _ _ _ (HPA.out.at (hk.at (by with_reducible repeat (first | exact List.mem_cons_self | apply List.mem_cons_of_mem))))).mono ?_; rintro e w1 ⟨mb, rfl, hat, hge, hb⟩; replace hk := hk.make hb hat hge; clear hb hat hge) | (go_at_call 64; refine (firstWrong_any (markB l) l.length _ _ cl hcl _ _ (hk.at (by with_reducible repeat (first | exact List.mem_cons_self | apply List.mem_cons_of_mem))) (HC.out.below hk.mod.below (Nat.le_refl _))).mono ?_; rintro e w1 ⟨rfl, hb⟩; replace hk := hk.call hb; clear hb; rw [hFW]) | (go_at_call 65; refine (layOut_any l.length hl.2.1 cl hcl HG.out _ _ (HC.out.below hk.mod.below (Nat.le_refl _))).mono ?_; rintro e w1 ⟨sb, rfl, hat, hge, hb⟩; replace hk := hk.make hb hat hge; clear hb hat hge) | (go_at_call 66; refine (pass_ck l hl _ _ _ _ (layR cl) e _ (HPA.out.at (hk.at (by with_reducible repeat (first | exact List.mem_cons_self | apply List.mem_cons_of_mem)))) (hk.at (by with_reducible repeat (first | exact List.mem_cons_self | apply List.mem_cons_of_mem))) (hk.at (by with_reducible repeat (first | exact List.mem_cons_self | apply List.mem_cons_of_mem))) HOK.out ⟨ok_of_st hE, h64.e⟩ (stepC_keeps hl h64.k HOK.out)).mono ?_; rintro r w1 ⟨rfl, hb⟩; replace hk := hk.call hb; clear hb; rw [hPS])) | ((with_reducible show wpList _ _ _ _ _ _); (first | (refine wS hk ?_; simp only [Act.put, pw]) | (refine wN hk ?_; clear hk; intro w1 hk; simp only [Act.put, pw]) | (refine wT hk ?_; clear hk; intro w1 hk; simp only [Act.put]))))
      go_ret2
      exact ⟨rfl, hk.mod.below⟩
end Go.Proofs.YtamiichlbmllcaaGreatDoor
/-
  The contract of surety.Check, for every program, entry and list of claims.
-/
namespace Go.Proofs.YtamiichlbmllcaaGreatDoor
open Go.RowKit
theorem right_fit {l : List I5} (h : rightR l = (0, 0)) : AllFit l := by
  unfold rightR at h
  by_cases hl : l.length = 0 ∨ 64 < l.length
  · rw [if_pos hl] at h; simp at h
  · rw [if_neg hl] at h
    refine ⟨by omega, by omega, fun i hi => ?_⟩
    cases hb : badFrom l l.length with
    | some j => rw [hb] at h; simp at h
    | none =>
      unfold badFrom at hb
      rw [List.findIdx?_eq_none_iff] at hb
      have := hb l[i] (List.getElem_mem hi)
      simpa using this
/-- what Check answers -/
def scheckR (l : List I5) (e : St) (cl : List C2) : Int × Int := if rightR l = (0, 0) then ((checkR l e cl).1, ((checkR l e cl).2 : Int)) else rightR l
set_option maxHeartbeats 4000000 in
set_option maxRecDepth 100000 in
theorem SCheck_any (l : List I5) (e : St) (cl : List C2) (h64 : In64 l e cl) (hcl : cl.length < 4000000000000) (v cv : Value) (w : World) (hs : Shapes w) (h : Slc w v l) (hc : SlcC w cv cl) :
    Calls Tryz.prog 22 #[v, .agg (stC e), cv] w fun r w' => r = .returned (.tuple #[.int .i64 (scheckR l e cl).1, .int .i64 (scheckR l e cl).2]) ∧ Below w.heap.size w w' := by
  have hk := Kn.nil [] w
  have HS := hide hs
  have HV := hide h
  have HC := hide hc
  clear hs h hc
  rcases rightR_or l with hr | hr
  · have R : scheckR l e cl = ((checkR l e cl).1, ((checkR l e cl).2 : Int)) := by unfold scheckR; rw [if_pos hr]
    rw [R]
    clear R
    have HAF := hide (right_fit hr)
    obtain ⟨PE, PN, hPS⟩ : ∃ PE PN, checkR l e cl = (PE, PN) := ⟨_, _, rfl⟩
    rw [hPS]
    go_enter Tryz.func22, Tryz.ntmps22
    go_wp2_with (first | (first | (go_at_call 41; refine (codeRight_any l _ _ (HS.out.below hk.mod.below HS.out.1) (HV.out.below hk.mod.below (Nat.le_refl _))).mono ?_; rintro e w1 ⟨rfl, hb⟩; replace hk := hk.call hb; clear hb; rw [hr]) | (go_at_call 42; refine (check_any l HAF.out e cl h64 hcl _ _ _ (HV.out.below hk.mod.below (Nat.le_refl _)) (HC.out.below hk.mod.below (Nat.le_refl _))).mono ?_; rintro r w1 ⟨rfl, hb⟩; replace hk := hk.call hb; clear hb; rw [hPS])) | ((with_reducible show wpList _ _ _ _ _ _); (first | (refine wS hk ?_; simp only [Act.put, pw]) | (refine wN hk ?_; clear hk; intro w1 hk; simp only [Act.put, pw]) | (refine wT hk ?_; clear hk; intro w1 hk; simp only [Act.put]))))
    go_ret2
    exact ⟨rfl, hk.mod.below⟩
  · have R : scheckR l e cl = rightR l := by unfold scheckR; rw [if_neg (by intro h; rw [h] at hr; simp at hr)]
    rw [R]
    clear R
    obtain ⟨PE, PN, hPS⟩ : ∃ PE PN, rightR l = (PE, PN) := ⟨_, _, rfl⟩
    rw [hPS] at hr
    simp only at hr
    subst hr
    rw [hPS]
    go_enter Tryz.func22, Tryz.ntmps22
    go_wp2_with (first | (go_at_call 41; refine (codeRight_any l _ _ (HS.out.below hk.mod.below HS.out.1) (HV.out.below hk.mod.below (Nat.le_refl _))).mono ?_; rintro e w1 ⟨rfl, hb⟩; replace hk := hk.call hb; clear hb; rw [hPS]) | ((with_reducible show wpList _ _ _ _ _ _); (first | (refine wS hk ?_; simp only [Act.put, pw]) | (refine wN hk ?_; clear hk; intro w1 hk; simp only [Act.put, pw]) | (refine wT hk ?_; clear hk; intro w1 hk; simp only [Act.put]))))
    go_ret2
    exact ⟨rfl, hk.mod.below⟩
end Go.Proofs.YtamiichlbmllcaaGreatDoor
/-
  What the given readings of a program, a state and a list of claims tell.
-/
namespace Go.Proofs.YtamiichlbmllcaaGreatDoor
open Go.ChangeShapes Go.WideShapes Go.ChangeAt Go.RowKit Go.Deep
theorem cClaim : Tryz.prog.cellsOf 78 = 17 := by kernel_rfl
theorem byInsC : Tryz.prog.bytesOf 62 = 40 := by kernel_rfl
theorem byClaim : Tryz.prog.bytesOf 78 = 136 := by kernel_rfl
/-- all that is read lies within the reach -/
def FitsC (t : TypeId) {H : Type} (d : DataW H) : Prop := ∀ n ∈ DataW.weights Tryz.prog t d, n ≤ reachBytes
section
variable {H : Type} {enc : TypeId × Value → H} {W : World} {base : Nat} {spare : Nat → Bool} {held : Bool}
set_option maxRecDepth 10000 in
theorem read_cl {n : Nat} {cs : List Value} {x : DataW H × List MemPlace} (h : DataW.trod enc Tryz.prog W base spare held n 78 cs = some x) : ∃ c : C2, cs = (clC c.pl c.st).toList ∧ St.in64 c.st := by
  obtain ⟨xs, m, _, _, hl, hlen, hf⟩ := DataW.trod_struct Tryz.underlying78 h
  rw [cClaim] at hl
  replace hlen : xs.length = 2 := hlen
  have g0 : DataW.trod enc Tryz.prog W base spare held m 3 ((cs.drop 0).take (Tryz.prog.cellsOf 3)) = xs[0]? := hf 0 _ rfl
  have g1 : DataW.trod enc Tryz.prog W base spare held m 30 ((cs.drop 1).take (Tryz.prog.cellsOf 30)) = xs[1]? := hf 1 _ rfl
  rw [cInt, List.getElem?_eq_getElem (by omega)] at g0
  rw [cState, List.getElem?_eq_getElem (by omega)] at g1
  obtain ⟨a0, e0, _, _⟩ := DataW.trod_int Tryz.underlying3 g0
  obtain ⟨s, e1, h64⟩ := read_st g1
  refine ⟨⟨a0, s⟩, ?_, h64⟩
  cases cs with
  | nil => simp at hl
  | cons y r =>
    simp at e0 hl
    rw [List.drop_succ_cons, List.drop_zero, List.take_of_length_le (by omega)] at e1
    rw [e1, e0]
    rfl
/-- A PROGRAM THAT CAME IN, NIL AS NIL. -/
theorem open_insA {v : Value} {d : DataW H} {ps : List MemPlace} (hv : ∃ a len cap, v = .slice a len cap) (h : DataW.Trod enc Tryz.prog W base spare held 26 v d ps) (hfit : FitsC 26 d) :
    ∃ l : List I5, Arg W v l ∧ (∀ i (h : i < l.length), l[i].in64) ∧ l.length * 40 ≤ 140737488351232 := by
  obtain ⟨l, hS, _, h64⟩ := open_ins hv h
  obtain ⟨a0, len0, cap0, rfl⟩ := hv
  obtain ⟨fuel, hf⟩ := h
  rcases open_slice Tryz.underlying26 hf with ⟨hcs, _⟩ | ⟨a, len, cap, m, n, D, Pl, hcs, _, hl, hm, hmm, hd, _⟩
  · simp [Value.cells] at hcs
    obtain ⟨rfl, rfl, rfl⟩ := hcs
    have hlen : l.length = 0 := by
      obtain ⟨a', c', e⟩ := hS.len
      simp at e; exact e.2.1.symm
    exact ⟨l, ⟨hS, fun n c hh => by simp at hh; omega⟩, h64, by rw [hlen]; omega⟩
  · simp [Value.cells] at hcs
    obtain ⟨rfl, rfl, rfl⟩ := hcs
    have hlen : l.length = len0 := by
      obtain ⟨a', c', e⟩ := hS.len
      simp at e; exact e.2.1.symm
    refine ⟨l, ⟨hS, fun n c hh => by simp at hh⟩, h64, ?_⟩
    simp only [Prod.mk.injEq] at hd
    obtain ⟨rfl, _⟩ := hd
    have := hfit _ (by simp only [DataW.weights, Tryz.underlying26]; exact List.mem_cons_self)
    rw [byInsC] at this
    simp only [List.length_map, List.length_range, reachBytes] at this
    omega
/-- CLAIMS THAT CAME IN. -/
theorem open_cls {v : Value} {d : DataW H} {ps : List MemPlace} (hv : ∃ a len cap, v = .slice a len cap) (h : DataW.Trod enc Tryz.prog W base spare held 41 v d ps) (hfit : FitsC 41 d) :
    ∃ cl : List C2, ArgC W v cl ∧ (∀ i, i < cl.length → St.in64 (clAt cl i).st) ∧ cl.length * 136 ≤ 140737488351232 := by
  obtain ⟨a0, len0, cap0, rfl⟩ := hv
  obtain ⟨fuel, hf⟩ := h
  rcases open_slice Tryz.underlying41 hf with ⟨hcs, _⟩ | ⟨a, len, cap, m, n, D, Pl, hcs, _, hl, hm, hmm, hd, hx⟩
  · simp [Value.cells] at hcs
    obtain ⟨rfl, rfl, rfl⟩ := hcs
    exact ⟨[], ⟨Or.inl ⟨⟨_, _, rfl⟩, rfl⟩, fun n c hh => by simp at hh; omega⟩, fun i h => by simp at h, by simp⟩
  · simp [Value.cells] at hcs
    obtain ⟨rfl, rfl, rfl⟩ := hcs
    have hlm : len0 ≤ m := by rw [hmm]; split <;> omega
    have hsz : len0 * 136 ≤ 140737488351232 := by
      simp only [Prod.mk.injEq] at hd
      obtain ⟨rfl, _⟩ := hd
      have := hfit _ (by simp only [DataW.weights, Tryz.underlying41]; exact List.mem_cons_self)
      rw [byClaim] at this
      simp only [List.length_map, List.length_range, reachBytes] at this
      omega
    have each : ∀ i, i < len0 → ∃ x : C2, St.in64 x.st ∧ ∀ f, f < 17 → W.cell? (a.add (i * 17 + f)) = (clC x.pl x.st).toList[f]? := by
      intro i hi
      obtain ⟨cs', h1, h2⟩ := hx i (by omega)
      obtain ⟨x, rfl, hx64⟩ := read_cl h2
      rw [cClaim] at h1
      obtain ⟨_, _, hcell⟩ := World.cells?_some h1
      exact ⟨x, hx64, fun f hf => by rw [← add_add]; exact hcell f hf⟩
    have : Inhabited C2 := ⟨zeroC⟩
    obtain ⟨q, hq⟩ := choose_lt each
    have hat : ∀ i, i < len0 → clAt ((List.range len0).map q) i = q i := fun i hi => by rw [clAt_get (by simpa using hi)]; simp
    refine ⟨(List.range len0).map q, ⟨?_, fun n c hh => by simp at hh⟩, fun i hi => by simp at hi; rw [hat i hi]; exact (hq i hi).1, by simpa using hsz⟩
    by_cases h0 : len0 = 0
    · subst h0
      exact Or.inl ⟨⟨_, _, rfl⟩, rfl⟩
    · obtain ⟨b, off, spot⟩ := a
      have hc := (hq 0 (by omega)).2 0 (by omega)
      have hspot : spot = none := by
        have e : (clC (q 0).pl (q 0).st).toList[0]? = some (.int .i64 (q 0).pl) := rfl
        rw [e] at hc
        simpa [Addr.add] using World.cell?_spot hc
      subst hspot
      have hadd : ∀ k, (⟨b, off, none⟩ : Addr).add k = ⟨b, off + k, none⟩ := fun k => add_plain _ _ _
      have hcl : ∀ i (hi : i < len0) f, f < 17 → W.cell? ⟨b, off + i * 17 + f, none⟩ = (clC (q i).pl (q i).st).toList[f]? := by
        intro i hi f hf
        have := (hq i hi).2 f hf
        rw [hadd, ← Nat.add_assoc] at this
        exact this
      refine Or.inr ⟨b, off, cap0, by simp, ?_, fun i hi => ?_⟩
      · have := hcl 0 (by omega) 0 (by omega)
        exact World.block_lt_of_cell? W ⟨b, _, none⟩ this
      · simp at hi
        rw [hat i hi]
        intro j u hj
        rw [hcl i hi j (by have := (List.getElem?_eq_some_iff.1 hj).1; exact this)]
        exact hj
end
end Go.Proofs.YtamiichlbmllcaaGreatDoor
