import Derived.Test.YtamiichlbmllcabGreatDoorQPrBa
import Derived.Test.YtamiichlbmllcabGreatDoorQPrBb
import Derived.Test.YtamiichlbmllcabGreatDoorQPrBc
import Derived.Test.YtamiichlbmllcabGreatDoorQMthC
import Derived.Test.YtamiichlbmllcabGreatDoorQPrB
import Derived.Test.YtamiichlbmllcabGreatDoorQChF
import Derived.Great.BuildSlice
set_option maxRecDepth 100000
set_option maxHeartbeats 32000000
namespace Go.Proofs.YtamiichlbmllcabGreatDoor
open Go.RowKit
theorem takes_pv (n m : Nat) (hm : m < n) (V pb pc mb sb kb cb hb : Nat) (back : Nat -> Bool) (v : PS) (come : Option St) (hsh : sb ≠ hb) (hVM : V ∉ [sb, hb]) (hkM : kb ∉ [sb, hb]) (hcM : cb ∉ [sb, hb]) (w : World) (hV : At w V (prC pb pc mb sb kb cb hb n) 209) (hS : At w sb (plsA n v.W) 190) (hK : At w kb (bosA n back) 4) (hC : At w cb (intA n v.cnt) 3) (hH : At w hb (bosA n v.chg) 4) (hok : OkO come) (hcb : back m = true -> v.cnt m <= 20) :
 Calls Tryz.prog 182 #[.pointer (some ⟨V, 0, none⟩), .int .i64 m, .agg (plC come.isSome (stO come))] w fun e w' => e = .returned (.bool true) /\ TakeP n sb hb (takesP back v m come) w w' := by
 unfold takesP widerP
 cases hb1 : back m with
 | false =>
   rw [Bool.false_and]
   cases hl : liesO come (v.W m) with
   | true => exact takes_pv2 n m hm V pb pc mb sb kb cb hb back v come hsh hVM hkM w hV hS hK hH hb1 (by rw [place_join hok, hl])
   | false => exact takes_pv1 n m hm V pb pc mb sb kb cb hb back v come hsh hVM hkM w hV hS hK hH hb1 (by rw [place_join hok, hl])
 | true =>
   rw [Bool.true_and]
   have hw : wrap64 (v.cnt m : Int) = (v.cnt m : Int) := wrap_id (by have := hcb hb1; unfold I64; omega)
   by_cases hc : 3 <= v.cnt m
   · have hcn : decide ((3 : Int) <= wrap64 (v.cnt m : Int)) = true := by rw [decide_eq_true_eq, hw]; omega
     rw [decide_eq_true hc]
     cases hl : liesO come (v.W m) with
     | true => exact takes_pv6 n m hm V pb pc mb sb kb cb hb back v come hsh hVM hkM hcM w hV hS hK hC hH hb1 hcn (by rw [place_str hok, hl])
     | false => exact takes_pv5 n m hm V pb pc mb sb kb cb hb back v come hsh hVM hkM hcM w hV hS hK hC hH hb1 hcn (by rw [place_str hok, hl])
   · have hcn : decide ((3 : Int) <= wrap64 (v.cnt m : Int)) = false := by rw [decide_eq_false_iff_not, hw]; omega
     rw [decide_eq_false hc]
     cases hl : liesO come (v.W m) with
     | true => exact takes_pv4 n m hm V pb pc mb sb kb cb hb back v come hsh hVM hkM hcM w hV hS hK hC hH hb1 hcn (by rw [place_join hok, hl])
     | false => exact takes_pv3 n m hm V pb pc mb sb kb cb hb back v come hsh hVM hkM hcM w hV hS hK hC hH hb1 hcn (by rw [place_join hok, hl])
theorem danger_pv (V : Nat) (m : Int) (s : St) (w : World) : Calls Tryz.prog 181 #[.pointer (some ⟨V, 0, none⟩), .int .i64 m, .agg (stC s)] w fun e w' => e = .returned (.int .i64 0) /\ Below w.heap.size w w' := by
 have hk := Kn.nil [] w
 go_enter Tryz.func181, Tryz.ntmps181
 go_wp2_with ((with_reducible apply gL); (first | refine wS hk ?_ | (refine wN hk ?_; clear hk; intro w1 hk)); simp only [pw])
 go_ret
 exact ⟨rfl, hk.mod.below⟩
theorem mTakesP (a : Option Addr) (w : World) : (method 355 204 (.pointer a) "surety/proof.takes").run Tryz.prog w = .ok (182, .pointer a) w := by kernel_rfl
theorem mDangerP (a : Option Addr) (w : World) : (method 355 204 (.pointer a) "surety/proof.danger").run Tryz.prog w = .ok (181, .pointer a) w := by kernel_rfl
theorem cTakesP (args : Array Value) (w : World) : (callFunc 182 args).run Tryz.prog w = .ok (.enter 182 args) w := by kernel_rfl
theorem cDangerP (args : Array Value) (w : World) : (callFunc 181 args).run Tryz.prog w = .ok (.enter 181 args) w := by kernel_rfl
theorem Kn.callM {w0 w w' : World} {sb hb : Nat} {A A' B B' : Array Value} {s t : TypeId} {Lo : RowL} (h : Kn [sb, hb] w0 w (Lo ++ [(sb, A, s), (hb, B, t)])) (hm : Mod [sb, hb] w w') (h1 : At w' sb A' s) (h2 : At w' hb B' t) : Kn [sb, hb] w0 w' (Lo ++ [(sb, A', s), (hb, B', t)]) := by
 refine ⟨h.mod.trans hm, fun x hx => ?_, ?_⟩
 · rcases List.mem_append.1 hx with hx | hx
   · have hx' : x ∈ Lo ++ [(sb, A, s), (hb, B, t)] := List.mem_append_left _ hx
     have hd := List.pairwise_append.1 h.dis
     have n1 := hd.2.2 x hx (sb, A, s) (by simp)
     have n2 := hd.2.2 x hx (hb, B, t) (by simp)
     have hat := (h.has x hx').1
     refine ⟨?_, (h.has x hx').2⟩
     unfold At at hat ⊢
     rw [hm.block x.1 (lt_of_block hat) (by simp only [List.mem_cons, List.not_mem_nil, or_false]; rintro (e | e); exact n1 e; exact n2 e), hat]
   · simp only [List.mem_cons, List.not_mem_nil, or_false] at hx
     rcases hx with rfl | rfl
     · exact ⟨h1, Or.inr (by simp)⟩
     · exact ⟨h2, Or.inr (by simp)⟩
 · exact pw_keys (by simp) h.dis
structure ProvB (l : List I5) (V pb pc mb sb kb cb hb : Nat) (cnt : Nat -> Nat) (w : World) : Prop where
 prog : ProgC w pb iVal l
 marks : At w mb (bosA l.length (markB l)) 4
 self : At w V (prC pb pc mb sb kb cb hb l.length) 209
 backs : At w kb (bosA l.length (backB l)) 4
 cnts : At w cb (intA l.length cnt) 3
 nsh : sb ≠ hb
 nP : pb ∉ [sb, hb]
 nM : mb ∉ [sb, hb]
 nV : V ∉ [sb, hb]
 nK : kb ∉ [sb, hb]
 nC : cb ∉ [sb, hb]
theorem At.mod {w w' : World} {b : Nat} {A : Array Value} {t : TypeId} {M : List Nat} (h : At w b A t) (hm : Mod M w w') (hb : b ∉ M) : At w' b A t := by
 unfold At at *; rw [hm.block b (lt_of_block h) hb, h]
theorem ProvB.mod {l : List I5} {V pb pc mb sb kb cb hb : Nat} {cnt : Nat -> Nat} {w w' : World} (h : ProvB l V pb pc mb sb kb cb hb cnt w) (hm : Mod [sb, hb] w w') : ProvB l V pb pc mb sb kb cb hb cnt w' :=
 ⟨h.prog.mod hm h.nP, h.marks.mod hm h.nM, h.self.mod hm h.nV, h.backs.mod hm h.nK, h.cnts.mod hm h.nC, h.nsh, h.nP, h.nM, h.nV, h.nK, h.nC⟩
theorem takesP_cnt (back : Nat -> Bool) (v : PS) (m : Nat) (come : Option St) : (takesP back v m come).cnt = v.cnt := by unfold takesP; split <;> rfl
theorem takesP_ok {back : Nat -> Bool} {v : PS} {m : Nat} {come : Option St} (hv : ∀ k, OkO (v.W k)) (hc : OkO come) : ∀ k, OkO ((takesP back v m come).W k) := by
 intro k
 unfold takesP
 split
 · exact hv k
 · show OkO (if k = m then widerP back v m come else v.W k)
   split
   · exact wider_ok (hv m) hc
   · exact hv k
theorem stepP_ok {l : List I5} (hl : AllFit l) (h64 : ∀ i, i < l.length -> I64 (insAt l i).k) {v : PS} {m : Nat} (hm : m < l.length) {come : Option St} (hc : OkO come) (hW : ∀ k, OkO (v.W k)) : OkO (stepP l m come v).2 /\ (∀ k, OkO ((stepP l m come v).1.W k)) /\ (stepP l m come v).1.cnt = v.cnt := by
 unfold stepP
 have h1 : ∀ k, OkO ((if markB l m = true then takesP (backB l) v m come else v).W k) := by
  split
  · exact takesP_ok hW hc
  · exact hW
 have h2 : OkO (if markB l m = true then (takesP (backB l) v m come).W m else come) := by
  split
  · exact takesP_ok hW hc m
  · exact hc
 have h3 : (if markB l m = true then takesP (backB l) v m come else v).cnt = v.cnt := by
  split
  · exact takesP_cnt _ _ _ _
  · rfl
 revert h2
 generalize (if markB l m = true then (takesP (backB l) v m come).W m else come) = here
 intro h2
 cases here with
 | none => exact ⟨fun t ht => (by cases ht), h1, h3⟩
 | some s =>
   have hs := h2 s rfl
   refine ⟨fun t ht => flowOn_keeps (hl.regs hm) (h64 m hm) hs.1 hs.2 ht, ?_, ?_⟩
   · simp only
     split
     · exact takesP_ok h1 fun t ht => flowFar_keeps (hl.regs hm) hs.1 hs.2 ht
     · exact h1
   · simp only
     split
     · rw [takesP_cnt]; exact h3
     · exact h3
def nbR (r : R2) : Nat := (if r.lo = -9223372036854775808 then 0 else 1) + (if r.hi = 9223372036854775807 then 0 else 1)
def nbS (s : St) : Nat := nbR (s 0) + nbR (s 1) + nbR (s 2) + nbR (s 3) + nbR (s 4) + nbR (s 5) + nbR (s 6) + nbR (s 7)
def nbO : Option St -> Nat
 | none => 17
 | some s => nbS s
theorem nbR_le (r : R2) : nbR r <= 2 := by unfold nbR; split <;> split <;> omega
theorem nbS_le (s : St) : nbS s <= 16 := by
 have h := fun j => nbR_le (s j)
 have := h 0; have := h 1; have := h 2; have := h 3; have := h 4; have := h 5; have := h 6; have := h 7
 unfold nbS; omega
theorem nb_join {r o : R2} (hr : r.in64) (ho : o.in64) : nbR (joinR r o) <= nbR r := by
 unfold R2.in64 I64 at hr ho
 unfold nbR joinR
 simp only
 split <;> split <;> split <;> split <;> omega
theorem nb_str {r o : R2} : nbR (stretchR r o) <= nbR r := by
 unfold nbR stretchR
 simp only
 repeat' split
 all_goals omega
theorem nb_str_lt {r o : R2} (hr : r.in64) (ho : o.in64) (h : ¬ o.sub r) : nbR (stretchR r o) < nbR r := by
 unfold R2.in64 I64 at hr ho
 unfold R2.sub at h
 unfold nbR stretchR
 simp only
 repeat' split
 all_goals omega
theorem nbS_lt {s t : St} (h : ∀ j, j < 8 -> nbR (s j) <= nbR (t j)) {i : Nat} (hi : i < 8) (hl : nbR (s i) < nbR (t i)) : nbS s < nbS t := by
 have := h 0 (by omega); have := h 1 (by omega); have := h 2 (by omega); have := h 3 (by omega)
 have := h 4 (by omega); have := h 5 (by omega); have := h 6 (by omega); have := h 7 (by omega)
 have e : i = 0 \/ i = 1 \/ i = 2 \/ i = 3 \/ i = 4 \/ i = 5 \/ i = 6 \/ i = 7 := by omega
 unfold nbS
 rcases e with rfl | rfl | rfl | rfl | rfl | rfl | rfl | rfl <;> omega
theorem nbO_le (x : Option St) : nbO x <= 17 := by
 cases x with
 | none => exact Nat.le_refl _
 | some s => exact Nat.le_succ_of_le (nbS_le s)
theorem nbO_str_lt {x y : Option St} (hx : OkO x) (hy : OkO y) (h : liesO y x = false) : nbO (joinO stretchR x y) < nbO x := by
 cases y with
 | none => cases h
 | some t => cases x with
   | none => exact Nat.lt_succ_of_le (nbS_le t)
   | some s =>
     have h' : ¬ liesR t s = true := by rw [show liesR t s = false from h]; simp
     rw [lies_iff] at h'
     have : ∃ i, i < 8 /\ ¬ (t i).sub (s i) := by
      apply Classical.byContradiction
      intro hn
      exact h' fun j hj => Classical.byContradiction fun hs => hn ⟨j, hj, hs⟩
     obtain ⟨i, hi, hns⟩ := this
     show nbS (fun j => stretchR (s j) (t j)) < nbS s
     exact nbS_lt (fun j _ => nb_str) hi (nb_str_lt ((hx s rfl).2 i hi) ((hy t rfl).2 i hi) hns)
def CB (back : Nat -> Bool) (v : PS) : Prop := ∀ m, back m = true -> (v.cnt m + (v.chg m).toNat <= 3 \/ v.cnt m + (v.chg m).toNat + nbO (v.W m) <= 20)
theorem CB.le {back : Nat -> Bool} {v : PS} (h : CB back v) {m : Nat} (hm : back m = true) : v.cnt m <= 20 := by
 rcases h m hm with h | h <;> omega
theorem takes_cb {back : Nat -> Bool} {v : PS} {m : Nat} {come : Option St} (h : CB back v) (hv : ∀ k, OkO (v.W k)) (hc : OkO come) : CB back (takesP back v m come) := by
 intro j hj
 unfold takesP
 by_cases hl : liesO come (v.W m) = true
 · rw [if_pos hl]; exact h j hj
 · rw [if_neg hl]
   have hl' : liesO come (v.W m) = false := by simpa using hl
   simp only
   by_cases e : j = m
   · subst e
     rw [if_pos rfl, if_pos rfl]
     have hb := h j hj
     have hle := nbO_le (v.W j)
     unfold widerP
     by_cases h3 : 3 <= v.cnt j
     · rw [hj, decide_eq_true h3]
       simp only [Bool.and_self, if_true, Bool.toNat_true]
       have hlt := nbO_str_lt (hv j) hc hl'
       cases hcg : v.chg j with
       | true => rw [hcg] at hb; simp only [Bool.toNat_true] at hb; omega
       | false => rw [hcg] at hb; simp only [Bool.toNat_false] at hb; omega
     · rw [decide_eq_false h3]
       simp only [Bool.and_false, Bool.false_eq_true, if_false, Bool.toNat_true]
       omega
   · rw [if_neg e, if_neg e]; exact h j hj
theorem stepP_cb {l : List I5} (hl : AllFit l) {v : PS} {m : Nat} (hm : m < l.length) {come : Option St} (hc : OkO come) (hW : ∀ k, OkO (v.W k)) (h : CB (backB l) v) : CB (backB l) (stepP l m come v).1 := by
 unfold stepP
 have h1 : ∀ k, OkO ((if markB l m = true then takesP (backB l) v m come else v).W k) := by
  split
  · exact takesP_ok hW hc
  · exact hW
 have h2 : OkO (if markB l m = true then (takesP (backB l) v m come).W m else come) := by
  split
  · exact takesP_ok hW hc m
  · exact hc
 have h3 : CB (backB l) (if markB l m = true then takesP (backB l) v m come else v) := by
  split
  · exact takes_cb h hW hc
  · exact h
 revert h2
 generalize (if markB l m = true then (takesP (backB l) v m come).W m else come) = here
 intro h2
 cases here with
 | none => exact h3
 | some s =>
   have hs := h2 s rfl
   simp only
   split
   · exact takes_cb h3 h1 fun t ht => flowFar_keeps (hl.regs hm) hs.1 hs.2 ht
   · exact h3
theorem passP_cb {l : List I5} (hl : AllFit l) (h64 : ∀ i, i < l.length -> I64 (insAt l i).k) : ∀ (k n : Nat) (come : Option St) (v : PS), n + k = l.length -> OkO come -> (∀ k, OkO (v.W k)) -> CB (backB l) v -> CB (backB l) (passP l k n come v) /\ (∀ j, OkO ((passP l k n come v).W j)) /\ (passP l k n come v).cnt = v.cnt
 | 0, _, _, _, _, _, hW, h => ⟨h, hW, rfl⟩
 | k + 1, n, come, v, hn, hc, hW, h => by
   have ho := stepP_ok hl h64 (show n < l.length by omega) hc hW
   have := passP_cb hl h64 k (n + 1) _ _ (by omega) ho.1 ho.2.1 (stepP_cb hl (show n < l.length by omega) hc hW h)
   exact ⟨this.1, this.2.1, this.2.2.trans ho.2.2⟩
theorem count_cb {back : Nat -> Bool} {v : PS} (h : CB back v) : CB back (countP v) := by
 intro m hm
 have := h m hm
 unfold countP
 simp only [Bool.toNat_false, Nat.add_zero]
 cases hc : v.chg m with
 | true => rw [hc] at this; simpa using this
 | false => rw [hc] at this; simpa using this
def stepH (l : List I5) (m : Nat) (v1 : PS) (here : Option St) : PS × Option St := match here with
 | none => (v1, none)
 | some s => (if 9 <= (insAt l m).o then takesP (backB l) v1 (insAt l m).k.toNat (flowFar (insAt l m) s) else v1, flowOn (insAt l m) s)
theorem step_pv (l : List I5) (hl : AllFit l) (V pb pc mb sb kb cb hb : Nat) (v : PS) (m : Nat) (hm : m < l.length) (come : Option St) (hcome : OkO come) (hW : ∀ k, OkO (v.W k)) (hcb : ∀ k, backB l k = true -> v.cnt k <= 20) (w : World) (hB : ProvB l V pb pc mb sb kb cb hb v.cnt w) (hS : At w sb (plsA l.length v.W) 190) (hH : At w hb (bosA l.length v.chg) 4) :
 Calls Tryz.prog 84 #[.agg (rtC pb pc mb sb l.length), .int .i64 m, .agg (plC come.isSome (stO come)), .iface 204 (.pointer (some ⟨V, 0, none⟩))] w fun e w' => e = .returned (.tuple #[.agg (plC (stepP l m come v).2.isSome (stO (stepP l m come v).2)), .int .i64 0]) /\ TakeP l.length sb hb (stepP l m come v).1 w w' := by
 have hk := Kn.two hS hH hB.nsh
 have q1 := mTakesP
 have q2 := mDangerP
 have q3 := cTakesP
 have q4 := cDangerP
 have HL := hide hl
 have HB := hide hB
 have HC := hide hcome
 have HCB := hide hcb
 have hM := hB.marks
 have hMM := hB.nM
 obtain ⟨v1, hv1⟩ : ∃ v1, (if markB l m then takesP (backB l) v m come else v) = v1 := ⟨_, rfl⟩
 obtain ⟨here, hh⟩ : ∃ here, (if markB l m then v1.W m else come) = here := ⟨_, rfl⟩
 have HCN : Hid (v1.cnt = v.cnt) := hide (by rw [<- hv1]; split; exact takesP_cnt _ _ _ _; rfl)
 have HOK : Hid (OkO here) := hide (by
  rw [<- hh, <- hv1]
  split
  · exact takesP_ok hW hcome m
  · exact hcome)
 have HSP : Hid (stepP l m come v = stepH l m v1 here) := hide (by
  rw [<- hh, <- hv1]
  unfold stepP stepH
  cases markB l m <;> rfl)
 have HV1 := hide hv1
 have HH := hide hh
 clear hv1 hh hl hcome hW hB hS hH hcb
 go_enter Tryz.func84, Tryz.ntmps84
 go_upto_if 21 with (first | ((with_reducible show wpList _ _ _ (⟨some 4, _, _, _, _, _⟩ :: _) _ _); refine wBox hk ?_; clear hk; intro wa hk; simp only [pw]) | ((with_reducible show wpList _ _ _ (⟨some 6, _, _, _, _, _⟩ :: _) _ _); refine wBox hk ?_; clear hk; intro wb hk; simp only [pw]) | ((with_reducible show wpList _ _ _ (⟨some 8, _, _, _, _, _⟩ :: _) _ _); refine wAllocR hk ?_; clear hk; intro wd hk; simp only [pw]) | ((with_reducible apply gL); (first | refine wS hk ?_ | (refine wN hk ?_; clear hk; intro w1 hk)); simp only [pw]))
 go_cut [8] (fun u8 wc => u8 = .pointer (some ⟨wb.heap.size, 0, none⟩) /\ Kn [sb, hb] w wc [(wd.heap.size, plC here.isSome (stO here), 190), (wb.heap.size, plC false zeroS, 190), (wa.heap.size, plC come.isSome (stO come), 190), (w.heap.size, rtC pb pc mb sb l.length, 123), (sb, plsA l.length v1.W, 190), (hb, bosA l.length v1.chg, 4)])
 case first =>
  cases hmk : markB l m with
  | false =>
    have e1 : v1 = v := by rw [<- HV1.out, hmk]; rfl
    have e2 : here = come := by rw [<- HH.out, hmk]; rfl
    subst e1 e2
    go_wp2_with ((with_reducible apply gL); (first | refine wS hk ?_ | (refine wN hk ?_; clear hk; intro w1 hk)); simp only [pw])
    go_meet
    case rel => exact ⟨rfl, hk⟩
  | true =>
    have e1 : takesP (backB l) v m come = v1 := by rw [<- HV1.out, hmk]; rfl
    have e2 : v1.W m = here := by rw [<- HH.out, hmk]; rfl
    subst e2
    have HE1 := hide e1
    clear e1
    go_wp2_with (first | (go_at_call 182; refine (takes_pv l.length m hm V pb pc mb sb kb cb hb (backB l) v come HB.out.nsh HB.out.nV HB.out.nK HB.out.nC _ (HB.out.mod hk.mod).self (hk.at mm) (HB.out.mod hk.mod).backs (HB.out.mod hk.mod).cnts (hk.at mm) HC.out (HCB.out m)).mono ?_; rintro e w1 ⟨rfl, hT1, hT2, hT3⟩; replace hk := Kn.callM (Lo := [_, _, _, _]) hk hT1 hT2 hT3; simp only [List.cons_append, List.nil_append] at hk; clear hT1 hT2 hT3); rw [HE1.out] at hk | ((with_reducible apply gL); (first | refine wS hk ?_ | (refine wN hk ?_; clear hk; intro w1 hk)); simp only [pw]))
    go_meet
    case rel => exact ⟨rfl, hk⟩
 case rest =>
  clear hk HV1 HH
  obtain ⟨rfl, hk⟩ := hcut
  cases here with
  | none =>
    have HST : Hid (stepP l m come v = (v1, none)) := hide HSP.out
    clear HSP
    go_wp2_with ((with_reducible apply gL); (first | refine wS hk ?_ | (refine wN hk ?_; clear hk; intro w1 hk)); simp only [pw])
    exact post_c1 rfl (by rfl) (hk.at mm) (rowT_of (by rfl)) (by rfl) (by rfl) rfl ⟨by rw [HST.out]; rfl, by rw [HST.out]; exact ⟨hk.mod, hk.at mm, hk.at mm⟩⟩
  | some s =>
    have HSO := hide (HOK.out s rfl)
    have HFO : Hid (OkO (flowFar (insAt l m) s)) := hide fun t ht => flowFar_keeps (HL.out.regs hm) HSO.out.1 HSO.out.2 ht
    cases hj : jumpsB (insAt l m) with
    | false =>
      have HST : Hid (stepP l m come v = (v1, flowOn (insAt l m) s)) := hide (by rw [HSP.out]; unfold stepH; simp only; unfold jumpsB at hj; rw [if_neg (by simpa using hj)])
      clear HSP
      go_wp2_with (first | (first | (go_at_call 181; refine (danger_pv _ _ _ _).mono ?_; rintro e w1 ⟨rfl, hb⟩; replace hk := hk.call hb; clear hb) | (go_at_call 97; refine (flow_c (insAt l m) l.length (HL.out.fit hm) _ _ _ _ hm s HSO.out.1 HSO.out.2 _ ((HB.out.mod hk.mod).prog m hm)).mono ?_; rintro e w1 ⟨rfl, hb⟩; replace hk := hk.call hb; clear hb) | (go_at_call 82; refine (target_any (insAt l m) _ (HL.out.fit hm) _ _ _ _ hm _ ((HB.out.mod hk.mod).prog m hm)).mono ?_; rintro e w1 ⟨rfl, hb⟩; replace hk := hk.call hb; clear hb; rw [hj])) | ((with_reducible apply gL); (first | refine wS hk ?_ | (refine wN hk ?_; clear hk; intro w1 hk)); simp only [pw]))
      exact post_c1 rfl (by rfl) (hk.at mm) (rowT_of (by rfl)) (by rfl) (by rfl) rfl ⟨by rw [HST.out]; rfl, by rw [HST.out]; exact ⟨hk.mod, hk.at mm, hk.at mm⟩⟩
    | true =>
      obtain ⟨k, hk1, hk2⟩ := HL.out.targ hm hj
      have hkk : (insAt l m).k.toNat = k := by
       unfold jumpsB at hj
       unfold targI at hk1
       rw [if_pos (by simpa using hj)] at hk1
       omega
      have HST : Hid (stepP l m come v = (takesP (backB l) v1 k (flowFar (insAt l m) s), flowOn (insAt l m) s)) := hide (by rw [HSP.out]; unfold stepH; simp only; unfold jumpsB at hj; rw [if_pos (by simpa using hj), hkk])
      clear HSP
      go_wp2_with (first | (first | (go_at_call 181; refine (danger_pv _ _ _ _).mono ?_; rintro e w1 ⟨rfl, hb⟩; replace hk := hk.call hb; clear hb) | (go_at_call 97; refine (flow_c (insAt l m) l.length (HL.out.fit hm) _ _ _ _ hm s HSO.out.1 HSO.out.2 _ ((HB.out.mod hk.mod).prog m hm)).mono ?_; rintro e w1 ⟨rfl, hb⟩; replace hk := hk.call hb; clear hb) | (go_at_call 82; refine (target_any (insAt l m) _ (HL.out.fit hm) _ _ _ _ hm _ ((HB.out.mod hk.mod).prog m hm)).mono ?_; rintro e w1 ⟨rfl, hb⟩; replace hk := hk.call hb; clear hb; rw [hj, hk1]) | (go_at_call 182; refine (takes_pv l.length k hk2 V pb pc mb sb kb cb hb (backB l) v1 (flowFar (insAt l m) s) HB.out.nsh HB.out.nV HB.out.nK HB.out.nC _ (HB.out.mod hk.mod).self (hk.at mm) (HB.out.mod hk.mod).backs (by rw [HCN.out]; exact (HB.out.mod hk.mod).cnts) (hk.at mm) HFO.out (by rw [HCN.out]; exact HCB.out k)).mono ?_; rintro e w1 ⟨rfl, hT1, hT2, hT3⟩; replace hk := Kn.callM (Lo := [_, _, _, _, _, _]) hk hT1 hT2 hT3; simp only [List.cons_append, List.nil_append] at hk; clear hT1 hT2 hT3)) | ((with_reducible apply gL); (first | refine wS hk ?_ | (refine wN hk ?_; clear hk; intro w1 hk)); simp only [pw]))
      exact post_c1 rfl (by rfl) (hk.at mm) (rowT_of (by rfl)) (by rfl) (by rfl) rfl ⟨by rw [HST.out]; rfl, by rw [HST.out]; exact ⟨hk.mod, hk.at mm, hk.at mm⟩⟩
theorem pass_pv (l : List I5) (hl : AllFit l) (h64 : ∀ i, i < l.length -> I64 (insAt l i).k) (V pb pc mb sb kb cb hb : Nat) (v : PS) (e : St) (he : e.ok /\ e.in64) (hW : ∀ k, OkO (v.W k)) (hcb : ∀ k, backB l k = true -> v.cnt k <= 20) (w : World) (hB : ProvB l V pb pc mb sb kb cb hb v.cnt w) (hS : At w sb (plsA l.length v.W) 190) (hH : At w hb (bosA l.length v.chg) 4) :
 Calls Tryz.prog 62 #[.agg (rtC pb pc mb sb l.length), .agg (stC e), .iface 204 (.pointer (some ⟨V, 0, none⟩))] w fun x w' => (∃ a b : Int, x = .returned (.tuple #[.int .i64 a, .int .i64 b])) /\ TakeP l.length sb hb (passP l l.length 0 (some e) v) w w' := by
 have hk := Kn.two hS hH hB.nsh
 have HL := hide hl
 have HB := hide hB
 have H64 := hide h64
 have hL : l.length <= 64 := hl.2.1
 have HE0 : Hid (OkO (some e)) := hide fun t ht => by cases ht; exact he
 have HW0 := hide hW
 have HCB := hide hcb
 clear hB hS hH h64 hW hcb
 go_enter Tryz.func62, Tryz.ntmps62
 go_wp2_with (first | ((with_reducible show wpList _ _ _ (⟨some 3, _, _, _, _, _⟩ :: _) _ _); refine wBox hk ?_; clear hk; intro wa hk; simp only [pw]) | (go_at_call 83; refine (with_any _ _).mono ?_; rintro e wx ⟨rfl, hb⟩; replace hk := hk.call hb; clear hb) | ((with_reducible apply gL); (first | refine wS hk ?_ | (refine wN hk ?_; clear hk; intro w1 hk)); simp only [pw]))
 go_loopw [17] (fun j wr => ∃ (i : Nat) (come : Option St) (v' : PS), i <= l.length /\ j = .int .i64 i /\ OkO come /\ (∀ k, OkO (v'.W k)) /\ v'.cnt = v.cnt /\ passP l l.length 0 (some e) v = passP l (l.length - i) i come v' /\ Kn [sb, hb] w wr [(wx.heap.size, plC come.isSome (stO come), 190), (wa.heap.size, stC e, 29), (w.heap.size, rtC pb pc mb sb l.length, 123), (sb, plsA l.length v'.W, 190), (hb, bosA l.length v'.chg, 4)]) (fun j _ => l.length - (intOf j).toNat)
 case atStart => exact ⟨0, some e, v, by omega, rfl, HE0.out, HW0.out, rfl, rfl, hk⟩
 case round =>
  clear hk
  obtain ⟨i, come, v', hi, rfl, hc, hW, hcn, hps, hk⟩ := hrel
  have HC := hide hc
  have HW := hide hW
  have HCN := hide hcn
  have HPS := hide hps
  clear hc hW hcn hps
  by_cases hlt : i < l.length
  · have HST := hide (stepP_ok HL.out H64.out hlt HC.out HW.out)
    have HP1 : Hid (passP l (l.length - i) i come v' = passP l (l.length - (i + 1)) (i + 1) (stepP l i come v').2 (stepP l i come v').1) := hide (by rw [show l.length - i = (l.length - (i + 1)) + 1 by omega, passP])
    go_wp2_with (first | (go_at_call 84; refine (step_pv l HL.out V pb pc mb sb kb cb hb v' i hlt come HC.out HW.out (by rw [HCN.out]; exact HCB.out) _ (by rw [HCN.out]; exact HB.out.mod hk.mod) (hk.at mm) (hk.at mm)).mono ?_; rintro e w1 ⟨rfl, hT1, hT2, hT3⟩; replace hk := Kn.callM (Lo := [_, _, _]) hk hT1 hT2 hT3; simp only [List.cons_append, List.nil_append] at hk; clear hT1 hT2 hT3) | ((with_reducible apply gL); (first | refine wS hk ?_ | (refine wN hk ?_; clear hk; intro w1 hk)); simp only [pw]))
    go_roundw
    case rel => exact ⟨i + 1, (stepP l i come v').2, (stepP l i come v').1, by omega, by go_num, HST.out.1, HST.out.2.1, HST.out.2.2.trans HCN.out, HPS.out.trans HP1.out, hk.drop⟩
    case measure => simp [intOf]; omega
  · have e1 : i = l.length := by omega
    subst e1
    have HP2 : Hid (passP l l.length 0 (some e) v = v') := hide (by rw [HPS.out, Nat.sub_self, passP])
    cases come with
    | none =>
      go_wp2_with ((with_reducible apply gL); (first | refine wS hk ?_ | (refine wN hk ?_; clear hk; intro w1 hk)); simp only [pw])
      go_ret2
      exact ⟨⟨_, _, rfl⟩, by rw [HP2.out]; exact ⟨hk.mod, hk.at mm, hk.at mm⟩⟩
    | some s =>
      go_wp2_with ((with_reducible apply gL); (first | refine wS hk ?_ | (refine wN hk ?_; clear hk; intro w1 hk)); simp only [pw])
      (refine wp_regK hk (.op 0 (.op 1 (.op 3 (.op 2 (.op 4 .nil))))) (fun i => decide (i < 5)) mixT (by decide) (by kernel_rfl) (by kernel_rfl) ?_; clear hk; intro w1 hk)
      (repeat (refine sV hk ?_; simp only [pw]))
      (refine sCall ?_; intro K hK; go_step; refine hK _ _ (fun _ => hk) ?_; clear hK K)
      (repeat (refine sV hk ?_; simp only [pw]))
      refine tNil ?_
      go_wp2_with ((with_reducible apply gL); (first | refine wS hk ?_ | (refine wN hk ?_; clear hk; intro w1 hk)); simp only [pw])
      go_ret2
      exact ⟨⟨_, _, rfl⟩, by rw [HP2.out]; exact ⟨hk.mod, hk.at mm, hk.at mm⟩⟩
theorem index_any (n : Nat) (hn : n <= 64) (f : Nat -> Bool) (hb : Nat) (w : World) (hH : At w hb (bosA n f) 4) : Calls Tryz.prog 109 #[.slice (some ⟨hb, 0, none⟩) n n, .bool true] w fun e w' => (∃ z : Int, e = .returned (.int .i64 z) /\ decide (0 <= z) = (List.range n).any f) /\ Below w.heap.size w w' := by
 have hk := Kn.nil [] w
 go_enter Tryz.func109, Tryz.ntmps109
 go_wp2_with ((with_reducible apply gL); (first | refine wS hk ?_ | (refine wN hk ?_; clear hk; intro w1 hk)); simp only [pw])
 go_loopw [8] (fun j wr => ∃ i : Nat, i <= n /\ j = .int .i64 i /\ (∀ k, k < i -> f k = false) /\ Kn [] w wr []) (fun j _ => n - (intOf j).toNat)
 case atStart => exact ⟨0, by omega, rfl, fun k hk => by omega, hk⟩
 case round =>
  clear hk
  obtain ⟨i, hi, rfl, hall, hk⟩ := hrel
  have HA := hide hall
  clear hall
  by_cases hlt : i < n
  · cases hf : f i with
    | true =>
      have R : Hid ((List.range n).any f = true) := hide (List.any_eq_true.2 ⟨i, List.mem_range.2 hlt, hf⟩)
      go_wp2_with ((with_reducible apply gL); (first | (refine wS hk ?_; simp only [pw]; (try rw [hf])) | (refine wN hk ?_; clear hk; intro w1 hk; simp only [pw])))
      go_ret
      exact ⟨⟨_, rfl, by rw [R.out, decide_eq_true_eq]; omega⟩, hk.mod.below⟩
    | false =>
      go_wp2_with ((with_reducible apply gL); (first | (refine wS hk ?_; simp only [pw]; (try rw [hf])) | (refine wN hk ?_; clear hk; intro w1 hk; simp only [pw])))
      go_roundw
      case rel => exact ⟨i + 1, by omega, by go_num, fun k hk => by rcases Nat.lt_succ_iff_lt_or_eq.1 hk with h | h; exact HA.out k h; subst h; exact hf, hk⟩
      case measure => simp [intOf]; omega
  · have R : Hid ((List.range n).any f = false) := hide (by rw [List.any_eq_false]; intro k hk; rw [HA.out k (by have := List.mem_range.1 hk; omega)]; simp)
    go_wp2_with ((with_reducible apply gL); (first | refine wS hk ?_ | (refine wN hk ?_; clear hk; intro w1 hk)); simp only [pw])
    go_ret
    exact ⟨⟨_, rfl, by rw [R.out]; rfl⟩, hk.mod.below⟩
theorem contains_any (n : Nat) (hn : n <= 64) (f : Nat -> Bool) (hb : Nat) (w : World) (hH : At w hb (bosA n f) 4) : Calls Tryz.prog 106 #[.slice (some ⟨hb, 0, none⟩) n n, .bool true] w fun e w' => e = .returned (.bool ((List.range n).any f)) /\ Below w.heap.size w w' := by
 have hk := Kn.nil [] w
 obtain ⟨B, hB⟩ : ∃ B, (List.range n).any f = B := ⟨_, rfl⟩
 rw [hB]
 have HB := hide hB
 have HH := hide hH
 clear hB hH
 go_enter Tryz.func106, Tryz.ntmps106
 go_wp2_with (first | (go_at_call 109; refine (index_any n hn f hb _ (HH.out.of (hk.mod.block _ HH.out.lt List.not_mem_nil))).mono ?_; rintro e w1 ⟨⟨z, rfl, hz⟩, hb1⟩; replace hk := hk.call hb1; clear hb1; rw [HB.out] at hz) | ((with_reducible apply gL); (first | refine wS hk ?_ | (refine wN hk ?_; clear hk; intro w1 hk)); simp only [pw]))
 go_ret
 exact ⟨by rw [<- hz]; rfl, hk.mod.below⟩
def updN (f : Nat -> Nat) (i x : Nat) : Nat -> Nat := fun j => if j = i then x else f j
theorem set_int (n : Nat) (f : Nat -> Nat) (i x : Nat) : (intA n f).setIfInBounds (i * 1) (.int .i64 (wrap64 (x : Int))) = intA n (updN f i x) := by
 have h := rows_put (n := n) (k := 1) (g := fun i => #[.int .i64 (wrap64 (f i : Int))]) (i := i) (c := #[.int .i64 (wrap64 (x : Int))]) rfl
 have e : putA (rowsA n 1 fun i => #[.int .i64 (wrap64 (f i : Int))]) (i * 1) [.int .i64 (wrap64 (x : Int))] = (intA n f).setIfInBounds (i * 1) (.int .i64 (wrap64 (x : Int))) := rfl
 rw [<- e]
 refine Eq.trans h ?_
 unfold intA
 refine rows_congr fun j _ => ?_
 unfold updN
 split <;> rfl
theorem addI_run (ρ : Operand -> Value) (d : Option Tmp) (x y : Operand) (tt t' : TypeId) (pos : String) (aft : Array Edge) (g : Option (Nat × Bool)) (p q : Int) (w : World) (hx : ρ x = .int .i64 p) (hy : ρ y = .int .i64 q) : (execOp ρ ⟨d, .binOp .add 3 x y t', tt, pos, aft, g⟩).run Tryz.prog w = .ok (.value (.int .i64 (wrap64 (p + q)))) w := by
 unfold execOp; simp only [hx, hy]; simp [go_sem]; exact IntWalk.i64_left _
section
variable {l : List Oper} {Q : Exit -> Act -> World -> Prop} {F : Nat -> Bool} {S : World -> Prop} {i : Nat} {r : OT} {a : Act} {w w0 : World} {M : List Nat} {L L' : RowL} {d : Option Tmp} {x y : Operand} {t tt ty : TypeId} {pos : String} {aft : Array Edge} {g : Option (Nat × Bool)} {b j n : Nat} {A A' : Array Value}
theorem sStore1I {zi : Int} (hk : Kn M w0 w L) (h : ∀ w1, Kn M w0 w1 L' -> (F i = true -> S w1) /\ wpT Tryz.prog l Q F S r (a.put d undef) w1) (ho : nthO i l = some ⟨d, .store ty x y, tt, pos, aft, g⟩ := by rfl) (hw : Region.wanted ⟨d, .store ty x y, tt, pos, aft, g⟩ (yielded l.toArray a.tmps) = true := by rfl) (hx : a.eval x = .pointer (some ⟨b, j, none⟩) := by rfl) (hy : a.eval y = .int .i64 zi := by rfl) (hm : (b, A, t) ∈ L := by with_reducible repeat (first | exact List.mem_cons_self | apply List.mem_cons_of_mem)) (hT : oneTab ty = some n := by rfl) (hj : j + 1 <= A.size) (hA : A.setIfInBounds j (.int .i64 zi) = A') (hs : setB b A' L L' := by with_reducible repeat (first | exact setB_here _ _ _ _ _ | apply setB_next)) : wpT Tryz.prog l Q F S (.op i r) a w :=
 tActK ho rfl hw fun _ hK => oStore1 hx hy hk hm (oneT_of hT) rfl hj rfl hA hs fun w1 hk1 => hK _ _ (h w1 hk1).1 (h w1 hk1).2
theorem sAddI {p q m : Int} (hk : S w) (h : wpT Tryz.prog l Q F S r (a.put d (.int .i64 m)) w) (ho : nthO i l = some ⟨d, .binOp .add 3 x y t, tt, pos, aft, g⟩ := by rfl) (hw : Region.wanted ⟨d, .binOp .add 3 x y t, tt, pos, aft, g⟩ (yielded l.toArray a.tmps) = true := by rfl) (hx : a.eval x = .int .i64 p := by rfl) (hy : a.eval y = .int .i64 q := by rfl) (hm : wrap64 (p + q) = m := by assumption) : wpT Tryz.prog l Q F S (.op i r) a w :=
 tRun ho rfl hw hk (fun wx => (addI_run _ _ _ _ _ _ _ _ _ p q wx hx hy).trans (by rw [hm])) h
end
def cntU (v : PS) (k : Nat) : Nat -> Nat := fun m => if m < k then (countP v).cnt m else v.cnt m
def chgU (v : PS) (k : Nat) : Nat -> Bool := fun m => if m < k then false else v.chg m
theorem cntU_yes {v : PS} {k : Nat} (h : v.chg k = true) : updN (cntU v k) k (cntU v k k + 1) = cntU v (k + 1) := by
 funext m
 unfold updN cntU countP
 by_cases e : m = k
 · subst e; rw [if_pos rfl, if_neg (by omega), if_pos (by omega)]; simp only; rw [if_pos h]
 · rw [if_neg e]
   by_cases h2 : m < k
   · rw [if_pos h2, if_pos (by omega)]
   · rw [if_neg h2, if_neg (by omega)]
theorem cntU_no {v : PS} {k : Nat} (h : v.chg k = false) : cntU v k = cntU v (k + 1) := by
 funext m
 unfold cntU countP
 by_cases e : m = k
 · subst e; rw [if_neg (by omega), if_pos (by omega)]; simp only; rw [h]; rfl
 · by_cases h2 : m < k
   · rw [if_pos h2, if_pos (by omega)]
   · rw [if_neg h2, if_neg (by omega)]
theorem chgU_step (v : PS) (k : Nat) : updB (chgU v k) k false = chgU v (k + 1) := by
 funext m
 unfold updB chgU
 by_cases e : m = k
 · subst e; rw [if_pos rfl, if_pos (by omega)]
 · rw [if_neg e]
   by_cases h2 : m < k
   · rw [if_pos h2, if_pos (by omega)]
   · rw [if_neg h2, if_neg (by omega)]
theorem bos_congr {n : Nat} {f g : Nat -> Bool} (h : ∀ i, i < n -> f i = g i) : bosA n f = bosA n g := rows_congr fun i hi => by rw [h i hi]
theorem int_congr {n : Nat} {f g : Nat -> Nat} (h : ∀ i, i < n -> f i = g i) : intA n f = intA n g := rows_congr fun i hi => by rw [h i hi]
theorem count_pv (n : Nat) (hn : n <= 64) (V pb pc mb sb kb cb hb : Nat) (v : PS) (hne : cb ≠ hb) (hVM : V ∉ [cb, hb]) (w : World) (hV : At w V (prC pb pc mb sb kb cb hb n) 209) (hC : At w cb (intA n v.cnt) 3) (hH : At w hb (bosA n v.chg) 4) :
 Calls Tryz.prog 107 #[.pointer (some ⟨V, 0, none⟩)] w fun e w' => e = .returned (.tuple #[]) /\ Mod [cb, hb] w w' /\ At w' cb (intA n (countP v).cnt) 3 /\ At w' hb (bosA n (countP v).chg) 4 := by
 have hk := Kn.two hC hH hne
 go_enter Tryz.func107, Tryz.ntmps107
 go_wp2_with ((with_reducible apply gL); (first | refine wS hk ?_ | (refine wN hk ?_; clear hk; intro w1 hk)); simp only [pw])
 replace hk : Kn [cb, hb] w w [(cb, intA n (cntU v 0), 3), (hb, bosA n (chgU v 0), 4)] := hk
 go_loopw [9] (fun j wr => ∃ i : Nat, i <= n /\ j = .int .i64 i /\ Kn [cb, hb] w wr [(cb, intA n (cntU v i), 3), (hb, bosA n (chgU v i), 4)]) (fun j _ => n - (intOf j).toNat)
 case atStart => exact ⟨0, by omega, rfl, hk⟩
 case round =>
  clear hk
  obtain ⟨i, hi, rfl, hk⟩ := hrel
  by_cases hlt : i < n
  · have hcu : chgU v i i = v.chg i := by unfold chgU; rw [if_neg (by omega)]
    have R2 := hide (chgU_step v i)
    cases hcg : v.chg i with
    | false =>
      rw [hcg] at hcu
      have R1 := hide (cntU_no hcg)
      clear hcg
      go_wp2_with ((with_reducible apply gL); (first | (refine wS hk ?_; simp only [pw]; (try rw [hcu])) | (refine wN hk ?_; clear hk; intro w1 hk; simp only [pw])))
      go_roundw
      case rel => exact ⟨i + 1, by omega, by go_num, by rw [<- R1.out, <- R2.out]; exact hk⟩
      case measure => simp [intOf]; omega
    | true =>
      rw [hcg] at hcu
      have R1 := hide (cntU_yes hcg)
      have hadd : wrap64 (wrap64 (cntU v i i : Int) + 1) = wrap64 ((cntU v i i + 1 : Nat) : Int) := by unfold wrap64; omega
      clear hcg
      go_upto_region 4 with ((with_reducible apply gL); (first | (refine wS hk ?_; simp only [pw]; (try rw [hcu])) | (refine wN hk ?_; clear hk; intro w1 hk; simp only [pw])))
      (refine wp_regLK hk (.op 0 (.op 1 (.op 2 (.op 3 (.op 4 (.op 5 (.op 6 (.op 7 (.op 8 (.op 9 .nil)))))))))) (by rfl) ?_)
      (repeat (refine sV hk ?_; simp only [pw]))
      refine sNil hk ?_; simp only [pw]
      (repeat (refine sV hk ?_; simp only [pw]))
      refine sLoad1 hk ?_ (hv := get_int _ _ _ hlt); simp only [pw]
      refine sAddI hk ?_; simp only [pw]
      (repeat (refine sV hk ?_; simp only [pw]))
      refine sStore1I hk ?_ (hj := by rw [intA_size]; omega) (hA := set_int _ _ _ _); clear hk; intro w1 hk; refine ⟨fun h => absurd h (by decide), ?_⟩; simp only [pw]
      refine tNil ?_
      go_wp2_with ((with_reducible apply gL); (first | refine wS hk ?_ | (refine wN hk ?_; clear hk; intro w1 hk)); simp only [pw])
      go_roundw
      case rel => exact ⟨i + 1, by omega, by go_num, by rw [<- R1.out, <- R2.out]; exact hk⟩
      case measure => simp [intOf]; omega
  · have e1 : i = n := by omega
    subst e1
    have hc1 := hk.at (A := intA i (cntU v i)) mm
    have hc2 := hk.at (A := bosA i (chgU v i)) mm
    rw [int_congr (g := (countP v).cnt) fun j hj => by unfold cntU; rw [if_pos hj]] at hc1
    rw [bos_congr (g := (countP v).chg) fun j hj => by unfold chgU countP; rw [if_pos hj]] at hc2
    have HC1 := hide hc1
    have HC2 := hide hc2
    have HM := hide hk.mod
    clear hc1 hc2
    go_wp2_with ((with_reducible apply gL); (first | refine wS hk ?_ | (refine wN hk ?_; clear hk; intro w1 hk)); simp only [pw])
    go_end0
    exact ⟨rfl, HM.out, HC1.out, HC2.out⟩
theorem Kn.three {w : World} {a b c : Nat} {A B C : Array Value} {s t u : TypeId} (h : At w a A s) (k : At w b B t) (j : At w c C u) (hab : a ≠ b) (hac : a ≠ c) (hbc : b ≠ c) : Kn [a, b, c] w w [(a, A, s), (b, B, t), (c, C, u)] := ⟨Mod.refl _ _, fun x hx => (by simp at hx; rcases hx with rfl | rfl | rfl; exact ⟨h, Or.inr (by simp)⟩; exact ⟨k, Or.inr (by simp)⟩; exact ⟨j, Or.inr (by simp)⟩), by simp [hab, hac, hbc]⟩
theorem Kn.callX {M N : List Nat} {w0 w w' : World} {L L' : RowL} (h : Kn M w0 w L) (hm : Mod N w w') (hN : ∀ b, b ∈ N -> b ∈ M) (hkeys : L.map (·.1) = L'.map (·.1)) (hrow : ∀ x, x ∈ L' -> At w' x.1 x.2.1 x.2.2) : Kn M w0 w' L' := by
 refine ⟨h.mod.step hm fun b hb => Or.inr (hN b hb), fun x hx => ⟨hrow x hx, ?_⟩, pw_keys hkeys h.dis⟩
 have : x.1 ∈ L'.map (·.1) := List.mem_map_of_mem hx
 rw [<- hkeys] at this
 obtain ⟨y, hy, e⟩ := List.mem_map.1 this
 rw [<- e]
 exact (h.has y hy).2
theorem Kn.four {M N : List Nat} {w0 w w' : World} {a b c d : Nat} {A B C D A' B' C' D' : Array Value} {s t u v : TypeId} (h : Kn M w0 w [(a, A, s), (b, B, t), (c, C, u), (d, D, v)]) (hm : Mod N w w') (hN : ∀ b, b ∈ N -> b ∈ M) (h1 : At w' a A' s) (h2 : At w' b B' t) (h3 : At w' c C' u) (h4 : At w' d D' v) : Kn M w0 w' [(a, A', s), (b, B', t), (c, C', u), (d, D', v)] :=
 h.callX hm hN rfl fun x hx => by
  simp only [List.mem_cons, List.not_mem_nil, or_false] at hx
  rcases hx with rfl | rfl | rfl | rfl
  · exact h1
  · exact h2
  · exact h3
  · exact h4
structure PrvB (l : List I5) (V pb pc mb sb kb cb hb : Nat) (w : World) : Prop where
 prog : ProgC w pb iVal l
 marks : At w mb (bosA l.length (markB l)) 4
 self : At w V (prC pb pc mb sb kb cb hb l.length) 209
 backs : At w kb (bosA l.length (backB l)) 4
 nsc : sb ≠ cb
 nsh : sb ≠ hb
 nch : cb ≠ hb
 nP : pb ∉ [sb, cb, hb]
 nM : mb ∉ [sb, cb, hb]
 nV : V ∉ [sb, cb, hb]
 nK : kb ∉ [sb, cb, hb]
theorem PrvB.mod {l : List I5} {V pb pc mb sb kb cb hb : Nat} {w w' : World} (h : PrvB l V pb pc mb sb kb cb hb w) (hm : Mod [sb, cb, hb] w w') : PrvB l V pb pc mb sb kb cb hb w' :=
 ⟨h.prog.mod hm h.nP, h.marks.mod hm h.nM, h.self.mod hm h.nV, h.backs.mod hm h.nK, h.nsc, h.nsh, h.nch, h.nP, h.nM, h.nV, h.nK⟩
theorem PrvB.prov {l : List I5} {V pb pc mb sb kb cb hb : Nat} {w : World} {cnt : Nat -> Nat} (h : PrvB l V pb pc mb sb kb cb hb w) (hc : At w cb (intA l.length cnt) 3) : ProvB l V pb pc mb sb kb cb hb cnt w := by
 have h1 := h.nP; have h2 := h.nM; have h3 := h.nV; have h4 := h.nK; have h5 := h.nsc; have h6 := h.nch
 simp only [List.mem_cons, List.not_mem_nil, or_false, not_or] at h1 h2 h3 h4
 refine ⟨h.prog, h.marks, h.self, h.backs, hc, h.nsh, ?_, ?_, ?_, ?_, ?_⟩ <;> simp only [List.mem_cons, List.not_mem_nil, or_false, not_or]
 · exact ⟨h1.1, h1.2.2⟩
 · exact ⟨h2.1, h2.2.2⟩
 · exact ⟨h3.1, h3.2.2⟩
 · exact ⟨h4.1, h4.2.2⟩
 · exact ⟨fun e => h5 e.symm, h6⟩
theorem Kn.first {M : List Nat} {w0 w : World} {r0 : Nat × Array Value × TypeId} {L : RowL} (h : Kn M w0 w (r0 :: L)) : Kn M w0 w [r0] := h.sub (.cons_cons _ (List.nil_sublist _))
theorem wp_reg1 {P : Program} {id : Nat} {l : List Oper} {Q : Exit -> Act -> World -> Prop} {a : Act} {w : World} {M : List Nat} {w0 : World} {r0 : Nat × Array Value × TypeId} {L : RowL} (hk : Kn M w0 w (r0 :: L)) (t : OT) (F : Nat -> Bool) (hm : P.follows .mixedOrders = true) (hn : t.size <= l.length) (hsel : Region.noSelect l.toArray = true)
 (hv : okT l.toArray F t (Array.replicate l.length false) = true) (h : ∀ w1, Kn M w0 w1 (r0 :: L) -> wpT P l Q F (fun wx => Kn M w0 wx [r0]) t a w1) : (Code.region id l.toArray true).wp P Q a w := wp_regS hk _ t F hm hn hsel hv h
theorem ex_pr (pb pc mb sb kb cb hb n : Nat) : (prC pb pc mb sb kb cb hb n).extract 0 (0 + 3) = rtC pb pc mb sb n := by kernel_rfl
theorem iface_run (ρ : Operand -> Value) (d : Option Tmp) (x : Operand) (tt : TypeId) (pos : String) (aft : Array Edge) (g : Option (Nat × Bool)) (a : Option Addr) (w : World) (hx : ρ x = .pointer a) : (execOp ρ ⟨d, .makeInterface 204 x, tt, pos, aft, g⟩).run Tryz.prog w = .ok (.value (.iface 204 (.pointer a))) w := by
 unfold execOp; simp only [hx]; simp [go_sem]
section
variable {l : List Oper} {Q : Exit -> Act -> World -> Prop} {F : Nat -> Bool} {S : World -> Prop} {i : Nat} {r : OT} {a : Act} {w : World} {d : Option Tmp} {x : Operand} {tt : TypeId} {pos : String} {aft : Array Edge} {g : Option (Nat × Bool)}
theorem sIfaceP {p : Option Addr} (hk : S w) (h : wpT Tryz.prog l Q F S r (a.put d (.iface 204 (.pointer p))) w) (ho : nthO i l = some ⟨d, .makeInterface 204 x, tt, pos, aft, g⟩ := by rfl) (hw : Region.wanted ⟨d, .makeInterface 204 x, tt, pos, aft, g⟩ (yielded l.toArray a.tmps) = true := by rfl) (hx : a.eval x = .pointer p := by rfl) : wpT Tryz.prog l Q F S (.op i r) a w :=
 tRun ho rfl hw hk (fun wx => iface_run _ _ _ _ _ _ _ p wx hx) h
end
theorem AllFit.fitP {l : List I5} (hl : AllFit l) (h64 : ∀ i, i < l.length -> I64 (insAt l i).k) : Fit l := by
 refine ⟨fun n hn => ⟨hl.regs hn, ?_, ?_, h64 n hn⟩, fun n hn h9 => hl.k hn h9⟩
 · have := hl.fit hn
   unfold I5.fits fitsB at this
   simp only [Bool.and_eq_true, decide_eq_true_eq] at this
   omega
 · have := hl.fit hn
   unfold I5.fits fitsB at this
   simp only [Bool.and_eq_true, decide_eq_true_eq] at this
   omega
theorem settle_pv (l : List I5) (hl : AllFit l) (h64 : ∀ i, i < l.length -> I64 (insAt l i).k) (V pb pc mb sb kb cb hb : Nat) (v0 : PS) (e : St) (he : e.ok /\ e.in64) (hI : PInv l v0) (hcb : CB (backB l) v0) (hch : ∀ j, j < l.length -> v0.chg j = false) (w : World) (hB : PrvB l V pb pc mb sb kb cb hb w) (hS : At w sb (plsA l.length v0.W) 190) (hC : At w cb (intA l.length v0.cnt) 3) (hH : At w hb (bosA l.length v0.chg) 4) :
 Calls Tryz.prog 94 #[.pointer (some ⟨V, 0, none⟩), .agg (stC e)] w fun x w' => x = .returned (.tuple #[]) /\ ∃ vf, Settles l e v0 vf /\ Mod [sb, cb, hb] w w' /\ At w' sb (plsA l.length vf.W) 190 := by
 have hk := Kn.three hS hC hH hB.nsc hB.nsh hB.nch
 have hL : l.length <= 64 := hl.2.1
 have HL := hide hl
 have H64 := hide h64
 have HE := hide he
 have HF := hide (hl.fitP h64)
 have HB := hide hB
 have hVs := hB.self
 have hVn := hB.nV
 have HI0 := hide hI
 have HC0 := hide hcb
 have HH0 := hide hch
 clear hl h64 he hB hI hcb hch hS hC hH
 go_enter Tryz.func94, Tryz.ntmps94
 go_wp2_with ((with_reducible apply gL); (first | refine wS hk ?_ | (refine wN hk ?_; clear hk; intro w1 hk)); simp only [pw])
 go_loopg [] (muP l.length v0 + 1) (fun g wx => ∃ v : PS, g = muP l.length v + 1 /\ PInv l v /\ CB (backB l) v /\ (∀ j, j < l.length -> v.chg j = false) /\ (∀ vf, Settles l e v vf -> Settles l e v0 vf) /\ Kn [sb, cb, hb] w wx [(w.heap.size, stC e, 29), (sb, plsA l.length v.W, 190), (cb, intA l.length v.cnt, 3), (hb, bosA l.length v.chg, 4)])
 case atStart => exact ⟨v0, rfl, HI0.out, HC0.out, HH0.out, fun _ h => h, hk⟩
 case round =>
  clear hk
  obtain ⟨v, hg, hI, hcb, hch, hset, hk⟩ := hrel
  have HI := hide hI
  have HCB := hide hcb
  have HCH := hide hch
  have HSET := hide hset
  have HG := hide hg
  obtain ⟨v1, hv1⟩ : ∃ v1, passP l l.length 0 (some e) v = v1 := ⟨_, rfl⟩
  have ho : OkO (some e) := fun s hs => by simp only [Option.some.injEq] at hs; rw [<- hs]; exact HE.out
  have HP := hide (passP_cb HL.out H64.out l.length 0 (some e) v (by omega) ho hI.ok hcb)
  have HI1 := hide (passP_inv HF.out l.length 0 (some e) v (by omega) hI ho)
  have HMU : Hid (anyChg l v1 = true -> muP l.length (countP v1) < muP l.length v) := hide (by rw [<- hv1]; exact pass_mu HF.out HE.out hI hch)
  have HCL : Hid (∀ k, backB l k = true -> v.cnt k <= 20) := hide fun k hk => hcb.le hk
  have HD : Hid (w.heap.size ∉ [sb, hb] /\ w.heap.size ∉ [cb, hb]) := hide (by
   have := hk.dis
   simp only [List.pairwise_cons, List.mem_cons, List.not_mem_nil, or_false, forall_eq_or_imp, forall_eq] at this
   simp only [List.mem_cons, List.not_mem_nil, or_false, not_or]
   exact ⟨⟨this.1.1, this.1.2.2⟩, this.1.2.1, this.1.2.2⟩)
  have HV1 := hide hv1
  have HCN1 : Hid (v1.cnt = v.cnt) := hide (by rw [<- hv1]; exact HP.out.2.2)
  clear hI hcb hch hset hg hv1 ho
  go_wp2_with ((with_reducible apply gL); (first | refine wS hk ?_ | (refine wN hk ?_; clear hk; intro w1 hk)); simp only [pw])
  refine wp_reg1 hk (.op 0 (.op 1 (.op 2 (.op 3 (.op 4 (.op 5 (.op 6 (.op 7 .nil)))))))) (fun i => decide (i < 8)) mixT (by decide) (by kernel_rfl) (by kernel_rfl) ?_; clear hk; intro w1 hk
  refine sMove hk.first ?_; simp only [pw]
  refine sNil hk.first ?_; simp only [pw]
  (repeat (refine sV hk.first ?_; simp only [pw]))
  refine sOldR hk.first ?_ (hc := ex_pr _ _ _ _ _ _ _ _); simp only [pw]
  (repeat (refine sV hk.first ?_; simp only [pw]))
  refine sIfaceP hk.first ?_; simp only [pw]
  refine sCall ?_; intro K hK; go_step; go_at_call 62
  refine (pass_pv l HL.out H64.out V pb pc mb sb kb cb hb v e HE.out HI.out.ok HCL.out _ ((HB.out.mod hk.mod).prov (hk.at mm)) (hk.at mm) (hk.at mm)).mono ?_
  rintro x w2 ⟨⟨za, zb, rfl⟩, hT1, hT2, hT3⟩
  rw [HV1.out] at hT2 hT3
  have hcn : cb ∉ [sb, hb] := by have h1 := HB.out.nsc; have h2 := HB.out.nch; simp only [List.mem_cons, List.not_mem_nil, or_false, not_or]; exact ⟨fun e => h1 e.symm, h2⟩
  replace hk := hk.four hT1 (fun b hb => by simp only [List.mem_cons, List.not_mem_nil, or_false] at hb ⊢; rcases hb with h | h <;> simp [h]) ((hk.at (A := stC e) mm).mod hT1 HD.out.1) hT2 ((hk.at (A := intA l.length v.cnt) mm).mod hT1 hcn) hT3
  refine hK _ _ (fun _ => hk.first) ?_
  clear hK K hT1 hT2 hT3
  refine tNil ?_
  cases hA : anyChg l v1 with
  | false =>
    have HA := hide hA
    have HST : Hid (Settles l e v0 v1) := hide (HSET.out v1 (by have := Settles.done (p := l) (e := e) v (by rw [HV1.out]; exact hA); rw [HV1.out] at this; exact this))
    clear hA
    go_wp2_with (first | (go_at_call 106; refine (contains_any l.length hL v1.chg hb _ (hk.at mm)).mono ?_; rintro x w3 ⟨rfl, hb3⟩; replace hk := hk.call hb3; clear hb3; rw [show (List.range l.length).any v1.chg = false from HA.out]) | ((with_reducible apply gL); (first | refine wS hk ?_ | (refine wN hk ?_; clear hk; intro w1 hk)); simp only [pw]))
    exact bodyPost_ret (results_none rfl _ _ _) rfl ⟨rfl, v1, HST.out, hk.mod, hk.at mm⟩
  | true =>
    have HA := hide hA
    have HST : Hid (∀ vf, Settles l e (countP v1) vf -> Settles l e v0 vf) := hide fun vf h => HSET.out vf (Settles.more v vf (by rw [HV1.out]; exact HA.out) (by rw [HV1.out]; exact h))
    clear hA
    go_wp2_with (first | (go_at_call 106; refine (contains_any l.length hL v1.chg hb _ (hk.at mm)).mono ?_; rintro x w3 ⟨rfl, hb3⟩; replace hk := hk.call hb3; clear hb3; rw [show (List.range l.length).any v1.chg = true from HA.out]) | ((with_reducible apply gL); (first | refine wS hk ?_ | (refine wN hk ?_; clear hk; intro w1 hk)); simp only [pw]))
    go_at_call 107
    have hA1 := hk.at (A := intA l.length v.cnt) mm
    rw [<- HCN1.out] at hA1
    have hA2 := hk.at (A := bosA l.length v1.chg) mm
    have hnv : V ∉ [cb, hb] := by have := HB.out.nV; simp only [List.mem_cons, List.not_mem_nil, or_false, not_or] at this ⊢; exact this.2
    refine (count_pv l.length hL V pb pc mb sb kb cb hb v1 HB.out.nch hnv _ (HB.out.mod hk.mod).self hA1 hA2).mono ?_
    rintro x w4 ⟨rfl, hT1, hT2, hT3⟩
    have hsn : sb ∉ [cb, hb] := by have h1 := HB.out.nsc; have h2 := HB.out.nsh; simp only [List.mem_cons, List.not_mem_nil, or_false, not_or]; exact ⟨h1, h2⟩
    replace hk := hk.four hT1 (fun b hb => by simp only [List.mem_cons, List.not_mem_nil, or_false] at hb ⊢; rcases hb with h | h <;> simp [h]) ((hk.at (A := stC e) mm).mod hT1 HD.out.2) ((hk.at (A := plsA l.length v1.W) mm).mod hT1 hsn) hT2 hT3
    clear hT1 hT2 hT3 hA1 hA2
    obtain ⟨v2, hv2⟩ : ∃ v2, countP v1 = v2 := ⟨_, rfl⟩
    have HVW : Hid (v2.W = v1.W) := hide (by rw [<- hv2]; rfl)
    rw [hv2] at hk
    have HV2 := hide hv2
    clear hv2
    go_wp2_with ((with_reducible apply gL); (first | refine wS hk ?_ | (refine wN hk ?_; clear hk; intro w1 hk)); simp only [pw])
    go_roundg (muP l.length v2 + 1)
    case measure => have := HMU.out HA.out; have := HG.out; rw [HV2.out] at *; omega
    case rel => exact ⟨v2, rfl, by rw [<- HV2.out, <- HV1.out]; exact count_inv HI1.out, by rw [<- HV2.out, <- HV1.out]; exact count_cb HP.out.1, fun _ _ => by rw [<- HV2.out]; rfl, by rw [<- HV2.out]; exact HST.out, by rw [HVW.out]; exact hk⟩
def bkB (l : List I5) (n m : Nat) : Bool := decide (9 <= (insAt l n).o) && decide ((insAt l n).k = m) && decide (m <= n)
def bkU (l : List I5) (i : Nat) : Nat -> Bool := fun m => (List.range i).any fun n => bkB l n m
theorem bkU_all (l : List I5) : bkU l l.length = backB l := rfl
theorem bkU_succ (l : List I5) (i m : Nat) : bkU l (i + 1) m = (bkU l i m || bkB l i m) := by
 unfold bkU; rw [List.range_succ, List.any_append]; simp
theorem bkU_no {l : List I5} {i : Nat} (h : ∀ m, bkB l i m = false) : bkU l (i + 1) = bkU l i := by
 funext m; rw [bkU_succ, h m, Bool.or_false]
theorem bkU_yes {l : List I5} {i k : Nat} (hj : jumpsB (insAt l i) = true) (hk : targI (insAt l i) = k) (hle : k <= i) : bkU l (i + 1) = updB (bkU l i) k true := by
 funext m
 rw [bkU_succ]
 unfold updB bkB
 unfold jumpsB at hj
 unfold targI at hk
 simp only [decide_eq_true_eq] at hj
 rw [if_pos hj] at hk
 by_cases e : m = k
 · subst e; simp [hj, hk, hle]
 · have : ¬ ((insAt l i).k = (m : Int)) := by rw [hk]; omega
   simp [this, e]
theorem backsOf_any (l : List I5) (hl : AllFit l) (pb cap : Nat) (w : World) (hp : ProgC w pb iVal l) : Calls Tryz.prog 105 #[.slice (some ⟨pb, 0, none⟩) l.length cap] w fun e w' => ∃ mb, e = .returned (.slice (some ⟨mb, 0, none⟩) l.length l.length) /\ At w' mb (bosA l.length (backB l)) 4 /\ w.heap.size <= mb /\ Below w.heap.size w w' := by
 have hk := Kn.nil [] w
 have hL : l.length <= 64 := hl.2.1
 have HP := hide hp
 clear hp
 go_enter Tryz.func105, Tryz.ntmps105
 go_wp2_with ((with_reducible apply gL); (first | refine wS hk ?_ | (refine wN hk ?_; clear hk; intro w1 hk)); simp only [pw])
 replace hk : Kn [] w w1 [(w.heap.size, bosA l.length (bkU l 0), 4)] := hk
 go_loopw [12] (fun j wr => ∃ i : Nat, i <= l.length /\ j = .int .i64 i /\ Kn [] w wr [(w.heap.size, bosA l.length (bkU l i), 4)]) (fun j _ => l.length - (intOf j).toNat)
 case atStart => exact ⟨0, by omega, rfl, hk⟩
 case round =>
  clear hk
  obtain ⟨i, hi, rfl, hk⟩ := hrel
  by_cases hlt : i < l.length
  · have hc := HP.out.mod hk.mod List.not_mem_nil i hlt
    cases hj : jumpsB (insAt l i) with
    | false =>
      have R := hide (bkU_no (l := l) (i := i) fun m => by unfold bkB; unfold jumpsB at hj; rw [hj]; rfl)
      go_wp2_with (first | (go_at_call 82; refine (target_any (insAt l i) _ (hl.fit hlt) _ _ _ _ hlt _ hc).mono ?_; rintro e w1 ⟨rfl, hb⟩; replace hk := hk.call hb; clear hb; rw [hj]) | ((with_reducible apply gL); (first | refine wS hk ?_ | (refine wN hk ?_; clear hk; intro w1 hk)); simp only [pw]))
      go_roundw
      case rel => exact ⟨i + 1, by omega, by go_num, by rw [R.out]; exact hk⟩
      case measure => simp [intOf]; omega
    | true =>
      obtain ⟨k, hk1, hk2⟩ := hl.targ hlt hj
      by_cases hle : k <= i
      · have R := hide (bkU_yes hj hk1 hle)
        have hd : decide ((k : Int) <= (i : Int)) = true := by rw [decide_eq_true_eq]; omega
        go_wp2_with (first | (go_at_call 82; refine (target_any (insAt l i) _ (hl.fit hlt) _ _ _ _ hlt _ hc).mono ?_; rintro e w1 ⟨rfl, hb⟩; replace hk := hk.call hb; clear hb; rw [hj, hk1]) | ((with_reducible apply gL); (first | refine wS hk ?_ | (refine wN hk ?_; clear hk; intro w1 hk)); simp only [pw]))
        go_roundw
        case rel => exact ⟨i + 1, by omega, by go_num, by rw [R.out]; exact hk⟩
        case measure => simp [intOf]; omega
      · have R := hide (bkU_no (l := l) (i := i) fun m => by
         unfold bkB
         unfold jumpsB at hj
         unfold targI at hk1
         simp only [decide_eq_true_eq] at hj
         rw [if_pos hj] at hk1
         by_cases e : m = k
         · subst e; simp [hle]
         · have : ¬ ((insAt l i).k = (m : Int)) := by rw [hk1]; omega
           simp [this])
        have hd : decide ((k : Int) <= (i : Int)) = false := by rw [decide_eq_false_iff_not]; omega
        go_wp2_with (first | (go_at_call 82; refine (target_any (insAt l i) _ (hl.fit hlt) _ _ _ _ hlt _ hc).mono ?_; rintro e w1 ⟨rfl, hb⟩; replace hk := hk.call hb; clear hb; rw [hj, hk1]) | ((with_reducible apply gL); (first | refine wS hk ?_ | (refine wN hk ?_; clear hk; intro w1 hk)); simp only [pw]))
        go_roundw
        case rel => exact ⟨i + 1, by omega, by go_num, by rw [R.out]; exact hk⟩
        case measure => simp [intOf]; omega
  · have e : i = l.length := by omega
    subst e
    rw [bkU_all] at hk
    go_wp2_with ((with_reducible apply gL); (first | refine wS hk ?_ | (refine wN hk ?_; clear hk; intro w1 hk)); simp only [pw])
    go_ret
    exact ⟨_, rfl, hk.at mm, Nat.le_refl _, hk.mod.below⟩
def clsW (n : Nat) (W : Nat -> Option St) : List C2 := (List.range n).filterMap fun i => (W i).map fun s => ⟨(i : Int), s⟩
theorem clsW_none {n : Nat} {W : Nat -> Option St} (h : W n = none) : clsW (n + 1) W = clsW n W := by
 unfold clsW; rw [List.range_succ, List.filterMap_append]; simp [h]
theorem clsW_some {n : Nat} {W : Nat -> Option St} {s : St} (h : W n = some s) : clsW (n + 1) W = clsW n W ++ [⟨(n : Int), s⟩] := by
 unfold clsW; rw [List.range_succ, List.filterMap_append]; simp [h]
theorem clsW_len (n : Nat) (W : Nat -> Option St) : (clsW n W).length <= n := by
 unfold clsW
 exact Nat.le_trans (List.length_filterMap_le _ _) (by simp)
theorem Mod.grown {w w' : World} (h : Mod [] w w') : w.grownBy w' none := ⟨h.os, h.tape, h.output, h.size, fun k hk _ => h.block k hk (by simp)⟩
def ownM (v : Value) : List Nat := v.ownBlock.toList
theorem grown_mod {w w' : World} {v : Value} (h : w.grownBy w' v.ownBlock) : Mod (ownM v) w w' := ⟨h.os, h.tape, h.output, h.size, fun k hk hn => h.block k hk (by
 intro e; apply hn; unfold ownM; rw [<- e]; simp)⟩
theorem Kn.weak {M : List Nat} {w0 w : World} {L : RowL} (h : Kn [] w0 w L) : Kn M w0 w L := ⟨⟨h.mod.os, h.mod.tape, h.mod.output, h.mod.size, fun k hk _ => h.mod.block k hk (by simp)⟩, fun x hx => ⟨(h.has x hx).1, by rcases (h.has x hx).2 with h | h; exact Or.inl h; cases h⟩, h.dis⟩
theorem Kn.grow {M : List Nat} {w0 w w' : World} {L : RowL} (h : Kn M w0 w L) (hm : Mod M w w') (hL : ∀ x, x ∈ L -> x.1 ∉ M) : Kn M w0 w' L :=
 ⟨h.mod.trans hm, fun x hx => ⟨(h.has x hx).1.mod hm (hL x hx), (h.has x hx).2⟩, h.dis⟩
section
variable {l : List Oper} {Q : Exit -> Act -> World -> Prop} {F : Nat -> Bool} {S : World -> Prop} {i : Nat} {r : OT} {a : Act} {w w0 : World} {M : List Nat} {L L' : RowL} {d : Option Tmp} {x y : Operand} {t tt ty : TypeId} {pos : String} {aft : Array Edge} {g : Option (Nat × Bool)}
theorem sBuildCl {p : Int} {s : St} (hk : Kn M w0 w L) (h : ∀ w1, w1 = w.alloc (.cells (clC p s) 71) -> Kn M w0 w1 ((w.heap.size, clC p s, 71) :: L) -> (F i = true -> S w1) /\ wpT Tryz.prog l Q F S r (a.put d (.slice (some ⟨w.heap.size, 0, none⟩) 1 1)) w1) (ho : nthO i l = some ⟨d, .buildSlice 51 1 #[(0, x)], tt, pos, aft, g⟩ := by rfl) (hw : Region.wanted ⟨d, .buildSlice 51 1 #[(0, x)], tt, pos, aft, g⟩ (yielded l.toArray a.tmps) = true := by rfl) (hx : a.eval x = .agg (clC p s) := by rfl) : wpT Tryz.prog l Q F S (.op i r) a w := by
 obtain ⟨ie, hie, hz⟩ : ∃ ie, Tryz.prog.info? 71 = some ie /\ (ie.size = 17 /\ ie.zero = some (.agg (clC 0 zeroS))) := by
  obtain ⟨ie, hi, h2⟩ := Option.map_eq_some_iff.1 (show (Tryz.prog.info? 71).map (fun i => (i.size, i.zero)) = some (17, some (.agg (clC 0 zeroS))) by kernel_rfl)
  simp only [Prod.mk.injEq] at h2
  exact ⟨ie, hi, h2⟩
 refine tActK ho rfl hw fun K hK => wp_buildSlice 51 71 1 _ rfl (clC p s) ie _ Tryz.underlying51 hie hz.2 (by rw [hz.1]; omega) (by rw [hz.1]; omega) ?_ ?_
 · rw [hz.1]
   have e : (#[(0, x)].map fun (i, x) => (i, a.eval x)).toList = [(0, Value.agg (clC p s))] := by simp [hx]
   rw [e]
   have e2 : Instr.fill (fun i => some (i * 17, 17)) ((Array.range (1 * 17)).map ((Value.agg (clC 0 zeroS)).cells[· % (Value.agg (clC 0 zeroS)).cells.size]!)) [(0, Value.agg (clC p s))] = some (clC p s) := by kernel_rfl
   exact e2
 · have := h _ rfl (hk.alloc (clC p s) 71)
   exact hK _ _ this.1 this.2
end
theorem own_mod {w w' : World} {base e size n : Nat} {v : Value} {xs : List Value} (h : w.ownsRow base e size v n xs) (hm : Mod [] w w') : w'.ownsRow base e size v n xs := h.kept hm.grown (by cases v.ownBlock <;> simp)
theorem Tryz.infoClaim : (Tryz.prog.info? 71).map (fun i => (i.zero, i.size, i.bytes)) = some (some (.agg (clC 0 zeroS)), 17, 136) := by kernel_rfl
theorem claimsOf_any (n : Nat) (hn : n <= 64) (W : Nat -> Option St) (sb cap : Nat) (w : World) (hS : At w sb (plsA n W) 190) : Calls Tryz.prog 95 #[.slice (some ⟨sb, 0, none⟩) n cap] w fun e w' => ∃ v, e = .returned v /\ w'.ownsRow w.heap.size 71 17 v (clsW n W).length ((clsW n W).flatMap clCells) /\ Below w.heap.size w w' := by
 obtain ⟨i0, ihi, ih0, ihs, ih2⟩ := info_parts Tryz.infoClaim
 have HS := hide hS
 have hsb := hS.lt
 clear hS
 go_enter Tryz.func95, Tryz.ntmps95
 go_wp2_with fail
 go_loopw [3, 8] (fun u3 j wr => ∃ i : Nat, i <= n /\ j = .int .i64 i /\ wr.ownsRow w.heap.size 71 17 u3 (clsW i W).length ((clsW i W).flatMap clCells) /\ Below w.heap.size w wr) (fun _ j _ => n - (intOf j).toNat)
 case atStart => exact ⟨0, by omega, rfl, World.ownsRow_nil _ _ _ _, Below.refl _ _⟩
 case round =>
  obtain ⟨i, hi, rfl, hown, hbl⟩ := hrel
  have hSr : At wr sb (plsA n W) 190 := HS.out.of (hbl.block sb hsb)
  have hk := Kn.nil [] wr
  have HO := hide hown
  have HBL := hide hbl
  have hcl := clsW_len i W
  clear hown hbl
  by_cases hlt : i < n
  · cases hWi : W i with
    | none =>
      have R := hide (clsW_none hWi)
      go_wp2_with ((with_reducible apply gL); (first | (refine wS hk ?_; simp only [pw]; (try rw [hWi])) | (refine wN hk ?_; clear hk; intro w1 hk; simp only [pw])))
      go_roundw
      case rel => exact ⟨i + 1, by omega, by go_num, by rw [R.out]; exact own_mod HO.out hk.mod, HBL.out.trans (hk.mod.below.mono HBL.out.size)⟩
      case measure => simp [intOf]; omega
    | some s =>
      have R := hide (clsW_some hWi)
      go_upto_region 6 with ((with_reducible apply gL); (first | (refine wS hk ?_; simp only [pw]; (try rw [hWi])) | (refine wN hk ?_; clear hk; intro w1 hk; simp only [pw])))
      have HM := hide hk.mod
      have hown1 := own_mod HO.out hk.mod
      replace hk := hk.weak (M := ownM u3)
      (refine wp_regLK hk (.op 0 (.op 1 (.op 2 (.op 3 (.op 4 (.op 5 (.op 6 (.op 7 .nil)))))))) (by rfl) ?_)
      refine sMove hk ?_; simp only [pw]
      iterate 3 (first | (refine vMoveI hk ?_; simp only [pw]) | (refine sField0 hk ?_; simp only [pw]) | (refine sLoadR hk ?_; simp only [pw]))
      refine sBuild hk ?_ (hb := fun wx => build_cl _ _ wx); simp only [pw]
      refine sBuildCl hk ?_; intro w2 hw2 hk3; refine ⟨fun h => absurd h (by decide), ?_⟩; simp only [pw]
      have hown2 : w2.ownsRow w.heap.size 71 17 u3 (clsW i W).length ((clsW i W).flatMap clCells) := by rw [hw2]; exact own_mod hown1 (Mod.alloc _ _ _)
      have hat2 : At w2 w1.heap.size (clC (i : Int) s) 71 := hk3.at List.mem_cons_self
      have hz2 : w.heap.size <= w2.heap.size := by have h1 := HBL.out.size; have h2 := hk3.mod.size; omega
      have hgw : ∀ k, u3.ownBlock = some k -> w.heap.size <= k /\ k < wr.heap.size := HO.out.lt
      have hb2 : Below w.heap.size w w2 := by
       have h1 : Mod [] wr w2 := by rw [hw2]; exact HM.out.trans (Mod.alloc _ _ _)
       exact HBL.out.trans (h1.below.mono HBL.out.size)
      clear hw2 hown1
      refine tActK (by rfl) (by rfl) (by rfl) (fun K hK => wp_append_own w2 (.tmp 15) (.tmp 20) 51 rfl w.heap.size 71 i0 _ 17 136 Tryz.underlying51 ihi ih0 ihs ih2 rfl (by decide) u3 (clsW i W).length _ (by rfl) hown2 ⟨w1.heap.size, 0, none⟩ 1 1 (clCells ⟨(i : Int), s⟩) (by rfl) rfl (fun j u hj => ?_) (fun u hu => List.all_eq_true.1 (clC_one (i : Int) s) u hu) (by unfold maxLen; omega) (by omega) hz2 (fun v' w' hown' hg _ => hK _ _ (fun h => absurd h (by decide)) ?_))
      · rw [addr_add, cell_of_row _ _ _ _ _ _ hat2, Nat.zero_add, <- Array.getElem?_toList]; exact hj
      · have hk4 := hk3.drop.grow (grown_mod hg) (fun x hx => by
         simp only [List.mem_cons, List.not_mem_nil, or_false] at hx
         subst hx
         intro hm
         unfold ownM at hm
         have := hgw _ (by simpa using hm)
         exact absurd this.2 (Nat.lt_irrefl _))
        have hb4 : Below w.heap.size w w' := hb2.grown hg hz2 (fun k hk => (hgw k hk).1)
        have HOW : Hid (w'.ownsRow w.heap.size 71 17 v' (clsW (i + 1) W).length ((clsW (i + 1) W).flatMap clCells)) := hide (by
         rw [R.out, List.flatMap_append, List.length_append]
         simpa using hown')
        simp only [pw]
        refine sAssign hk4 ?_; simp only [pw]
        refine tNil ?_
        clear hk hk3 hk4 hown' hg
        go_wp2_with fail
        go_roundw
        case rel => exact ⟨i + 1, by omega, by go_num, HOW.out, hb4⟩
        case measure => simp [intOf]; omega
  · have e : i = n := by omega
    subst e
    go_wp2_with fail
    go_ret
    exact ⟨_, rfl, HO.out, HBL.out⟩
end Go.Proofs.YtamiichlbmllcabGreatDoor
