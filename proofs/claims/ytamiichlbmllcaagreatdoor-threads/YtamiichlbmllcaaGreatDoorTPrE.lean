import Derived.Test.YtamiichlbmllcaaGreatDoorTPrBa
import Derived.Test.YtamiichlbmllcaaGreatDoorTPrBb
import Derived.Test.YtamiichlbmllcaaGreatDoorTPrBc
import Derived.Test.YtamiichlbmllcaaGreatDoorTMthC
/-
  (proof.route).step and (proof.route).pass of a prover.
-/
namespace Go.Proofs.YtamiichlbmllcaaGreatDoor
open Go.RowKit
theorem takes_pv (n m : Nat) (hm : m < n) (V pb pc mb sb kb cb hb : Nat) (back : Nat → Bool) (v : PS) (come : Option St) (hsh : sb ≠ hb) (hVM : V ∉ [sb, hb]) (hkM : kb ∉ [sb, hb]) (hcM : cb ∉ [sb, hb]) (w : World) (hV : At w V (prC pb pc mb sb kb cb hb n) 137) (hS : At w sb (plsA n v.W) 174) (hK : At w kb (bosA n back) 4) (hC : At w cb (intA n v.cnt) 3) (hH : At w hb (bosA n v.chg) 4) (hok : OkO come) (hcb : back m = true → v.cnt m ≤ 20) :
    Calls Tryz.prog 155 #[.pointer (some ⟨V, 0, none⟩), .int .i64 m, .agg (plC come.isSome (stO come))] w fun e w' => e = .returned (.bool true) ∧ TakeP n sb hb (takesP back v m come) w w' := by
  unfold takesP widerP
  cases hb1 : back m with
  | false =>
    rw [Bool.false_and]
    cases hl : liesO come (v.W m) with
    | true => exact takes_pv2 n m hm V pb pc mb sb kb cb hb back v come hsh hVM hkM w hV hS hK hH hb1 (by rw [place_join hok, hl])
    | false => exact takes_pv1 n m hm V pb pc mb sb kb cb hb back v come hsh hVM hkM w hV hS hK hH hb1 (by rw [place_join hok, hl])
  | true =>
    rw [Bool.true_and]
    have hw : wrap64 (v.cnt m : Int) = (v.cnt m : Int) := wrap_id (by have := hcb hb1; unfold I64; omega)
    by_cases hc : 3 ≤ v.cnt m
    · have hcn : decide ((3 : Int) ≤ wrap64 (v.cnt m : Int)) = true := by rw [decide_eq_true_eq, hw]; omega
      rw [decide_eq_true hc]
      cases hl : liesO come (v.W m) with
      | true => exact takes_pv6 n m hm V pb pc mb sb kb cb hb back v come hsh hVM hkM hcM w hV hS hK hC hH hb1 hcn (by rw [place_str hok, hl])
      | false => exact takes_pv5 n m hm V pb pc mb sb kb cb hb back v come hsh hVM hkM hcM w hV hS hK hC hH hb1 hcn (by rw [place_str hok, hl])
    · have hcn : decide ((3 : Int) ≤ wrap64 (v.cnt m : Int)) = false := by rw [decide_eq_false_iff_not, hw]; omega
      rw [decide_eq_false hc]
      cases hl : liesO come (v.W m) with
      | true => exact takes_pv4 n m hm V pb pc mb sb kb cb hb back v come hsh hVM hkM hcM w hV hS hK hC hH hb1 hcn (by rw [place_join hok, hl])
      | false => exact takes_pv3 n m hm V pb pc mb sb kb cb hb back v come hsh hVM hkM hcM w hV hS hK hC hH hb1 hcn (by rw [place_join hok, hl])
set_option maxHeartbeats 1600000 in
theorem danger_pv (V : Nat) (m : Int) (s : St) (w : World) : Calls Tryz.prog 154 #[.pointer (some ⟨V, 0, none⟩), .int .i64 m, .agg (stC s)] w fun e w' => e = .returned (.int .i64 0) ∧ Below w.heap.size w w' := by
  have hk := Kn.nil [] w
  go_enter Tryz.func154, Tryz.ntmps154
  go_wp2_with (first | ((with_reducible show wpList _ _ _ _ _ _); (first | (refine wS hk ?_; simp only [Act.put, pw]) | (refine wN hk ?_; clear hk; intro w1 hk; simp only [Act.put, pw]) | (refine wT hk ?_; clear hk; intro w1 hk; simp only [Act.put]))))
  go_ret
  exact ⟨rfl, hk.mod.below⟩
theorem mTakesP (a : Option Addr) (w : World) : (method 367 132 (.pointer a) "surety/proof.takes").run Tryz.prog w = .ok (155, .pointer a) w := by kernel_rfl
theorem mDangerP (a : Option Addr) (w : World) : (method 367 132 (.pointer a) "surety/proof.danger").run Tryz.prog w = .ok (154, .pointer a) w := by kernel_rfl
theorem cTakesP (args : Array Value) (w : World) : (callFunc 155 args).run Tryz.prog w = .ok (.enter 155 args) w := by kernel_rfl
theorem cDangerP (args : Array Value) (w : World) : (callFunc 154 args).run Tryz.prog w = .ok (.enter 154 args) w := by kernel_rfl
theorem Kn.callM {w0 w w' : World} {sb hb : Nat} {A A' B B' : Array Value} {s t : TypeId} {Lo : RowL} (h : Kn [sb, hb] w0 w (Lo ++ [(sb, A, s), (hb, B, t)])) (hm : Mod [sb, hb] w w') (h1 : At w' sb A' s) (h2 : At w' hb B' t) : Kn [sb, hb] w0 w' (Lo ++ [(sb, A', s), (hb, B', t)]) := by
  refine ⟨h.mod.trans hm, fun x hx => ?_, ?_⟩
  · rcases List.mem_append.1 hx with hx | hx
    · have hx' : x ∈ Lo ++ [(sb, A, s), (hb, B, t)] := List.mem_append_left _ hx
      have hd := List.pairwise_append.1 h.dis
      have n1 := hd.2.2 x hx (sb, A, s) (by simp)
      have n2 := hd.2.2 x hx (hb, B, t) (by simp)
      have hat := (h.has x hx').1
      refine ⟨?_, (h.has x hx').2⟩
      unfold At at hat ⊢
      rw [hm.block x.1 (lt_of_block hat) (by simp only [List.mem_cons, List.not_mem_nil, or_false]; rintro (e | e); exact n1 e; exact n2 e), hat]
    · simp only [List.mem_cons, List.not_mem_nil, or_false] at hx
      rcases hx with rfl | rfl
      · exact ⟨h1, Or.inr (by simp)⟩
      · exact ⟨h2, Or.inr (by simp)⟩
  · exact pw_keys (by simp) h.dis
/-- the blocks that a prover's pass goes over -/
structure ProvB (l : List I5) (V pb pc mb sb kb cb hb : Nat) (cnt : Nat → Nat) (w : World) : Prop where
  prog : ProgC w pb iVal l
  marks : At w mb (bosA l.length (markB l)) 4
  self : At w V (prC pb pc mb sb kb cb hb l.length) 137
  backs : At w kb (bosA l.length (backB l)) 4
  cnts : At w cb (intA l.length cnt) 3
  nsh : sb ≠ hb
  nP : pb ∉ [sb, hb]
  nM : mb ∉ [sb, hb]
  nV : V ∉ [sb, hb]
  nK : kb ∉ [sb, hb]
  nC : cb ∉ [sb, hb]
theorem At.mod {w w' : World} {b : Nat} {A : Array Value} {t : TypeId} {M : List Nat} (h : At w b A t) (hm : Mod M w w') (hb : b ∉ M) : At w' b A t := by
  unfold At at *; rw [hm.block b (lt_of_block h) hb, h]
theorem ProvB.mod {l : List I5} {V pb pc mb sb kb cb hb : Nat} {cnt : Nat → Nat} {w w' : World} (h : ProvB l V pb pc mb sb kb cb hb cnt w) (hm : Mod [sb, hb] w w') : ProvB l V pb pc mb sb kb cb hb cnt w' :=
  ⟨h.prog.mod hm h.nP, h.marks.mod hm h.nM, h.self.mod hm h.nV, h.backs.mod hm h.nK, h.cnts.mod hm h.nC, h.nsh, h.nP, h.nM, h.nV, h.nK, h.nC⟩
end Go.Proofs.YtamiichlbmllcaaGreatDoor
/-
  How often a mark that some jump goes back to may be changed.
-/
namespace Go.Proofs.YtamiichlbmllcaaGreatDoor
open Go.RowKit
theorem takesP_cnt (back : Nat → Bool) (v : PS) (m : Nat) (come : Option St) : (takesP back v m come).cnt = v.cnt := by unfold takesP; split <;> rfl
theorem takesP_ok {back : Nat → Bool} {v : PS} {m : Nat} {come : Option St} (hv : ∀ k, OkO (v.W k)) (hc : OkO come) : ∀ k, OkO ((takesP back v m come).W k) := by
  intro k
  unfold takesP
  split
  · exact hv k
  · show OkO (if k = m then widerP back v m come else v.W k)
    split
    · exact wider_ok (hv m) hc
    · exact hv k
theorem stepP_ok {l : List I5} (hl : AllFit l) (h64 : ∀ i, i < l.length → I64 (insAt l i).k) {v : PS} {m : Nat} (hm : m < l.length) {come : Option St} (hc : OkO come) (hW : ∀ k, OkO (v.W k)) : OkO (stepP l m come v).2 ∧ (∀ k, OkO ((stepP l m come v).1.W k)) ∧ (stepP l m come v).1.cnt = v.cnt := by
  unfold stepP
  have h1 : ∀ k, OkO ((if markB l m = true then takesP (backB l) v m come else v).W k) := by
    split
    · exact takesP_ok hW hc
    · exact hW
  have h2 : OkO (if markB l m = true then (takesP (backB l) v m come).W m else come) := by
    split
    · exact takesP_ok hW hc m
    · exact hc
  have h3 : (if markB l m = true then takesP (backB l) v m come else v).cnt = v.cnt := by
    split
    · exact takesP_cnt _ _ _ _
    · rfl
  revert h2
  generalize (if markB l m = true then (takesP (backB l) v m come).W m else come) = here
  intro h2
  cases here with
  | none => exact ⟨fun t ht => (by cases ht), h1, h3⟩
  | some s =>
    have hs := h2 s rfl
    refine ⟨fun t ht => flowOn_keeps (hl.regs hm) (h64 m hm) hs.1 hs.2 ht, ?_, ?_⟩
    · simp only
      split
      · exact takesP_ok h1 fun t ht => flowFar_keeps (hl.regs hm) hs.1 hs.2 ht
      · exact h1
    · simp only
      split
      · rw [takesP_cnt]; exact h3
      · exact h3
/-- how many ends of a range are not as far off as can be -/
def nbR (r : R2) : Nat := (if r.lo = -9223372036854775808 then 0 else 1) + (if r.hi = 9223372036854775807 then 0 else 1)
def nbS (s : St) : Nat := nbR (s 0) + nbR (s 1) + nbR (s 2) + nbR (s 3) + nbR (s 4) + nbR (s 5) + nbR (s 6) + nbR (s 7)
def nbO : Option St → Nat
  | none => 17
  | some s => nbS s
theorem nbR_le (r : R2) : nbR r ≤ 2 := by unfold nbR; split <;> split <;> omega
theorem nbS_le (s : St) : nbS s ≤ 16 := by
  have h := fun j => nbR_le (s j)
  have := h 0; have := h 1; have := h 2; have := h 3; have := h 4; have := h 5; have := h 6; have := h 7
  unfold nbS; omega
theorem nb_join {r o : R2} (hr : r.in64) (ho : o.in64) : nbR (joinR r o) ≤ nbR r := by
  unfold R2.in64 I64 at hr ho
  unfold nbR joinR
  simp only
  split <;> split <;> split <;> split <;> omega
theorem nb_str {r o : R2} : nbR (stretchR r o) ≤ nbR r := by
  unfold nbR stretchR
  simp only
  repeat' split
  all_goals omega
theorem nb_str_lt {r o : R2} (hr : r.in64) (ho : o.in64) (h : ¬ o.sub r) : nbR (stretchR r o) < nbR r := by
  unfold R2.in64 I64 at hr ho
  unfold R2.sub at h
  unfold nbR stretchR
  simp only
  repeat' split
  all_goals omega
theorem nbS_mono {s t : St} (h : ∀ j, j < 8 → nbR (s j) ≤ nbR (t j)) : nbS s ≤ nbS t := by
  have := h 0 (by omega); have := h 1 (by omega); have := h 2 (by omega); have := h 3 (by omega)
  have := h 4 (by omega); have := h 5 (by omega); have := h 6 (by omega); have := h 7 (by omega)
  unfold nbS; omega
theorem nbS_lt {s t : St} (h : ∀ j, j < 8 → nbR (s j) ≤ nbR (t j)) {i : Nat} (hi : i < 8) (hl : nbR (s i) < nbR (t i)) : nbS s < nbS t := by
  have := h 0 (by omega); have := h 1 (by omega); have := h 2 (by omega); have := h 3 (by omega)
  have := h 4 (by omega); have := h 5 (by omega); have := h 6 (by omega); have := h 7 (by omega)
  have e : i = 0 ∨ i = 1 ∨ i = 2 ∨ i = 3 ∨ i = 4 ∨ i = 5 ∨ i = 6 ∨ i = 7 := by omega
  unfold nbS
  rcases e with rfl | rfl | rfl | rfl | rfl | rfl | rfl | rfl <;> omega
theorem nbO_le (x : Option St) : nbO x ≤ 17 := by
  cases x with
  | none => exact Nat.le_refl _
  | some s => exact Nat.le_succ_of_le (nbS_le s)
theorem nbO_join {x y : Option St} (hx : OkO x) (hy : OkO y) : nbO (joinO joinR x y) ≤ nbO x := by
  cases x with
  | none => exact nbO_le _
  | some s => cases y with
    | none => exact Nat.le_refl _
    | some t =>
      show nbS (fun j => joinR (s j) (t j)) ≤ nbS s
      exact nbS_mono fun j hj => nb_join ((hx s rfl).2 j hj) ((hy t rfl).2 j hj)
theorem nbO_str {x y : Option St} : nbO (joinO stretchR x y) ≤ nbO x := by
  cases x with
  | none => exact nbO_le _
  | some s => cases y with
    | none => exact Nat.le_refl _
    | some t =>
      show nbS (fun j => stretchR (s j) (t j)) ≤ nbS s
      exact nbS_mono fun j _ => nb_str
theorem nbO_str_lt {x y : Option St} (hx : OkO x) (hy : OkO y) (h : liesO y x = false) : nbO (joinO stretchR x y) < nbO x := by
  cases y with
  | none => cases h
  | some t => cases x with
    | none => exact Nat.lt_succ_of_le (nbS_le t)
    | some s =>
      have h' : ¬ liesR t s = true := by rw [show liesR t s = false from h]; simp
      rw [lies_iff] at h'
      have : ∃ i, i < 8 ∧ ¬ (t i).sub (s i) := by
        apply Classical.byContradiction
        intro hn
        exact h' fun j hj => Classical.byContradiction fun hs => hn ⟨j, hj, hs⟩
      obtain ⟨i, hi, hns⟩ := this
      show nbS (fun j => stretchR (s j) (t j)) < nbS s
      exact nbS_lt (fun j _ => nb_str) hi (nb_str_lt ((hx s rfl).2 i hi) ((hy t rfl).2 i hi) hns)
/-- of each mark that some jump goes back to: changed so often, so many ends are left -/
def CB (back : Nat → Bool) (v : PS) : Prop := ∀ m, back m = true → (v.cnt m + (v.chg m).toNat ≤ 3 ∨ v.cnt m + (v.chg m).toNat + nbO (v.W m) ≤ 20)
theorem CB.le {back : Nat → Bool} {v : PS} (h : CB back v) {m : Nat} (hm : back m = true) : v.cnt m ≤ 20 := by
  rcases h m hm with h | h <;> omega
theorem takes_cb {back : Nat → Bool} {v : PS} {m : Nat} {come : Option St} (h : CB back v) (hv : ∀ k, OkO (v.W k)) (hc : OkO come) : CB back (takesP back v m come) := by
  intro j hj
  unfold takesP
  by_cases hl : liesO come (v.W m) = true
  · rw [if_pos hl]; exact h j hj
  · rw [if_neg hl]
    have hl' : liesO come (v.W m) = false := by simpa using hl
    simp only
    by_cases e : j = m
    · subst e
      rw [if_pos rfl, if_pos rfl]
      have hb := h j hj
      have hle := nbO_le (v.W j)
      unfold widerP
      by_cases h3 : 3 ≤ v.cnt j
      · rw [hj, decide_eq_true h3]
        simp only [Bool.and_self, if_true, Bool.toNat_true]
        have hlt := nbO_str_lt (hv j) hc hl'
        cases hcg : v.chg j with
        | true => rw [hcg] at hb; simp only [Bool.toNat_true] at hb; omega
        | false => rw [hcg] at hb; simp only [Bool.toNat_false] at hb; omega
      · rw [decide_eq_false h3]
        simp only [Bool.and_false, Bool.false_eq_true, if_false, Bool.toNat_true]
        omega
    · rw [if_neg e, if_neg e]; exact h j hj
theorem stepP_cb {l : List I5} (hl : AllFit l) {v : PS} {m : Nat} (hm : m < l.length) {come : Option St} (hc : OkO come) (hW : ∀ k, OkO (v.W k)) (h : CB (backB l) v) : CB (backB l) (stepP l m come v).1 := by
  unfold stepP
  have h1 : ∀ k, OkO ((if markB l m = true then takesP (backB l) v m come else v).W k) := by
    split
    · exact takesP_ok hW hc
    · exact hW
  have h2 : OkO (if markB l m = true then (takesP (backB l) v m come).W m else come) := by
    split
    · exact takesP_ok hW hc m
    · exact hc
  have h3 : CB (backB l) (if markB l m = true then takesP (backB l) v m come else v) := by
    split
    · exact takes_cb h hW hc
    · exact h
  revert h2
  generalize (if markB l m = true then (takesP (backB l) v m come).W m else come) = here
  intro h2
  cases here with
  | none => exact h3
  | some s =>
    have hs := h2 s rfl
    simp only
    split
    · exact takes_cb h3 h1 fun t ht => flowFar_keeps (hl.regs hm) hs.1 hs.2 ht
    · exact h3
theorem passP_cb {l : List I5} (hl : AllFit l) (h64 : ∀ i, i < l.length → I64 (insAt l i).k) : ∀ (k n : Nat) (come : Option St) (v : PS), n + k = l.length → OkO come → (∀ k, OkO (v.W k)) → CB (backB l) v → CB (backB l) (passP l k n come v) ∧ (∀ j, OkO ((passP l k n come v).W j)) ∧ (passP l k n come v).cnt = v.cnt
  | 0, _, _, _, _, _, hW, h => ⟨h, hW, rfl⟩
  | k + 1, n, come, v, hn, hc, hW, h => by
    have ho := stepP_ok hl h64 (show n < l.length by omega) hc hW
    have := passP_cb hl h64 k (n + 1) _ _ (by omega) ho.1 ho.2.1 (stepP_cb hl (show n < l.length by omega) hc hW h)
    exact ⟨this.1, this.2.1, this.2.2.trans ho.2.2⟩
theorem count_cb {back : Nat → Bool} {v : PS} (h : CB back v) : CB back (countP v) := by
  intro m hm
  have := h m hm
  unfold countP
  simp only [Bool.toNat_false, Nat.add_zero]
  cases hc : v.chg m with
  | true => rw [hc] at this; simpa using this
  | false => rw [hc] at this; simpa using this
end Go.Proofs.YtamiichlbmllcaaGreatDoor
/-
  (proof.route).step of a prover.
-/
namespace Go.Proofs.YtamiichlbmllcaaGreatDoor
open Go.RowKit
def stepH (l : List I5) (m : Nat) (v1 : PS) (here : Option St) : PS × Option St := match here with
  | none => (v1, none)
  | some s => (if 9 ≤ (insAt l m).o then takesP (backB l) v1 (insAt l m).k.toNat (flowFar (insAt l m) s) else v1, flowOn (insAt l m) s)
set_option maxHeartbeats 16000000 in
set_option maxRecDepth 100000 in
theorem step_pv (l : List I5) (hl : AllFit l) (V pb pc mb sb kb cb hb : Nat) (v : PS) (m : Nat) (hm : m < l.length) (come : Option St) (hcome : OkO come) (hW : ∀ k, OkO (v.W k)) (hcb : ∀ k, backB l k = true → v.cnt k ≤ 20) (w : World) (hB : ProvB l V pb pc mb sb kb cb hb v.cnt w) (hS : At w sb (plsA l.length v.W) 174) (hH : At w hb (bosA l.length v.chg) 4) :
    Calls Tryz.prog 103 #[.agg (rtC pb pc mb sb l.length), .int .i64 m, .agg (plC come.isSome (stO come)), .iface 132 (.pointer (some ⟨V, 0, none⟩))] w fun e w' => e = .returned (.tuple #[.agg (plC (stepP l m come v).2.isSome (stO (stepP l m come v).2)), .int .i64 0]) ∧ TakeP l.length sb hb (stepP l m come v).1 w w' := by
  have hk := Kn.two hS hH hB.nsh
  have q1 := mTakesP
  have q2 := mDangerP
  have q3 := cTakesP
  have q4 := cDangerP
  have HL := hide hl
  have HB := hide hB
  have HC := hide hcome
  have HCB := hide hcb
  have hM := hB.marks
  have hMM := hB.nM
  obtain ⟨v1, hv1⟩ : ∃ v1, (if markB l m then takesP (backB l) v m come else v) = v1 := ⟨_, rfl⟩
  obtain ⟨here, hh⟩ : ∃ here, (if markB l m then v1.W m else come) = here := ⟨_, rfl⟩
  have HCN : Hid (v1.cnt = v.cnt) := hide (by rw [← hv1]; split; exact takesP_cnt _ _ _ _; rfl)
  have HOK : Hid (OkO here) := hide (by
    rw [← hh, ← hv1]
    split
    · exact takesP_ok hW hcome m
    · exact hcome)
  have HSP : Hid (stepP l m come v = stepH l m v1 here) := hide (by
    rw [← hh, ← hv1]
    unfold stepP stepH
    cases markB l m <;> rfl)
  have HV1 := hide hv1
  have HH := hide hh
  clear hv1 hh hl hcome hW hB hS hH hcb
  go_enter Tryz.func103, Tryz.ntmps103
  go_upto_if 21 with (first | ((with_reducible show wpList _ _ _ (⟨some 4, _, _, _, _, _⟩ :: _) _ _); refine wBox hk ?_; clear hk; intro wa hk; simp only [Act.put, pw]) | ((with_reducible show wpList _ _ _ (⟨some 6, _, _, _, _, _⟩ :: _) _ _); refine wBox hk ?_; clear hk; intro wb hk; simp only [Act.put, pw]) | ((with_reducible show wpList _ _ _ (⟨some 8, _, _, _, _, _⟩ :: _) _ _); refine wAllocR hk ?_; clear hk; intro wd hk; simp only [Act.put, pw]) | ((with_reducible show wpList _ _ _ _ _ _); (first | (refine wS hk ?_; simp only [Act.put, pw]) | (refine wN hk ?_; clear hk; intro w1 hk; simp only [Act.put, pw]) | (refine wT hk ?_; clear hk; intro w1 hk; simp only [Act.put]))))
  go_cut [8] (fun u8 wc => u8 = .pointer (some ⟨wb.heap.size, 0, none⟩) ∧ Kn [sb, hb] w wc [(wd.heap.size, plC here.isSome (stO here), 174), (wb.heap.size, plC false zeroS, 174), (wa.heap.size, plC come.isSome (stO come), 174), (w.heap.size, rtC pb pc mb sb l.length, 119), (sb, plsA l.length v1.W, 174), (hb, bosA l.length v1.chg, 4)])
  case first =>
    cases hmk : markB l m with
    | false =>
      have e1 : v1 = v := by rw [← HV1.out, hmk]; rfl
      have e2 : here = come := by rw [← HH.out, hmk]; rfl
      subst e1 e2
      go_wp2_with (first | ((with_reducible show wpList _ _ _ _ _ _); (first | (refine wS hk ?_; simp only [Act.put, pw]) | (refine wN hk ?_; clear hk; intro w1 hk; simp only [Act.put, pw]) | (refine wT hk ?_; clear hk; intro w1 hk; simp only [Act.put]))))
      go_meet
      case rel => exact ⟨rfl, hk⟩
    | true =>
      have e1 : takesP (backB l) v m come = v1 := by rw [← HV1.out, hmk]; rfl
      have e2 : v1.W m = here := by rw [← HH.out, hmk]; rfl
      subst e2
      have HE1 := hide e1
      clear e1
      go_wp2_with (first | (go_at_call 155; refine (takes_pv l.length m hm V pb pc mb sb kb cb hb (backB l) v come HB.out.nsh HB.out.nV HB.out.nK HB.out.nC _ (HB.out.mod hk.mod).self (hk.at (by with_reducible repeat (first | exact List.mem_cons_self | apply List.mem_cons_of_mem))) (HB.out.mod hk.mod).backs (HB.out.mod hk.mod).cnts (hk.at (by with_reducible repeat (first | exact List.mem_cons_self | apply List.mem_cons_of_mem))) HC.out (HCB.out m)).mono ?_; rintro e w1 ⟨rfl, hT1, hT2, hT3⟩; replace hk := Kn.callM (Lo := [_, _, _, _]) hk hT1 hT2 hT3; simp only [List.cons_append, List.nil_append] at hk; clear hT1 hT2 hT3); rw [HE1.out] at hk | ((with_reducible show wpList _ _ _ _ _ _); (first | (refine wS hk ?_; simp only [Act.put, pw]) | (refine wN hk ?_; clear hk; intro w1 hk; simp only [Act.put, pw]) | (refine wT hk ?_; clear hk; intro w1 hk; simp only [Act.put]))))
      go_meet
      case rel => exact ⟨rfl, hk⟩
  case rest =>
    clear hk HV1 HH
    obtain ⟨rfl, hk⟩ := hcut
    cases here with
    | none =>
      have HST : Hid (stepP l m come v = (v1, none)) := hide HSP.out
      clear HSP
      go_wp2_with (first | ((with_reducible show wpList _ _ _ _ _ _); (first | (refine wS hk ?_; simp only [Act.put, pw]) | (refine wN hk ?_; clear hk; intro w1 hk; simp only [Act.put, pw]) | (refine wT hk ?_; clear hk; intro w1 hk; simp only [Act.put]))))
      exact post_c1 rfl (by rfl) (hk.at (by with_reducible repeat (first | exact List.mem_cons_self | apply List.mem_cons_of_mem))) (rowT_of (by rfl)) (by rfl) (by rfl) rfl ⟨by rw [HST.out]; rfl, by rw [HST.out]; exact ⟨hk.mod, hk.at (by with_reducible repeat (first | exact List.mem_cons_self | apply List.mem_cons_of_mem)), hk.at (by with_reducible repeat (first | exact List.mem_cons_self | apply List.mem_cons_of_mem))⟩⟩
    | some s =>
      have HSO := hide (HOK.out s rfl)
      have HFO : Hid (OkO (flowFar (insAt l m) s)) := hide fun t ht => flowFar_keeps (HL.out.regs hm) HSO.out.1 HSO.out.2 ht
      cases hj : jumpsB (insAt l m) with
      | false =>
        have HST : Hid (stepP l m come v = (v1, flowOn (insAt l m) s)) := hide (by rw [HSP.out]; unfold stepH; simp only; unfold jumpsB at hj; rw [if_neg (by simpa using hj)])
        clear HSP
        go_wp2_with (first | (first | (go_at_call 154; refine (danger_pv _ _ _ _).mono ?_; rintro e w1 ⟨rfl, hb⟩; replace hk := hk.call hb; clear hb) | (go_at_call 119; refine (flow_c (insAt l m) l.length (HL.out.fit hm) _ _ _ _ hm s HSO.out.1 HSO.out.2 _ ((HB.out.mod hk.mod).prog m hm)).mono ?_; rintro e w1 ⟨rfl, hb⟩; replace hk := hk.call hb; clear hb) | (go_at_call 101; refine (target_any (insAt l m) _ (HL.out.fit hm) _ _ _ _ hm _ ((HB.out.mod hk.mod).prog m hm)).mono ?_; rintro e w1 ⟨rfl, hb⟩; replace hk := hk.call hb; clear hb; rw [hj])) | ((with_reducible show wpList _ _ _ _ _ _); (first | (refine wS hk ?_; simp only [Act.put, pw]) | (refine wN hk ?_; clear hk; intro w1 hk; simp only [Act.put, pw]) | (refine wT hk ?_; clear hk; intro w1 hk; simp only [Act.put]))))
        exact post_c1 rfl (by rfl) (hk.at (by with_reducible repeat (first | exact List.mem_cons_self | apply List.mem_cons_of_mem))) (rowT_of (by rfl)) (by rfl) (by rfl) rfl ⟨by rw [HST.out]; rfl, by rw [HST.out]; exact ⟨hk.mod, hk.at (by with_reducible repeat (first | exact List.mem_cons_self | apply List.mem_cons_of_mem)), hk.at (by with_reducible repeat (first | exact List.mem_cons_self | apply List.mem_cons_of_mem))⟩⟩
      | true =>
        obtain ⟨k, hk1, hk2⟩ := HL.out.targ hm hj
        have hkk : (insAt l m).k.toNat = k := by
          unfold jumpsB at hj
          unfold targI at hk1
          rw [if_pos (by simpa using hj)] at hk1
          omega
        have HST : Hid (stepP l m come v = (takesP (backB l) v1 k (flowFar (insAt l m) s), flowOn (insAt l m) s)) := hide (by rw [HSP.out]; unfold stepH; simp only; unfold jumpsB at hj; rw [if_pos (by simpa using hj), hkk])
        clear HSP
        go_wp2_with (first | (first | (go_at_call 154; refine (danger_pv _ _ _ _).mono ?_; rintro e w1 ⟨rfl, hb⟩; replace hk := hk.call hb; clear hb) | (go_at_call 119; refine (flow_c (insAt l m) l.length (HL.out.fit hm) _ _ _ _ hm s HSO.out.1 HSO.out.2 _ ((HB.out.mod hk.mod).prog m hm)).mono ?_; rintro e w1 ⟨rfl, hb⟩; replace hk := hk.call hb; clear hb) | (go_at_call 101; refine (target_any (insAt l m) _ (HL.out.fit hm) _ _ _ _ hm _ ((HB.out.mod hk.mod).prog m hm)).mono ?_; rintro e w1 ⟨rfl, hb⟩; replace hk := hk.call hb; clear hb; rw [hj, hk1]) | (go_at_call 155; refine (takes_pv l.length k hk2 V pb pc mb sb kb cb hb (backB l) v1 (flowFar (insAt l m) s) HB.out.nsh HB.out.nV HB.out.nK HB.out.nC _ (HB.out.mod hk.mod).self (hk.at (by with_reducible repeat (first | exact List.mem_cons_self | apply List.mem_cons_of_mem))) (HB.out.mod hk.mod).backs (by rw [HCN.out]; exact (HB.out.mod hk.mod).cnts) (hk.at (by with_reducible repeat (first | exact List.mem_cons_self | apply List.mem_cons_of_mem))) HFO.out (by rw [HCN.out]; exact HCB.out k)).mono ?_; rintro e w1 ⟨rfl, hT1, hT2, hT3⟩; replace hk := Kn.callM (Lo := [_, _, _, _, _, _]) hk hT1 hT2 hT3; simp only [List.cons_append, List.nil_append] at hk; clear hT1 hT2 hT3)) | ((with_reducible show wpList _ _ _ _ _ _); (first | (refine wS hk ?_; simp only [Act.put, pw]) | (refine wN hk ?_; clear hk; intro w1 hk; simp only [Act.put, pw]) | (refine wT hk ?_; clear hk; intro w1 hk; simp only [Act.put]))))
        exact post_c1 rfl (by rfl) (hk.at (by with_reducible repeat (first | exact List.mem_cons_self | apply List.mem_cons_of_mem))) (rowT_of (by rfl)) (by rfl) (by rfl) rfl ⟨by rw [HST.out]; rfl, by rw [HST.out]; exact ⟨hk.mod, hk.at (by with_reducible repeat (first | exact List.mem_cons_self | apply List.mem_cons_of_mem)), hk.at (by with_reducible repeat (first | exact List.mem_cons_self | apply List.mem_cons_of_mem))⟩⟩
end Go.Proofs.YtamiichlbmllcaaGreatDoor
/-
  (proof.route).pass of a prover; (*proof.prover).count; slices.Contains.
-/
namespace Go.Proofs.YtamiichlbmllcaaGreatDoor
open Go.RowKit
set_option maxHeartbeats 8000000 in
set_option maxRecDepth 100000 in
theorem pass_pv (l : List I5) (hl : AllFit l) (h64 : ∀ i, i < l.length → I64 (insAt l i).k) (V pb pc mb sb kb cb hb : Nat) (v : PS) (e : St) (he : e.ok ∧ e.in64) (hW : ∀ k, OkO (v.W k)) (hcb : ∀ k, backB l k = true → v.cnt k ≤ 20) (w : World) (hB : ProvB l V pb pc mb sb kb cb hb v.cnt w) (hS : At w sb (plsA l.length v.W) 174) (hH : At w hb (bosA l.length v.chg) 4) :
    Calls Tryz.prog 66 #[.agg (rtC pb pc mb sb l.length), .agg (stC e), .iface 132 (.pointer (some ⟨V, 0, none⟩))] w fun x w' => (∃ a b : Int, x = .returned (.tuple #[.int .i64 a, .int .i64 b])) ∧ TakeP l.length sb hb (passP l l.length 0 (some e) v) w w' := by
  have hk := Kn.two hS hH hB.nsh
  have HL := hide hl
  have HB := hide hB
  have H64 := hide h64
  have hL : l.length ≤ 64 := hl.2.1
  have HE0 : Hid (OkO (some e)) := hide fun t ht => by cases ht; exact he
  have HW0 := hide hW
  have HCB := hide hcb
  clear hB hS hH h64 hW hcb
  go_enter Tryz.func66, Tryz.ntmps66
  go_wp2_with (first | ((with_reducible show wpList _ _ _ (⟨some 3, _, _, _, _, _⟩ :: _) _ _); refine wBox hk ?_; clear hk; intro wa hk; simp only [Act.put, pw]) | (go_at_call 102; refine (with_any _ _).mono ?_; rintro e wx ⟨rfl, hb⟩; replace hk := hk.call hb; clear hb) | ((with_reducible show wpList _ _ _ _ _ _); (first | (refine wS hk ?_; simp only [Act.put, pw]) | (refine wN hk ?_; clear hk; intro w1 hk; simp only [Act.put, pw]) | (refine wT hk ?_; clear hk; intro w1 hk; simp only [Act.put]))))
  go_loopw [17] (fun j wr => ∃ (i : Nat) (come : Option St) (v' : PS), i ≤ l.length ∧ j = .int .i64 i ∧ OkO come ∧ (∀ k, OkO (v'.W k)) ∧ v'.cnt = v.cnt ∧ passP l l.length 0 (some e) v = passP l (l.length - i) i come v' ∧ Kn [sb, hb] w wr [(wx.heap.size, plC come.isSome (stO come), 174), (wa.heap.size, stC e, 30), (w.heap.size, rtC pb pc mb sb l.length, 119), (sb, plsA l.length v'.W, 174), (hb, bosA l.length v'.chg, 4)]) (fun j _ => l.length - (intOf j).toNat)
  case atStart => exact ⟨0, some e, v, by omega, rfl, HE0.out, HW0.out, rfl, rfl, hk⟩
  case round =>
    clear hk
    obtain ⟨i, come, v', hi, rfl, hc, hW, hcn, hps, hk⟩ := hrel
    have HC := hide hc
    have HW := hide hW
    have HCN := hide hcn
    have HPS := hide hps
    clear hc hW hcn hps
    by_cases hlt : i < l.length
    · have HST := hide (stepP_ok HL.out H64.out hlt HC.out HW.out)
      have HP1 : Hid (passP l (l.length - i) i come v' = passP l (l.length - (i + 1)) (i + 1) (stepP l i come v').2 (stepP l i come v').1) := hide (by rw [show l.length - i = (l.length - (i + 1)) + 1 by omega, passP])
      go_wp2_with (first | (go_at_call 103; refine (step_pv l HL.out V pb pc mb sb kb cb hb v' i hlt come HC.out HW.out (by rw [HCN.out]; exact HCB.out) _ (by rw [HCN.out]; exact HB.out.mod hk.mod) (hk.at (by with_reducible repeat (first | exact List.mem_cons_self | apply List.mem_cons_of_mem))) (hk.at (by with_reducible repeat (first | exact List.mem_cons_self | apply List.mem_cons_of_mem)))).mono ?_; rintro e w1 ⟨rfl, hT1, hT2, hT3⟩; replace hk := Kn.callM (Lo := [_, _, _]) hk hT1 hT2 hT3; simp only [List.cons_append, List.nil_append] at hk; clear hT1 hT2 hT3) | ((with_reducible show wpList _ _ _ _ _ _); (first | (refine wS hk ?_; simp only [Act.put, pw]) | (refine wN hk ?_; clear hk; intro w1 hk; simp only [Act.put, pw]) | (refine wT hk ?_; clear hk; intro w1 hk; simp only [Act.put]))))
      go_roundw
      case rel => exact ⟨i + 1, (stepP l i come v').2, (stepP l i come v').1, by omega, by go_num, HST.out.1, HST.out.2.1, HST.out.2.2.trans HCN.out, HPS.out.trans HP1.out, hk.drop⟩
      case measure => simp [intOf]; omega
    · have e1 : i = l.length := by omega
      subst e1
      have HP2 : Hid (passP l l.length 0 (some e) v = v') := hide (by rw [HPS.out, Nat.sub_self, passP])
      cases come with
      | none =>
        go_wp2_with (first | ((with_reducible show wpList _ _ _ _ _ _); (first | (refine wS hk ?_; simp only [Act.put, pw]) | (refine wN hk ?_; clear hk; intro w1 hk; simp only [Act.put, pw]) | (refine wT hk ?_; clear hk; intro w1 hk; simp only [Act.put]))))
        go_ret2
        exact ⟨⟨_, _, rfl⟩, by rw [HP2.out]; exact ⟨hk.mod, hk.at (by with_reducible repeat (first | exact List.mem_cons_self | apply List.mem_cons_of_mem)), hk.at (by with_reducible repeat (first | exact List.mem_cons_self | apply List.mem_cons_of_mem))⟩⟩
      | some s =>
        go_wp2_with (first | ((with_reducible show wpList _ _ _ _ _ _); (first | (refine wS hk ?_; simp only [Act.put, pw]) | (refine wN hk ?_; clear hk; intro w1 hk; simp only [Act.put, pw]) | (refine wT hk ?_; clear hk; intro w1 hk; simp only [Act.put]))))
        (refine wp_regK hk (.op 0 (.op 1 (.op 3 (.op 2 (.op 4 .nil))))) (fun i => decide (i < 5)) mixT (by decide) (by kernel_rfl) (by kernel_rfl) ?_; clear hk; intro w1 hk)
        (repeat (refine sV hk ?_; simp only [Act.put, pw]))
        (refine sCall ?_; intro K hK; go_step; refine hK _ _ (fun _ => hk) ?_; clear hK K)
        (repeat (refine sV hk ?_; simp only [Act.put, pw]))
        refine tNil ?_
        go_wp2_with (first | ((with_reducible show wpList _ _ _ _ _ _); (first | (refine wS hk ?_; simp only [Act.put, pw]) | (refine wN hk ?_; clear hk; intro w1 hk; simp only [Act.put, pw]) | (refine wT hk ?_; clear hk; intro w1 hk; simp only [Act.put]))))
        go_ret2
        exact ⟨⟨_, _, rfl⟩, by rw [HP2.out]; exact ⟨hk.mod, hk.at (by with_reducible repeat (first | exact List.mem_cons_self | apply List.mem_cons_of_mem)), hk.at (by with_reducible repeat (first | exact List.mem_cons_self | apply List.mem_cons_of_mem))⟩⟩
end Go.Proofs.YtamiichlbmllcaaGreatDoor
