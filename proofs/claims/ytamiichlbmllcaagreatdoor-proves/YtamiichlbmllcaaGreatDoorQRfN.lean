import Derived.Test.YtamiichlbmllcaaGreatDoorQRfA
import Derived.Test.YtamiichlbmllcaaGreatDoorQRefA
import Derived.Test.YtamiichlbmllcaaGreatDoorQRegL
import Derived.Test.YtamiichlbmllcaaGreatDoorQMath
import Derived.Deep.CutRange
import Derived.Deep.DeepCutAuto
/-
  suretyref.first: the errors ahead of the pass.
-/
namespace Go.Proofs.YtamiichlbmllcaaGreatDoor
open Go.RowKit
set_option maxHeartbeats 4000000 in
set_option maxRecDepth 100000 in
theorem rf_first_no (l : List I5) (e : Nat → R2) (p q : Int) (hr : rightR l = (p, q)) (hp : ¬ p = 0) (v : Value) (w : World) (h : Slc w v l) : Calls Tryz.prog 58 #[v, .agg (stC e)] w fun r w' => r = .returned (.tuple #[.int .i64 p, .int .i64 q]) ∧ Below w.heap.size w w' := by
  have hk := Kn.nil [] w
  have HV := hide h
  have HR := hide hr
  clear h hr
  go_enter Tryz.func58, Tryz.ntmps58
  go_wp2_with (first | (go_at_call 78; refine (refRight_any l _ _ (HV.out.below hk.mod.below (Nat.le_refl _))).mono ?_; rintro e w1 ⟨rfl, hb⟩; replace hk := hk.call hb; clear hb; rw [HR.out]) | ((with_reducible show wpList _ _ _ _ _ _); (first | (refine wS hk ?_; simp only [Act.put, pw]) | (refine wN hk ?_; clear hk; intro w1 hk; simp only [Act.put, pw]) | (refine wT hk ?_; clear hk; intro w1 hk; simp only [Act.put]))))
  go_ret2
  exact ⟨rfl, hk.mod.below⟩
set_option maxHeartbeats 4000000 in
set_option maxRecDepth 100000 in
theorem rf_first_st (l : List I5) (e : Nat → R2) (hr : rightR l = (0, 0)) (B : Bool) (hB : isStR e = B) (v : Value) (w : World) (h : Slc w v l) : Calls Tryz.prog 58 #[v, .agg (stC e)] w fun r w' => r = .returned (.tuple #[.int .i64 (if B then 0 else 3), .int .i64 0]) ∧ Below w.heap.size w w' := by
  have hk := Kn.nil [] w
  have HV := hide h
  have HR := hide hr
  have HB := hide hB
  clear h hr hB
  cases B
  all_goals
    go_enter Tryz.func58, Tryz.ntmps58
    go_wp2_with (first | (first | (go_at_call 78; refine (refRight_any l _ _ (HV.out.below hk.mod.below (Nat.le_refl _))).mono ?_; rintro e w1 ⟨rfl, hb⟩; replace hk := hk.call hb; clear hb; rw [HR.out]) | ((go_at_call 91; refine (rf_empty _ _).mono ?_; rintro e w1 ⟨rfl, hb⟩; replace hk := hk.call hb; clear hb); rw [HB.out])) | ((with_reducible show wpList _ _ _ _ _ _); (first | (refine wS hk ?_; simp only [Act.put, pw]) | (refine wN hk ?_; clear hk; intro w1 hk; simp only [Act.put, pw]) | (refine wT hk ?_; clear hk; intro w1 hk; simp only [Act.put]))))
    go_ret2
    exact ⟨rfl, hk.mod.below⟩
end Go.Proofs.YtamiichlbmllcaaGreatDoor
/-
  Regions that draw their order, in which three operations that act come up at once.
-/
namespace Go.Proofs.YtamiichlbmllcaaGreatDoor
open Go.RowKit
/-- reading operations ahead of what branches -/
def okQ (ops : Array Oper) (F : Nat → Bool) : OT → Array Bool → Array Bool → Bool
  | .nil, listed, listed' => listed == listed'
  | .op i r, listed, listed' => (match ops[i]? with
      | some o => stillOp o && Region.free .any ops listed i && (Region.ready .any ops listed).contains i && ((List.range ops.size).all fun j => j == i || listed.getD j true || F j || match ops[j]? with
          | some oj => oj.after.any (fun e => Region.binds .any e && e.on == i)
          | none => true)
      | none => false) && okQ ops F r (listed.setIfInBounds i true) listed'
  | .either .., _, _ => false
theorem wpQ_sound {P : Program} {l : List Oper} {Q : Exit → Act → World → Prop} {F : Nat → Bool} {S : World → Prop} (hsel : Region.noSelect l.toArray = true) (m : Nat) (listed' : Array Bool) : ∀ (t : OT) (listed : Array Bool) (a : Act) (w : World), okQ l.toArray F t listed listed' = true →
    wpT P l (fun _ a w => wpAnyJ P l.toArray (NoPanic Q) F S m listed' a w) F S t a w → wpAnyJ P l.toArray (NoPanic Q) F S (m + t.size) listed a w := by
  intro t
  induction t with
  | nil =>
    intro listed a w hv h
    have : listed = listed' := by simpa [okQ] using hv
    subst this
    exact h
  | op i r ih =>
    intro listed a w hv h
    simp only [okQ, Bool.and_eq_true] at hv
    obtain ⟨hv1, hv2⟩ := hv
    have hl : l.toArray[i]? = nthO i l := by rw [nthO_eq]; simp
    rw [hl] at hv1
    obtain ⟨o, ho, h⟩ := h
    rw [ho] at hv1 hl
    simp only [Bool.and_eq_true] at hv1
    obtain ⟨⟨⟨hst, hfree⟩, hrd⟩, hall⟩ := hv1
    simp only [hst, if_true] at h
    obtain ⟨hS, v, hy, h⟩ := h
    refine wpAnyJ_first hl (Region.noSelect_spec hsel) (fun _ _ _ h => h.elim) (m + r.size) listed a w ?_ (by simpa using hrd) hy hS (ih _ _ w hv2 h)
    intro j oj hj hne hun hno
    refine ⟨Region.free_spec hl hfree j oj hj hne hun hno, ?_⟩
    rw [List.all_eq_true] at hall
    have := hall j (List.mem_range.2 (Array.getElem?_eq_some_iff.1 hj).1)
    simp only [hj, Bool.or_eq_true, beq_iff_eq, hne, false_or, hun, Bool.false_eq_true] at this
    rcases this with h1 | h1
    · exact h1
    · obtain ⟨e, he, hb⟩ := Array.any_eq_true'.1 h1
      simp only [Bool.and_eq_true, beq_iff_eq] at hb
      exact absurd hb.2 (hno e he hb.1)
  | either i j r s _ _ =>
    intro listed a w hv
    simp [okQ] at hv
theorem wpT_opS {P : Program} {l : List Oper} {Q : Exit → Act → World → Prop} {F : Nat → Bool} {S : World → Prop} {i : Nat} {r : OT} {a : Act} {w : World} {K : Act → World → Prop} (h : wpT P l Q F S (.op i r) a w) (hK : ∀ a' w', (F i = true → S w') → wpT P l Q F S r a' w' → K a' w') : wpOp P l.toArray (NoPanic Q) i K a w := by
  obtain ⟨o, ho, h⟩ := h
  have hl : l.toArray[i]? = some o := by rw [← ho, nthO_eq]; simp
  by_cases hst : stillOp o = true
  · simp only [hst, if_true] at h
    obtain ⟨hS, v, hy, h⟩ := h
    exact hy.wpOp hl hS (hK _ _ (fun _ => hS) h)
  · simp only [hst, Bool.false_eq_true, if_false] at h
    unfold wpOp
    simp only [hl]
    by_cases hw : Region.wanted o (yielded l.toArray a.tmps) = true
    · simp only [hw, if_true] at h ⊢
      exact Or.inl (Oper.wp_mono (fun a' w' h1 => hK a' w' h1.1 h1.2) h)
    · simp only [hw, Bool.false_eq_true, if_false] at h ⊢
      exact hK _ _ h.1 h.2
def Br3 (P : Program) (l : List Oper) (Q : Exit → Act → World → Prop) (F : Nat → Bool) (S : World → Prop) (i j k : Nat) (ti tj tk : OT) (a : Act) (w : World) : Prop :=
  wpT P l Q F S (.op i ti) a w ∧ wpT P l Q F S (.op j tj) a w ∧ wpT P l Q F S (.op k tk) a w
theorem wp_reg3 {P : Program} {id : Nat} {l : List Oper} {Q : Exit → Act → World → Prop} {a : Act} {w : World} {M : List Nat} {w0 : World} {L : RowL} (hk : Kn M w0 w L) (t : OT) (F : Nat → Bool) (m : Nat) (i j k : Nat) (ti tj tk : OT) (listed' : Array Bool) (hm : P.follows .mixedOrders = true) (hn : m + 1 + t.size = l.length) (hsel : Region.noSelect l.toArray = true)
    (hv : okQ l.toArray F t (Array.replicate l.length false) listed' = true) (hr : Region.ready .any l.toArray listed' = [i, j, k])
    (hi : okT l.toArray F ti (listed'.setIfInBounds i true) = true) (hj : okT l.toArray F tj (listed'.setIfInBounds j true) = true) (hk' : okT l.toArray F tk (listed'.setIfInBounds k true) = true) (hs : ti.size ≤ m ∧ tj.size ≤ m ∧ tk.size ≤ m)
    (h : ∀ w1, Kn M w0 w1 L → wpT P l (fun _ a w => Br3 P l Q F (fun wx => Kn M w0 wx L) i j k ti tj tk a w) F (fun wx => Kn M w0 wx L) t a w1) : (Code.region id l.toArray true).wp P Q a w := by
  refine wp_region_noPanic (wp_region_any hm (wpAny_ofJ (F := F) (S := fun wx => Kn M w0 wx L) _ _ _ _ ?_))
  have key : ∀ (a : Act) (w : World), Br3 P l Q F (fun wx => Kn M w0 wx L) i j k ti tj tk a w → wpAnyJ P l.toArray (NoPanic Q) F (fun wx => Kn M w0 wx L) (m + 1) listed' a w := by
    intro a w ⟨h1, h2, h3⟩
    refine ⟨fun h0 => (by rw [hr] at h0; cases h0), fun x hx => ?_⟩
    rw [hr] at hx
    simp only [List.mem_cons, List.not_mem_nil, or_false] at hx
    rcases hx with rfl | rfl | rfl
    · exact wpT_opS h1 fun a' w' hF hT => ⟨hF, wpT_sound hsel ti m _ a' w' hs.1 hi hT⟩
    · exact wpT_opS h2 fun a' w' hF hT => ⟨hF, wpT_sound hsel tj m _ a' w' hs.2.1 hj hT⟩
    · exact wpT_opS h3 fun a' w' hF hT => ⟨hF, wpT_sound hsel tk m _ a' w' hs.2.2 hk' hT⟩
  have mono : ∀ (t : OT) (a : Act) (w : World), okQ l.toArray F t (Array.replicate l.length false) listed' = true → wpT P l (fun _ a w => Br3 P l Q F (fun wx => Kn M w0 wx L) i j k ti tj tk a w) F (fun wx => Kn M w0 wx L) t a w → wpAnyJ P l.toArray (NoPanic Q) F (fun wx => Kn M w0 wx L) (m + 1 + t.size) (Array.replicate l.length false) a w := by
    intro t a w hq h
    refine wpQ_sound hsel (m + 1) listed' t _ a w hq ?_
    clear hv hn
    generalize Array.replicate l.length false = listed at hq
    induction t generalizing a w listed with
    | nil => exact key a w h
    | op x r ih =>
      simp only [okQ, Bool.and_eq_true] at hq
      have hl : l.toArray[x]? = nthO x l := by rw [nthO_eq]; simp
      obtain ⟨o, ho, h⟩ := h
      have h1 := hq.1
      rw [hl, ho] at h1
      simp only [Bool.and_eq_true] at h1
      have hst := h1.1.1.1
      simp only [hst, if_true] at h
      refine ⟨o, ho, ?_⟩
      simp only [hst, if_true]
      exact ⟨h.1, h.2.choose, h.2.choose_spec.1, ih _ _ h.2.choose_spec.2 _ hq.2⟩
    | either _ _ _ _ _ _ => simp [okQ] at hq
  have := mono t a w.drew hv (h _ hk.drew)
  rw [hn] at this
  simpa using this
theorem tSplit {P : Program} {l : List Oper} {Q : Exit → Act → World → Prop} {F : Nat → Bool} {S : World → Prop} {i j : Nat} {r s : OT} {a : Act} {w : World} {o o' : Oper} (hi : nthO i l = some o) (hj : nthO j l = some o') (hsi : stillOp o = false) (hsj : stillOp o' = false) (hwi : Region.wanted o (yielded l.toArray a.tmps) = true) (hwj : Region.wanted o' (yielded l.toArray a.tmps) = true)
    (h1 : wpT P l Q F S (.op i r) a w) (h2 : wpT P l Q F S (.op j s) a w) : wpT P l Q F S (.either i j r s) a w := by
  obtain ⟨x, hx, h1⟩ := h1
  obtain ⟨y, hy, h2⟩ := h2
  rw [hi] at hx; cases hx
  rw [hj] at hy; cases hy
  simp only [hsi, hsj, Bool.false_eq_true, if_false, hwi, hwj, if_true] at h1 h2
  exact ⟨⟨o, hi, hwi, h1⟩, o', hj, hwj, h2⟩
end Go.Proofs.YtamiichlbmllcaaGreatDoor
/-
  What the walk over suretyref.Check wants: the pass, step by step.
-/
namespace Go.Proofs.YtamiichlbmllcaaGreatDoor
open Go.RowKit
theorem InsAt.range {w : World} {b o : Nat} {i : I5} (h : InsAt w b o i) : w.rangeAt b o (i5C i).toList := fun j v hj => by
  obtain ⟨h0, h1, h2, h3, h4⟩ := h
  match j, hj with
  | 0, hj => cases hj; exact h0
  | 1, hj => cases hj; exact h1
  | 2, hj => cases hj; exact h2
  | 3, hj => cases hj; exact h3
  | 4, hj => cases hj; exact h4
  | j + 5, hj => simp [i5C] at hj
theorem way_lies {s : St} {b : Bool} {t : St} {y : Option St} (h : wayO b t = y) : liesO (some s) y = (b && liesR s t) := by
  subst h; cases b <;> rfl
theorem way_of (y : Option St) : wayO y.isSome (stO y) = y := by cases y <;> rfl
def stepX (p : List I5) (cl : Nat → Option St) (n : Nat) (x : Option St) : Int × Option St := match x with
  | none => (0, none)
  | some s => if dangR (insAt p n) s ≠ 0 then (dangR (insAt p n) s, none)
    else if decide (9 ≤ (insAt p n).o) && !liesO (flowFar (insAt p n) s) (cl (insAt p n).k.toNat) then (5, none)
    else (0, flowOn (insAt p n) s)
section
variable {p : List I5} {cl : Nat → Option St} {n k : Nat} {come x : Option St} {s : St}
theorem step_lies (h1 : markB p n = true) (h2 : liesO come (cl n) = false) : passC p cl (k + 1) n come = (5, n) := by
  have e : stepC p cl n come = (5, none) := by unfold stepC; rw [h1, h2]; rfl
  unfold passC; rw [e]; rfl
theorem stepC_x (h1 : markB p n = true → liesO come (cl n) = true) (hx : (if markB p n = true then cl n else come) = x) : stepC p cl n come = stepX p cl n x := by
  subst hx
  unfold stepC stepX
  cases hm : markB p n with
  | false => rfl
  | true => rw [h1 hm]; rfl
theorem step_none (h1 : markB p n = true → liesO come (cl n) = true) (hx : (if markB p n = true then cl n else come) = none) : passC p cl (k + 1) n come = passC p cl k (n + 1) none := by
  rw [passC, stepC_x h1 hx]; rfl
theorem step_dang (h1 : markB p n = true → liesO come (cl n) = true) (hx : (if markB p n = true then cl n else come) = some s) (hd : dangR (insAt p n) s ≠ 0) : passC p cl (k + 1) n come = (dangR (insAt p n) s, n) := by
  rw [passC, stepC_x h1 hx]; simp [stepX, hd]
theorem step_far (h1 : markB p n = true → liesO come (cl n) = true) (hx : (if markB p n = true then cl n else come) = some s) (hd : dangR (insAt p n) s = 0) (ho : 9 ≤ (insAt p n).o) (hf : liesO (flowFar (insAt p n) s) (cl (insAt p n).k.toNat) = false) : passC p cl (k + 1) n come = (5, n) := by
  rw [passC, stepC_x h1 hx]; simp [stepX, hd, ho, hf]
theorem step_on (h1 : markB p n = true → liesO come (cl n) = true) (hx : (if markB p n = true then cl n else come) = some s) (hd : dangR (insAt p n) s = 0) (hf : 9 ≤ (insAt p n).o → liesO (flowFar (insAt p n) s) (cl (insAt p n).k.toNat) = true) : passC p cl (k + 1) n come = passC p cl k (n + 1) (flowOn (insAt p n) s) := by
  rw [passC, stepC_x h1 hx]
  by_cases ho : 9 ≤ (insAt p n).o
  · simp [stepX, hd, hf ho]
  · simp [stepX, hd, ho]
end
theorem far_none {i : I5} {s : St} (h : ¬ 9 ≤ i.o) : flowFar i s = none := by
  unfold flowFar
  rw [if_neg (by omega), if_neg (by omega), if_neg (by omega)]
theorem pass_zero {p : List I5} {cl : Nat → Option St} {n : Nat} {come : Option St} : passC p cl 0 n come = if come.isSome then (8, n) else (0, 0) := rfl
/-- the far way and the claim at K -/
theorem far_find {l : List I5} (hl : AllFit l) {cl : List C2} (h0 : ∀ i, i < cl.length → 0 ≤ (clAt cl i).pl) (hp : cl.Pairwise (fun x y => x.pl < y.pl)) {n : Nat} (hn : n < l.length) {s : St} {b1 : Bool} {s1 : St} (hb : wayO b1 s1 = flowFar (insAt l n) s) {yb : Bool} {ys : St} (hy : wayO yb ys = findC cl (insAt l n).k) :
    (9 ≤ (insAt l n).o → liesO (flowFar (insAt l n) s) (layR cl (insAt l n).k.toNat) = (if b1 then (yb && liesR s1 ys) else true)) ∧ (b1 = true → 9 ≤ (insAt l n).o) := by
  constructor
  · intro h9
    have hk := hl.k hn h9
    rw [← lay_find h0 hp, show (((insAt l n).k.toNat : Nat) : Int) = (insAt l n).k by omega, ← hb]
    cases b1 with
    | false => rfl
    | true => exact way_lies hy
  · intro h1
    by_cases h9 : 9 ≤ (insAt l n).o
    · exact h9
    · rw [far_none h9, h1] at hb; cases hb
section
variable {l : List Oper} {Q : Exit → Act → World → Prop} {F : Nat → Bool} {S : World → Prop} {i : Nat} {r : OT} {a : Act} {w : World} {d : Option Tmp} {x y : Operand} {t tt : TypeId} {pos : String} {aft : Array Edge} {g : Option (Nat × Bool)}
theorem sub_run (ρ : Operand → Value) (d : Option Tmp) (x y : Operand) (tt t' : TypeId) (pos : String) (aft : Array Edge) (g : Option (Nat × Bool)) (p q : Int) (w : World) (hx : ρ x = .int .i64 p) (hy : ρ y = .int .i64 q) : (execOp ρ ⟨d, .binOp .sub 3 x y t', tt, pos, aft, g⟩).run Tryz.prog w = .ok (.value (.int .i64 (wrap64 (p - q)))) w := by
  unfold execOp; simp only [hx, hy]; simp [go_sem]; exact IntWalk.i64_left _
set_option maxRecDepth 100000 in
theorem sSub {p q m : Int} (hk : S w) (h : wpT Tryz.prog l Q F S r (a.put d (.int .i64 m)) w) (ho : nthO i l = some ⟨d, .binOp .sub 3 x y t, tt, pos, aft, g⟩ := by rfl) (hw : Region.wanted ⟨d, .binOp .sub 3 x y t, tt, pos, aft, g⟩ (yielded l.toArray a.tmps) = true := by rfl) (hx : a.eval x = .int .i64 p := by rfl) (hy : a.eval y = .int .i64 q := by rfl) (hm : wrap64 (p - q) = m := by assumption) : wpT Tryz.prog l Q F S (.op i r) a w :=
  tRun ho rfl hw hk (fun wx => (sub_run _ _ _ _ _ _ _ _ _ p q wx hx hy).trans (by rw [hm])) h
end
end Go.Proofs.YtamiichlbmllcaaGreatDoor
