import Derived.Test.YtamiichlbmllcaaGreatDoorQMthB
/-
  The mathematics of Prove: passes that widen the states of marks, till one changes nothing.
-/
namespace Go.Proofs.YtamiichlbmllcaaGreatDoor
open Go.RowKit
def joinR (r o : R2) : R2 := ⟨min r.lo o.lo, max r.hi o.hi⟩
def stretchR (r o : R2) : R2 := ⟨if min r.lo o.lo = r.lo then r.lo else -9223372036854775808, if max r.hi o.hi = r.hi then r.hi else 9223372036854775807⟩
def joinO (f : R2 → R2 → R2) (x y : Option St) : Option St := match x, y with
  | none, y => y
  | some s, none => some s
  | some s, some t => some fun j => f (s j) (t j)
def backB (p : List I5) (m : Nat) : Bool := (List.range p.length).any fun n => decide (9 ≤ (insAt p n).o) && decide ((insAt p n).k = m) && decide (m ≤ n)
/-- of each mark: its state, how many passes ahead changed it, whether this one did -/
structure PS where
  W : Nat → Option St
  cnt : Nat → Nat
  chg : Nat → Bool
def PS.zero : PS := ⟨fun _ => none, fun _ => 0, fun _ => false⟩
def widerP (back : Nat → Bool) (v : PS) (m : Nat) (come : Option St) : Option St := if back m && decide (3 ≤ v.cnt m) then joinO stretchR (v.W m) come else joinO joinR (v.W m) come
def takesP (back : Nat → Bool) (v : PS) (m : Nat) (come : Option St) : PS :=
  if liesO come (v.W m) then v else ⟨fun j => if j = m then widerP back v m come else v.W j, v.cnt, fun j => if j = m then true else v.chg j⟩
def stepP (p : List I5) (n : Nat) (come : Option St) (v : PS) : PS × Option St :=
  match (if markB p n then (takesP (backB p) v n come).W n else come) with
  | none => (if markB p n then takesP (backB p) v n come else v, none)
  | some s => (if 9 ≤ (insAt p n).o then takesP (backB p) (if markB p n then takesP (backB p) v n come else v) (insAt p n).k.toNat (flowFar (insAt p n) s) else (if markB p n then takesP (backB p) v n come else v), flowOn (insAt p n) s)
def passP (p : List I5) : Nat → Nat → Option St → PS → PS
  | 0, _, _, v => v
  | k + 1, n, come, v => passP p k (n + 1) (stepP p n come v).2 (stepP p n come v).1
def anyChg (p : List I5) (v : PS) : Bool := (List.range p.length).any v.chg
def countP (v : PS) : PS := ⟨v.W, fun m => if v.chg m then v.cnt m + 1 else v.cnt m, fun _ => false⟩
/-- passes till one changes nothing -/
inductive Settles (p : List I5) (e : St) : PS → PS → Prop
  | done (v : PS) : anyChg p (passP p p.length 0 (some e) v) = false → Settles p e v (passP p p.length 0 (some e) v)
  | more (v v' : PS) : anyChg p (passP p p.length 0 (some e) v) = true → Settles p e (countP (passP p p.length 0 (some e) v)) v' → Settles p e v v'
theorem Settles.det {p : List I5} {e : St} {v a b : PS} (h : Settles p e v a) (k : Settles p e v b) : a = b := by
  induction h with
  | done v h1 =>
    cases k with
    | done _ _ => rfl
    | more _ _ h2 _ => rw [h1] at h2; cases h2
  | more v v' h1 _ ih =>
    cases k with
    | done _ h2 => rw [h1] at h2; cases h2
    | more _ _ _ h3 => exact ih h3
/-- the claims: the marks that have a state -/
def claimsP (p : List I5) (W : Nat → Option St) : List (Int × St) := (List.range p.length).filterMap fun n => (W n).map fun s => ((n : Int), s)
theorem join_sub {r o q : R2} (h : r.sub q) (k : o.sub q) : (joinR r o).sub q := by unfold R2.sub joinR at *; simp only; omega
theorem sub_join (r o : R2) : r.sub (joinR r o) ∧ o.sub (joinR r o) := by unfold R2.sub joinR; simp only; omega
theorem sub_stretch {r o : R2} (hr : r.in64) (ho : o.in64) : r.sub (stretchR r o) ∧ o.sub (stretchR r o) := by
  unfold R2.sub stretchR; unfold R2.in64 I64 at *
  refine ⟨⟨?_, ?_⟩, ?_, ?_⟩ <;> simp only <;> split <;> omega
theorem joinO_up {f : R2 → R2 → R2} {x y : Option St} (hf : ∀ s t, x = some s → y = some t → ∀ j, j < 8 → (s j).sub (f (s j) (t j)) ∧ (t j).sub (f (s j) (t j))) : liesO x (joinO f x y) = true ∧ liesO y (joinO f x y) = true := by
  cases x with
  | none => exact ⟨rfl, liesO_refl y⟩
  | some s =>
    cases y with
    | none => exact ⟨liesO_refl _, rfl⟩
    | some t => exact ⟨lies_iff.2 fun j hj => (hf s t rfl rfl j hj).1, lies_iff.2 fun j hj => (hf s t rfl rfl j hj).2⟩
theorem joinO_least {x y z : Option St} (h : liesO x z = true) (k : liesO y z = true) : liesO (joinO joinR x y) z = true := by
  cases x with
  | none => exact k
  | some s =>
    cases y with
    | none => exact h
    | some t =>
      obtain ⟨u, rfl, h⟩ := liesO_some h
      exact lies_iff.2 fun j hj => join_sub (lies_iff.1 h j hj) (lies_iff.1 k j hj)
theorem joinO_ok {x y : Option St} (hx : OkO x) (hy : OkO y) : OkO (joinO joinR x y) := by
  cases x with
  | none => exact hy
  | some s =>
    cases y with
    | none => exact hx
    | some t =>
      obtain ⟨o1, i1⟩ := hx s rfl
      obtain ⟨o2, i2⟩ := hy t rfl
      intro u hu
      simp only [joinO, Option.some.injEq] at hu
      rw [← hu]
      refine ⟨fun j hj => ?_, fun j hj => ?_⟩
      · have := o1 j hj; show (joinR (s j) (t j)).lo ≤ (joinR (s j) (t j)).hi; unfold joinR; simp only; omega
      · have := i1 j hj; have := i2 j hj; show (joinR (s j) (t j)).in64; unfold joinR; unfold R2.in64 I64 at *; simp only; omega
theorem stretchO_ok {x y : Option St} (hx : OkO x) (hy : OkO y) : OkO (joinO stretchR x y) := by
  cases x with
  | none => exact hy
  | some s =>
    cases y with
    | none => exact hx
    | some t =>
      obtain ⟨o1, i1⟩ := hx s rfl
      intro u hu
      simp only [joinO, Option.some.injEq] at hu
      rw [← hu]
      refine ⟨fun j hj => ?_, fun j hj => ?_⟩
      · have := o1 j hj; have := i1 j hj; show (stretchR (s j) (t j)).lo ≤ (stretchR (s j) (t j)).hi; unfold stretchR; unfold R2.in64 I64 at *; simp only; split <;> split <;> omega
      · have := i1 j hj; show (stretchR (s j) (t j)).in64; unfold stretchR; unfold R2.in64 I64 at *; simp only; constructor <;> split <;> omega
theorem wider_ok {back : Nat → Bool} {v : PS} {m : Nat} {come : Option St} (hv : OkO (v.W m)) (hc : OkO come) : OkO (widerP back v m come) := by
  unfold widerP; split
  · exact stretchO_ok hv hc
  · exact joinO_ok hv hc
theorem wider_up {back : Nat → Bool} {v : PS} {m : Nat} {come : Option St} (hv : OkO (v.W m)) (hc : OkO come) : liesO (v.W m) (widerP back v m come) = true ∧ liesO come (widerP back v m come) = true := by
  unfold widerP; split
  · exact joinO_up fun s t hs ht j hj => sub_stretch ((hv s hs).2 j hj) ((hc t ht).2 j hj)
  · exact joinO_up fun s t _ _ j _ => sub_join _ _
/-- a prover's marks: they are marks, their states are states -/
structure PInv (p : List I5) (v : PS) : Prop where
  mark : ∀ m s, v.W m = some s → markB p m = true
  ok : ∀ m, OkO (v.W m)
theorem takes_inv {p : List I5} {back : Nat → Bool} {v : PS} {m : Nat} {come : Option St} (hv : PInv p v) (hm : markB p m = true) (hc : OkO come) : PInv p (takesP back v m come) := by
  unfold takesP
  split
  · exact hv
  · refine ⟨fun j s hs => ?_, fun j => ?_⟩
    · by_cases e : j = m
      · rw [e]; exact hm
      · simp only [if_neg e] at hs; exact hv.mark j s hs
    · by_cases e : j = m
      · simp only [if_pos e]; exact wider_ok (hv.ok m) hc
      · simp only [if_neg e]; exact hv.ok j
/-- instructions that may stand in the program -/
structure Fit (p : List I5) : Prop where
  regs : ∀ n, n < p.length → RegsIn (insAt p n) ∧ 0 ≤ (insAt p n).o ∧ (insAt p n).o < 12 ∧ I64 (insAt p n).k
  jump : ∀ n, n < p.length → 9 ≤ (insAt p n).o → 0 ≤ (insAt p n).k ∧ (insAt p n).k.toNat < p.length
theorem stepP_inv {p : List I5} (hp : Fit p) {n : Nat} (hn : n < p.length) {come : Option St} {v : PS} (hv : PInv p v) (hc : OkO come) : PInv p (stepP p n come v).1 ∧ OkO (stepP p n come v).2 := by
  have hr := hp.regs n hn
  have h1 : PInv p (if markB p n then takesP (backB p) v n come else v) := by
    split
    · rename_i hm; exact takes_inv hv hm hc
    · exact hv
  have hh : OkO (if markB p n then (takesP (backB p) v n come).W n else come) := by
    split
    · rename_i hm; exact (takes_inv hv hm hc).ok n
    · exact hc
  unfold stepP
  cases hs : (if markB p n then (takesP (backB p) v n come).W n else come) with
  | none => exact ⟨h1, fun s h => by cases h⟩
  | some s =>
    have hso := hh s hs
    refine ⟨?_, fun t ht => flowOn_keeps hr.1 hr.2.2.2 hso.1 hso.2 ht⟩
    simp only
    split
    · rename_i h9
      exact takes_inv h1 (markB_of hn h9 (hp.jump n hn h9).1) (fun t ht => flowFar_keeps hr.1 hso.1 hso.2 ht)
    · exact h1
theorem passP_inv {p : List I5} (hp : Fit p) : ∀ (k n : Nat) (come : Option St) (v : PS), n + k = p.length → PInv p v → OkO come → PInv p (passP p k n come v)
  | 0, _, _, _, _, hv, _ => hv
  | k + 1, n, come, v, hn, hv, hc => by
    have := stepP_inv hp (n := n) (by omega) hv hc
    exact passP_inv hp k (n + 1) _ _ (by omega) this.1 this.2
theorem count_inv {p : List I5} {v : PS} (hv : PInv p v) : PInv p (countP v) := ⟨hv.mark, hv.ok⟩
theorem zero_inv (p : List I5) : PInv p PS.zero := ⟨fun _ _ h => (by cases h), fun _ _ h => (by cases h)⟩
theorem Settles.inv {p : List I5} {e : St} (hp : Fit p) (he : e.ok ∧ e.in64) {v v' : PS} (h : Settles p e v v') (hv : PInv p v) : PInv p v' := by
  have ho : OkO (some e) := fun s hs => by simp only [Option.some.injEq] at hs; rw [← hs]; exact he
  induction h with
  | done v _ => exact passP_inv hp _ _ _ _ (by omega) hv ho
  | more v v' _ _ ih => exact ih (count_inv (passP_inv hp _ _ _ _ (by omega) hv ho))
theorem takes_at {back : Nat → Bool} {v : PS} {m : Nat} {come : Option St} (h : liesO come (v.W m) = false) : takesP back v m come = ⟨fun j => if j = m then widerP back v m come else v.W j, v.cnt, fun j => if j = m then true else v.chg j⟩ := by
  unfold takesP; rw [if_neg (by simp [h])]
theorem takes_no {back : Nat → Bool} {v : PS} {m : Nat} {come : Option St} (h : liesO come (v.W m) = true) : takesP back v m come = v := by
  unfold takesP; rw [if_pos h]
theorem takes_chg {back : Nat → Bool} {v : PS} {m j : Nat} {come : Option St} (h : (takesP back v m come).chg j = false) : v.chg j = false := by
  cases hl : liesO come (v.W m) with
  | true => rwa [takes_no hl] at h
  | false =>
    rw [takes_at hl] at h
    simp only at h
    split at h
    · cases h
    · exact h
theorem takes_quiet {back : Nat → Bool} {v : PS} {m : Nat} {come : Option St} (h : (takesP back v m come).chg m = false) : liesO come (v.W m) = true ∧ takesP back v m come = v := by
  cases hl : liesO come (v.W m) with
  | true => exact ⟨rfl, takes_no hl⟩
  | false => rw [takes_at hl] at h; simp at h
theorem stepP_chg {p : List I5} {n j : Nat} {come : Option St} {v : PS} (h : (stepP p n come v).1.chg j = false) : v.chg j = false := by
  unfold stepP at h
  split at h
  · simp only at h
    split at h
    · exact takes_chg h
    · exact h
  · simp only at h
    split at h
    · have := takes_chg h
      split at this
      · exact takes_chg this
      · exact this
    · split at h
      · exact takes_chg h
      · exact h
theorem passP_chg {p : List I5} {j : Nat} : ∀ (k n : Nat) (come : Option St) (v : PS), (passP p k n come v).chg j = false → v.chg j = false
  | 0, _, _, _, h => h
  | k + 1, n, _, _, h => stepP_chg (passP_chg k (n + 1) _ _ h)
/-- a step that changes nothing: the same as Check's, but for dangers -/
theorem stepP_quiet {p : List I5} (hp : Fit p) {n : Nat} (hn : n < p.length) {come : Option St} {v : PS} (h : ∀ j, j < p.length → (stepP p n come v).1.chg j = false) :
    (stepP p n come v).1 = v ∧ (markB p n = true → liesO come (v.W n) = true) ∧ (∀ s, (if markB p n then v.W n else come) = some s → (9 ≤ (insAt p n).o → liesO (flowFar (insAt p n) s) (v.W (insAt p n).k.toNat) = true) ∧ (stepP p n come v).2 = flowOn (insAt p n) s) ∧ ((if markB p n then v.W n else come) = none → (stepP p n come v).2 = none) := by
  have hq : markB p n = true → liesO come (v.W n) = true ∧ takesP (backB p) v n come = v := by
    intro hm
    refine takes_quiet ?_
    have h1 := h n hn
    unfold stepP at h1
    rw [hm] at h1
    simp only [if_true] at h1
    split at h1
    · exact h1
    · simp only at h1
      split at h1
      · exact takes_chg h1
      · exact h1
  have hv1 : (if markB p n then takesP (backB p) v n come else v) = v := by
    split
    · rename_i hm; exact (hq hm).2
    · rfl
  have hh : (if markB p n then (takesP (backB p) v n come).W n else come) = (if markB p n then v.W n else come) := by
    split
    · rename_i hm; rw [(hq hm).2]
    · rfl
  have he : stepP p n come v = match (if markB p n then v.W n else come) with
    | none => (v, none)
    | some s => (if 9 ≤ (insAt p n).o then takesP (backB p) v (insAt p n).k.toNat (flowFar (insAt p n) s) else v, flowOn (insAt p n) s) := by
    unfold stepP; rw [hv1, hh]
  rw [he] at h ⊢
  cases hs : (if markB p n then v.W n else come) with
  | none => exact ⟨rfl, fun hm => (hq hm).1, fun s h0 => (by cases h0), fun _ => rfl⟩
  | some s =>
    rw [hs] at h
    simp only at h ⊢
    by_cases h9 : 9 ≤ (insAt p n).o
    · rw [if_pos h9] at h ⊢
      have h2 := takes_quiet (h _ (hp.jump n hn h9).2)
      refine ⟨h2.2, fun hm => (hq hm).1, fun t ht => ?_, fun h0 => (by cases h0)⟩
      simp only [Option.some.injEq] at ht
      rw [← ht]; exact ⟨fun _ => h2.1, rfl⟩
    · rw [if_neg h9]
      refine ⟨rfl, fun hm => (hq hm).1, fun t ht => ?_, fun h0 => (by cases h0)⟩
      simp only [Option.some.injEq] at ht
      rw [← ht]; exact ⟨fun h => absurd h h9, rfl⟩
theorem passP_quiet {p : List I5} (hp : Fit p) : ∀ (k n : Nat) (come : Option St) (v : PS), n + k = p.length → (∀ j, j < p.length → (passP p k n come v).chg j = false) → passP p k n come v = v
  | 0, _, _, _, _, _ => rfl
  | k + 1, n, come, v, hn, h => by
    have h1 := stepP_quiet hp (n := n) (by omega) (come := come) (v := v) (fun j hj => passP_chg k (n + 1) _ _ (h j hj))
    unfold passP at h ⊢
    rw [h1.1] at h ⊢
    exact passP_quiet hp k (n + 1) _ v (by omega) h
theorem anyChg_no {p : List I5} {v : PS} (h : anyChg p v = false) : ∀ j, j < p.length → v.chg j = false := by
  intro j hj
  unfold anyChg at h
  rw [List.any_eq_false] at h
  simpa using h j (List.mem_range.2 hj)
/-- where nothing changes any more Check finds nothing but dangers: here, none of these either -/
theorem quiet_pass {p : List I5} (hp : Fit p) {cl : Nat → Option St} {e : St} (ht : Taken p cl e) {v : PS} (hv : PInv p v) (hle : ∀ m, liesO (v.W m) (cl m) = true) :
    ∀ (k n : Nat) (come : Option St), n + k = p.length → (∀ j, j < p.length → (passP p k n come v).chg j = false) → OkO come → liesO come (comeC p cl e n) = true → passC p v.W k n come = (0, 0)
  | 0, n, come, hn, _, _, hc => by
    have : n = p.length := by omega
    rw [this, ht.steps.2] at hc
    unfold passC
    cases come with
    | none => rfl
    | some s => cases hc
  | k + 1, n, come, hn, h, hok, hc => by
    have hn' : n < p.length := by omega
    have hr := hp.regs n hn'
    obtain ⟨q1, q2, q3, q4⟩ := stepP_quiet hp (n := n) hn' (come := come) (v := v) (fun j hj => passP_chg k (n + 1) _ _ (h j hj))
    have hs0 := stepC_ok (ht.steps.1 n hn')
    have hhere : liesO (if markB p n then v.W n else come) (if markB p n then cl n else comeC p cl e n) = true := by
      split
      · exact hle n
      · exact hc
    have hhok : OkO (if markB p n then v.W n else come) := by
      split
      · exact hv.ok n
      · exact hok
    have hno : (markB p n && !liesO come (v.W n)) = false := by
      cases hm : markB p n with
      | false => rfl
      | true => rw [q2 hm]; rfl
    have hstep : (stepC p v.W n come).1 = 0 ∧ (stepC p v.W n come).2 = (stepP p n come v).2 ∧ liesO (stepP p n come v).2 (comeC p cl e (n + 1)) = true := by
      unfold stepC
      rw [if_neg (by simp [hno])]
      cases hh : (if markB p n then v.W n else come) with
      | none => rw [q4 hh]; exact ⟨rfl, rfl, rfl⟩
      | some s =>
        rw [hh] at hhere
        obtain ⟨t, ht2, hl⟩ := liesO_some hhere
        obtain ⟨d1, d2, d3⟩ := hs0.2 t ht2
        obtain ⟨f1, f2⟩ := q3 s hh
        have hso := hhok s hh
        simp only
        rw [if_neg (by simp [dang_mono hr.1 hl d1]), if_neg (by simp only [Bool.and_eq_true, decide_eq_true_eq, Bool.not_eq_true', not_and, Bool.not_eq_false]; exact f1), f2]
        refine ⟨rfl, rfl, ?_⟩
        show liesO _ (stepC p cl n (comeC p cl e n)).2 = true
        rw [d3]
        have ht64 : t.in64 := (ht.here_ok (n := n) (by omega) (s := t) ht2).2
        exact liesO_on hr.1 hso.1 ht64 hl
    unfold passC
    rw [if_neg (by simp [hstep.1]), hstep.2.1]
    have hinv := stepP_inv hp hn' hv hok
    unfold passP at h
    rw [q1] at h
    exact quiet_pass hp ht hv hle k (n + 1) _ (by omega) h hinv.2 hstep.2.2
/-- no jump goes back: every mark's state lies in what is claimed -/
theorem takes_le {back : Nat → Bool} {v : PS} {m : Nat} {come : Option St} {cl : Nat → Option St} (hb : back m = false) (hle : ∀ j, liesO (v.W j) (cl j) = true) (hc : liesO come (cl m) = true) : ∀ j, liesO ((takesP back v m come).W j) (cl j) = true := by
  intro j
  cases hl : liesO come (v.W m) with
  | true => rw [takes_no hl]; exact hle j
  | false =>
    rw [takes_at hl]
    simp only
    split
    · rename_i e
      rw [e]; unfold widerP; rw [if_neg (by simp [hb])]
      exact joinO_least (hle m) hc
    · exact hle j
theorem stepP_le {p : List I5} (hp : Fit p) {cl : Nat → Option St} {e : St} (ht : Taken p cl e) (hb : ∀ m, backB p m = false) {n : Nat} (hn : n < p.length) {come : Option St} {v : PS} (hv : PInv p v) (hok : OkO come) (hle : ∀ j, liesO (v.W j) (cl j) = true) (hc : liesO come (comeC p cl e n) = true) :
    (∀ j, liesO ((stepP p n come v).1.W j) (cl j) = true) ∧ liesO (stepP p n come v).2 (comeC p cl e (n + 1)) = true := by
  have hr := hp.regs n hn
  have hs0 := stepC_ok (ht.steps.1 n hn)
  have h1 : ∀ j, liesO ((if markB p n then takesP (backB p) v n come else v).W j) (cl j) = true := by
    cases hm : markB p n with
    | true => simp only [if_true]; exact takes_le (hb n) hle (liesO_trans hc (hs0.1 hm))
    | false => simpa using hle
  have hi1 : OkO (if markB p n then (takesP (backB p) v n come).W n else come) := by
    split
    · rename_i hm; exact (takes_inv hv hm hok).ok n
    · exact hok
  have hhere : liesO (if markB p n then (takesP (backB p) v n come).W n else come) (if markB p n then cl n else comeC p cl e n) = true := by
    cases hm : markB p n with
    | true => have := h1 n; rw [hm] at this; simpa using this
    | false => simpa using hc
  unfold stepP
  cases hh : (if markB p n then (takesP (backB p) v n come).W n else come) with
  | none => exact ⟨h1, rfl⟩
  | some s =>
    rw [hh] at hhere
    obtain ⟨t, ht2, hl⟩ := liesO_some hhere
    obtain ⟨_, d2, d3⟩ := hs0.2 t ht2
    have hso := hi1 s hh
    have ht64 : t.in64 := (ht.here_ok (n := n) (by omega) (s := t) ht2).2
    refine ⟨?_, ?_⟩
    · simp only
      split
      · rename_i h9
        exact takes_le (hb _) h1 (liesO_trans (liesO_far hr.1 hso.2 hl) (d2 h9))
      · exact h1
    · show liesO _ (stepC p cl n (comeC p cl e n)).2 = true
      rw [d3]
      exact liesO_on hr.1 hso.1 ht64 hl
theorem passP_le {p : List I5} (hp : Fit p) {cl : Nat → Option St} {e : St} (ht : Taken p cl e) (hb : ∀ m, backB p m = false) : ∀ (k n : Nat) (come : Option St) (v : PS), n + k = p.length → PInv p v → OkO come → (∀ j, liesO (v.W j) (cl j) = true) → liesO come (comeC p cl e n) = true → ∀ j, liesO ((passP p k n come v).W j) (cl j) = true
  | 0, _, _, _, _, _, _, hle, _ => hle
  | k + 1, n, come, v, hn, hv, hok, hle, hc => by
    have h1 := stepP_le hp ht hb (n := n) (by omega) hv hok hle hc
    have h2 := stepP_inv hp (n := n) (by omega) hv hok
    exact passP_le hp ht hb k (n + 1) _ _ (by omega) h2.1 h2.2 h1.1 h1.2
theorem Settles.found {p : List I5} (hp : Fit p) {cl : Nat → Option St} {e : St} (ht : Taken p cl e) (hb : ∀ m, backB p m = false) {v v' : PS} (h : Settles p e v v') (hv : PInv p v) (hle : ∀ j, liesO (v.W j) (cl j) = true) :
    (∀ j, liesO (v'.W j) (cl j) = true) ∧ passC p v'.W p.length 0 (some e) = (0, 0) := by
  have ho : OkO (some e) := fun s hs => by simp only [Option.some.injEq] at hs; rw [← hs]; exact ht.eok
  have hc0 : liesO (some e) (comeC p cl e 0) = true := lies_refl e
  induction h with
  | done v h1 =>
    have hq := anyChg_no h1
    rw [passP_quiet hp _ _ _ _ (by omega) hq]
    exact ⟨hle, quiet_pass hp ht hv hle p.length 0 (some e) (by omega) hq ho hc0⟩
  | more v v' _ _ ih =>
    exact ih (count_inv (passP_inv hp _ _ _ _ (by omega) hv ho)) (passP_le hp ht hb _ _ _ _ (by omega) hv ho hle hc0)
def gapR (r : R2) : Nat := (18446744073709551615 - (r.hi - r.lo)).toNat
def sum8 (f : Nat → Nat) : Nat := f 0 + f 1 + f 2 + f 3 + f 4 + f 5 + f 6 + f 7
def muO (x : Option St) : Nat := match x with
  | none => 147573952589676412928
  | some s => sum8 fun j => gapR (s j)
theorem gap_le {r q : R2} (h : r.sub q) : gapR q ≤ gapR r := by unfold gapR; unfold R2.sub at h; omega
theorem gap_lt {r q : R2} (h : r.sub q) (hq : q.in64) (hne : ¬ q.sub r) : gapR q < gapR r := by
  unfold gapR; unfold R2.sub R2.in64 I64 at *; omega
theorem mu_some_lt {s : St} (hok : s.ok) : muO (some s) < 147573952589676412928 := by
  have h : ∀ j, j < 8 → gapR (s j) ≤ 18446744073709551615 := fun j hj => by have := hok j hj; unfold gapR; omega
  have h0 := h 0 (by omega); have h1 := h 1 (by omega); have h2 := h 2 (by omega); have h3 := h 3 (by omega); have h4 := h 4 (by omega); have h5 := h 5 (by omega); have h6 := h 6 (by omega); have h7 := h 7 (by omega)
  unfold muO sum8; simp only; omega
theorem mu_lt {x y : Option St} (hy : OkO y) (h : liesO x y = true) (hne : liesO y x = false) : muO y < muO x := by
  cases y with
  | none => cases hne
  | some t =>
    cases x with
    | none => exact mu_some_lt (hy t rfl).1
    | some s =>
      have hl := lies_iff.1 (show liesR s t = true from h)
      have hn : ¬ ∀ j, j < 8 → (t j).sub (s j) := fun hh => by
        have : liesR t s = true := lies_iff.2 hh
        rw [show liesO (some t) (some s) = liesR t s from rfl, this] at hne; cases hne
      have hle : ∀ j, j < 8 → gapR (t j) ≤ gapR (s j) := fun j hj => gap_le (hl j hj)
      have hex : ∃ j, j < 8 ∧ gapR (t j) < gapR (s j) := by
        refine Classical.byContradiction fun hno => hn fun j hj => ?_
        refine Classical.byContradiction fun hs => hno ⟨j, hj, gap_lt (hl j hj) ((hy t rfl).2 j hj) hs⟩
      obtain ⟨j, hj, hlt⟩ := hex
      have h0 := hle 0 (by omega); have h1 := hle 1 (by omega); have h2 := hle 2 (by omega); have h3 := hle 3 (by omega); have h4 := hle 4 (by omega); have h5 := hle 5 (by omega); have h6 := hle 6 (by omega); have h7 := hle 7 (by omega)
      unfold muO sum8; simp only
      rcases (by omega : j = 0 ∨ j = 1 ∨ j = 2 ∨ j = 3 ∨ j = 4 ∨ j = 5 ∨ j = 6 ∨ j = 7) with rfl | rfl | rfl | rfl | rfl | rfl | rfl | rfl <;> omega
def muP (n : Nat) (v : PS) : Nat := match n with
  | 0 => 0
  | n + 1 => muP n v + muO (v.W n)
theorem muP_le {v v' : PS} (h : ∀ j, muO (v'.W j) ≤ muO (v.W j)) : ∀ n, muP n v' ≤ muP n v
  | 0 => Nat.le_refl _
  | n + 1 => Nat.add_le_add (muP_le h n) (h n)
theorem muP_lt {v v' : PS} (h : ∀ j, muO (v'.W j) ≤ muO (v.W j)) {m : Nat} (hm : muO (v'.W m) < muO (v.W m)) : ∀ n, m < n → muP n v' < muP n v
  | 0, h0 => by omega
  | n + 1, h1 => by
    rcases Nat.lt_succ_iff_lt_or_eq.1 h1 with h2 | h2
    · exact Nat.add_lt_add_of_lt_of_le (muP_lt h hm n h2) (h n)
    · rw [← h2]; exact Nat.add_lt_add_of_le_of_lt (muP_le h m) hm
/-- every change makes it less -/
theorem takes_mu {back : Nat → Bool} {v : PS} {m : Nat} {come : Option St} (hv : OkO (v.W m)) (hc : OkO come) : (∀ j, muO ((takesP back v m come).W j) ≤ muO (v.W j)) ∧ (liesO come (v.W m) = false → muO ((takesP back v m come).W m) < muO (v.W m)) := by
  cases hl : liesO come (v.W m) with
  | true => rw [takes_no hl]; exact ⟨fun _ => Nat.le_refl _, fun h => by cases h⟩
  | false =>
    have hu := wider_up (back := back) hv hc
    have hlt : muO (widerP back v m come) < muO (v.W m) := by
      refine mu_lt (wider_ok hv hc) hu.1 ?_
      cases hx : liesO (widerP back v m come) (v.W m) with
      | false => rfl
      | true => have := liesO_trans hu.2 hx; rw [hl] at this; cases this
    rw [takes_at hl]
    refine ⟨fun j => ?_, fun _ => ?_⟩
    · simp only
      split
      · rename_i e; rw [e]; omega
      · exact Nat.le_refl _
    · simp only [if_true]; exact hlt
/-- less, or nothing was changed -/
def Dec (p : List I5) (v v' : PS) : Prop := (∀ j, muO (v'.W j) ≤ muO (v.W j)) ∧ ((∀ j, j < p.length → v'.chg j = v.chg j) ∨ ∃ m, m < p.length ∧ muO (v'.W m) < muO (v.W m))
theorem Dec.refl (p : List I5) (v : PS) : Dec p v v := ⟨fun _ => Nat.le_refl _, Or.inl fun _ _ => rfl⟩
theorem Dec.trans {p : List I5} {a b c : PS} (h : Dec p a b) (k : Dec p b c) : Dec p a c := by
  refine ⟨fun j => Nat.le_trans (k.1 j) (h.1 j), ?_⟩
  rcases h.2 with h2 | ⟨m, hm, h2⟩
  · rcases k.2 with k2 | ⟨m, hm, k2⟩
    · exact Or.inl fun j hj => (k2 j hj).trans (h2 j hj)
    · exact Or.inr ⟨m, hm, Nat.lt_of_lt_of_le k2 (h.1 m)⟩
  · exact Or.inr ⟨m, hm, Nat.lt_of_le_of_lt (k.1 m) h2⟩
theorem takes_dec {p : List I5} {back : Nat → Bool} {v : PS} {m : Nat} {come : Option St} (hm : m < p.length) (hv : OkO (v.W m)) (hc : OkO come) : Dec p v (takesP back v m come) := by
  have h := takes_mu (back := back) hv hc
  refine ⟨h.1, ?_⟩
  cases hl : liesO come (v.W m) with
  | true => rw [takes_no hl]; exact Or.inl fun _ _ => rfl
  | false => exact Or.inr ⟨m, hm, h.2 hl⟩
theorem stepP_dec {p : List I5} (hp : Fit p) {n : Nat} (hn : n < p.length) {come : Option St} {v : PS} (hv : PInv p v) (hc : OkO come) : Dec p v (stepP p n come v).1 := by
  have hr := hp.regs n hn
  have h1 : Dec p v (if markB p n then takesP (backB p) v n come else v) := by
    split
    · exact takes_dec hn (hv.ok n) hc
    · exact Dec.refl p v
  have hi : PInv p (if markB p n then takesP (backB p) v n come else v) := by
    split
    · rename_i hm; exact takes_inv hv hm hc
    · exact hv
  have hh : OkO (if markB p n then (takesP (backB p) v n come).W n else come) := by
    split
    · rename_i hm; exact (takes_inv hv hm hc).ok n
    · exact hc
  unfold stepP
  cases hs : (if markB p n then (takesP (backB p) v n come).W n else come) with
  | none => exact h1
  | some s =>
    have hso := hh s hs
    simp only
    split
    · rename_i h9
      exact h1.trans (takes_dec (hp.jump n hn h9).2 (hi.ok _) (fun t ht => flowFar_keeps hr.1 hso.1 hso.2 ht))
    · exact h1
theorem passP_dec {p : List I5} (hp : Fit p) : ∀ (k n : Nat) (come : Option St) (v : PS), n + k = p.length → PInv p v → OkO come → Dec p v (passP p k n come v)
  | 0, _, _, v, _, _, _ => Dec.refl p v
  | k + 1, n, come, v, hn, hv, hc => by
    have h2 := stepP_inv hp (n := n) (by omega) hv hc
    exact (stepP_dec hp (n := n) (by omega) hv hc).trans (passP_dec hp k (n + 1) _ _ (by omega) h2.1 h2.2)
/-- a pass that changes something makes it less -/
theorem pass_mu {p : List I5} (hp : Fit p) {e : St} (he : e.ok ∧ e.in64) {v : PS} (hv : PInv p v) (h0 : ∀ j, j < p.length → v.chg j = false) (h : anyChg p (passP p p.length 0 (some e) v) = true) : muP p.length (countP (passP p p.length 0 (some e) v)) < muP p.length v := by
  have ho : OkO (some e) := fun s hs => by simp only [Option.some.injEq] at hs; rw [← hs]; exact he
  have hd := passP_dec hp p.length 0 (some e) v (by omega) hv ho
  have hc : muP p.length (countP (passP p p.length 0 (some e) v)) = muP p.length (passP p p.length 0 (some e) v) := by
    generalize p.length = n
    generalize passP p _ 0 (some e) v = u
    induction n with
    | zero => rfl
    | succ n ih => unfold muP; rw [ih]; rfl
  rw [hc]
  rcases hd.2 with h2 | ⟨m, hm, h2⟩
  · exfalso
    unfold anyChg at h
    rw [List.any_eq_true] at h
    obtain ⟨j, hj, hx⟩ := h
    have hj := List.mem_range.1 hj
    rw [h2 j hj, h0 j hj] at hx
    cases hx
  · exact muP_lt hd.1 h2 _ hm
end Go.Proofs.YtamiichlbmllcaaGreatDoor
