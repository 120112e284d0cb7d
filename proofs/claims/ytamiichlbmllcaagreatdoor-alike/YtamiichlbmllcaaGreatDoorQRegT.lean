import Derived.Test.YtamiichlbmllcaaGreatDoorQArm
/-
  Moves and assignments in a drawn region whose value is read at once.
-/
namespace Go.Proofs.YtamiichlbmllcaaGreatDoor
open Go.RowKit
section
variable {l : List Oper} {Q : Exit → Act → World → Prop} {F : Nat → Bool} {S : World → Prop} {r : OT} {a : Act} {w : World} {i : Nat} {d : Option Tmp} {x : Operand} {tt : TypeId} {pos : String} {aft : Array Edge} {g : Option (Nat × Bool)}
theorem vMoveI {p : Int} (hk : S w) (h : wpT Tryz.prog l Q F S r (a.put d (.int .i64 p)) w) (ho : nthO i l = some ⟨d, .move x, tt, pos, aft, g⟩ := by rfl) (hw : Region.wanted ⟨d, .move x, tt, pos, aft, g⟩ (yielded l.toArray a.tmps) = true := by rfl) (hx : a.eval x = .int .i64 p := by rfl) : wpT Tryz.prog l Q F S (.op i r) a w := sMove hk (by rw [hx]; exact h) ho hw
theorem vMoveB {p : Bool} (hk : S w) (h : wpT Tryz.prog l Q F S r (a.put d (.bool p)) w) (ho : nthO i l = some ⟨d, .move x, tt, pos, aft, g⟩ := by rfl) (hw : Region.wanted ⟨d, .move x, tt, pos, aft, g⟩ (yielded l.toArray a.tmps) = true := by rfl) (hx : a.eval x = .bool p := by rfl) : wpT Tryz.prog l Q F S (.op i r) a w := sMove hk (by rw [hx]; exact h) ho hw
theorem vAssignI {p : Int} (hk : S w) (h : wpT Tryz.prog l Q F S r (a.put d (.int .i64 p)) w) (ho : nthO i l = some ⟨d, .assign x, tt, pos, aft, g⟩ := by rfl) (hw : Region.wanted ⟨d, .assign x, tt, pos, aft, g⟩ (yielded l.toArray a.tmps) = true := by rfl) (hx : a.eval x = .int .i64 p := by rfl) : wpT Tryz.prog l Q F S (.op i r) a w := sAssign hk (by rw [hx]; exact h) ho hw
theorem vAssignB {p : Bool} (hk : S w) (h : wpT Tryz.prog l Q F S r (a.put d (.bool p)) w) (ho : nthO i l = some ⟨d, .assign x, tt, pos, aft, g⟩ := by rfl) (hw : Region.wanted ⟨d, .assign x, tt, pos, aft, g⟩ (yielded l.toArray a.tmps) = true := by rfl) (hx : a.eval x = .bool p := by rfl) : wpT Tryz.prog l Q F S (.op i r) a w := sAssign hk (by rw [hx]; exact h) ho hw
end
end Go.Proofs.YtamiichlbmllcaaGreatDoor
/-
  Regions that keep their order, walked as those that draw it.
-/
namespace Go.Proofs.YtamiichlbmllcaaGreatDoor
open Go.RowKit
def lineT : Nat → Nat → OT
  | _, 0 => .nil
  | k, n + 1 => .op k (lineT (k + 1) n)
theorem wpT_line {P : Program} {l : List Oper} {Q : Exit → Act → World → Prop} {S : World → Prop} : ∀ (n k : Nat) (a : Act) (w : World), wpT P l Q (fun _ => false) S (lineT k n) a w → wpOps P l.toArray (NoPanic Q) (List.range' k n) a w
  | 0, _, _, _, h => NoPanic.normal h
  | n + 1, k, a, w, h => by
    obtain ⟨o, ho, h⟩ := h
    have hl : l.toArray[k]? = some o := by rw [← ho, nthO_eq]; simp
    rw [List.range'_succ, wpOps_cons]
    by_cases hst : stillOp o = true
    · simp only [hst, if_true] at h
      obtain ⟨hS, v, hy, h⟩ := h
      exact hy.wpOp hl hS (wpT_line n (k + 1) _ _ h)
    · simp only [hst, Bool.false_eq_true, if_false] at h
      unfold wpOp
      simp only [hl]
      by_cases hw : Region.wanted o (yielded l.toArray a.tmps) = true
      · simp only [hw, if_true] at h ⊢
        refine Or.inl (Oper.wp_mono ?_ h)
        rintro a' w' ⟨_, h2⟩
        exact wpT_line n (k + 1) a' w' h2
      · simp only [hw, Bool.false_eq_true, if_false] at h ⊢
        exact wpT_line n (k + 1) _ _ h.2
theorem wp_regL {P : Program} {id : Nat} {l : List Oper} {Q : Exit → Act → World → Prop} {a : Act} {w : World} (S : World → Prop) (t : OT) (ht : lineT 0 l.length = t) (h : wpT P l Q (fun _ => false) S t a w) : (Code.region id l.toArray false).wp P Q a w := by
  subst ht
  refine wp_region_noPanic (wp_region ?_)
  rw [List.range_eq_range']
  exact wpT_line _ _ _ _ (by simpa using h)
theorem wp_regLK {P : Program} {id : Nat} {l : List Oper} {Q : Exit → Act → World → Prop} {a : Act} {w : World} {M : List Nat} {w0 : World} {L : RowL} (_hk : Kn M w0 w L) (t : OT) (ht : lineT 0 l.length = t) (h : wpT P l Q (fun _ => false) (fun wx => Kn M w0 wx L) t a w) : (Code.region id l.toArray false).wp P Q a w := wp_regL _ t ht h
end Go.Proofs.YtamiichlbmllcaaGreatDoor
/-
  Regions that draw their order, in which three operations that act come up at once.
-/
namespace Go.Proofs.YtamiichlbmllcaaGreatDoor
open Go.RowKit
/-- reading operations ahead of what branches -/
def okQ (ops : Array Oper) (F : Nat → Bool) : OT → Array Bool → Array Bool → Bool
  | .nil, listed, listed' => listed == listed'
  | .op i r, listed, listed' => (match ops[i]? with
      | some o => stillOp o && Region.free .any ops listed i && (Region.ready .any ops listed).contains i && ((List.range ops.size).all fun j => j == i || listed.getD j true || F j || match ops[j]? with
          | some oj => oj.after.any (fun e => Region.binds .any e && e.on == i)
          | none => true)
      | none => false) && okQ ops F r (listed.setIfInBounds i true) listed'
  | .either .., _, _ => false
theorem wpQ_sound {P : Program} {l : List Oper} {Q : Exit → Act → World → Prop} {F : Nat → Bool} {S : World → Prop} (hsel : Region.noSelect l.toArray = true) (m : Nat) (listed' : Array Bool) : ∀ (t : OT) (listed : Array Bool) (a : Act) (w : World), okQ l.toArray F t listed listed' = true →
    wpT P l (fun _ a w => wpAnyJ P l.toArray (NoPanic Q) F S m listed' a w) F S t a w → wpAnyJ P l.toArray (NoPanic Q) F S (m + t.size) listed a w := by
  intro t
  induction t with
  | nil =>
    intro listed a w hv h
    have : listed = listed' := by simpa [okQ] using hv
    subst this
    exact h
  | op i r ih =>
    intro listed a w hv h
    simp only [okQ, Bool.and_eq_true] at hv
    obtain ⟨hv1, hv2⟩ := hv
    have hl : l.toArray[i]? = nthO i l := by rw [nthO_eq]; simp
    rw [hl] at hv1
    obtain ⟨o, ho, h⟩ := h
    rw [ho] at hv1 hl
    simp only [Bool.and_eq_true] at hv1
    obtain ⟨⟨⟨hst, hfree⟩, hrd⟩, hall⟩ := hv1
    simp only [hst, if_true] at h
    obtain ⟨hS, v, hy, h⟩ := h
    refine wpAnyJ_first hl (Region.noSelect_spec hsel) (fun _ _ _ h => h.elim) (m + r.size) listed a w ?_ (by simpa using hrd) hy hS (ih _ _ w hv2 h)
    intro j oj hj hne hun hno
    refine ⟨Region.free_spec hl hfree j oj hj hne hun hno, ?_⟩
    rw [List.all_eq_true] at hall
    have := hall j (List.mem_range.2 (Array.getElem?_eq_some_iff.1 hj).1)
    simp only [hj, Bool.or_eq_true, beq_iff_eq, hne, false_or, hun, Bool.false_eq_true] at this
    rcases this with h1 | h1
    · exact h1
    · obtain ⟨e, he, hb⟩ := Array.any_eq_true'.1 h1
      simp only [Bool.and_eq_true, beq_iff_eq] at hb
      exact absurd hb.2 (hno e he hb.1)
  | either i j r s _ _ =>
    intro listed a w hv
    simp [okQ] at hv
theorem wpT_opS {P : Program} {l : List Oper} {Q : Exit → Act → World → Prop} {F : Nat → Bool} {S : World → Prop} {i : Nat} {r : OT} {a : Act} {w : World} {K : Act → World → Prop} (h : wpT P l Q F S (.op i r) a w) (hK : ∀ a' w', (F i = true → S w') → wpT P l Q F S r a' w' → K a' w') : wpOp P l.toArray (NoPanic Q) i K a w := by
  obtain ⟨o, ho, h⟩ := h
  have hl : l.toArray[i]? = some o := by rw [← ho, nthO_eq]; simp
  by_cases hst : stillOp o = true
  · simp only [hst, if_true] at h
    obtain ⟨hS, v, hy, h⟩ := h
    exact hy.wpOp hl hS (hK _ _ (fun _ => hS) h)
  · simp only [hst, Bool.false_eq_true, if_false] at h
    unfold wpOp
    simp only [hl]
    by_cases hw : Region.wanted o (yielded l.toArray a.tmps) = true
    · simp only [hw, if_true] at h ⊢
      exact Or.inl (Oper.wp_mono (fun a' w' h1 => hK a' w' h1.1 h1.2) h)
    · simp only [hw, Bool.false_eq_true, if_false] at h ⊢
      exact hK _ _ h.1 h.2
def Br3 (P : Program) (l : List Oper) (Q : Exit → Act → World → Prop) (F : Nat → Bool) (S : World → Prop) (i j k : Nat) (ti tj tk : OT) (a : Act) (w : World) : Prop :=
  wpT P l Q F S (.op i ti) a w ∧ wpT P l Q F S (.op j tj) a w ∧ wpT P l Q F S (.op k tk) a w
theorem wp_reg3 {P : Program} {id : Nat} {l : List Oper} {Q : Exit → Act → World → Prop} {a : Act} {w : World} {M : List Nat} {w0 : World} {L : RowL} (hk : Kn M w0 w L) (t : OT) (F : Nat → Bool) (m : Nat) (i j k : Nat) (ti tj tk : OT) (listed' : Array Bool) (hm : P.follows .mixedOrders = true) (hn : m + 1 + t.size = l.length) (hsel : Region.noSelect l.toArray = true)
    (hv : okQ l.toArray F t (Array.replicate l.length false) listed' = true) (hr : Region.ready .any l.toArray listed' = [i, j, k])
    (hi : okT l.toArray F ti (listed'.setIfInBounds i true) = true) (hj : okT l.toArray F tj (listed'.setIfInBounds j true) = true) (hk' : okT l.toArray F tk (listed'.setIfInBounds k true) = true) (hs : ti.size ≤ m ∧ tj.size ≤ m ∧ tk.size ≤ m)
    (h : ∀ w1, Kn M w0 w1 L → wpT P l (fun _ a w => Br3 P l Q F (fun wx => Kn M w0 wx L) i j k ti tj tk a w) F (fun wx => Kn M w0 wx L) t a w1) : (Code.region id l.toArray true).wp P Q a w := by
  refine wp_region_noPanic (wp_region_any hm (wpAny_ofJ (F := F) (S := fun wx => Kn M w0 wx L) _ _ _ _ ?_))
  have key : ∀ (a : Act) (w : World), Br3 P l Q F (fun wx => Kn M w0 wx L) i j k ti tj tk a w → wpAnyJ P l.toArray (NoPanic Q) F (fun wx => Kn M w0 wx L) (m + 1) listed' a w := by
    intro a w ⟨h1, h2, h3⟩
    refine ⟨fun h0 => (by rw [hr] at h0; cases h0), fun x hx => ?_⟩
    rw [hr] at hx
    simp only [List.mem_cons, List.not_mem_nil, or_false] at hx
    rcases hx with rfl | rfl | rfl
    · exact wpT_opS h1 fun a' w' hF hT => ⟨hF, wpT_sound hsel ti m _ a' w' hs.1 hi hT⟩
    · exact wpT_opS h2 fun a' w' hF hT => ⟨hF, wpT_sound hsel tj m _ a' w' hs.2.1 hj hT⟩
    · exact wpT_opS h3 fun a' w' hF hT => ⟨hF, wpT_sound hsel tk m _ a' w' hs.2.2 hk' hT⟩
  have mono : ∀ (t : OT) (a : Act) (w : World), okQ l.toArray F t (Array.replicate l.length false) listed' = true → wpT P l (fun _ a w => Br3 P l Q F (fun wx => Kn M w0 wx L) i j k ti tj tk a w) F (fun wx => Kn M w0 wx L) t a w → wpAnyJ P l.toArray (NoPanic Q) F (fun wx => Kn M w0 wx L) (m + 1 + t.size) (Array.replicate l.length false) a w := by
    intro t a w hq h
    refine wpQ_sound hsel (m + 1) listed' t _ a w hq ?_
    clear hv hn
    generalize Array.replicate l.length false = listed at hq
    induction t generalizing a w listed with
    | nil => exact key a w h
    | op x r ih =>
      simp only [okQ, Bool.and_eq_true] at hq
      have hl : l.toArray[x]? = nthO x l := by rw [nthO_eq]; simp
      obtain ⟨o, ho, h⟩ := h
      have h1 := hq.1
      rw [hl, ho] at h1
      simp only [Bool.and_eq_true] at h1
      have hst := h1.1.1.1
      simp only [hst, if_true] at h
      refine ⟨o, ho, ?_⟩
      simp only [hst, if_true]
      exact ⟨h.1, h.2.choose, h.2.choose_spec.1, ih _ _ h.2.choose_spec.2 _ hq.2⟩
    | either _ _ _ _ _ _ => simp [okQ] at hq
  have := mono t a w.drew hv (h _ hk.drew)
  rw [hn] at this
  simpa using this
theorem tSplit {P : Program} {l : List Oper} {Q : Exit → Act → World → Prop} {F : Nat → Bool} {S : World → Prop} {i j : Nat} {r s : OT} {a : Act} {w : World} {o o' : Oper} (hi : nthO i l = some o) (hj : nthO j l = some o') (hsi : stillOp o = false) (hsj : stillOp o' = false) (hwi : Region.wanted o (yielded l.toArray a.tmps) = true) (hwj : Region.wanted o' (yielded l.toArray a.tmps) = true)
    (h1 : wpT P l Q F S (.op i r) a w) (h2 : wpT P l Q F S (.op j s) a w) : wpT P l Q F S (.either i j r s) a w := by
  obtain ⟨x, hx, h1⟩ := h1
  obtain ⟨y, hy, h2⟩ := h2
  rw [hi] at hx; cases hx
  rw [hj] at hy; cases hy
  simp only [hsi, hsj, Bool.false_eq_true, if_false, hwi, hwj, if_true] at h1 h2
  exact ⟨⟨o, hi, hwi, h1⟩, o', hj, hwj, h2⟩
end Go.Proofs.YtamiichlbmllcaaGreatDoor
