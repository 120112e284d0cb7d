import Derived.Test.YtamiichlbmllcaaDoorArm
/-
  Moves and assignments in a drawn region whose value is read at once.
-/
namespace Go.Proofs.YtamiichlbmllcaaDoor
open Go.RowKit
section
variable {l : List Oper} {Q : Exit → Act → World → Prop} {F : Nat → Bool} {S : World → Prop} {r : OT} {a : Act} {w : World} {i : Nat} {d : Option Tmp} {x : Operand} {tt : TypeId} {pos : String} {aft : Array Edge} {g : Option (Nat × Bool)}
theorem vMoveI {p : Int} (hk : S w) (h : wpT Tryd.prog l Q F S r (a.put d (.int .i64 p)) w) (ho : nthO i l = some ⟨d, .move x, tt, pos, aft, g⟩ := by rfl) (hw : Region.wanted ⟨d, .move x, tt, pos, aft, g⟩ (yielded l.toArray a.tmps) = true := by rfl) (hx : a.eval x = .int .i64 p := by rfl) : wpT Tryd.prog l Q F S (.op i r) a w := sMove hk (by rw [hx]; exact h) ho hw
theorem vMoveB {p : Bool} (hk : S w) (h : wpT Tryd.prog l Q F S r (a.put d (.bool p)) w) (ho : nthO i l = some ⟨d, .move x, tt, pos, aft, g⟩ := by rfl) (hw : Region.wanted ⟨d, .move x, tt, pos, aft, g⟩ (yielded l.toArray a.tmps) = true := by rfl) (hx : a.eval x = .bool p := by rfl) : wpT Tryd.prog l Q F S (.op i r) a w := sMove hk (by rw [hx]; exact h) ho hw
theorem vAssignI {p : Int} (hk : S w) (h : wpT Tryd.prog l Q F S r (a.put d (.int .i64 p)) w) (ho : nthO i l = some ⟨d, .assign x, tt, pos, aft, g⟩ := by rfl) (hw : Region.wanted ⟨d, .assign x, tt, pos, aft, g⟩ (yielded l.toArray a.tmps) = true := by rfl) (hx : a.eval x = .int .i64 p := by rfl) : wpT Tryd.prog l Q F S (.op i r) a w := sAssign hk (by rw [hx]; exact h) ho hw
theorem vAssignB {p : Bool} (hk : S w) (h : wpT Tryd.prog l Q F S r (a.put d (.bool p)) w) (ho : nthO i l = some ⟨d, .assign x, tt, pos, aft, g⟩ := by rfl) (hw : Region.wanted ⟨d, .assign x, tt, pos, aft, g⟩ (yielded l.toArray a.tmps) = true := by rfl) (hx : a.eval x = .bool p := by rfl) : wpT Tryd.prog l Q F S (.op i r) a w := sAssign hk (by rw [hx]; exact h) ho hw
end
end Go.Proofs.YtamiichlbmllcaaDoor
/-
  Regions that keep their order, walked as those that draw it.
-/
namespace Go.Proofs.YtamiichlbmllcaaDoor
open Go.RowKit
def lineT : Nat → Nat → OT
  | _, 0 => .nil
  | k, n + 1 => .op k (lineT (k + 1) n)
theorem wpT_line {P : Program} {l : List Oper} {Q : Exit → Act → World → Prop} {S : World → Prop} : ∀ (n k : Nat) (a : Act) (w : World), wpT P l Q (fun _ => false) S (lineT k n) a w → wpOps P l.toArray (NoPanic Q) (List.range' k n) a w
  | 0, _, _, _, h => NoPanic.normal h
  | n + 1, k, a, w, h => by
    obtain ⟨o, ho, h⟩ := h
    have hl : l.toArray[k]? = some o := by rw [← ho, nthO_eq]; simp
    rw [List.range'_succ, wpOps_cons]
    by_cases hst : stillOp o = true
    · simp only [hst, if_true] at h
      obtain ⟨hS, v, hy, h⟩ := h
      exact hy.wpOp hl hS (wpT_line n (k + 1) _ _ h)
    · simp only [hst, Bool.false_eq_true, if_false] at h
      unfold wpOp
      simp only [hl]
      by_cases hw : Region.wanted o (yielded l.toArray a.tmps) = true
      · simp only [hw, if_true] at h ⊢
        refine Or.inl (Oper.wp_mono ?_ h)
        rintro a' w' ⟨_, h2⟩
        exact wpT_line n (k + 1) a' w' h2
      · simp only [hw, Bool.false_eq_true, if_false] at h ⊢
        exact wpT_line n (k + 1) _ _ h.2
theorem wp_regL {P : Program} {id : Nat} {l : List Oper} {Q : Exit → Act → World → Prop} {a : Act} {w : World} (S : World → Prop) (t : OT) (ht : lineT 0 l.length = t) (h : wpT P l Q (fun _ => false) S t a w) : (Code.region id l.toArray false).wp P Q a w := by
  subst ht
  refine wp_region_noPanic (wp_region ?_)
  rw [List.range_eq_range']
  exact wpT_line _ _ _ _ (by simpa using h)
theorem wp_regLK {P : Program} {id : Nat} {l : List Oper} {Q : Exit → Act → World → Prop} {a : Act} {w : World} {M : List Nat} {w0 : World} {L : RowL} (_hk : Kn M w0 w L) (t : OT) (ht : lineT 0 l.length = t) (h : wpT P l Q (fun _ => false) (fun wx => Kn M w0 wx L) t a w) : (Code.region id l.toArray false).wp P Q a w := wp_regL _ t ht h
end Go.Proofs.YtamiichlbmllcaaDoor
