import Derived.Test.YtamiichlbmllcabGreatDoorQKn
import Derived.Laws.MakeOwn
import Derived.Deep.RegionLaw
import Derived.Deep.QuietTactic
import Derived.BigQuiet
import Derived.Deep.RegionHeld3
set_option maxRecDepth 100000
set_option maxHeartbeats 32000000
namespace Go.Proofs.YtamiichlbmllcabGreatDoor
open Go.RowKit
section any
variable {P : Program} {ops : Array Oper} {Q : Exit -> Act -> World -> Prop} {F : Nat -> Bool} {S : World -> Prop}
def wpAnyJ (P : Program) (ops : Array Oper) (Q : Exit -> Act -> World -> Prop) (F : Nat -> Bool) (S : World -> Prop) : Nat -> Array Bool -> Act -> World -> Prop
 | 0, listed, a, w => Region.ready .any ops listed = [] /\ Q .normal a w
 | fuel + 1, listed, a, w =>
   (Region.ready .any ops listed = [] -> Q .normal a w) /\
   ∀ i ∈ Region.ready .any ops listed, wpOp P ops Q i (fun a' w' => (F i = true -> S w') /\ wpAnyJ P ops Q F S fuel (listed.setIfInBounds i true) a' w') a w
theorem wpAny_ofJ : ∀ (fuel : Nat) (listed : Array Bool) (a : Act) (w : World), wpAnyJ P ops Q F S fuel listed a w -> wpAny P .any ops Q fuel listed a w
 | 0, _, _, _, h => h
 | fuel + 1, _, _, _, h => ⟨h.1, fun i hi => wpOp_mono (fun a' w' h' => wpAny_ofJ fuel _ a' w' h'.2) (h.2 i hi)⟩
theorem wpAnyJ_first {i : Nat} {oi : Oper} {v : Value} (hi : ops[i]? = some oi) (hsel : ∀ (j : Nat) (o : Oper) cs b, ops[j]? = some o -> o.op ≠ .select cs b)
 (hQ : ∀ c a w, Q (.panic c) (a.put oi.dst v) w -> Q (.panic c) a w) :
 ∀ (fuel : Nat) (listed : Array Bool) (a : Act) (w : World),
  (∀ j oj, ops[j]? = some oj -> j ≠ i -> listed.getD j true = false -> (∀ e ∈ oj.after, Region.binds .any e = true -> e.on ≠ i) -> oi.apart ops oj = true /\ F j = true) ->
  i ∈ Region.ready .any ops listed -> YieldsIf P ops S oi v a -> S w ->
  wpAnyJ P ops Q F S fuel (listed.setIfInBounds i true) (a.put oi.dst v) w -> wpAnyJ P ops Q F S (fuel + 1) listed a w := by
 intro fuel
 induction fuel with
 | zero =>
   intro listed a w _ hr hy hS H
   refine ⟨fun h => (by rw [h] at hr; cases hr), fun j hj => ?_⟩
   by_cases hji : j = i
   · subst hji; exact hy.wpOp hi hS ⟨fun _ => hS, H⟩
   · have := ready_mono hj hji
     rw [H.1] at this
     cases this
 | succ fuel ih =>
   intro listed a w hfree hr hy hS H
   refine ⟨fun h => (by rw [h] at hr; cases hr), fun j hj => ?_⟩
   by_cases hji : j = i
   · subst hji; exact hy.wpOp hi hS ⟨fun _ => hS, H⟩
   · have h1 := H.2 j (ready_mono hj hji)
     obtain ⟨hjun, oj, hoj, hall⟩ := mem_ready.1 hj
     have hnot : ∀ e ∈ oj.after, Region.binds .any e = true -> e.on ≠ i := fun e he hb heq => by
      have h1 := hall e he hb
      have h0 := (mem_ready.1 hr).1
      rw [heq] at h1
      rcases Nat.lt_or_ge i listed.size with h' | h'
      · simp [h'] at h0 h1; rw [h0] at h1; cases h1
      · simp [Array.getElem?_eq_none h'] at h1
     have hap := hfree j oj hoj hji hjun hnot
     have h2 := wpOp_putIf hoj hap.1 (fun cs b => hsel i oi cs b hi) (fun cs b => hsel j oj cs b hoj) hQ hy h1
     have hfree' : ∀ k ok, ops[k]? = some ok -> k ≠ i -> (listed.setIfInBounds j true).getD k true = false ->
      (∀ e ∈ ok.after, Region.binds .any e = true -> e.on ≠ i) -> oi.apart ops ok = true /\ F k = true := fun k ok hk hki hun hno => by
      refine hfree k ok hk hki ?_ hno
      by_cases hjk : j = k
      · subst hjk; exact hjun
      · rw [getD_set_ne true hjk] at hun; exact hun
     refine wpOp_mono (fun a' w' h3 => ⟨h3.2.1, ih (listed.setIfInBounds j true) a' w' hfree' (ready_mono hr (Ne.symm hji)) h3.1 (h3.2.1 hap.2) ?_⟩) h2
     rw [Array.setIfInBounds_comm _ _ hji]
     exact h3.2.2
end any
def stillOp (o : Oper) : Bool := match o.op with
 | .move _ | .assign _ | .pick .. | .build .. | .load .. | .nilCheck _ | .binOp .. | .unOp .. | .convert .. | .makeInterface .. | .fieldAddr .. | .field .. | .indexAddr .. | .index .. | .typeAssert .. | .extract .. | .slice .. => true
 | _ => false
inductive OT where
 | nil
 | op (i : Nat) (r : OT)
 | either (i j : Nat) (r s : OT)
def okT (ops : Array Oper) (F : Nat -> Bool) : OT -> Array Bool -> Bool
 | .nil, listed => (Region.ready .any ops listed).isEmpty
 | .op i r, listed => (match ops[i]? with
    | some o => if stillOp o then Region.free .any ops listed i && (Region.ready .any ops listed).contains i && ((List.range ops.size).all fun j => j == i || listed.getD j true || F j || match ops[j]? with
       | some oj => oj.after.any (fun e => Region.binds .any e && e.on == i)
       | none => true) else Region.ready .any ops listed == [i]
    | none => false) && okT ops F r (listed.setIfInBounds i true)
 | .either i j r s, listed => Region.ready .any ops listed == [i, j] && (match ops[i]?, ops[j]? with
    | some o, some o' => !stillOp o && !stillOp o'
    | _, _ => false) && okT ops F r (listed.setIfInBounds i true) && okT ops F s (listed.setIfInBounds j true)
def OT.size : OT -> Nat
 | .nil => 0
 | .op _ r => r.size + 1
 | .either _ _ r s => max r.size s.size + 1
def nthO : Nat -> List Oper -> Option Oper
 | _, [] => none
 | 0, x :: _ => some x
 | n + 1, _ :: r => nthO n r
theorem nthO_eq : ∀ (n : Nat) (l : List Oper), nthO n l = l[n]?
 | _, [] => by simp [nthO]
 | 0, x :: _ => by simp [nthO]
 | n + 1, _ :: r => by simp [nthO, nthO_eq n r]
def wpT (P : Program) (l : List Oper) (Q : Exit -> Act -> World -> Prop) (F : Nat -> Bool) (S : World -> Prop) : OT -> Act -> World -> Prop
 | .nil, a, w => Q .normal a w
 | .op i r, a, w => ∃ o, nthO i l = some o /\ if stillOp o then S w /\ ∃ v, YieldsIf P l.toArray S o v a /\ wpT P l Q F S r (a.put o.dst v) w
    else if Region.wanted o (yielded l.toArray a.tmps) then o.wp P a w (fun a' w' => (F i = true -> S w') /\ wpT P l Q F S r a' w') (NoPanic Q) else (F i = true -> S w) /\ wpT P l Q F S r (a.put o.dst undef) w
 | .either i j r s, a, w => (∃ o, nthO i l = some o /\ Region.wanted o (yielded l.toArray a.tmps) = true /\ o.wp P a w (fun a' w' => (F i = true -> S w') /\ wpT P l Q F S r a' w') (NoPanic Q)) /\
    (∃ o, nthO j l = some o /\ Region.wanted o (yielded l.toArray a.tmps) = true /\ o.wp P a w (fun a' w' => (F j = true -> S w') /\ wpT P l Q F S s a' w') (NoPanic Q))
theorem wpT_sound {P : Program} {l : List Oper} {Q : Exit -> Act -> World -> Prop} {F : Nat -> Bool} {S : World -> Prop} (hsel : Region.noSelect l.toArray = true) : ∀ (t : OT) (fuel : Nat) (listed : Array Bool) (a : Act) (w : World), t.size <= fuel -> okT l.toArray F t listed = true ->
 wpT P l Q F S t a w -> wpAnyJ P l.toArray (NoPanic Q) F S fuel listed a w := by
 intro t
 induction t with
 | nil =>
   intro fuel listed a w _ hv h
   have hr : Region.ready .any l.toArray listed = [] := by simpa [okT] using hv
   cases fuel with
   | zero => exact ⟨hr, NoPanic.normal h⟩
   | succ fuel => exact ⟨fun _ => NoPanic.normal h, by rw [hr]; simp⟩
 | op i r ih =>
   intro fuel listed a w hf hv h
   cases fuel with
   | zero => simp [OT.size] at hf
   | succ fuel =>
     simp only [okT, Bool.and_eq_true] at hv
     obtain ⟨hv1, hv2⟩ := hv
     have hl : l.toArray[i]? = nthO i l := by rw [nthO_eq]; simp
     rw [hl] at hv1
     obtain ⟨o, ho, h⟩ := h
     rw [ho] at hv1 hl
     by_cases hst : stillOp o = true
     · simp only [hst, if_true, Bool.and_eq_true] at hv1 h
       obtain ⟨hS, v, hy, h⟩ := h
       obtain ⟨⟨hfree, hrd⟩, hall⟩ := hv1
       refine wpAnyJ_first hl (Region.noSelect_spec hsel) (fun _ _ _ h => h.elim) fuel listed a w ?_ (by simpa using hrd) hy hS (ih fuel _ _ w (by simp [OT.size] at hf; omega) hv2 h)
       intro j oj hj hne hun hno
       refine ⟨Region.free_spec hl hfree j oj hj hne hun hno, ?_⟩
       rw [List.all_eq_true] at hall
       have := hall j (List.mem_range.2 (Array.getElem?_eq_some_iff.1 hj).1)
       simp only [hj, Bool.or_eq_true, beq_iff_eq, hne, false_or, hun, Bool.false_eq_true] at this
       rcases this with h1 | h1
       · exact h1
       · obtain ⟨e, he, hb⟩ := Array.any_eq_true'.1 h1
         simp only [Bool.and_eq_true, beq_iff_eq] at hb
         exact absurd hb.2 (hno e he hb.1)
     · simp only [hst, Bool.false_eq_true, if_false] at hv1 h
       have hr : Region.ready .any l.toArray listed = [i] := by simpa using hv1
       refine ⟨fun h0 => (by rw [hr] at h0; cases h0), fun k hk => ?_⟩
       rw [hr] at hk
       simp at hk
       subst hk
       unfold wpOp
       simp only [hl]
       by_cases hw : Region.wanted o (yielded l.toArray a.tmps) = true
       · simp only [hw, if_true] at h ⊢
         refine Or.inl (Oper.wp_mono ?_ h)
         rintro a' w' ⟨h1, h2⟩
         exact ⟨h1, ih fuel _ a' w' (by simp [OT.size] at hf; omega) hv2 h2⟩
       · simp only [hw, Bool.false_eq_true, if_false] at h ⊢
         exact ⟨h.1, ih fuel _ _ w (by simp [OT.size] at hf; omega) hv2 h.2⟩
 | either i j r s ihr ihs =>
   intro fuel listed a w hf hv h
   cases fuel with
   | zero => simp [OT.size] at hf
   | succ fuel =>
     simp only [okT, Bool.and_eq_true] at hv
     obtain ⟨⟨⟨hv1, _⟩, hv2⟩, hv3⟩ := hv
     have hr : Region.ready .any l.toArray listed = [i, j] := by simpa using hv1
     obtain ⟨⟨o, ho, hw, h1⟩, o', ho', hw', h2⟩ := h
     simp only [OT.size] at hf
     refine ⟨fun h0 => (by rw [hr] at h0; cases h0), fun k hk => ?_⟩
     rw [hr] at hk
     simp at hk
     rcases hk with rfl | rfl
     · have hl : l.toArray[k]? = some o := by rw [<- ho, nthO_eq]; simp
       unfold wpOp
       simp only [hl, hw, if_true]
       refine Or.inl (Oper.wp_mono ?_ h1)
       rintro a' w' ⟨h3, h4⟩
       exact ⟨h3, ihr fuel _ a' w' (by omega) hv2 h4⟩
     · have hl : l.toArray[k]? = some o' := by rw [<- ho', nthO_eq]; simp
       unfold wpOp
       simp only [hl, hw', if_true]
       refine Or.inl (Oper.wp_mono ?_ h2)
       rintro a' w' ⟨h3, h4⟩
       exact ⟨h3, ihs fuel _ a' w' (by omega) hv3 h4⟩
theorem wp_regT {P : Program} {id : Nat} {l : List Oper} {Q : Exit -> Act -> World -> Prop} {a : Act} {w : World} (t : OT) (F : Nat -> Bool) (S : World -> Prop) (hm : P.follows .mixedOrders = true) (hn : t.size <= l.length) (hsel : Region.noSelect l.toArray = true)
 (hv : okT l.toArray F t (Array.replicate l.length false) = true) (h : wpT P l Q F S t a w.drew) : (Code.region id l.toArray true).wp P Q a w := by
 refine wp_region_noPanic (wp_region_any hm (wpAny_ofJ (F := F) (S := S) _ _ _ _ ?_))
 have := wpT_sound (P := P) (Q := Q) (F := F) (S := S) hsel t l.toArray.size (Array.replicate l.length false) a w.drew (by simpa using hn) hv h
 simpa using this
theorem wp_regK {P : Program} {id : Nat} {l : List Oper} {Q : Exit -> Act -> World -> Prop} {a : Act} {w : World} {M : List Nat} {w0 : World} {L : RowL} (hk : Kn M w0 w L) (t : OT) (F : Nat -> Bool) (hm : P.follows .mixedOrders = true) (hn : t.size <= l.length) (hsel : Region.noSelect l.toArray = true)
 (hv : okT l.toArray F t (Array.replicate l.length false) = true) (h : ∀ w1, Kn M w0 w1 L -> wpT P l Q F (fun wx => Kn M w0 wx L) t a w1) : (Code.region id l.toArray true).wp P Q a w :=
 wp_regT t F _ hm hn hsel hv (h _ hk.drew)
structure FldT (P : Program) (ty : TypeId) (f k : Nat) : Prop where
 ex : ∃ fs x, P.underlying ty = some (.struct fs) /\ fs[f]? = some x /\ x.offset = k /\ ∀ (b j : Nat) (w : World), (fieldPlace ⟨b, j, none⟩ x).run P w = .ok (if k = 0 then ⟨b, j, none⟩ else ⟨b, j + k, none⟩) w
structure ArrT (P : Program) (ty : TypeId) (len n : Nat) : Prop where
 ex : ∃ e, P.underlying ty = some (.array len e) /\ (P.info? e).map (·.size) = some n
structure SlcT (P : Program) (ty : TypeId) (n : Nat) : Prop where
 ex : ∃ e, P.underlying ty = some (.slice e) /\ (P.info? e).map (·.size) = some n
section still
variable {P : Program} {l : List Oper} {Q : Exit -> Act -> World -> Prop} {F : Nat -> Bool} {S : World -> Prop} {r r' : OT} {a : Act} {w : World} {i i' : Nat} {o o' : Oper} {d : Option Tmp} {tt : TypeId} {pos : String} {aft : Array Edge} {g : Option (Nat × Bool)} {M : List Nat} {w0 : World} {L : RowL} {ty : TypeId} {x y : Operand} {A cs : Array Value} {b j n k f : Nat} {t : TypeId} {v : Value}
theorem tNil (h : Q .normal a w) : wpT P l Q F S .nil a w := h
theorem tStill (ho : nthO i l = some o) (hs : stillOp o = true) (hw : Region.wanted o (yielded l.toArray a.tmps) = true) (hS : S w) (hy : ∀ wx, S wx -> (execOp a.eval o).run P wx = .ok (.value v) wx) (h : wpT P l Q F S r (a.put o.dst v) w) : wpT P l Q F S (.op i r) a w :=
 ⟨o, ho, by rw [if_pos hs]; exact ⟨hS, v, Or.inl ⟨hw, hy⟩, h⟩⟩
theorem tSkip (ho : nthO i l = some o) (hs : stillOp o = true) (hw : Region.wanted o (yielded l.toArray a.tmps) = false) (hS : S w) (h : wpT P l Q F S r (a.put o.dst undef) w) : wpT P l Q F S (.op i r) a w :=
 ⟨o, ho, by rw [if_pos hs]; exact ⟨hS, undef, Or.inr ⟨hw, rfl⟩, h⟩⟩
theorem tSkipA (ho : nthO i l = some o) (hs : stillOp o = false) (hw : Region.wanted o (yielded l.toArray a.tmps) = false) (hS : S w) (h : wpT P l Q F S r (a.put o.dst undef) w) : wpT P l Q F S (.op i r) a w :=
 ⟨o, ho, by rw [if_neg (by simp [hs]), if_neg (by simp [hw])]; exact ⟨fun _ => hS, h⟩⟩
theorem tAct (ho : nthO i l = some o) (hs : stillOp o = false) (hw : Region.wanted o (yielded l.toArray a.tmps) = true) (h : o.wp P a w (fun a' w' => (F i = true -> S w') /\ wpT P l Q F S r a' w') (NoPanic Q)) : wpT P l Q F S (.op i r) a w :=
 ⟨o, ho, by rw [if_neg (by simp [hs]), if_pos hw]; exact h⟩
theorem tActK (ho : nthO i l = some o) (hs : stillOp o = false) (hw : Region.wanted o (yielded l.toArray a.tmps) = true) (h : ∀ K : Act -> World -> Prop, (∀ a' w', (F i = true -> S w') -> wpT P l Q F S r a' w' -> K a' w') -> o.wp P a w K (NoPanic Q)) : wpT P l Q F S (.op i r) a w :=
 tAct ho hs hw (h _ fun _ _ h1 h2 => ⟨h1, h2⟩)
theorem tEither (ho : nthO i l = some o) (hw : Region.wanted o (yielded l.toArray a.tmps) = true) (ho' : nthO i' l = some o') (hw' : Region.wanted o' (yielded l.toArray a.tmps) = true) (h : o.wp P a w (fun a' w' => (F i = true -> S w') /\ wpT P l Q F S r a' w') (NoPanic Q))
 (h' : o'.wp P a w (fun a' w' => (F i' = true -> S w') /\ wpT P l Q F S r' a' w') (NoPanic Q)) : wpT P l Q F S (.either i i' r r') a w := ⟨⟨o, ho, hw, h⟩, o', ho', hw', h'⟩
theorem tEitherK (ho : nthO i l = some o) (hw : Region.wanted o (yielded l.toArray a.tmps) = true) (ho' : nthO i' l = some o') (hw' : Region.wanted o' (yielded l.toArray a.tmps) = true) (h : ∀ K : Act -> World -> Prop, (∀ a' w', (F i = true -> S w') -> wpT P l Q F S r a' w' -> K a' w') -> o.wp P a w K (NoPanic Q))
 (h' : ∀ K : Act -> World -> Prop, (∀ a' w', (F i' = true -> S w') -> wpT P l Q F S r' a' w' -> K a' w') -> o'.wp P a w K (NoPanic Q)) : wpT P l Q F S (.either i i' r r') a w := tEither ho hw ho' hw' (h _ fun _ _ h1 h2 => ⟨h1, h2⟩) (h' _ fun _ _ h1 h2 => ⟨h1, h2⟩)
theorem tMove (ho : nthO i l = some ⟨d, .move x, tt, pos, aft, g⟩) (hw : Region.wanted ⟨d, .move x, tt, pos, aft, g⟩ (yielded l.toArray a.tmps) = true) (hS : S w) (h : wpT P l Q F S r (a.put d (a.eval x)) w) : wpT P l Q F S (.op i r) a w :=
 tStill ho rfl hw hS (fun _ _ => rfl) h
theorem tAssign (ho : nthO i l = some ⟨d, .assign x, tt, pos, aft, g⟩) (hw : Region.wanted ⟨d, .assign x, tt, pos, aft, g⟩ (yielded l.toArray a.tmps) = true) (hS : S w) (h : wpT P l Q F S r (a.put d (a.eval x)) w) : wpT P l Q F S (.op i r) a w :=
 tStill ho rfl hw hS (fun _ _ => rfl) h
theorem tExtract {vs : Array Value} (ho : nthO i l = some ⟨d, .extract x k, tt, pos, aft, g⟩) (hw : Region.wanted ⟨d, .extract x k, tt, pos, aft, g⟩ (yielded l.toArray a.tmps) = true) (hS : S w) (hx : a.eval x = .tuple vs) (hv : vs[k]? = some v) (h : wpT P l Q F S r (a.put d v) w) : wpT P l Q F S (.op i r) a w :=
 tStill ho rfl hw hS (fun wx _ => by unfold execOp; simp only [hx, Instr.extract, hv, Sem.run_bind, Sem.run_pure, Result.andThen_ok]) h
theorem tBuild {parts : Array (Nat × Operand)} {ps : List (Nat × Value)} (ho : nthO i l = some ⟨d, .build ty parts, tt, pos, aft, g⟩) (hw : Region.wanted ⟨d, .build ty parts, tt, pos, aft, g⟩ (yielded l.toArray a.tmps) = true) (hS : S w) (hps : (parts.toList.map fun (i, x) => (i, a.eval x)) = ps) (hb : ∀ wx, (Instr.build ty ps.toArray).run P wx = .ok v wx)
 (h : wpT P l Q F S r (a.put d v) w) : wpT P l Q F S (.op i r) a w :=
 tStill ho rfl hw hS (fun wx _ => by
  have e : (parts.map fun (i, x) => (i, a.eval x)) = ps.toArray := by rw [<- hps]; exact (Array.toList_inj.1 (by rw [Array.toList_map]))
  unfold execOp; simp only [Sem.run_bind, Sem.run_pure, Result.andThen_ok, e, hb wx]) h
theorem run_field (hT : FldT P ty f k) (w : World) : (Instr.fieldAt ty (.pointer (some ⟨b, j, none⟩)) f).run P w = .ok (.pointer (some ⟨b, j + k, none⟩)) w := by
 obtain ⟨fs, fx, hu, hf, _, hp⟩ := hT.ex
 unfold Instr.fieldAt
 simp only [Sem.run_bind, run_underlying hu w, Result.andThen_ok, hf, Instr.sureAddr, Sem.run_pure, hp]
 by_cases h0 : k = 0
 · subst h0; simp
 · rw [if_neg h0]
theorem tField (ho : nthO i l = some ⟨d, .fieldAddr ty x f, tt, pos, aft, g⟩) (hw : Region.wanted ⟨d, .fieldAddr ty x f, tt, pos, aft, g⟩ (yielded l.toArray a.tmps) = true) (hS : S w) (hx : a.eval x = .pointer (some ⟨b, j, none⟩)) (hT : FldT P ty f k) (h : wpT P l Q F S r (a.put d (.pointer (some ⟨b, j + k, none⟩))) w) : wpT P l Q F S (.op i r) a w :=
 tStill ho rfl hw hS (fun wx _ => by unfold execOp; simp only [hx, run_field hT, Sem.run_bind, Sem.run_pure, Result.andThen_ok]) h
theorem run_indexA {len c : Nat} (hT : ArrT P ty len n) (hc : c < len) (w : World) : (Instr.indexAt ty (.pointer (some ⟨b, j, none⟩)) (.int .i64 c)).run P w = .ok (.pointer (some ⟨b, j + c * n, none⟩)) w := by
 obtain ⟨e, hu, hi⟩ := hT.ex
 cases hq : P.info? e with
 | none => simp [hq] at hi
 | some q =>
   have hs : q.size = n := by simpa [hq] using hi
   unfold Instr.indexAt
   simp only [asIntOf, Sem.run_bind, Sem.run_pure, run_underlying hu w, Result.andThen_ok, Instr.sureAddr]
   rw [if_pos (by omega)]
   simp [sizeOf, typeInfo, hq, hs, Addr.add_mid]
theorem run_indexS {len cap c : Nat} (hT : SlcT P ty n) (hc : c < len) (w : World) : (Instr.indexAt ty (.slice (some ⟨b, j, none⟩) len cap) (.int .i64 c)).run P w = .ok (.pointer (some ⟨b, j + c * n, none⟩)) w := by
 obtain ⟨e, hu, hi⟩ := hT.ex
 cases hq : P.info? e with
 | none => simp [hq] at hi
 | some q =>
   have hs : q.size = n := by simpa [hq] using hi
   unfold Instr.indexAt
   simp only [asIntOf, Sem.run_bind, Sem.run_pure, run_underlying hu w, Result.andThen_ok]
   rw [if_pos (by omega)]
   simp [sizeOf, typeInfo, hq, hs, Addr.add_mid]
theorem tIndexA {len c : Nat} (ho : nthO i l = some ⟨d, .indexAddr ty x y, tt, pos, aft, g⟩) (hw : Region.wanted ⟨d, .indexAddr ty x y, tt, pos, aft, g⟩ (yielded l.toArray a.tmps) = true) (hS : S w) (hx : a.eval x = .pointer (some ⟨b, j, none⟩)) (hy : a.eval y = .int .i64 c) (hT : ArrT P ty len n) (hc : c < len)
 (h : wpT P l Q F S r (a.put d (.pointer (some ⟨b, j + c * n, none⟩))) w) : wpT P l Q F S (.op i r) a w :=
 tStill ho rfl hw hS (fun wx _ => by unfold execOp; simp only [hx, hy, run_indexA hT hc, Sem.run_bind, Sem.run_pure, Result.andThen_ok]) h
theorem tIndexS {len cap c : Nat} (ho : nthO i l = some ⟨d, .indexAddr ty x y, tt, pos, aft, g⟩) (hw : Region.wanted ⟨d, .indexAddr ty x y, tt, pos, aft, g⟩ (yielded l.toArray a.tmps) = true) (hS : S w) (hx : a.eval x = .slice (some ⟨b, j, none⟩) len cap) (hy : a.eval y = .int .i64 c) (hT : SlcT P ty n) (hc : c < len)
 (h : wpT P l Q F S r (a.put d (.pointer (some ⟨b, j + c * n, none⟩))) w) : wpT P l Q F S (.op i r) a w :=
 tStill ho rfl hw hS (fun wx _ => by unfold execOp; simp only [hx, hy, run_indexS hT hc, Sem.run_bind, Sem.run_pure, Result.andThen_ok]) h
theorem tLoadR (ho : nthO i l = some ⟨d, .load ty x, tt, pos, aft, g⟩) (hw : Region.wanted ⟨d, .load ty x, tt, pos, aft, g⟩ (yielded l.toArray a.tmps) = true) (hS : Kn M w0 w L) (hx : a.eval x = .pointer (some ⟨b, j, none⟩)) (hm : (b, A, t) ∈ L) (hT : RowT P ty n) (hc : A.extract j (j + n) = cs) (hn : cs.size = n)
 (h : wpT P l Q F (fun wx => Kn M w0 wx L) r (a.put d (.agg cs)) w) : wpT P l Q F (fun wx => Kn M w0 wx L) (.op i r) a w :=
 tStill ho rfl hw hS (fun wx hk => by unfold execOp; simp only [hx, Sem.run_bind, Sem.run_pure, Result.andThen_ok, run_loadA (hk.at hm) hT hc hn]) h
theorem tLoad1 (ho : nthO i l = some ⟨d, .load ty x, tt, pos, aft, g⟩) (hw : Region.wanted ⟨d, .load ty x, tt, pos, aft, g⟩ (yielded l.toArray a.tmps) = true) (hS : Kn M w0 w L) (hx : a.eval x = .pointer (some ⟨b, j, none⟩)) (hm : (b, A, t) ∈ L) (hT : OneT P ty) (hv : A[j]? = some v)
 (h : wpT P l Q F (fun wx => Kn M w0 wx L) r (a.put d v) w) : wpT P l Q F (fun wx => Kn M w0 wx L) (.op i r) a w :=
 tStill ho rfl hw hS (fun wx hk => by unfold execOp; simp only [hx, Sem.run_bind, Sem.run_pure, Result.andThen_ok, run_loadC (by rw [(hk.at hm).cell]; exact hv) hT]) h
theorem tLoadOld1 (ho : nthO i l = some ⟨d, .load ty x, tt, pos, aft, g⟩) (hw : Region.wanted ⟨d, .load ty x, tt, pos, aft, g⟩ (yielded l.toArray a.tmps) = true) (hS : Kn M w0 w L) (hx : a.eval x = .pointer (some ⟨b, j, none⟩)) (hc : w0.cell? ⟨b, j, none⟩ = some v) (hM : b ∉ M) (hT : OneT P ty)
 (h : wpT P l Q F (fun wx => Kn M w0 wx L) r (a.put d v) w) : wpT P l Q F (fun wx => Kn M w0 wx L) (.op i r) a w :=
 tStill ho rfl hw hS (fun wx hk => by
  have hc' : wx.cell? ⟨b, j, none⟩ = some v := by rw [World.cell?_of_block (w := w0) (a := ⟨b, j, none⟩) (hk.mod.block b (World.block_lt_of_cell? w0 _ hc) hM)]; exact hc
  unfold execOp; simp only [hx, Sem.run_bind, Sem.run_pure, Result.andThen_ok, run_loadC hc' hT]) h
theorem tLoadOldR (ho : nthO i l = some ⟨d, .load ty x, tt, pos, aft, g⟩) (hw : Region.wanted ⟨d, .load ty x, tt, pos, aft, g⟩ (yielded l.toArray a.tmps) = true) (hS : Kn M w0 w L) (hx : a.eval x = .pointer (some ⟨b, j, none⟩)) (hc : w0.rangeAt b j cs.toList) (hb : b < w0.heap.size) (hM : b ∉ M) (hT : RowT P ty n) (hn : cs.size = n)
 (h : wpT P l Q F (fun wx => Kn M w0 wx L) r (a.put d (.agg cs)) w) : wpT P l Q F (fun wx => Kn M w0 wx L) (.op i r) a w :=
 tStill ho rfl hw hS (fun wx hk => by
  have hc' : wx.rangeAt b j cs.toList := fun q u hu => by rw [World.cell?_of_block (w := w0) (a := ⟨b, j + q, none⟩) (hk.mod.block b hb hM)]; exact hc q u hu
  unfold execOp; simp only [hx, Sem.run_bind, Sem.run_pure, Result.andThen_ok, run_loadRange hc' hT hn]) h
theorem tFieldZ (ho : nthO i l = some ⟨d, .fieldAddr ty x f, tt, pos, aft, g⟩) (hw : Region.wanted ⟨d, .fieldAddr ty x f, tt, pos, aft, g⟩ (yielded l.toArray a.tmps) = true) (hS : S w) (hx : a.eval x = .pointer (some ⟨b, j, none⟩)) (hT : FldT P ty f 0) (h : wpT P l Q F S r (a.put d (.pointer (some ⟨b, j, none⟩))) w) : wpT P l Q F S (.op i r) a w := tField ho hw hS hx hT h
theorem tField0 (ho : nthO i l = some ⟨d, .fieldAddr ty x f, tt, pos, aft, g⟩) (hw : Region.wanted ⟨d, .fieldAddr ty x f, tt, pos, aft, g⟩ (yielded l.toArray a.tmps) = true) (hS : S w) (hx : a.eval x = .pointer (some ⟨b, 0, none⟩)) (hT : FldT P ty f k) (h : wpT P l Q F S r (a.put d (.pointer (some ⟨b, k, none⟩))) w) : wpT P l Q F S (.op i r) a w := tField ho hw hS hx hT (by rw [Nat.zero_add]; exact h)
theorem tIndexA0 {len c : Nat} (ho : nthO i l = some ⟨d, .indexAddr ty x y, tt, pos, aft, g⟩) (hw : Region.wanted ⟨d, .indexAddr ty x y, tt, pos, aft, g⟩ (yielded l.toArray a.tmps) = true) (hS : S w) (hx : a.eval x = .pointer (some ⟨b, 0, none⟩)) (hy : a.eval y = .int .i64 c) (hT : ArrT P ty len n) (hc : c < len)
 (h : wpT P l Q F S r (a.put d (.pointer (some ⟨b, c * n, none⟩))) w) : wpT P l Q F S (.op i r) a w := tIndexA ho hw hS hx hy hT hc (by rw [Nat.zero_add]; exact h)
theorem tIndexS0 {len cap c : Nat} (ho : nthO i l = some ⟨d, .indexAddr ty x y, tt, pos, aft, g⟩) (hw : Region.wanted ⟨d, .indexAddr ty x y, tt, pos, aft, g⟩ (yielded l.toArray a.tmps) = true) (hS : S w) (hx : a.eval x = .slice (some ⟨b, 0, none⟩) len cap) (hy : a.eval y = .int .i64 c) (hT : SlcT P ty n) (hc : c < len)
 (h : wpT P l Q F S r (a.put d (.pointer (some ⟨b, c * n, none⟩))) w) : wpT P l Q F S (.op i r) a w := tIndexS ho hw hS hx hy hT hc (by rw [Nat.zero_add]; exact h)
theorem tRun (ho : nthO i l = some o) (hs : stillOp o = true) (hw : Region.wanted o (yielded l.toArray a.tmps) = true) (hS : S w) (hr : ∀ wx, (execOp a.eval o).run P wx = .ok (.value v) wx) (h : wpT P l Q F S r (a.put o.dst v) w) : wpT P l Q F S (.op i r) a w := tStill ho hs hw hS (fun wx _ => hr wx) h
theorem tPickT {c y : Operand} (ho : nthO i l = some ⟨d, .pick c x y, tt, pos, aft, g⟩) (hw : Region.wanted ⟨d, .pick c x y, tt, pos, aft, g⟩ (yielded l.toArray a.tmps) = true) (hS : S w) (hc : a.eval c = .bool true) (h : wpT P l Q F S r (a.put d (a.eval x)) w) : wpT P l Q F S (.op i r) a w :=
 tStill ho rfl hw hS (fun wx _ => by unfold execOp; simp only [hc]; rfl) h
theorem tPickF {c y : Operand} (ho : nthO i l = some ⟨d, .pick c x y, tt, pos, aft, g⟩) (hw : Region.wanted ⟨d, .pick c x y, tt, pos, aft, g⟩ (yielded l.toArray a.tmps) = true) (hS : S w) (hc : a.eval c = .bool false) (h : wpT P l Q F S r (a.put d (a.eval y)) w) : wpT P l Q F S (.op i r) a w :=
 tStill ho rfl hw hS (fun wx _ => by unfold execOp; simp only [hc]; rfl) h
end still
theorem Kn.sub {M : List Nat} {w0 w : World} {L L' : RowL} (h : Kn M w0 w L) (hs : L'.Sublist L) : Kn M w0 w L' := ⟨h.mod, fun x hx => h.has x (hs.subset hx), h.dis.sublist hs⟩
theorem wp_regS {P : Program} {id : Nat} {l : List Oper} {Q : Exit -> Act -> World -> Prop} {a : Act} {w : World} {M : List Nat} {w0 : World} {L : RowL} (hk : Kn M w0 w L) (L' : RowL) (t : OT) (F : Nat -> Bool) (hm : P.follows .mixedOrders = true) (hn : t.size <= l.length) (hsel : Region.noSelect l.toArray = true)
 (hv : okT l.toArray F t (Array.replicate l.length false) = true) (h : ∀ w1, Kn M w0 w1 L -> wpT P l Q F (fun wx => Kn M w0 wx L') t a w1) : (Code.region id l.toArray true).wp P Q a w :=
 wp_regT t F _ hm hn hsel hv (h _ hk.drew)
section plain
variable {P : Program} {d : Option Tmp} {tt : TypeId} {pos : String} {aft : Array Edge} {g : Option (Nat × Bool)} {a : Act} {w : World} {K : Act -> World -> Prop} {Q : Exit -> Act -> World -> Prop} {ty : TypeId} {x y : Operand} {b j n k f : Nat}
theorem oField (hx : a.eval x = .pointer (some ⟨b, j, none⟩)) (hT : FldT P ty f k) (h : K (a.put d (.pointer (some ⟨b, j + k, none⟩))) w) : Oper.wp P ⟨d, .fieldAddr ty x f, tt, pos, aft, g⟩ a w K Q := by
 unfold Oper.wp execOp; simp only [hx, run_field hT, Sem.run_bind, Sem.run_pure, Result.andThen_ok]; exact h
theorem oIndexA {len c : Nat} (hx : a.eval x = .pointer (some ⟨b, j, none⟩)) (hy : a.eval y = .int .i64 c) (hT : ArrT P ty len n) (hc : c < len) (h : K (a.put d (.pointer (some ⟨b, j + c * n, none⟩))) w) : Oper.wp P ⟨d, .indexAddr ty x y, tt, pos, aft, g⟩ a w K Q := by
 unfold Oper.wp execOp; simp only [hx, hy, run_indexA hT hc, Sem.run_bind, Sem.run_pure, Result.andThen_ok]; exact h
theorem oIndexS {len cap c : Nat} (hx : a.eval x = .slice (some ⟨b, j, none⟩) len cap) (hy : a.eval y = .int .i64 c) (hT : SlcT P ty n) (hc : c < len) (h : K (a.put d (.pointer (some ⟨b, j + c * n, none⟩))) w) : Oper.wp P ⟨d, .indexAddr ty x y, tt, pos, aft, g⟩ a w K Q := by
 unfold Oper.wp execOp; simp only [hx, hy, run_indexS hT hc, Sem.run_bind, Sem.run_pure, Result.andThen_ok]; exact h
theorem oFieldZ (hx : a.eval x = .pointer (some ⟨b, j, none⟩)) (hT : FldT P ty f 0) (h : K (a.put d (.pointer (some ⟨b, j, none⟩))) w) : Oper.wp P ⟨d, .fieldAddr ty x f, tt, pos, aft, g⟩ a w K Q := oField hx hT h
theorem oField0 (hx : a.eval x = .pointer (some ⟨b, 0, none⟩)) (hT : FldT P ty f k) (h : K (a.put d (.pointer (some ⟨b, k, none⟩))) w) : Oper.wp P ⟨d, .fieldAddr ty x f, tt, pos, aft, g⟩ a w K Q := oField hx hT (by rw [Nat.zero_add]; exact h)
theorem oIndexA0 {len c : Nat} (hx : a.eval x = .pointer (some ⟨b, 0, none⟩)) (hy : a.eval y = .int .i64 c) (hT : ArrT P ty len n) (hc : c < len) (h : K (a.put d (.pointer (some ⟨b, c * n, none⟩))) w) : Oper.wp P ⟨d, .indexAddr ty x y, tt, pos, aft, g⟩ a w K Q := oIndexA hx hy hT hc (by rw [Nat.zero_add]; exact h)
theorem oIndexS0 {len cap c : Nat} (hx : a.eval x = .slice (some ⟨b, 0, none⟩) len cap) (hy : a.eval y = .int .i64 c) (hT : SlcT P ty n) (hc : c < len) (h : K (a.put d (.pointer (some ⟨b, c * n, none⟩))) w) : Oper.wp P ⟨d, .indexAddr ty x y, tt, pos, aft, g⟩ a w K Q := oIndexS hx hy hT hc (by rw [Nat.zero_add]; exact h)
end plain
def rowsA (n k : Nat) (g : Nat -> Array Value) : Array Value := Array.ofFn (n := n * k) fun j => (g (j.val / k)).getD (j.val % k) undef
theorem rows_size (n k : Nat) (g : Nat -> Array Value) : (rowsA n k g).size = n * k := by unfold rowsA; simp
theorem rows_get {n k : Nat} {g : Nat -> Array Value} {j : Nat} (h : j < n * k) : (rowsA n k g)[j]? = some ((g (j / k)).getD (j % k) undef) := by
 unfold rowsA
 rw [Array.getElem?_ofFn, dif_pos h]
theorem rows_at {n k : Nat} {g : Nat -> Array Value} {i q : Nat} (hi : i < n) (hq : q < k) (hg : (g i).size = k) : (rowsA n k g)[i * k + q]? = (g i)[q]? := by
 have h : i * k + q < n * k := by
  have : (i + 1) * k <= n * k := Nat.mul_le_mul_right k hi
  rw [Nat.add_mul, Nat.one_mul] at this
  omega
 have hk : 0 < k := by omega
 have e1 : (i * k + q) / k = i := by
  rw [Nat.add_comm, Nat.add_mul_div_right _ _ hk, Nat.div_eq_of_lt hq, Nat.zero_add]
 have e2 : (i * k + q) % k = q := by
  rw [Nat.add_comm, Nat.add_mul_mod_self_right, Nat.mod_eq_of_lt hq]
 rw [rows_get h, e1, e2, Array.getD_eq_getD_getElem?, Array.getElem?_eq_getElem (by omega)]
 rfl
theorem rows_ex {n k : Nat} {g : Nat -> Array Value} {i : Nat} (hi : i < n) (hg : (g i).size = k) : (rowsA n k g).extract (i * k) (i * k + k) = g i := by
 have hn : i * k + k <= n * k := by
  have : (i + 1) * k <= n * k := Nat.mul_le_mul_right k hi
  rwa [Nat.add_mul, Nat.one_mul] at this
 apply Array.ext_getElem?
 intro q
 by_cases hq : q < k
 · rw [Array.getElem?_extract, if_pos (by rw [rows_size]; omega)]
   exact rows_at hi hq hg
 · rw [Array.getElem?_eq_none (by rw [Array.size_extract, rows_size]; omega), Array.getElem?_eq_none (by omega)]
theorem rows_put {n k : Nat} {g : Nat -> Array Value} {i : Nat} {c : Array Value} (hc : c.size = k) : putA (rowsA n k g) (i * k) c.toList = rowsA n k (fun j => if j = i then c else g j) := by
 apply Array.ext_getElem?
 intro q
 by_cases hq : q < n * k
 · have hk : 0 < k := by
    rcases Nat.eq_zero_or_pos k with h | h
    · subst h; simp at hq
    · exact h
   rw [putA_get _ _ _ _ (by rw [rows_size]; exact hq), rows_get (g := fun j => if j = i then c else g j) hq]
   by_cases h1 : i * k <= q /\ q < i * k + c.toList.length
   · have e1 : q / k = i := by
      rw [Nat.div_eq_iff hk]
      simp only [Array.length_toList, hc] at h1
      omega
     have e2 : q % k = q - i * k := by
      have := Nat.mod_add_div q k
      rw [e1, Nat.mul_comm] at this
      omega
     rw [if_pos h1, e1, e2]
     simp only [if_true]
     simp only [Array.length_toList] at h1
     rw [Array.getD_eq_getD_getElem?, Array.getElem?_toList, Array.getElem?_eq_getElem (by omega)]
     rfl
   · have e1 : q / k ≠ i := by
      intro e
      apply h1
      rw [Nat.div_eq_iff hk] at e
      simp only [Array.length_toList, hc]
      omega
     rw [if_neg h1, rows_get hq, if_neg e1]
 · rw [Array.getElem?_eq_none (by rw [putA_size, rows_size]; omega), Array.getElem?_eq_none (by rw [rows_size]; omega)]
theorem rows_congr {n k : Nat} {g h : Nat -> Array Value} (e : ∀ i, i < n -> g i = h i) : rowsA n k g = rowsA n k h := by
 apply Array.ext_getElem?
 intro q
 by_cases hq : q < n * k
 · have hk : 0 < k := by
    rcases Nat.eq_zero_or_pos k with h | h
    · subst h; simp at hq
    · exact h
   rw [rows_get hq, rows_get hq, e _ (Nat.div_lt_of_lt_mul (by rw [Nat.mul_comm]; exact hq))]
 · rw [Array.getElem?_eq_none (by rw [rows_size]; omega), Array.getElem?_eq_none (by rw [rows_size]; omega)]
theorem made_rows (n k : Nat) (z : Array Value) (hz : z.size = k) : madeCells z (n * k) = rowsA n k (fun _ => z) := by
 apply Array.ext_getElem?
 intro q
 unfold madeCells
 by_cases hq : q < n * k
 · rw [rows_get hq]
   have hk : 0 < k := by
    rcases Nat.eq_zero_or_pos k with h | h
    · subst h; simp at hq
    · exact h
   have hlt : q % k < z.size := by rw [hz]; exact Nat.mod_lt _ hk
   have e : z[q % k]! = z.getD (q % k) undef := by rw [getElem!_pos z _ hlt, Array.getD_eq_getD_getElem?, Array.getElem?_eq_getElem hlt]; rfl
   rw [Array.getElem?_map, Array.getElem?_eq_getElem (by simpa using hq), Array.getElem_range, Option.map_some, hz, e]
 · rw [Array.getElem?_eq_none (xs := rowsA n k fun _ => z) (by rw [rows_size]; omega), Array.getElem?_eq_none (by simp; omega)]
structure MkT (P : Program) (ty e : TypeId) (k by_ : Nat) (z : Array Value) : Prop where
 hu : P.underlying ty = some (.slice e)
 ex : ∃ zv, (P.info? e).map (fun i => (i.zero, i.size, i.bytes)) = some (some zv, k, by_) /\ zv.cells = z /\ z.size = k
structure AsT (P : Program) (ty : TypeId) (z : Value) : Prop where
 ex : ∃ d, P.underlying ty = some d /\ ∀ m, d ≠ .interface m
 hz : (P.info? ty).map (·.zero) = some (some z)
section laws
variable {P : Program} {d : Option Tmp} {tt : TypeId} {pos : String} {aft : Array Edge} {g : Option (Nat × Bool)} {a : Act} {w : World} {K : Act -> World -> Prop} {Q : Exit -> Act -> World -> Prop} {M : List Nat} {w0 : World} {L : RowL} {ty e t : TypeId} {x y : Operand} {A z cs : Array Value} {b j n k by_ : Nat} {v zv : Value}
theorem oMake (hx : a.eval x = .int .i64 n) (hy : a.eval y = .int .i64 n) (hk : Kn M w0 w L) (hT : MkT P ty e k by_ z) (hb : (by_ : Int) * n <= 281474976710656) (hn : (n : Int) <= 9223372036854775807)
 (h : ∀ w1, Kn M w0 w1 ((w.heap.size, rowsA n k (fun _ => z), e) :: L) -> K (a.put d (.slice (some ⟨w.heap.size, 0, none⟩) n n)) w1) : Oper.wp P ⟨d, .makeSlice ty x y, tt, pos, aft, g⟩ a w K Q := by
 have hu := hT.hu
 obtain ⟨zv, hin, hc, hzs⟩ := hT.ex
 obtain ⟨i, hi, hz, hs, hby⟩ : ∃ i, P.info? e = some i /\ i.zero = some zv /\ i.size = k /\ i.bytes = by_ := by
  cases hq : P.info? e with
  | none => rw [hq] at hin; simp at hin
  | some i => rw [hq] at hin; simp at hin; exact ⟨i, rfl, hin.1, hin.2.1, hin.2.2⟩
 have h1 := h (w.alloc (.cells (rowsA n k (fun _ => z)) e)) (hk.alloc _ e)
 have hr := run_make (P := P) w ty e i zv hu hi hz .i64 .i64 (n : Int) (n : Int) (by omega) (Int.le_refl _) (by rw [hby]; exact hb) hn
 rw [hc, hs, Int.toNat_natCast, made_rows n k z hzs] at hr
 unfold Oper.wp execOp
 simp only [hx, hy, Sem.run_bind, Sem.run_pure, Result.andThen_ok, hr]
 exact h1
theorem oAssertY (hx : a.eval x = .iface ty v) (hT : AsT P ty zv) (h : K (a.put d (.tuple #[v, .bool true])) w) : Oper.wp P ⟨d, .typeAssert x e ty true, tt, pos, aft, g⟩ a w K Q := by
 obtain ⟨dd, hu, hni⟩ := hT.ex
 unfold Oper.wp execOp
 simp only [hx, Instr.typeAssert, Sem.run_bind, run_underlying hu w, Result.andThen_ok]
 cases dd with
 | interface m => exact absurd rfl (hni m)
 | _ => simpa [Oper.upon] using h
theorem oAssertN (hx : a.eval x = .iface t v) (hne : t ≠ ty) (hT : AsT P ty zv) (h : K (a.put d (.tuple #[zv, .bool false])) w) : Oper.wp P ⟨d, .typeAssert x e ty true, tt, pos, aft, g⟩ a w K Q := by
 obtain ⟨dd, hu, hni⟩ := hT.ex
 have hzz := hT.hz
 obtain ⟨i, hi, hz⟩ : ∃ i, P.info? ty = some i /\ i.zero = some zv := by
  cases hq : P.info? ty with
  | none => rw [hq] at hzz; simp at hzz
  | some i => rw [hq] at hzz; simp at hzz; exact ⟨i, rfl, hzz⟩
 unfold Oper.wp execOp
 simp only [hx, Instr.typeAssert, Sem.run_bind, run_underlying hu w, Result.andThen_ok]
 cases dd with
 | interface m => exact absurd rfl (hni m)
 | _ => simpa [Oper.upon, hne, zeroValue, typeInfo, hi, hz] using h
theorem old_at (hk : Kn M w0 w L) (hat : At w0 b A t) (hM : b ∉ M) : At w b A t := hat.of (hk.mod.block b hat.lt hM)
theorem oOldR (hx : a.eval x = .pointer (some ⟨b, j, none⟩)) (hk : Kn M w0 w L) (hat : At w0 b A t) (hM : b ∉ M) (hT : RowT P ty n) (hc : A.extract j (j + n) = cs) (hn : cs.size = n) (h : K (a.put d (.agg cs)) w) : Oper.wp P ⟨d, .load ty x, tt, pos, aft, g⟩ a w K Q := by
 unfold Oper.wp execOp
 simp only [hx, Sem.run_bind, Sem.run_pure, Result.andThen_ok, run_loadA (old_at hk hat hM) hT hc hn]
 exact h
theorem oOld1 (hx : a.eval x = .pointer (some ⟨b, j, none⟩)) (hk : Kn M w0 w L) (hat : At w0 b A t) (hM : b ∉ M) (hT : OneT P ty) (hv : A[j]? = some v) (h : K (a.put d v) w) : Oper.wp P ⟨d, .load ty x, tt, pos, aft, g⟩ a w K Q := by
 unfold Oper.wp execOp
 simp only [hx, Sem.run_bind, Sem.run_pure, Result.andThen_ok, run_loadC (by rw [(old_at hk hat hM).cell]; exact hv) hT]
 exact h
end laws
section still
variable {P : Program} {l : List Oper} {Q : Exit -> Act -> World -> Prop} {F : Nat -> Bool} {r : OT} {a : Act} {w : World} {i : Nat} {d : Option Tmp} {tt : TypeId} {pos : String} {aft : Array Edge} {g : Option (Nat × Bool)} {M : List Nat} {w0 : World} {L : RowL} {ty t : TypeId} {x : Operand} {A cs : Array Value} {b j n : Nat} {v : Value}
theorem tOldR (ho : nthO i l = some ⟨d, .load ty x, tt, pos, aft, g⟩) (hw : Region.wanted ⟨d, .load ty x, tt, pos, aft, g⟩ (yielded l.toArray a.tmps) = true) (hS : Kn M w0 w L) (hx : a.eval x = .pointer (some ⟨b, j, none⟩)) (hat : At w0 b A t) (hM : b ∉ M) (hT : RowT P ty n) (hc : A.extract j (j + n) = cs) (hn : cs.size = n)
 (h : wpT P l Q F (fun wx => Kn M w0 wx L) r (a.put d (.agg cs)) w) : wpT P l Q F (fun wx => Kn M w0 wx L) (.op i r) a w :=
 tStill ho rfl hw hS (fun wx hk => by unfold execOp; simp only [hx, Sem.run_bind, Sem.run_pure, Result.andThen_ok, run_loadA (old_at hk hat hM) hT hc hn]) h
theorem tOld1 (ho : nthO i l = some ⟨d, .load ty x, tt, pos, aft, g⟩) (hw : Region.wanted ⟨d, .load ty x, tt, pos, aft, g⟩ (yielded l.toArray a.tmps) = true) (hS : Kn M w0 w L) (hx : a.eval x = .pointer (some ⟨b, j, none⟩)) (hat : At w0 b A t) (hM : b ∉ M) (hT : OneT P ty) (hv : A[j]? = some v)
 (h : wpT P l Q F (fun wx => Kn M w0 wx L) r (a.put d v) w) : wpT P l Q F (fun wx => Kn M w0 wx L) (.op i r) a w :=
 tStill ho rfl hw hS (fun wx hk => by unfold execOp; simp only [hx, Sem.run_bind, Sem.run_pure, Result.andThen_ok, run_loadC (by rw [(old_at hk hat hM).cell]; exact hv) hT]) h
end still
structure R2 where
 lo : Int
 hi : Int
def R2.val (r : R2) : Value := .agg #[.int .i64 r.lo, .int .i64 r.hi]
def allR : R2 := ⟨-9223372036854775808, 9223372036854775807⟩
def comR (r o : R2) : R2 := ⟨max r.lo o.lo, min r.hi o.hi⟩
def inRg (r o : R2) : Bool := decide (o.lo <= r.lo) && decide (r.hi <= o.hi)
theorem belA1 (w : World) (o : Obj) : Below w.heap.size w (w.alloc o) := (Below.refl _ _).alloc (Nat.le_refl _) o
theorem isEmpty_any (r : R2) (w : World) :
 Calls Tryz.prog 81 #[r.val] w fun e w' => e = .returned (.bool (decide (r.hi < r.lo))) /\ Below w.heap.size w w' := by
 unfold R2.val
 go_enter Tryz.func81, Tryz.ntmps81
 go_wp2
 go_ret
 exact ⟨rfl, belA1 _ _⟩
theorem has_any (r : R2) (n : Int) (w : World) :
 Calls Tryz.prog 28 #[r.val, .int .i64 n] w fun e w' => e = .returned (.bool (decide (r.lo <= n /\ n <= r.hi))) /\ Below w.heap.size w w' := by
 unfold R2.val
 by_cases h0 : r.lo <= n <;> by_cases h1 : n <= r.hi
 all_goals
  go_enter Tryz.func28, Tryz.ntmps28
  go_wp2
  go_ret
  exact ⟨by simp [h0, h1], belA1 _ _⟩
theorem common_any (r o : R2) (w : World) :
 Calls Tryz.prog 132 #[r.val, o.val] w fun e w' => e = .returned (comR r o).val /\ Below w.heap.size w w' := by
 unfold R2.val
 obtain ⟨r0, r1⟩ := r
 obtain ⟨o0, o1⟩ := o
 simp only
 go_enter Tryz.func132, Tryz.ntmps132
 go_wp2
 all_goals exact bodyPost_ret (v := (comR ⟨r0, r1⟩ ⟨o0, o1⟩).val) (by simp [results, Tryz.results132, go_sem, comR, R2.val]; omega) rfl ⟨rfl, ((belA1 _ _).alloc (by simp) _).alloc (by simp; omega) _⟩
theorem comR_eq (r o : R2) : ((comR r o).lo == r.lo && (comR r o).hi == r.hi) = inRg r o := by
 unfold comR inRg
 simp only
 by_cases h1 : o.lo <= r.lo <;> by_cases h2 : r.hi <= o.hi <;> simp [h1, h2] <;> omega
theorem liesIn_any (r o : R2) (w : World) :
 Calls Tryz.prog 131 #[r.val, o.val] w fun e w' => e = .returned (.bool (inRg r o)) /\ Below w.heap.size w w' := by
 have HE := hide (comR_eq r o)
 have HC : Hid (∀ wx, Calls Tryz.prog 132 #[.agg #[.int .i64 r.lo, .int .i64 r.hi], .agg #[.int .i64 o.lo, .int .i64 o.hi]] wx fun e w' => e = .returned (.agg #[.int .i64 (comR r o).lo, .int .i64 (comR r o).hi]) /\ Below wx.heap.size wx w') := hide (fun wx => common_any r o wx)
 generalize hB : inRg r o = B at HE
 generalize comR r o = C at HE HC
 unfold R2.val
 clear hB
 have HB0 := hide (((belA1 w (.cells #[.int .i64 r.lo, .int .i64 r.hi] 27)).alloc (by simp) (.cells #[.int .i64 o.lo, .int .i64 o.hi] 27)).drew)
 have HX : Hid (∀ w2, Below ((w.alloc (.cells #[.int .i64 r.lo, .int .i64 r.hi] 27)).alloc (.cells #[.int .i64 o.lo, .int .i64 o.hi] 27)).drew.heap.size ((w.alloc (.cells #[.int .i64 r.lo, .int .i64 r.hi] 27)).alloc (.cells #[.int .i64 o.lo, .int .i64 o.hi] 27)).drew w2 -> w2.cell? ⟨w.heap.size, 0, none⟩ = some (.int .i64 r.lo) /\ w2.cell? ⟨w.heap.size, 1, none⟩ = some (.int .i64 r.hi) /\ w2.cell? ⟨w.heap.size + 1, 0, none⟩ = some (.int .i64 o.lo) /\ w2.cell? ⟨w.heap.size + 1, 1, none⟩ = some (.int .i64 o.hi)) := hide (fun w2 hb => by
  rw [hb.cell (p := ⟨w.heap.size, 0, none⟩) (by simp; omega), hb.cell (p := ⟨w.heap.size, 1, none⟩) (by simp; omega), hb.cell (p := ⟨w.heap.size + 1, 0, none⟩) (by simp), hb.cell (p := ⟨w.heap.size + 1, 1, none⟩) (by simp)]
  simp [go_sem])
 cases h1 : (C.lo == r.lo) <;> cases h2 : (C.hi == r.hi)
 all_goals
  rw [h1, h2] at HE
  go_enter Tryz.func131, Tryz.ntmps131
  go_wp2_with fail
  go_region_held3 (fun w' => w'.cell? ⟨w.heap.size, 0, none⟩ = some (.int .i64 r.lo) /\ w'.cell? ⟨w.heap.size, 1, none⟩ = some (.int .i64 r.hi) /\ w'.cell? ⟨w.heap.size + 1, 0, none⟩ = some (.int .i64 o.lo) /\ w'.cell? ⟨w.heap.size + 1, 1, none⟩ = some (.int .i64 o.hi)) (go_keep) (first
   | (go_at_call 132; refine (HC.out _).mono ?_; rintro e w2 ⟨rfl, hb2⟩; obtain ⟨z0, z1, z2, z3⟩ := HX.out w2 hb2; have HB2 := hide (HB0.out.trans (hb2.mono HB0.out.size)); clear hb2))
  go_wp2
  go_ret
  exact ⟨ret_bool HE.out, HB2.out⟩
def stC (s : Nat -> R2) : Array Value := #[.int .i64 (s 0).lo, .int .i64 (s 0).hi, .int .i64 (s 1).lo, .int .i64 (s 1).hi, .int .i64 (s 2).lo, .int .i64 (s 2).hi, .int .i64 (s 3).lo, .int .i64 (s 3).hi, .int .i64 (s 4).lo, .int .i64 (s 4).hi, .int .i64 (s 5).lo, .int .i64 (s 5).hi, .int .i64 (s 6).lo, .int .i64 (s 6).hi, .int .i64 (s 7).lo, .int .i64 (s 7).hi]
theorem idx_st (s : Nat -> R2) (n : Nat) (hn : n < 8) (w : World) : (Instr.index 29 (.agg (stC s)) (.int .i64 n)).run Tryz.prog w = .ok (.agg #[.int .i64 (s n).lo, .int .i64 (s n).hi]) w := by
 match n, hn with
 | 0, _ => exact (show (Instr.index 29 (.agg (stC s)) (.int .i64 0)).run Tryz.prog w = .ok (.agg #[.int .i64 (s 0).lo, .int .i64 (s 0).hi]) w by kernel_rfl)
 | 1, _ => exact (show (Instr.index 29 (.agg (stC s)) (.int .i64 1)).run Tryz.prog w = .ok (.agg #[.int .i64 (s 1).lo, .int .i64 (s 1).hi]) w by kernel_rfl)
 | 2, _ => exact (show (Instr.index 29 (.agg (stC s)) (.int .i64 2)).run Tryz.prog w = .ok (.agg #[.int .i64 (s 2).lo, .int .i64 (s 2).hi]) w by kernel_rfl)
 | 3, _ => exact (show (Instr.index 29 (.agg (stC s)) (.int .i64 3)).run Tryz.prog w = .ok (.agg #[.int .i64 (s 3).lo, .int .i64 (s 3).hi]) w by kernel_rfl)
 | 4, _ => exact (show (Instr.index 29 (.agg (stC s)) (.int .i64 4)).run Tryz.prog w = .ok (.agg #[.int .i64 (s 4).lo, .int .i64 (s 4).hi]) w by kernel_rfl)
 | 5, _ => exact (show (Instr.index 29 (.agg (stC s)) (.int .i64 5)).run Tryz.prog w = .ok (.agg #[.int .i64 (s 5).lo, .int .i64 (s 5).hi]) w by kernel_rfl)
 | 6, _ => exact (show (Instr.index 29 (.agg (stC s)) (.int .i64 6)).run Tryz.prog w = .ok (.agg #[.int .i64 (s 6).lo, .int .i64 (s 6).hi]) w by kernel_rfl)
 | 7, _ => exact (show (Instr.index 29 (.agg (stC s)) (.int .i64 7)).run Tryz.prog w = .ok (.agg #[.int .i64 (s 7).lo, .int .i64 (s 7).hi]) w by kernel_rfl)
 | n + 8, h => omega
def isStR (s : Nat -> R2) : Bool := (List.range 8).all fun i => decide ((s i).lo <= (s i).hi)
theorem isStR_yes {s : Nat -> R2} (h : ∀ i, i < 8 -> (s i).lo <= (s i).hi) : isStR s = true := by
 unfold isStR; rw [List.all_eq_true]; intro i hi; simpa using h i (List.mem_range.1 hi)
theorem isStR_no {s : Nat -> R2} {n : Nat} (hn : n < 8) (h : (s n).hi < (s n).lo) : isStR s = false := by
 unfold isStR; rw [List.all_eq_false]; exact ⟨n, List.mem_range.2 hn, by simpa using h⟩
theorem isStR_at {s : Nat -> R2} (h : isStR s = true) (i : Nat) (hi : i < 8) : (s i).lo <= (s i).hi := by
 unfold isStR at h; rw [List.all_eq_true] at h; simpa using h i (List.mem_range.2 hi)
theorem isState_any (s : Nat -> R2) (w : World) : Calls Tryz.prog 58 #[.agg (stC s)] w fun e w' => e = .returned (.bool (isStR s)) /\ Below w.heap.size w w' := by
 have HI := hide (idx_st s)
 have HST : Hid (stC s = #[.int .i64 (s 0).lo, .int .i64 (s 0).hi, .int .i64 (s 1).lo, .int .i64 (s 1).hi, .int .i64 (s 2).lo, .int .i64 (s 2).hi, .int .i64 (s 3).lo, .int .i64 (s 3).hi, .int .i64 (s 4).lo, .int .i64 (s 4).hi, .int .i64 (s 5).lo, .int .i64 (s 5).hi, .int .i64 (s 6).lo, .int .i64 (s 6).hi, .int .i64 (s 7).lo, .int .i64 (s 7).hi]) := hide rfl
 rw [HST.out]
 go_enter Tryz.func58, Tryz.ntmps58
 go_wp2_with fail
 rw [<- HST.out]
 have hb0 := belA1 w (.cells (stC s) 29)
 generalize w.alloc (.cells (stC s) 29) = w1 at *
 have hz1 := hb0.size
 go_loopw [6] (fun j wr => ∃ n : Nat, n <= 8 /\ j = .int .i64 n /\ (∀ i, i < n -> (s i).lo <= (s i).hi) /\ Below w.heap.size w wr) (fun j _ => 8 - (intOf j).toNat)
 case atStart => exact ⟨0, by omega, rfl, fun i hi => by omega, hb0⟩
 case round =>
  clear hb0
  obtain ⟨n, hn, rfl, hall, hbl⟩ := hrel
  have HA := hide hall
  have hzr := hbl.size
  clear hall
  by_cases hlt : n < 8
  · have hx := HI.out n hlt
    by_cases he : (s n).hi < (s n).lo
    · have HE : Hid (isStR s = false) := hide (isStR_no hlt he)
      have hd : decide ((s n).hi < (s n).lo) = true := by simpa using he
      clear he
      go_wp2_with (go_at_call 81; refine (isEmpty_any (s n) _).mono ?_; rintro e w2 ⟨rfl, hb2⟩; rw [hd]; have HB := hide ((hbl.alloc hzr _).trans (hb2.mono (by simp; omega))); clear hb2)
      go_ret
      exact ⟨ret_bool HE.out.symm, HB.out⟩
    · have hle : (s n).lo <= (s n).hi := by omega
      have hd : decide ((s n).hi < (s n).lo) = false := by simpa using hle
      have HLE := hide hle
      clear he hle
      go_wp2_with (go_at_call 81; refine (isEmpty_any (s n) _).mono ?_; rintro e w2 ⟨rfl, hb2⟩; rw [hd]; have HB := hide ((hbl.alloc hzr _).trans (hb2.mono (by simp; omega))); clear hb2)
      go_roundw
      case rel => exact ⟨n + 1, by omega, by go_num, fun i hi => by rcases Nat.lt_succ_iff_lt_or_eq.1 hi with h | h; exact HA.out i h; subst h; exact HLE.out, HB.out⟩
      case measure => simp [intOf]; omega
  · have HE : Hid (isStR s = true) := hide (isStR_yes fun i hi => HA.out i (by omega))
    go_wp2
    go_ret
    exact ⟨ret_bool HE.out.symm, hbl⟩
end Go.Proofs.YtamiichlbmllcabGreatDoor
