import Derived.Test.YtamiichlbmllcaaGreatDoorTDraw
import Derived.Test.YtamiichlbmllcaaGreatDoorTChkC
import Derived.Test.YtamiichlbmllcaaGreatDoorTPrI
import Derived.Test.YtamiichlbmllcaaGreatDoorTOrd
import Derived.Test.YtamiichlbmllcaaGreatDoorTChD
import Derived.Great.BuildSlice
/-
  The threads that a caller holds: how they lie in memory, and what is kept.
-/
namespace Go.Proofs.YtamiichlbmllcaaGreatDoor
open Go.RowKit
/-- one thread, and what it was made of -/
structure TRec where
  t : Nat
  pv : Value
  l : List I5
  e : St
def tdC (t : Nat) (pv : Value) (s : St) : Array Value := #[.pointer (some ⟨t, 0, none⟩), pv, .int .i64 (s 0).lo, .int .i64 (s 0).hi, .int .i64 (s 1).lo, .int .i64 (s 1).hi, .int .i64 (s 2).lo, .int .i64 (s 2).hi, .int .i64 (s 3).lo, .int .i64 (s 3).hi, .int .i64 (s 4).lo, .int .i64 (s 4).hi, .int .i64 (s 5).lo, .int .i64 (s 5).hi, .int .i64 (s 6).lo, .int .i64 (s 6).hi, .int .i64 (s 7).lo, .int .i64 (s 7).hi]
def TRec.arr (x : TRec) : Array Value := tdC x.t x.pv x.e
def TRec.cells (x : TRec) : List Value := x.arr.toList
theorem TRec.len (x : TRec) : x.cells.length = 18 := rfl
theorem td_st (t : Nat) (pv : Value) (s : St) : (tdC t pv s).extract 2 (2 + 16) = stC s := by kernel_rfl
structure TOk (w : World) (B : Nat) (x : TRec) : Prop where
  th : ThreadAt w x.t x.l x.e B
  own : w.ownsRow B 62 5 x.pv x.l.length (x.l.flatMap I5.cells)
  right : rightR x.l = (0, 0)
  tk : ∃ cl, Taken x.l cl x.e
def TInv (w : World) (B : Nat) (lv : Value) (ts : List TRec) : Prop := w.ownsRow B 156 18 lv ts.length (ts.flatMap TRec.cells) ∧ ∀ x, x ∈ ts → TOk w B x
theorem ProgAt.keep {w w' : World} {pb : Nat} {vf : I5 → Value} {l : List I5} (h : ProgAt w pb vf l) (hz : w.heap.size ≤ w'.heap.size) (hb : w'.heap[pb]? = w.heap[pb]?) : ProgAt w' pb vf l :=
  ⟨Nat.lt_of_lt_of_le h.1 hz, fun i hi => (World.cell?_of_block (w := w) (a := ⟨pb, i, none⟩) hb).trans (h.2 i hi)⟩
/-- what is of these three types stays -/
theorem TOk.keep {w w' : World} {B : Nat} {x : TRec} (h : TOk w B x) (hz : w.heap.size ≤ w'.heap.size) (hb : ∀ (k : Nat) (A : Array Value) (t : TypeId), t = 97 ∨ t = 124 ∨ t = 62 → w.heap[k]? = some (.cells A t (0, 0)) → w'.heap[k]? = w.heap[k]?) : TOk w' B x := by
  obtain ⟨⟨⟨pb, cap, h1, h2, h3, h4, A, h5⟩, h6⟩, ho, hr, ht⟩ := h
  refine ⟨⟨⟨pb, cap, ?_, h2.keep hz (hb pb A _ (Or.inr (Or.inl rfl)) h5), h3, h4, A, ?_⟩, h6⟩, own_block ho (fun k _ ⟨A, hA⟩ => hb k A _ (Or.inr (Or.inr rfl)) hA), hr, ht⟩
  · unfold At at h1 ⊢; rw [hb _ _ _ (Or.inl rfl) h1, h1]
  · unfold At at h5 ⊢; rw [hb _ _ _ (Or.inr (Or.inl rfl)) h5, h5]
theorem TInv.keep {w w' : World} {B : Nat} {lv : Value} {ts : List TRec} (h : TInv w B lv ts) (hz : w.heap.size ≤ w'.heap.size) (hb : ∀ (k : Nat) (A : Array Value) (t : TypeId), t = 97 ∨ t = 124 ∨ t = 62 ∨ t = 156 → w.heap[k]? = some (.cells A t (0, 0)) → w'.heap[k]? = w.heap[k]?) : TInv w' B lv ts :=
  ⟨own_block h.1 (fun k _ ⟨A, hA⟩ => hb k A _ (Or.inr (Or.inr (Or.inr rfl))) hA), fun x hx => (h.2 x hx).keep hz (fun k A t ht hA => hb k A t (by rcases ht with h | h | h; exact Or.inl h; exact Or.inr (Or.inl h); exact Or.inr (Or.inr (Or.inl h))) hA)⟩
theorem TInv.below {w w' : World} {B : Nat} {lv : Value} {ts : List TRec} (h : TInv w B lv ts) (hb : Below w.heap.size w w') : TInv w' B lv ts := h.keep hb.size (fun k _ _ _ hA => hb.block k (lt_of_block hA))
theorem TInv.len {w : World} {B : Nat} {lv : Value} {ts : List TRec} (h : TInv w B lv ts) : ∃ a c, lv = .slice a ts.length c := own_len h.1
theorem flatT_get (ts : List TRec) (i j : Nat) (hi : i < ts.length) (hj : j < 18) : (ts.flatMap TRec.cells)[i * 18 + j]? = (ts[i]).cells[j]? := by
  induction ts generalizing i with
  | nil => simp at hi
  | cons x r ih =>
    rw [List.flatMap_cons]
    cases i with
    | zero => rw [Nat.zero_mul, Nat.zero_add, List.getElem?_append_left (by rw [TRec.len]; exact hj)]; rfl
    | succ k =>
      rw [List.getElem?_append_right (by rw [TRec.len]; omega), TRec.len, show (k + 1) * 18 + j - 18 = k * 18 + j by omega]
      exact ih k (by simpa using hi)
theorem TInv.at {w : World} {B : Nat} {lv : Value} {ts : List TRec} (h : TInv w B lv ts) {i : Nat} (hi : i < ts.length) : ∃ g c, lv = .slice (some ⟨g, 0, none⟩) ts.length c ∧ g < w.heap.size ∧ w.rangeAt g (i * 18) (ts[i]).cells := by
  rcases h.1.2 with ⟨h0, h1⟩ | ⟨g, cap, cur, hv, _, hg, _, _, _, ht⟩
  · omega
  · refine ⟨g, cap, hv, lt_of_block hg, fun j u hj => ?_⟩
    have hj18 : j < 18 := by have := (List.getElem?_eq_some_iff.1 hj).1; rw [TRec.len] at this; exact this
    have e := flatT_get ts i j hi hj18
    rw [← ht, List.getElem?_take, if_pos (by omega), Array.getElem?_toList] at e
    rw [cell_of_row _ _ _ _ _ _ hg, e]
    exact hj
theorem backC2 (cl : List C2) (v hv : Value) (base : Nat) (w0 w : World) (hl : LentC w base v hv cl) (ha : ArgC w0 v cl) (h0 : w0.heap.size ≤ base) (hbl : Below w0.heap.size w0 w) (hlen : cl.length * 136 ≤ 140737488351232) :
    Calls Tryz.prog 88 #[hv, v] w fun e w' => e = .returned (.bool true) ∧ Below base w w' ∧ ∀ k, k < w.heap.size → some k ≠ hv.ownBlock → w'.heap[k]? = w.heap[k]? := by
  rcases hl with ⟨rfl, rfl, rfl⟩ | ⟨a, c, g, rfl, rfl, hbg, hat⟩
  · refine (backC_nil _ w).mono ?_
    rintro e w' ⟨rfl, rfl⟩
    exact ⟨rfl, Below.refl _ _, fun _ _ _ => rfl⟩
  · refine (backC_some cl a c g base w hbg hat (fun hp => ?_) hlen).mono ?_
    · rcases ha.1 with ⟨_, rfl⟩ | ⟨b, off, cap, hv, hb, hi⟩
      · simp at hp
      · simp only [Value.slice.injEq, Option.some.injEq] at hv
        obtain ⟨rfl, _, _⟩ := hv
        refine ⟨b, off, rfl, by omega, fun i h j u hj => ?_⟩
        rw [hbl.cell (p := ⟨b, _, none⟩) hb]; exact hi i h j u hj
    · rintro e w' ⟨rfl, hm⟩
      exact ⟨rfl, ⟨hm.os, hm.tape, hm.output, hm.size, fun k hk => hm.block k (by have := lt_of_block hat; omega) (by simp; omega)⟩, fun k hk hne => hm.block k hk (by simp only [List.mem_cons, List.not_mem_nil, or_false]; intro e; exact hne (by rw [e]; rfl))⟩
end Go.Proofs.YtamiichlbmllcaaGreatDoor
/-
  Regions in a laid order, where an operation that is alone ready is laid whatever comes behind it.
-/
namespace Go.Proofs.YtamiichlbmllcaaGreatDoor
open Go.RowKit
def okT2 (ops : Array Oper) (F : Nat → Bool) : OT → Array Bool → Bool
  | .nil, listed => (Region.ready .any ops listed).isEmpty
  | .op i r, listed => (match ops[i]? with
      | some o => if stillOp o then (Region.ready .any ops listed == [i]) || Region.free .any ops listed i && (Region.ready .any ops listed).contains i && ((List.range ops.size).all fun j => j == i || listed.getD j true || F j || match ops[j]? with
          | some oj => oj.after.any (fun e => Region.binds .any e && e.on == i)
          | none => true) else Region.ready .any ops listed == [i]
      | none => false) && okT2 ops F r (listed.setIfInBounds i true)
  | .either i j r s, listed => Region.ready .any ops listed == [i, j] && (match ops[i]?, ops[j]? with
      | some o, some o' => !stillOp o && !stillOp o'
      | _, _ => false) && okT2 ops F r (listed.setIfInBounds i true) && okT2 ops F s (listed.setIfInBounds j true)
theorem wpT_sound2 {P : Program} {l : List Oper} {Q : Exit → Act → World → Prop} {F : Nat → Bool} {S : World → Prop} (hsel : Region.noSelect l.toArray = true) : ∀ (t : OT) (fuel : Nat) (listed : Array Bool) (a : Act) (w : World), t.size ≤ fuel → okT2 l.toArray F t listed = true →
    wpT P l Q F S t a w → wpAnyJ P l.toArray (NoPanic Q) F S fuel listed a w := by
  intro t
  induction t with
  | nil =>
    intro fuel listed a w _ hv h
    have hr : Region.ready .any l.toArray listed = [] := by simpa [okT2] using hv
    cases fuel with
    | zero => exact ⟨hr, NoPanic.normal h⟩
    | succ fuel => exact ⟨fun _ => NoPanic.normal h, by rw [hr]; simp⟩
  | op i r ih =>
    intro fuel listed a w hf hv h
    cases fuel with
    | zero => simp [OT.size] at hf
    | succ fuel =>
      simp only [okT2, Bool.and_eq_true] at hv
      obtain ⟨hv1, hv2⟩ := hv
      have hl : l.toArray[i]? = nthO i l := by rw [nthO_eq]; simp
      rw [hl] at hv1
      obtain ⟨o, ho, h⟩ := h
      rw [ho] at hv1 hl
      by_cases hst : stillOp o = true
      · simp only [hst, if_true, Bool.or_eq_true] at hv1 h
        obtain ⟨hS, v, hy, h⟩ := h
        rcases hv1 with hv1 | hv1
        · have hr : Region.ready .any l.toArray listed = [i] := by simpa using hv1
          refine ⟨fun h0 => (by rw [hr] at h0; cases h0), fun k hk => ?_⟩
          rw [hr] at hk
          simp at hk
          subst hk
          exact hy.wpOp hl hS ⟨fun _ => hS, ih fuel _ _ w (by simp [OT.size] at hf; omega) hv2 h⟩
        simp only [Bool.and_eq_true] at hv1
        obtain ⟨⟨hfree, hrd⟩, hall⟩ := hv1
        refine wpAnyJ_first hl (Region.noSelect_spec hsel) (fun _ _ _ h => h.elim) fuel listed a w ?_ (by simpa using hrd) hy hS (ih fuel _ _ w (by simp [OT.size] at hf; omega) hv2 h)
        intro j oj hj hne hun hno
        refine ⟨Region.free_spec hl hfree j oj hj hne hun hno, ?_⟩
        rw [List.all_eq_true] at hall
        have := hall j (List.mem_range.2 (Array.getElem?_eq_some_iff.1 hj).1)
        simp only [hj, Bool.or_eq_true, beq_iff_eq, hne, false_or, hun, Bool.false_eq_true] at this
        rcases this with h1 | h1
        · exact h1
        · obtain ⟨e, he, hb⟩ := Array.any_eq_true'.1 h1
          simp only [Bool.and_eq_true, beq_iff_eq] at hb
          exact absurd hb.2 (hno e he hb.1)
      · simp only [hst, Bool.false_eq_true, if_false] at hv1 h
        have hr : Region.ready .any l.toArray listed = [i] := by simpa using hv1
        refine ⟨fun h0 => (by rw [hr] at h0; cases h0), fun k hk => ?_⟩
        rw [hr] at hk
        simp at hk
        subst hk
        unfold wpOp
        simp only [hl]
        by_cases hw : Region.wanted o (yielded l.toArray a.tmps) = true
        · simp only [hw, if_true] at h ⊢
          refine Or.inl (Oper.wp_mono ?_ h)
          rintro a' w' ⟨h1, h2⟩
          exact ⟨h1, ih fuel _ a' w' (by simp [OT.size] at hf; omega) hv2 h2⟩
        · simp only [hw, Bool.false_eq_true, if_false] at h ⊢
          exact ⟨h.1, ih fuel _ _ w (by simp [OT.size] at hf; omega) hv2 h.2⟩
  | either i j r s ihr ihs =>
    intro fuel listed a w hf hv h
    cases fuel with
    | zero => simp [OT.size] at hf
    | succ fuel =>
      simp only [okT2, Bool.and_eq_true] at hv
      obtain ⟨⟨⟨hv1, _⟩, hv2⟩, hv3⟩ := hv
      have hr : Region.ready .any l.toArray listed = [i, j] := by simpa using hv1
      obtain ⟨⟨o, ho, hw, h1⟩, o', ho', hw', h2⟩ := h
      simp only [OT.size] at hf
      refine ⟨fun h0 => (by rw [hr] at h0; cases h0), fun k hk => ?_⟩
      rw [hr] at hk
      simp at hk
      rcases hk with rfl | rfl
      · have hl : l.toArray[k]? = some o := by rw [← ho, nthO_eq]; simp
        unfold wpOp
        simp only [hl, hw, if_true]
        refine Or.inl (Oper.wp_mono ?_ h1)
        rintro a' w' ⟨h3, h4⟩
        exact ⟨h3, ihr fuel _ a' w' (by omega) hv2 h4⟩
      · have hl : l.toArray[k]? = some o' := by rw [← ho', nthO_eq]; simp
        unfold wpOp
        simp only [hl, hw', if_true]
        refine Or.inl (Oper.wp_mono ?_ h2)
        rintro a' w' ⟨h3, h4⟩
        exact ⟨h3, ihs fuel _ a' w' (by omega) hv3 h4⟩
/-- a region in such an order -/
theorem wp_regT2 {P : Program} {id : Nat} {l : List Oper} {Q : Exit → Act → World → Prop} {a : Act} {w : World} (t : OT) (F : Nat → Bool) (S : World → Prop) (hm : P.follows .mixedOrders = true) (hn : t.size ≤ l.length) (hsel : Region.noSelect l.toArray = true)
    (hv : okT2 l.toArray F t (Array.replicate l.length false) = true) (h : wpT P l Q F S t a w.drew) : (Code.region id l.toArray true).wp P Q a w := by
  refine wp_region_noPanic (wp_region_any hm (wpAny_ofJ (F := F) (S := S) _ _ _ _ ?_))
  have := wpT_sound2 (P := P) (Q := Q) (F := F) (S := S) hsel t l.toArray.size (Array.replicate l.length false) a w.drew (by simpa using hn) hv h
  simpa using this
/-- the same, the world behind the draw as a letter -/
theorem wp_regK2 {P : Program} {id : Nat} {l : List Oper} {Q : Exit → Act → World → Prop} {a : Act} {w : World} {M : List Nat} {w0 : World} {L : RowL} (hk : Kn M w0 w L) (t : OT) (F : Nat → Bool) (hm : P.follows .mixedOrders = true) (hn : t.size ≤ l.length) (hsel : Region.noSelect l.toArray = true)
    (hv : okT2 l.toArray F t (Array.replicate l.length false) = true) (h : ∀ w1, Kn M w0 w1 L → wpT P l Q F (fun wx => Kn M w0 wx L) t a w1) : (Code.region id l.toArray true).wp P Q a w :=
  wp_regT2 t F _ hm hn hsel hv (h _ hk.drew)
end Go.Proofs.YtamiichlbmllcaaGreatDoor
/-
  The law's own types: fields, one cell, rows; laws for them.
-/
namespace Go.Proofs.YtamiichlbmllcaaGreatDoor
open Go.RowKit
theorem fOp1 : FldT Tryz.prog 44 1 1 := ⟨⟨_, _, Tryz.underlying44, rfl, rfl, fun _ _ _ => by kernel_rfl⟩⟩
theorem fOp2 : FldT Tryz.prog 44 2 2 := ⟨⟨_, _, Tryz.underlying44, rfl, rfl, fun _ _ _ => by kernel_rfl⟩⟩
theorem fOp3 : FldT Tryz.prog 44 3 3 := ⟨⟨_, _, Tryz.underlying44, rfl, rfl, fun _ _ _ => by kernel_rfl⟩⟩
theorem fOp5 : FldT Tryz.prog 44 5 5 := ⟨⟨_, _, Tryz.underlying44, rfl, rfl, fun _ _ _ => by kernel_rfl⟩⟩
theorem fW0 : FldT Tryz.prog 39 0 0 := ⟨⟨_, _, Tryz.underlying39, rfl, rfl, fun _ _ _ => by kernel_rfl⟩⟩
theorem o1Ths : OneT Tryz.prog 32 := ⟨⟨_, Tryz.underlying32, rfl⟩, by kernel_rfl⟩
theorem o1Tp : OneT Tryz.prog 70 := ⟨⟨_, Tryz.underlying70, rfl⟩, by kernel_rfl⟩
theorem rTd : RowT Tryz.prog 156 18 := ⟨⟨_, Tryz.underlying156, rfl⟩, by kernel_rfl⟩
theorem sTd : SlcT Tryz.prog 32 18 := ⟨⟨_, Tryz.underlying32, by kernel_rfl⟩⟩
def zTd : Array Value := #[.pointer none, .slice none 0 0, .int .i64 0, .int .i64 0, .int .i64 0, .int .i64 0, .int .i64 0, .int .i64 0, .int .i64 0, .int .i64 0, .int .i64 0, .int .i64 0, .int .i64 0, .int .i64 0, .int .i64 0, .int .i64 0, .int .i64 0, .int .i64 0]
theorem zeroTd : (Tryz.prog.info? 156).map (·.zero) = some (some (.agg zTd)) := by kernel_rfl
section
variable {l : List Oper} {Q : Exit → Act → World → Prop} {F : Nat → Bool} {S : World → Prop} {i : Nat} {r : OT} {a : Act} {w w0 : World} {M : List Nat} {L L' : RowL} {d : Option Tmp} {x y : Operand} {t tt ty : TypeId} {pos : String} {aft : Array Edge} {g : Option (Nat × Bool)} {b j n k f : Nat} {A A' cs : Array Value} {v : Value} {ops : Array Oper} {rest : List Oper}
set_option maxRecDepth 100000 in
theorem sFieldY (hT : FldT Tryz.prog ty f k) (hk : S w) (h : wpT Tryz.prog l Q F S r (a.put d (.pointer (some ⟨b, k, none⟩))) w) (ho : nthO i l = some ⟨d, .fieldAddr ty x f, tt, pos, aft, g⟩ := by rfl) (hw : Region.wanted ⟨d, .fieldAddr ty x f, tt, pos, aft, g⟩ (yielded l.toArray a.tmps) = true := by rfl) (hx : a.eval x = .pointer (some ⟨b, 0, none⟩) := by rfl) : wpT Tryz.prog l Q F S (.op i r) a w := tField0 ho hw hk hx hT h
set_option maxRecDepth 100000 in
theorem sOldY (hT : OneT Tryz.prog ty) (hk : Kn M w0 w L) (h : wpT Tryz.prog l Q F (fun wx => Kn M w0 wx L) r (a.put d v) w) (ho : nthO i l = some ⟨d, .load ty x, tt, pos, aft, g⟩ := by rfl) (hw : Region.wanted ⟨d, .load ty x, tt, pos, aft, g⟩ (yielded l.toArray a.tmps) = true := by rfl) (hx : a.eval x = .pointer (some ⟨b, j, none⟩) := by rfl) (hat : At w0 b A t := by assumption) (hM : b ∉ M := by first | exact List.not_mem_nil | assumption) (hv : A[j]? = some v := by rfl) : wpT Tryz.prog l Q F (fun wx => Kn M w0 wx L) (.op i r) a w := tOld1 ho hw hk hx hat hM hT hv h
set_option maxRecDepth 100000 in
theorem wOldY (hT : OneT Tryz.prog ty) (hk : Kn M w0 w L) (h : wpList Tryz.prog ops Q rest (a.put d v) w) (hw : Region.wanted ⟨d, .load ty x, tt, pos, aft, g⟩ (yielded ops a.tmps) = true := by rfl) (hx : a.eval x = .pointer (some ⟨b, j, none⟩) := by rfl) (hat : At w0 b A t := by assumption) (hM : b ∉ M := by first | exact List.not_mem_nil | assumption) (hv : A[j]? = some v := by rfl) : wpList Tryz.prog ops Q (⟨d, .load ty x, tt, pos, aft, g⟩ :: rest) a w := wl1 hw (oOld1 hx hk hat hM hT hv h)
set_option maxRecDepth 100000 in
theorem wLoadY (hT : OneT Tryz.prog ty) (hk : Kn M w0 w L) (h : wpList Tryz.prog ops Q rest (a.put d v) w) (hw : Region.wanted ⟨d, .load ty x, tt, pos, aft, g⟩ (yielded ops a.tmps) = true := by rfl) (hx : a.eval x = .pointer (some ⟨b, j, none⟩) := by rfl) (hm : (b, A, t) ∈ L := by with_reducible repeat (first | exact List.mem_cons_self | apply List.mem_cons_of_mem)) (hv : A[j]? = some v := by rfl) : wpList Tryz.prog ops Q (⟨d, .load ty x, tt, pos, aft, g⟩ :: rest) a w := wl1 hw (oLoad1 hx hk hm hT hv h)
set_option maxRecDepth 100000 in
theorem sOldGY (hT : RowT Tryz.prog ty n) (hk : Kn M w0 w L) (h : wpT Tryz.prog l Q F (fun wx => Kn M w0 wx L) r (a.put d (.agg cs)) w) (hc : w0.rangeAt b j cs.toList) (hb : b < w0.heap.size) (hM : b ∉ M) (ho : nthO i l = some ⟨d, .load ty x, tt, pos, aft, g⟩ := by rfl) (hw : Region.wanted ⟨d, .load ty x, tt, pos, aft, g⟩ (yielded l.toArray a.tmps) = true := by rfl) (hx : a.eval x = .pointer (some ⟨b, j, none⟩) := by rfl) (hn : cs.size = n := by rfl) : wpT Tryz.prog l Q F (fun wx => Kn M w0 wx L) (.op i r) a w := tLoadOldR ho hw hk hx hc hb hM hT hn h
set_option maxRecDepth 100000 in
theorem sAllocY {z : Array Value} (hz : (Tryz.prog.info? ty).map (·.zero) = some (some (.agg z))) (hk : Kn M w0 w L) (h : ∀ w1, Kn M w0 w1 ((w.heap.size, z, ty) :: L) → (F i = true → S w1) ∧ wpT Tryz.prog l Q F S r (a.put d (.pointer (some ⟨w.heap.size, 0, none⟩))) w1) (ho : nthO i l = some ⟨d, .alloc ty, tt, pos, aft, g⟩ := by rfl) (hw : Region.wanted ⟨d, .alloc ty, tt, pos, aft, g⟩ (yielded l.toArray a.tmps) = true := by rfl) : wpT Tryz.prog l Q F S (.op i r) a w := tAct ho rfl hw (oAllocR hz hk h)
set_option maxRecDepth 100000 in
theorem sStoreY (hT : RowT Tryz.prog ty n) (hk : Kn M w0 w L) (h : ∀ w1, Kn M w0 w1 L' → (F i = true → S w1) ∧ wpT Tryz.prog l Q F S r (a.put d undef) w1) (ho : nthO i l = some ⟨d, .store ty x y, tt, pos, aft, g⟩ := by rfl) (hw : Region.wanted ⟨d, .store ty x y, tt, pos, aft, g⟩ (yielded l.toArray a.tmps) = true := by rfl) (hx : a.eval x = .pointer (some ⟨b, j, none⟩) := by rfl) (hy : a.eval y = .agg cs := by rfl) (hm : (b, A, t) ∈ L := by with_reducible repeat (first | exact List.mem_cons_self | apply List.mem_cons_of_mem)) (hn : cs.size = n) (hj : j + n ≤ A.size) (h1 : cs.toList.all (·.oneCell') = true) (hA : putA A j cs.toList = A') (hs : setB b A' L L' := by with_reducible repeat (first | exact setB_here _ _ _ _ _ | apply setB_next)) : wpT Tryz.prog l Q F S (.op i r) a w :=
  tActK ho rfl hw fun _ hK => oStoreR hx hy hk hm hT hn hj h1 hA hs fun w1 hk1 => hK _ _ (h w1 hk1).1 (h w1 hk1).2
set_option maxRecDepth 100000 in
theorem sStore1Y {sp : Option Addr} {sn sc : Nat} (hT : OneT Tryz.prog ty) (hk : Kn M w0 w L) (h : ∀ w1, Kn M w0 w1 L' → (F i = true → S w1) ∧ wpT Tryz.prog l Q F S r (a.put d undef) w1) (ho : nthO i l = some ⟨d, .store ty x y, tt, pos, aft, g⟩ := by rfl) (hw : Region.wanted ⟨d, .store ty x y, tt, pos, aft, g⟩ (yielded l.toArray a.tmps) = true := by rfl) (hx : a.eval x = .pointer (some ⟨b, j, none⟩) := by rfl) (hy : a.eval y = .slice sp sn sc := by rfl) (hm : (b, A, t) ∈ L := by with_reducible repeat (first | exact List.mem_cons_self | apply List.mem_cons_of_mem)) (hj : j + 1 ≤ A.size) (hA : A.setIfInBounds j (.slice sp sn sc) = A') (hs : setB b A' L L' := by with_reducible repeat (first | exact setB_here _ _ _ _ _ | apply setB_next)) : wpT Tryz.prog l Q F S (.op i r) a w :=
  tActK ho rfl hw fun _ hK => oStore1 hx hy hk hm hT rfl hj rfl hA hs fun w1 hk1 => hK _ _ (h w1 hk1).1 (h w1 hk1).2
set_option maxRecDepth 100000 in
theorem sIndexY (hT : SlcT Tryz.prog ty n) {m c q : Nat} (hk : S w) (h : wpT Tryz.prog l Q F S r (a.put d (.pointer (some ⟨b, q * n, none⟩))) w) (hq : q < m) (ho : nthO i l = some ⟨d, .indexAddr ty x y, tt, pos, aft, g⟩ := by rfl) (hw : Region.wanted ⟨d, .indexAddr ty x y, tt, pos, aft, g⟩ (yielded l.toArray a.tmps) = true := by rfl) (hx : a.eval x = .slice (some ⟨b, 0, none⟩) m c := by rfl) (hy : a.eval y = .int .i64 q := by rfl) : wpT Tryz.prog l Q F S (.op i r) a w := tIndexS0 ho hw hk hx hy hT hq h
end
end Go.Proofs.YtamiichlbmllcaaGreatDoor
