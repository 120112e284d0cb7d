/-
  What the given readings of a program, a state and a list of claims tell.
-/
import Derived.Test.YtamiichlbmllcaaDoorOpen
import Derived.Test.YtamiichlbmllcaaDoorBackC
import Derived.Test.YtamiichlbmllcaaDoorChL
import Derived.SizedLaws
namespace Go.Proofs.YtamiichlbmllcaaDoor
open Go.ChangeShapes Go.WideShapes Go.ChangeAt Go.RowKit Go.Deep
theorem cRg : Tryd.prog.cellsOf 36 = 2 := by kernel_rfl
theorem cState : Tryd.prog.cellsOf 38 = 16 := by kernel_rfl
theorem cClaim : Tryd.prog.cellsOf 60 = 17 := by kernel_rfl
theorem byInsC : Tryd.prog.bytesOf 32 = 40 := by kernel_rfl
theorem byClaim : Tryd.prog.bytesOf 60 = 136 := by kernel_rfl
/-- all that is read lies within the reach -/
def FitsC (t : TypeId) {H : Type} (d : DataW H) : Prop := ∀ n ∈ DataW.weights Tryd.prog t d, n ≤ reachBytes
section
variable {H : Type} {enc : TypeId × Value → H} {W : World} {base : Nat} {spare : Nat → Bool} {held : Bool}
set_option maxRecDepth 10000 in
theorem read_rg {n : Nat} {cs : List Value} {x : DataW H × List MemPlace} (h : DataW.trod enc Tryd.prog W base spare held n 36 cs = some x) : ∃ r : R2, cs = [.int .i64 r.lo, .int .i64 r.hi] ∧ r.in64 := by
  obtain ⟨xs, m, _, _, hl, hlen, hf⟩ := DataW.trod_struct Tryd.underlying36 h
  rw [cRg] at hl
  replace hlen : xs.length = 2 := hlen
  match cs, hl, xs, hlen with
  | [v0, v1], _, [y0, y1], _ =>
    have g0 := hf 0 _ rfl
    have g1 := hf 1 _ rfl
    simp [cInt] at g0 g1
    obtain ⟨a0, e0, _, w0⟩ := DataW.trod_int Tryd.underlying3 g0
    obtain ⟨a1, e1, _, w1⟩ := DataW.trod_int Tryd.underlying3 g1
    simp at e0 e1
    subst e0 e1
    exact ⟨⟨a0, a1⟩, rfl, wf64 w0, wf64 w1⟩
theorem pick_two {cs : List Value} {j : Nat} {a b : Value} (h : (cs.drop (j * 2)).take 2 = [a, b]) : cs[j * 2]? = some a ∧ cs[j * 2 + 1]? = some b := by
  have h0 := congrArg (fun l => l[0]?) h
  have h1 := congrArg (fun l => l[1]?) h
  simp [List.getElem?_drop] at h0 h1
  exact ⟨h0, h1⟩
set_option maxRecDepth 10000 in
theorem read_st {n : Nat} {cs : List Value} {x : DataW H × List MemPlace} (h : DataW.trod enc Tryd.prog W base spare held n 38 cs = some x) : ∃ s : St, cs = (stC s).toList ∧ s.in64 := by
  obtain ⟨xs, m, _, _, hl, hlen, hf⟩ := DataW.trod_array Tryd.underlying38 h
  rw [cState] at hl
  have each : ∀ j, j < 8 → ∃ r : R2, r.in64 ∧ cs[j * 2]? = some (.int .i64 r.lo) ∧ cs[j * 2 + 1]? = some (.int .i64 r.hi) := by
    intro j hj
    have := hf j hj
    rw [cRg, List.getElem?_eq_getElem (by omega)] at this
    obtain ⟨r, e, h64⟩ := read_rg this
    exact ⟨r, h64, pick_two e⟩
  have : Inhabited R2 := ⟨⟨0, 0⟩⟩
  obtain ⟨q, hq⟩ := choose_lt each
  refine ⟨q, ?_, fun j hj => (hq j hj).1⟩
  have hcs : cs.length = 16 := hl
  apply List.ext_getElem?
  intro j
  by_cases hj : j < 16
  · have h0 := (hq 0 (by omega)).2
    have h1 := (hq 1 (by omega)).2
    have h2 := (hq 2 (by omega)).2
    have h3 := (hq 3 (by omega)).2
    have h4 := (hq 4 (by omega)).2
    have h5 := (hq 5 (by omega)).2
    have h6 := (hq 6 (by omega)).2
    have h7 := (hq 7 (by omega)).2
    match j, hj with
    | 0, _ => exact h0.1
    | 1, _ => exact h0.2
    | 2, _ => exact h1.1
    | 3, _ => exact h1.2
    | 4, _ => exact h2.1
    | 5, _ => exact h2.2
    | 6, _ => exact h3.1
    | 7, _ => exact h3.2
    | 8, _ => exact h4.1
    | 9, _ => exact h4.2
    | 10, _ => exact h5.1
    | 11, _ => exact h5.2
    | 12, _ => exact h6.1
    | 13, _ => exact h6.2
    | 14, _ => exact h7.1
    | 15, _ => exact h7.2
    | j + 16, hj => exact absurd hj (by omega)
  · rw [List.getElem?_eq_none (by omega), List.getElem?_eq_none (by show 16 ≤ j; omega)]
set_option maxRecDepth 10000 in
theorem read_cl {n : Nat} {cs : List Value} {x : DataW H × List MemPlace} (h : DataW.trod enc Tryd.prog W base spare held n 60 cs = some x) : ∃ c : C2, cs = (clC c.pl c.st).toList ∧ St.in64 c.st := by
  obtain ⟨xs, m, _, _, hl, hlen, hf⟩ := DataW.trod_struct Tryd.underlying60 h
  rw [cClaim] at hl
  replace hlen : xs.length = 2 := hlen
  have g0 : DataW.trod enc Tryd.prog W base spare held m 3 ((cs.drop 0).take (Tryd.prog.cellsOf 3)) = xs[0]? := hf 0 _ rfl
  have g1 : DataW.trod enc Tryd.prog W base spare held m 38 ((cs.drop 1).take (Tryd.prog.cellsOf 38)) = xs[1]? := hf 1 _ rfl
  rw [cInt, List.getElem?_eq_getElem (by omega)] at g0
  rw [cState, List.getElem?_eq_getElem (by omega)] at g1
  obtain ⟨a0, e0, _, _⟩ := DataW.trod_int Tryd.underlying3 g0
  obtain ⟨s, e1, h64⟩ := read_st g1
  refine ⟨⟨a0, s⟩, ?_, h64⟩
  cases cs with
  | nil => simp at hl
  | cons y r =>
    simp at e0 hl
    rw [List.drop_succ_cons, List.drop_zero, List.take_of_length_le (by omega)] at e1
    rw [e1, e0]
    rfl
/-- A PROGRAM THAT CAME IN, NIL AS NIL. -/
theorem open_insA {v : Value} {d : DataW H} {ps : List MemPlace} (hv : ∃ a len cap, v = .slice a len cap) (h : DataW.Trod enc Tryd.prog W base spare held 22 v d ps) (hfit : FitsC 22 d) :
    ∃ l : List I5, Arg W v l ∧ (∀ i (h : i < l.length), l[i].in64) ∧ l.length * 40 ≤ 140737488351232 := by
  obtain ⟨l, hS, _, h64⟩ := open_ins hv h
  obtain ⟨a0, len0, cap0, rfl⟩ := hv
  obtain ⟨fuel, hf⟩ := h
  rcases open_slice Tryd.underlying22 hf with ⟨hcs, _⟩ | ⟨a, len, cap, m, n, D, Pl, hcs, _, hl, hm, hmm, hd, _⟩
  · simp [Value.cells] at hcs
    obtain ⟨rfl, rfl, rfl⟩ := hcs
    have hlen : l.length = 0 := by
      obtain ⟨a', c', e⟩ := hS.len
      simp at e; exact e.2.1.symm
    exact ⟨l, ⟨hS, fun n c hh => by simp at hh; omega⟩, h64, by rw [hlen]; omega⟩
  · simp [Value.cells] at hcs
    obtain ⟨rfl, rfl, rfl⟩ := hcs
    have hlen : l.length = len0 := by
      obtain ⟨a', c', e⟩ := hS.len
      simp at e; exact e.2.1.symm
    refine ⟨l, ⟨hS, fun n c hh => by simp at hh⟩, h64, ?_⟩
    simp only [Prod.mk.injEq] at hd
    obtain ⟨rfl, _⟩ := hd
    have := hfit _ (by simp only [DataW.weights, Tryd.underlying22]; exact List.mem_cons_self)
    rw [byInsC] at this
    simp only [List.length_map, List.length_range, reachBytes] at this
    omega
/-- CLAIMS THAT CAME IN. -/
theorem open_cls {v : Value} {d : DataW H} {ps : List MemPlace} (hv : ∃ a len cap, v = .slice a len cap) (h : DataW.Trod enc Tryd.prog W base spare held 39 v d ps) (hfit : FitsC 39 d) :
    ∃ cl : List C2, ArgC W v cl ∧ (∀ i, i < cl.length → St.in64 (clAt cl i).st) ∧ cl.length * 136 ≤ 140737488351232 := by
  obtain ⟨a0, len0, cap0, rfl⟩ := hv
  obtain ⟨fuel, hf⟩ := h
  rcases open_slice Tryd.underlying39 hf with ⟨hcs, _⟩ | ⟨a, len, cap, m, n, D, Pl, hcs, _, hl, hm, hmm, hd, hx⟩
  · simp [Value.cells] at hcs
    obtain ⟨rfl, rfl, rfl⟩ := hcs
    exact ⟨[], ⟨Or.inl ⟨⟨_, _, rfl⟩, rfl⟩, fun n c hh => by simp at hh; omega⟩, fun i h => by simp at h, by simp⟩
  · simp [Value.cells] at hcs
    obtain ⟨rfl, rfl, rfl⟩ := hcs
    have hlm : len0 ≤ m := by rw [hmm]; split <;> omega
    have hsz : len0 * 136 ≤ 140737488351232 := by
      simp only [Prod.mk.injEq] at hd
      obtain ⟨rfl, _⟩ := hd
      have := hfit _ (by simp only [DataW.weights, Tryd.underlying39]; exact List.mem_cons_self)
      rw [byClaim] at this
      simp only [List.length_map, List.length_range, reachBytes] at this
      omega
    have each : ∀ i, i < len0 → ∃ x : C2, St.in64 x.st ∧ ∀ f, f < 17 → W.cell? (a.add (i * 17 + f)) = (clC x.pl x.st).toList[f]? := by
      intro i hi
      obtain ⟨cs', h1, h2⟩ := hx i (by omega)
      obtain ⟨x, rfl, hx64⟩ := read_cl h2
      rw [cClaim] at h1
      obtain ⟨_, _, hcell⟩ := World.cells?_some h1
      exact ⟨x, hx64, fun f hf => by rw [← add_add]; exact hcell f hf⟩
    have : Inhabited C2 := ⟨zeroC⟩
    obtain ⟨q, hq⟩ := choose_lt each
    have hat : ∀ i, i < len0 → clAt ((List.range len0).map q) i = q i := fun i hi => by rw [clAt_get (by simpa using hi)]; simp
    refine ⟨(List.range len0).map q, ⟨?_, fun n c hh => by simp at hh⟩, fun i hi => by simp at hi; rw [hat i hi]; exact (hq i hi).1, by simpa using hsz⟩
    by_cases h0 : len0 = 0
    · subst h0
      exact Or.inl ⟨⟨_, _, rfl⟩, rfl⟩
    · obtain ⟨b, off, spot⟩ := a
      have hc := (hq 0 (by omega)).2 0 (by omega)
      have hspot : spot = none := by
        have e : (clC (q 0).pl (q 0).st).toList[0]? = some (.int .i64 (q 0).pl) := rfl
        rw [e] at hc
        simpa [Addr.add] using World.cell?_spot hc
      subst hspot
      have hadd : ∀ k, (⟨b, off, none⟩ : Addr).add k = ⟨b, off + k, none⟩ := fun k => add_plain _ _ _
      have hcl : ∀ i (hi : i < len0) f, f < 17 → W.cell? ⟨b, off + i * 17 + f, none⟩ = (clC (q i).pl (q i).st).toList[f]? := by
        intro i hi f hf
        have := (hq i hi).2 f hf
        rw [hadd, ← Nat.add_assoc] at this
        exact this
      refine Or.inr ⟨b, off, cap0, by simp, ?_, fun i hi => ?_⟩
      · have := hcl 0 (by omega) 0 (by omega)
        exact World.block_lt_of_cell? W ⟨b, _, none⟩ this
      · simp at hi
        rw [hat i hi]
        intro j u hj
        rw [hcl i hi j (by have := (List.getElem?_eq_some_iff.1 hj).1; exact this)]
        exact hj
set_option maxRecDepth 100000 in
/-- A STATE THAT CAME IN. -/
theorem open_st {r : Reach} {b0 : Nat} {v : Value} {d : DataW H} {ps : List MemPlace} (hv : Value.okWide Tryd.prog W r b0 38 v) (h : DataW.Trod enc Tryd.prog W base spare held 38 v d ps) : ∃ s : St, v = .agg (stC s) ∧ s.in64 := by
  have hag : ∃ cs, v = .agg cs := by
    simp only [Value.okWide, Tryd.underlying38] at hv
    obtain ⟨cs, h1, _⟩ := hv
    exact ⟨cs, h1⟩
  obtain ⟨cs, rfl⟩ := hag
  obtain ⟨fuel, hf⟩ := h
  obtain ⟨s, e, h64⟩ := read_st hf
  refine ⟨s, ?_, h64⟩
  have e' : cs.toList = (stC s).toList := e
  rw [Array.toList_inj.1 e']
end
end Go.Proofs.YtamiichlbmllcaaDoor
