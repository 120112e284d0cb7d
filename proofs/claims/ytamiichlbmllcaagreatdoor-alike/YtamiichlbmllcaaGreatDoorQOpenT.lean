import Derived.Test.YtamiichlbmllcaaGreatDoorQAccA
import Derived.Test.YtamiichlbmllcaaGreatDoorRows
import Derived.Test.YtamiichlbmllcaaGreatDoorQRngE
import Derived.ProofKit
import Derived.LaidMore
import Derived.OpenShut
import Derived.Stop.Joined
import Derived.Deep.Slices
import Derived.Deep.Strs
import Derived.Test.YtamiichlbmllcaaGreatDoorQChB
import Derived.SizedLaws
/-
  suretykeep.Accepted.
-/
namespace Go.Proofs.YtamiichlbmllcaaGreatDoor
open Go.RowKit
theorem progL_k {l : List I5} (h : ∀ i (h : i < l.length), l[i].in64) : ∀ i, i < (progL l).length → I64 (insAt (progL l) i).k := fun i hi => by
  rw [insAt_get hi]; exact progL_in64 l h _ (List.getElem_mem hi)
theorem own_rowI {w : World} {base : Nat} {v : Value} {l : List I5} (h : OwnI w base v l) (hl : 0 < l.length) : ∃ b c A, v = .slice (some ⟨b, 0, none⟩) l.length c ∧ At w b A 62 ∧ base ≤ b ∧ ∀ w', At w' b A 62 → Slc w' v l := by
  rcases h.2 with ⟨_, h2⟩ | ⟨g, cap, cur, rfl, h4, hh, h5⟩
  · omega
  · refine ⟨g, cap, cur, rfl, hh, h4, fun w' hat => ?_⟩
    have : OwnI w' base (.slice (some ⟨g, 0, none⟩) l.length cap) l := ⟨h.1, Or.inr ⟨g, cap, cur, rfl, h4, hat, h5⟩⟩
    exact this.slc
end Go.Proofs.YtamiichlbmllcaaGreatDoor
/-
  What the given readings of the arguments and of the listed table tell: a slice of instructions that came in, and the table 'shapes'.
-/
namespace Go.Proofs.YtamiichlbmllcaaGreatDoor
open Go.ChangeShapes Go.WideShapes Go.ChangeAt Go.RowKit Go.Deep
theorem own : ownKnob Tryz.prog.godebug = none := by kernel_rfl
theorem laidOut : laidOutB Tryz.prog = true := by kernel_rfl
theorem gShapes : Tryz.prog.globalNamed "surety/code.shapes" = some 0 := by kernel_rfl
theorem tShapes : (Tryz.prog.globals[0]?).map (·.type) = some 166 := by kernel_rfl
theorem cInt : Tryz.prog.cellsOf 3 = 1 := by kernel_rfl
theorem cIns : Tryz.prog.cellsOf 62 = 5 := by kernel_rfl
theorem cShape : Tryz.prog.cellsOf 165 = 3 := by kernel_rfl
theorem wf64 {n : Int} (h : (Lit.int .i64 n).wf = true) : I64 n := by
  have := bounds_i64 h
  exact ⟨by omega, by omega⟩
section
variable {H : Type} {enc : TypeId × Value → H} {W : World} {base : Nat} {spare : Nat → Bool} {held : Bool}
set_option maxRecDepth 10000 in
/-- five fields of an instruction, out of its cells' reading -/
theorem read_ins {n : Nat} {cs : List Value} {x : DataW H × List MemPlace} (h : DataW.trod enc Tryz.prog W base spare held n 62 cs = some x) : ∃ i : I5, cs = i.cells ∧ i.in64 := by
  obtain ⟨xs, m, _, _, hl, hlen, hf⟩ := DataW.trod_struct Tryz.underlying62 h
  rw [cIns] at hl
  replace hlen : xs.length = 5 := hlen
  match cs, hl, xs, hlen with
  | [v0, v1, v2, v3, v4], _, [y0, y1, y2, y3, y4], _ =>
    have g0 := hf 0 _ rfl
    have g1 := hf 1 _ rfl
    have g2 := hf 2 _ rfl
    have g3 := hf 3 _ rfl
    have g4 := hf 4 _ rfl
    simp [cInt] at g0 g1 g2 g3 g4
    obtain ⟨a0, e0, _, w0⟩ := DataW.trod_int Tryz.underlying3 g0
    obtain ⟨a1, e1, _, w1⟩ := DataW.trod_int Tryz.underlying3 g1
    obtain ⟨a2, e2, _, w2⟩ := DataW.trod_int Tryz.underlying3 g2
    obtain ⟨a3, e3, _, w3⟩ := DataW.trod_int Tryz.underlying3 g3
    obtain ⟨a4, e4, _, w4⟩ := DataW.trod_int Tryz.underlying3 g4
    simp at e0 e1 e2 e3 e4
    subst e0 e1 e2 e3 e4
    exact ⟨⟨a0, a1, a2, a3, a4⟩, rfl, wf64 w0, wf64 w1, wf64 w2, wf64 w3, wf64 w4⟩
/-- A SLICE OF INSTRUCTIONS THAT CAME IN. -/
theorem open_ins {v : Value} {d : DataW H} {ps : List MemPlace} (hv : ∃ a len cap, v = .slice a len cap) (h : DataW.Trod enc Tryz.prog W base spare held 26 v d ps) :
    ∃ l : List I5, Slc W v l ∧ l.length < 9223372036854775808 ∧ ∀ i (h : i < l.length), l[i].in64 := by
  obtain ⟨a0, len0, cap0, rfl⟩ := hv
  obtain ⟨fuel, hf⟩ := h
  rcases open_slice Tryz.underlying26 hf with ⟨hcs, _⟩ | ⟨a, len, cap, m, n, D, Pl, hcs, _, hl, hm, hmm, _, hx⟩
  · simp [Value.cells] at hcs
    obtain ⟨rfl, rfl, rfl⟩ := hcs
    exact ⟨[], Or.inl ⟨⟨_, _, rfl⟩, rfl⟩, by simp, fun i h => by simp at h⟩
  · simp [Value.cells] at hcs
    obtain ⟨rfl, rfl, rfl⟩ := hcs
    have hlm : len0 ≤ m := by rw [hmm]; split <;> omega
    have each : ∀ i, i < len0 → ∃ x : I5, x.in64 ∧ ∀ f, f < 5 → W.cell? (a.add (i * 5 + f)) = x.cells[f]? := by
      intro i hi
      obtain ⟨cs', h1, h2⟩ := hx i (by omega)
      obtain ⟨x, rfl, hx64⟩ := read_ins h2
      rw [cIns] at h1
      obtain ⟨_, _, hcell⟩ := World.cells?_some h1
      exact ⟨x, hx64, fun f hf => by rw [← add_add]; exact hcell f hf⟩
    have : Inhabited I5 := ⟨I5.zero⟩
    obtain ⟨q, hq⟩ := choose_lt each
    refine ⟨(List.range len0).map q, ?_, by simp; unfold maxLen at hm; omega, fun i hi => by simp at hi ⊢; exact (hq i hi).1⟩
    by_cases h0 : len0 = 0
    · subst h0
      exact Or.inl ⟨⟨_, _, rfl⟩, rfl⟩
    · obtain ⟨b, off, spot⟩ := a
      have hc := (hq 0 (by omega)).2 0 (by omega)
      have hspot : spot = none := by
        simp only [Nat.zero_mul, Nat.zero_add, I5.cells, List.getElem?_cons_zero] at hc
        simpa [Addr.add] using World.cell?_spot hc
      subst hspot
      have hadd : ∀ k, (⟨b, off, none⟩ : Addr).add k = ⟨b, off + k, none⟩ := fun k => add_plain _ _ _
      have hcl : ∀ i (hi : i < len0) f, f < 5 → W.cell? ⟨b, off + i * 5 + f, none⟩ = (q i).cells[f]? := by
        intro i hi f hf
        have := (hq i hi).2 f hf
        rw [hadd, ← Nat.add_assoc] at this
        exact this
      refine Or.inr ⟨b, off, cap0, by simp, ?_, fun i hi => ?_⟩
      · have := hcl 0 (by omega) 0 (by omega)
        exact World.block_lt_of_cell? W ⟨b, _, none⟩ this
      · simp at hi ⊢
        exact ⟨hcl i hi 0 (by omega), hcl i hi 1 (by omega), hcl i hi 2 (by omega), hcl i hi 3 (by omega), hcl i hi 4 (by omega)⟩
end
/-- THE TABLE. -/
theorem shapes_of_laid {W : World} (h : laidMetH Tryz.prog [("surety/code.shapes", Rows.laid_surety_code_shapes)] W) : Shapes W := by
  rw [MakeChecks.laidMetH_plain _ _ _ (by kernel_rfl)] at h
  obtain ⟨ps, ⟨g0, t0, cs0, f0, p0, q0, hg0, ht0, hv0, hd0, _, _⟩, _, _⟩ := h
  obtain rfl := Option.some.inj (gShapes.symm.trans hg0)
  obtain rfl := Option.some.inj (tShapes.symm.trans ht0)
  obtain ⟨xs, m1, rfl, hx1, hlen, hn12, hel⟩ := DataW.trod_array Tryz.underlying166 hd0
  have hcell := World.var?_cell hg0 hv0
  have one : ∀ i, i < 12 → ∀ y, xs[i]? = some y → ∃ a b c : Int, y.1 = .agg [.lit (.int .i64 a), .lit (.int .i64 b), .lit (.int .i64 c)] ∧ W.cell? ⟨0, i * 3, none⟩ = some (.int .i64 a) ∧ W.cell? ⟨0, i * 3 + 1, none⟩ = some (.int .i64 b) ∧ W.cell? ⟨0, i * 3 + 2, none⟩ = some (.int .i64 c) := by
    intro i hi y hy
    have h0 := hel i hi
    rw [hy, cShape] at h0
    obtain ⟨y0, y1, y2, n, hyy, hl3, g0, g1, g2⟩ := trod_struct3 Tryz.underlying165 h0
    simp only [cInt] at g0 g1 g2
    obtain ⟨a, e0, r0, _⟩ := DataW.trod_int Tryz.underlying3 g0
    obtain ⟨b, e1, r1, _⟩ := DataW.trod_int Tryz.underlying3 g1
    obtain ⟨c, e2, r2, _⟩ := DataW.trod_int Tryz.underlying3 g2
    subst r0 r1 r2
    refine ⟨a, b, c, by rw [hyy], ?_, ?_, ?_⟩
    · rw [hcell]
      have := congrArg (fun l => l[0]?) e0
      simpa [List.getElem?_take, List.getElem?_drop] using this
    · rw [hcell]
      have := congrArg (fun l => l[0]?) e1
      simpa [List.getElem?_take, List.getElem?_drop] using this
    · rw [hcell]
      have := congrArg (fun l => l[0]?) e2
      simpa [List.getElem?_take, List.getElem?_drop] using this
  simp only [Prod.mk.injEq, Rows.laid_surety_code_shapes, DataW.agg.injEq] at hx1
  match xs, hn12, hx1, one with
  | [x0, x1, x2, x3, x4, x5, x6, x7, x8, x9, x10, x11], _, hx1, one =>
    simp only [List.map_cons, List.map_nil, List.cons.injEq] at hx1
    obtain ⟨⟨h0, h1, h2, h3, h4, h5, h6, h7, h8, h9, h10, h11, _⟩, _⟩ := hx1
    have fin : ∀ (i : Nat) (hi : i < 12) (y : DataW Unit × List MemPlace) (a b c : Int), [x0, x1, x2, x3, x4, x5, x6, x7, x8, x9, x10, x11][i]? = some y → .agg [.lit (.int .i64 a), .lit (.int .i64 b), .lit (.int .i64 c)] = y.1 →
        W.cell? ⟨0, i * 3, none⟩ = some (.int .i64 a) ∧ W.cell? ⟨0, i * 3 + 1, none⟩ = some (.int .i64 b) ∧ W.cell? ⟨0, i * 3 + 2, none⟩ = some (.int .i64 c) := by
      intro i hi y a b c hy he
      obtain ⟨a', b', c', e, r0, r1, r2⟩ := one i hi y hy
      rw [e] at he
      simp at he
      obtain ⟨rfl, rfl, rfl⟩ := he
      exact ⟨r0, r1, r2⟩
    refine ⟨World.block_lt_of_cell? W ⟨0, 0, none⟩ (fin 0 (by omega) _ _ _ _ rfl h0).1, fun o ho0 ho1 => ?_⟩
    have ho : o = 0 ∨ o = 1 ∨ o = 2 ∨ o = 3 ∨ o = 4 ∨ o = 5 ∨ o = 6 ∨ o = 7 ∨ o = 8 ∨ o = 9 ∨ o = 10 ∨ o = 11 := by omega
    rcases ho with rfl | rfl | rfl | rfl | rfl | rfl | rfl | rfl | rfl | rfl | rfl | rfl
    · exact fin 0 (by omega) _ _ _ _ rfl h0
    · exact fin 1 (by omega) _ _ _ _ rfl h1
    · exact fin 2 (by omega) _ _ _ _ rfl h2
    · exact fin 3 (by omega) _ _ _ _ rfl h3
    · exact fin 4 (by omega) _ _ _ _ rfl h4
    · exact fin 5 (by omega) _ _ _ _ rfl h5
    · exact fin 6 (by omega) _ _ _ _ rfl h6
    · exact fin 7 (by omega) _ _ _ _ rfl h7
    · exact fin 8 (by omega) _ _ _ _ rfl h8
    · exact fin 9 (by omega) _ _ _ _ rfl h9
    · exact fin 10 (by omega) _ _ _ _ rfl h10
    · exact fin 11 (by omega) _ _ _ _ rfl h11
end Go.Proofs.YtamiichlbmllcaaGreatDoor
/-
  What the given reading of a state tells.
-/
namespace Go.Proofs.YtamiichlbmllcaaGreatDoor
open Go.ChangeShapes Go.WideShapes Go.ChangeAt Go.RowKit Go.Deep
theorem cRg : Tryz.prog.cellsOf 28 = 2 := by kernel_rfl
theorem cState : Tryz.prog.cellsOf 30 = 16 := by kernel_rfl
section
variable {H : Type} {enc : TypeId × Value → H} {W : World} {base : Nat} {spare : Nat → Bool} {held : Bool}
set_option maxRecDepth 10000 in
theorem read_rg {n : Nat} {cs : List Value} {x : DataW H × List MemPlace} (h : DataW.trod enc Tryz.prog W base spare held n 28 cs = some x) : ∃ r : R2, cs = [.int .i64 r.lo, .int .i64 r.hi] ∧ r.in64 := by
  obtain ⟨xs, m, _, _, hl, hlen, hf⟩ := DataW.trod_struct Tryz.underlying28 h
  rw [cRg] at hl
  replace hlen : xs.length = 2 := hlen
  match cs, hl, xs, hlen with
  | [v0, v1], _, [y0, y1], _ =>
    have g0 := hf 0 _ rfl
    have g1 := hf 1 _ rfl
    simp [cInt] at g0 g1
    obtain ⟨a0, e0, _, w0⟩ := DataW.trod_int Tryz.underlying3 g0
    obtain ⟨a1, e1, _, w1⟩ := DataW.trod_int Tryz.underlying3 g1
    simp at e0 e1
    subst e0 e1
    exact ⟨⟨a0, a1⟩, rfl, wf64 w0, wf64 w1⟩
theorem pick_two {cs : List Value} {j : Nat} {a b : Value} (h : (cs.drop (j * 2)).take 2 = [a, b]) : cs[j * 2]? = some a ∧ cs[j * 2 + 1]? = some b := by
  have h0 := congrArg (fun l => l[0]?) h
  have h1 := congrArg (fun l => l[1]?) h
  simp [List.getElem?_drop] at h0 h1
  exact ⟨h0, h1⟩
set_option maxRecDepth 10000 in
theorem read_st {n : Nat} {cs : List Value} {x : DataW H × List MemPlace} (h : DataW.trod enc Tryz.prog W base spare held n 30 cs = some x) : ∃ s : St, cs = (stC s).toList ∧ s.in64 := by
  obtain ⟨xs, m, _, _, hl, hlen, hf⟩ := DataW.trod_array Tryz.underlying30 h
  rw [cState] at hl
  have each : ∀ j, j < 8 → ∃ r : R2, r.in64 ∧ cs[j * 2]? = some (.int .i64 r.lo) ∧ cs[j * 2 + 1]? = some (.int .i64 r.hi) := by
    intro j hj
    have := hf j hj
    rw [cRg, List.getElem?_eq_getElem (by omega)] at this
    obtain ⟨r, e, h64⟩ := read_rg this
    exact ⟨r, h64, pick_two e⟩
  have : Inhabited R2 := ⟨⟨0, 0⟩⟩
  obtain ⟨q, hq⟩ := choose_lt each
  refine ⟨q, ?_, fun j hj => (hq j hj).1⟩
  have hcs : cs.length = 16 := hl
  apply List.ext_getElem?
  intro j
  by_cases hj : j < 16
  · have h0 := (hq 0 (by omega)).2
    have h1 := (hq 1 (by omega)).2
    have h2 := (hq 2 (by omega)).2
    have h3 := (hq 3 (by omega)).2
    have h4 := (hq 4 (by omega)).2
    have h5 := (hq 5 (by omega)).2
    have h6 := (hq 6 (by omega)).2
    have h7 := (hq 7 (by omega)).2
    match j, hj with
    | 0, _ => exact h0.1
    | 1, _ => exact h0.2
    | 2, _ => exact h1.1
    | 3, _ => exact h1.2
    | 4, _ => exact h2.1
    | 5, _ => exact h2.2
    | 6, _ => exact h3.1
    | 7, _ => exact h3.2
    | 8, _ => exact h4.1
    | 9, _ => exact h4.2
    | 10, _ => exact h5.1
    | 11, _ => exact h5.2
    | 12, _ => exact h6.1
    | 13, _ => exact h6.2
    | 14, _ => exact h7.1
    | 15, _ => exact h7.2
    | j + 16, hj => exact absurd hj (by omega)
  · rw [List.getElem?_eq_none (by omega), List.getElem?_eq_none (by show 16 ≤ j; omega)]
set_option maxRecDepth 100000 in
/-- A STATE THAT CAME IN. -/
theorem open_st {r : Reach} {b0 : Nat} {v : Value} {d : DataW H} {ps : List MemPlace} (hv : Value.okWide Tryz.prog W r b0 30 v) (h : DataW.Trod enc Tryz.prog W base spare held 30 v d ps) : ∃ s : St, v = .agg (stC s) ∧ s.in64 := by
  have hag : ∃ cs, v = .agg cs := by
    simp only [Value.okWide, Tryz.underlying30] at hv
    obtain ⟨cs, h1, _⟩ := hv
    exact ⟨cs, h1⟩
  obtain ⟨cs, rfl⟩ := hag
  obtain ⟨fuel, hf⟩ := h
  obtain ⟨s, e, h64⟩ := read_st hf
  refine ⟨s, ?_, h64⟩
  have e' : cs.toList = (stC s).toList := e
  rw [Array.toList_inj.1 e']
end
end Go.Proofs.YtamiichlbmllcaaGreatDoor
