/-
  What the given readings of the arguments and of the listed table tell: a slice of instructions that came in, and the table 'shapes'.
-/
import Derived.Test.YtamiichlbmllcaaDoorRows
import Derived.Test.YtamiichlbmllcaaDoorKeepD
import Derived.ProofKit
import Derived.LaidMore
import Derived.OpenShut
import Derived.Stop.Joined
import Derived.Deep.Slices
import Derived.Deep.Strs
namespace Go.Proofs.YtamiichlbmllcaaDoor
open Go.ChangeShapes Go.WideShapes Go.ChangeAt Go.RowKit Go.Deep
theorem own : ownKnob Tryd.prog.godebug = none := by kernel_rfl
theorem laidOut : laidOutB Tryd.prog = true := by kernel_rfl
theorem gShapes : Tryd.prog.globalNamed "surety/code.shapes" = some 0 := by kernel_rfl
theorem tShapes : (Tryd.prog.globals[0]?).map (·.type) = some 73 := by kernel_rfl
theorem cInt : Tryd.prog.cellsOf 3 = 1 := by kernel_rfl
theorem cIns : Tryd.prog.cellsOf 32 = 5 := by kernel_rfl
theorem cShape : Tryd.prog.cellsOf 72 = 3 := by kernel_rfl
theorem wf64 {n : Int} (h : (Lit.int .i64 n).wf = true) : I64 n := by
  have := bounds_i64 h
  exact ⟨by omega, by omega⟩
section
variable {H : Type} {enc : TypeId × Value → H} {W : World} {base : Nat} {spare : Nat → Bool} {held : Bool}
set_option maxRecDepth 10000 in
/-- five fields of an instruction, out of its cells' reading -/
theorem read_ins {n : Nat} {cs : List Value} {x : DataW H × List MemPlace} (h : DataW.trod enc Tryd.prog W base spare held n 32 cs = some x) : ∃ i : I5, cs = i.cells ∧ i.in64 := by
  obtain ⟨xs, m, _, _, hl, hlen, hf⟩ := DataW.trod_struct Tryd.underlying32 h
  rw [cIns] at hl
  replace hlen : xs.length = 5 := hlen
  match cs, hl, xs, hlen with
  | [v0, v1, v2, v3, v4], _, [y0, y1, y2, y3, y4], _ =>
    have g0 := hf 0 _ rfl
    have g1 := hf 1 _ rfl
    have g2 := hf 2 _ rfl
    have g3 := hf 3 _ rfl
    have g4 := hf 4 _ rfl
    simp [cInt] at g0 g1 g2 g3 g4
    obtain ⟨a0, e0, _, w0⟩ := DataW.trod_int Tryd.underlying3 g0
    obtain ⟨a1, e1, _, w1⟩ := DataW.trod_int Tryd.underlying3 g1
    obtain ⟨a2, e2, _, w2⟩ := DataW.trod_int Tryd.underlying3 g2
    obtain ⟨a3, e3, _, w3⟩ := DataW.trod_int Tryd.underlying3 g3
    obtain ⟨a4, e4, _, w4⟩ := DataW.trod_int Tryd.underlying3 g4
    simp at e0 e1 e2 e3 e4
    subst e0 e1 e2 e3 e4
    exact ⟨⟨a0, a1, a2, a3, a4⟩, rfl, wf64 w0, wf64 w1, wf64 w2, wf64 w3, wf64 w4⟩
/-- A SLICE OF INSTRUCTIONS THAT CAME IN. -/
theorem open_ins {v : Value} {d : DataW H} {ps : List MemPlace} (hv : ∃ a len cap, v = .slice a len cap) (h : DataW.Trod enc Tryd.prog W base spare held 22 v d ps) :
    ∃ l : List I5, Slc W v l ∧ l.length < 9223372036854775808 ∧ ∀ i (h : i < l.length), l[i].in64 := by
  obtain ⟨a0, len0, cap0, rfl⟩ := hv
  obtain ⟨fuel, hf⟩ := h
  rcases open_slice Tryd.underlying22 hf with ⟨hcs, _⟩ | ⟨a, len, cap, m, n, D, Pl, hcs, _, hl, hm, hmm, _, hx⟩
  · simp [Value.cells] at hcs
    obtain ⟨rfl, rfl, rfl⟩ := hcs
    exact ⟨[], Or.inl ⟨⟨_, _, rfl⟩, rfl⟩, by simp, fun i h => by simp at h⟩
  · simp [Value.cells] at hcs
    obtain ⟨rfl, rfl, rfl⟩ := hcs
    have hlm : len0 ≤ m := by rw [hmm]; split <;> omega
    have each : ∀ i, i < len0 → ∃ x : I5, x.in64 ∧ ∀ f, f < 5 → W.cell? (a.add (i * 5 + f)) = x.cells[f]? := by
      intro i hi
      obtain ⟨cs', h1, h2⟩ := hx i (by omega)
      obtain ⟨x, rfl, hx64⟩ := read_ins h2
      rw [cIns] at h1
      obtain ⟨_, _, hcell⟩ := World.cells?_some h1
      exact ⟨x, hx64, fun f hf => by rw [← add_add]; exact hcell f hf⟩
    have : Inhabited I5 := ⟨I5.zero⟩
    obtain ⟨q, hq⟩ := choose_lt each
    refine ⟨(List.range len0).map q, ?_, by simp; unfold maxLen at hm; omega, fun i hi => by simp at hi ⊢; exact (hq i hi).1⟩
    by_cases h0 : len0 = 0
    · subst h0
      exact Or.inl ⟨⟨_, _, rfl⟩, rfl⟩
    · obtain ⟨b, off, spot⟩ := a
      have hc := (hq 0 (by omega)).2 0 (by omega)
      have hspot : spot = none := by
        simp only [Nat.zero_mul, Nat.zero_add, I5.cells, List.getElem?_cons_zero] at hc
        simpa [Addr.add] using World.cell?_spot hc
      subst hspot
      have hadd : ∀ k, (⟨b, off, none⟩ : Addr).add k = ⟨b, off + k, none⟩ := fun k => add_plain _ _ _
      have hcl : ∀ i (hi : i < len0) f, f < 5 → W.cell? ⟨b, off + i * 5 + f, none⟩ = (q i).cells[f]? := by
        intro i hi f hf
        have := (hq i hi).2 f hf
        rw [hadd, ← Nat.add_assoc] at this
        exact this
      refine Or.inr ⟨b, off, cap0, by simp, ?_, fun i hi => ?_⟩
      · have := hcl 0 (by omega) 0 (by omega)
        exact World.block_lt_of_cell? W ⟨b, _, none⟩ this
      · simp at hi ⊢
        exact ⟨hcl i hi 0 (by omega), hcl i hi 1 (by omega), hcl i hi 2 (by omega), hcl i hi 3 (by omega), hcl i hi 4 (by omega)⟩
end
/-- THE TABLE. -/
theorem shapes_of_laid {W : World} (h : laidMetH Tryd.prog [("surety/code.shapes", Rows.laid_surety_code_shapes)] W) : Shapes W := by
  rw [MakeChecks.laidMetH_plain _ _ _ (by kernel_rfl)] at h
  obtain ⟨ps, ⟨g0, t0, cs0, f0, p0, q0, hg0, ht0, hv0, hd0, _, _⟩, _, _⟩ := h
  obtain rfl := Option.some.inj (gShapes.symm.trans hg0)
  obtain rfl := Option.some.inj (tShapes.symm.trans ht0)
  obtain ⟨xs, m1, rfl, hx1, hlen, hn12, hel⟩ := DataW.trod_array Tryd.underlying73 hd0
  have hcell := World.var?_cell hg0 hv0
  have one : ∀ i, i < 12 → ∀ y, xs[i]? = some y → ∃ a b c : Int, y.1 = .agg [.lit (.int .i64 a), .lit (.int .i64 b), .lit (.int .i64 c)] ∧ W.cell? ⟨0, i * 3, none⟩ = some (.int .i64 a) ∧ W.cell? ⟨0, i * 3 + 1, none⟩ = some (.int .i64 b) ∧ W.cell? ⟨0, i * 3 + 2, none⟩ = some (.int .i64 c) := by
    intro i hi y hy
    have h0 := hel i hi
    rw [hy, cShape] at h0
    obtain ⟨y0, y1, y2, n, hyy, hl3, g0, g1, g2⟩ := trod_struct3 Tryd.underlying72 h0
    simp only [cInt] at g0 g1 g2
    obtain ⟨a, e0, r0, _⟩ := DataW.trod_int Tryd.underlying3 g0
    obtain ⟨b, e1, r1, _⟩ := DataW.trod_int Tryd.underlying3 g1
    obtain ⟨c, e2, r2, _⟩ := DataW.trod_int Tryd.underlying3 g2
    subst r0 r1 r2
    refine ⟨a, b, c, by rw [hyy], ?_, ?_, ?_⟩
    · rw [hcell]
      have := congrArg (fun l => l[0]?) e0
      simpa [List.getElem?_take, List.getElem?_drop] using this
    · rw [hcell]
      have := congrArg (fun l => l[0]?) e1
      simpa [List.getElem?_take, List.getElem?_drop] using this
    · rw [hcell]
      have := congrArg (fun l => l[0]?) e2
      simpa [List.getElem?_take, List.getElem?_drop] using this
  simp only [Prod.mk.injEq, Rows.laid_surety_code_shapes, DataW.agg.injEq] at hx1
  match xs, hn12, hx1, one with
  | [x0, x1, x2, x3, x4, x5, x6, x7, x8, x9, x10, x11], _, hx1, one =>
    simp only [List.map_cons, List.map_nil, List.cons.injEq] at hx1
    obtain ⟨⟨h0, h1, h2, h3, h4, h5, h6, h7, h8, h9, h10, h11, _⟩, _⟩ := hx1
    have fin : ∀ (i : Nat) (hi : i < 12) (y : DataW Unit × List MemPlace) (a b c : Int), [x0, x1, x2, x3, x4, x5, x6, x7, x8, x9, x10, x11][i]? = some y → .agg [.lit (.int .i64 a), .lit (.int .i64 b), .lit (.int .i64 c)] = y.1 →
        W.cell? ⟨0, i * 3, none⟩ = some (.int .i64 a) ∧ W.cell? ⟨0, i * 3 + 1, none⟩ = some (.int .i64 b) ∧ W.cell? ⟨0, i * 3 + 2, none⟩ = some (.int .i64 c) := by
      intro i hi y a b c hy he
      obtain ⟨a', b', c', e, r0, r1, r2⟩ := one i hi y hy
      rw [e] at he
      simp at he
      obtain ⟨rfl, rfl, rfl⟩ := he
      exact ⟨r0, r1, r2⟩
    refine ⟨World.block_lt_of_cell? W ⟨0, 0, none⟩ (fin 0 (by omega) _ _ _ _ rfl h0).1, fun o ho0 ho1 => ?_⟩
    have ho : o = 0 ∨ o = 1 ∨ o = 2 ∨ o = 3 ∨ o = 4 ∨ o = 5 ∨ o = 6 ∨ o = 7 ∨ o = 8 ∨ o = 9 ∨ o = 10 ∨ o = 11 := by omega
    rcases ho with rfl | rfl | rfl | rfl | rfl | rfl | rfl | rfl | rfl | rfl | rfl | rfl
    · exact fin 0 (by omega) _ _ _ _ rfl h0
    · exact fin 1 (by omega) _ _ _ _ rfl h1
    · exact fin 2 (by omega) _ _ _ _ rfl h2
    · exact fin 3 (by omega) _ _ _ _ rfl h3
    · exact fin 4 (by omega) _ _ _ _ rfl h4
    · exact fin 5 (by omega) _ _ _ _ rfl h5
    · exact fin 6 (by omega) _ _ _ _ rfl h6
    · exact fin 7 (by omega) _ _ _ _ rfl h7
    · exact fin 8 (by omega) _ _ _ _ rfl h8
    · exact fin 9 (by omega) _ _ _ _ rfl h9
    · exact fin 10 (by omega) _ _ _ _ rfl h10
    · exact fin 11 (by omega) _ _ _ _ rfl h11
end Go.Proofs.YtamiichlbmllcaaDoor
