/-
  What the given reading of a script tells: its steps, each with a program, a string and what else it bears.
-/
import Derived.Test.YtamiichlbmllcaaGreatDoorOpen
import Derived.Test.YtamiichlbmllcaaGreatDoorCodes
import Derived.SizedLaws
namespace Go.Proofs.YtamiichlbmllcaaGreatDoor
open Go.ChangeShapes Go.WideShapes Go.ChangeAt Go.RowKit Go.Deep
theorem cOp : Tryz.prog.cellsOf 44 = 30 := by kernel_rfl
theorem cSl : Tryz.prog.cellsOf 26 = 1 := by kernel_rfl
theorem cStr : Tryz.prog.cellsOf 9 = 1 := by kernel_rfl
theorem byIns : Tryz.prog.bytesOf 62 = 40 := by kernel_rfl
theorem byOp : Tryz.prog.bytesOf 44 = 280 := by kernel_rfl
/-- all that is read lies within the reach -/
def Fits (t : TypeId) {H : Type} (d : DataW H) : Prop := ∀ n ∈ DataW.weights Tryz.prog t d, n ≤ reachBytes
section
variable {H : Type} {enc : TypeId × Value → H} {W : World} {base : Nat} {spare : Nat → Bool} {held : Bool}
theorem open_arg {fuel : Nat} {cs : List Value} {x : DataW H × List MemPlace} (h : DataW.trod enc Tryz.prog W base spare held fuel 26 cs = some x) :
    ∃ v l, cs = [v] ∧ Arg W v l ∧ l.length < 9223372036854775808 ∧ (∀ i (h : i < l.length), l[i].in64) ∧ (Fits 26 x.1 → l.length * 40 ≤ 140737488351232) := by
  have h0 := h
  rcases open_slice Tryz.underlying26 h with ⟨rfl, rfl⟩ | ⟨a, len, cap, m, n, D, Pl, rfl, _, hl, hm, hmm, rfl, _⟩
  · exact ⟨_, [], rfl, ⟨Or.inl ⟨⟨_, _, rfl⟩, rfl⟩, fun n c hh => by simp at hh; omega⟩, by simp, fun i h => by simp at h, fun _ => by simp⟩
  · obtain ⟨l, hS, hlt, h64⟩ := open_ins (v := .slice (some a) len cap) ⟨_, _, _, rfl⟩ ⟨fuel, h0⟩
    have hlen : l.length = len := by
      obtain ⟨a', c', e⟩ := hS.len
      simp at e; exact e.2.1.symm
    refine ⟨_, l, rfl, ⟨hS, fun n c hh => by simp at hh⟩, hlt, h64, fun hf => ?_⟩
    have := hf _ (by simp only [DataW.weights, Tryz.underlying26]; exact List.mem_cons_self)
    rw [byIns] at this
    simp only [List.length_map, List.length_range, reachBytes] at this
    omega
theorem weights_mem_all {e : TypeId} {ds : List (DataW H)} {d : DataW H} (hd : d ∈ ds) : ∀ n ∈ DataW.weights Tryz.prog e d, n ∈ DataW.weightsAll Tryz.prog e ds := by
  induction ds with
  | nil => simp at hd
  | cons y r ih =>
    intro n hn
    simp only [DataW.weightsAll, List.mem_append]
    rcases List.mem_cons.1 hd with rfl | hd
    · exact Or.inl hn
    · exact Or.inr (ih hd n hn)
set_option maxRecDepth 100000 in
set_option maxHeartbeats 1000000 in
/-- a step -/
theorem read_op {n : Nat} {cs : List Value} {x : DataW H × List MemPlace} (h : DataW.trod enc Tryz.prog W base spare held n 44 cs = some x) : ∃ o : OpD, cs = o.cells.toList ∧ (Fits 44 x.1 → o.ok W) := by
  obtain ⟨xs, m, _, hx, hl, hlen, hf⟩ := DataW.trod_struct Tryz.underlying44 h
  rw [cOp] at hl
  replace hlen : xs.length = 8 := hlen
  have g0 : DataW.trod enc Tryz.prog W base spare held m 3 ((cs.drop 0).take (Tryz.prog.cellsOf 3)) = xs[0]? := hf 0 _ rfl
  have g3 : DataW.trod enc Tryz.prog W base spare held m 26 ((cs.drop 3).take (Tryz.prog.cellsOf 26)) = xs[3]? := hf 3 _ rfl
  have g4 : DataW.trod enc Tryz.prog W base spare held m 9 ((cs.drop 4).take (Tryz.prog.cellsOf 9)) = xs[4]? := hf 4 _ rfl
  rw [cInt, List.getElem?_eq_getElem (by omega)] at g0
  rw [cSl, List.getElem?_eq_getElem (by omega)] at g3
  rw [cStr, List.getElem?_eq_getElem (by omega)] at g4
  obtain ⟨a0, e0, _, w0⟩ := DataW.trod_int Tryz.underlying3 g0
  obtain ⟨pv, p, e3, hA, _, _, hfit⟩ := open_arg g3
  obtain ⟨s, e4, _, _⟩ := DataW.trod_string Tryz.underlying9 g4
  refine ⟨⟨a0, cs.getD 1 undef, cs.getD 2 undef, pv, p, s, fun j => cs.getD (5 + j) undef, cs.getD 21 undef, fun j => cs.getD (22 + j) undef⟩, ?_, fun hw => ⟨hA, hfit fun k hk => hw k ?_⟩⟩
  · clear hf hx g0 g3 g4 hfit hA h w0
    apply List.ext_getElem?
    intro j
    have c0 := congrArg (fun l => l[0]?) e0
    have c3 := congrArg (fun l => l[0]?) e3
    have c4 := congrArg (fun l => l[0]?) e4
    simp [List.getElem?_drop] at c0 c3 c4
    have hd : ∀ i, i < 30 → cs[i]? = some (cs.getD i undef) := fun i hi => by rw [List.getD_eq_getElem?_getD, List.getElem?_eq_getElem (by omega)]; rfl
    by_cases hj : j < 30
    · have : j = 0 ∨ j = 3 ∨ j = 4 ∨ j = 1 ∨ j = 2 ∨ j = 21 ∨ (5 ≤ j ∧ j < 21) ∨ (22 ≤ j ∧ j < 30) := by omega
      rcases this with rfl | rfl | rfl | rfl | rfl | rfl | h2 | h2
      · rw [c0]; rfl
      · rw [c3]; rfl
      · rw [c4]; rfl
      · rw [hd 1 (by omega)]; rfl
      · rw [hd 2 (by omega)]; rfl
      · rw [hd 21 (by omega)]; rfl
      · rw [hd j hj]
        have : j = 5 ∨ j = 6 ∨ j = 7 ∨ j = 8 ∨ j = 9 ∨ j = 10 ∨ j = 11 ∨ j = 12 ∨ j = 13 ∨ j = 14 ∨ j = 15 ∨ j = 16 ∨ j = 17 ∨ j = 18 ∨ j = 19 ∨ j = 20 := by omega
        rcases this with rfl | rfl | rfl | rfl | rfl | rfl | rfl | rfl | rfl | rfl | rfl | rfl | rfl | rfl | rfl | rfl <;> rfl
      · rw [hd j hj]
        have : j = 22 ∨ j = 23 ∨ j = 24 ∨ j = 25 ∨ j = 26 ∨ j = 27 ∨ j = 28 ∨ j = 29 := by omega
        rcases this with rfl | rfl | rfl | rfl | rfl | rfl | rfl | rfl <;> rfl
    · rw [List.getElem?_eq_none (by omega), List.getElem?_eq_none]
      show 30 ≤ j
      omega
  · rw [hx]
    simp only [DataW.weights, Tryz.underlying44]
    refine DataW.weights_mem_each (j := 3) (t := 26) rfl ?_ k hk
    rw [List.getElem?_map, List.getElem?_eq_getElem (by omega)]; rfl
set_option maxRecDepth 100000 in
/-- A SCRIPT THAT CAME IN. -/
theorem open_scr {v : Value} {d : DataW H} {ps : List MemPlace} (hv : ∃ a len cap, v = .slice a len cap) (h : DataW.Trod enc Tryz.prog W base spare held 22 v d ps) (hfit : Fits 22 d) :
    ∃ l : List OpD, Scr W v l ∧ l.length < 600000000000 := by
  obtain ⟨a0, len0, cap0, rfl⟩ := hv
  obtain ⟨fuel, hf⟩ := h
  rcases open_slice Tryz.underlying22 hf with ⟨hcs, _⟩ | ⟨a, len, cap, m, n, D, Pl, hcs, _, hl, hm, hmm, hd, hx⟩
  · simp [Value.cells] at hcs
    obtain ⟨rfl, rfl, rfl⟩ := hcs
    exact ⟨[], Or.inl ⟨⟨_, _, rfl⟩, rfl⟩, by simp⟩
  · simp [Value.cells] at hcs
    obtain ⟨rfl, rfl, rfl⟩ := hcs
    simp only [Prod.mk.injEq] at hd
    have hlm : len0 ≤ m := by rw [hmm]; split <;> omega
    have hsz : len0 * 280 ≤ 140737488351232 := by
      have := hfit _ (by rw [hd.1]; simp only [DataW.weights, Tryz.underlying22]; exact List.mem_cons_self)
      rw [byOp] at this
      simp only [List.length_map, List.length_range, reachBytes] at this
      omega
    have each : ∀ i, i < len0 → ∃ o : OpD, o.ok W ∧ ∀ f u, o.cells.toList[f]? = some u → W.cell? (a.add (i * 30 + f)) = some u := by
      intro i hi
      obtain ⟨cs', h1, h2⟩ := hx i (by omega)
      obtain ⟨o, rfl, hok⟩ := read_op h2
      rw [cOp] at h1
      obtain ⟨_, _, hcell⟩ := World.cells?_some h1
      refine ⟨o, hok fun k hk => hfit k ?_, fun f u hf' => ?_⟩
      · rw [hd.1]
        simp only [DataW.weights, Tryz.underlying22]
        refine List.mem_cons_of_mem _ (List.mem_append_left _ (weights_mem_all ?_ k hk))
        exact List.mem_map.2 ⟨i, List.mem_range.2 hi, rfl⟩
      · have hlt : f < 30 := (List.getElem?_eq_some_iff.1 hf').1
        rw [← add_add, hcell f hlt]; exact hf'
    have : Inhabited OpD := ⟨⟨0, undef, undef, undef, [], ⟨#[]⟩, fun _ => undef, undef, fun _ => undef⟩⟩
    obtain ⟨q, hq⟩ := choose_lt each
    refine ⟨(List.range len0).map q, ?_, by simp; omega⟩
    by_cases h0 : len0 = 0
    · subst h0
      exact Or.inl ⟨⟨_, _, rfl⟩, rfl⟩
    · obtain ⟨b, off, spot⟩ := a
      have hc := (hq 0 (by omega)).2 0 _ (q 0).kind
      have hspot : spot = none := by simpa [Addr.add] using World.cell?_spot hc
      subst hspot
      refine Or.inr ⟨b, off, cap0, by simp, ?_, fun i hi => ?_⟩
      · rw [add_plain] at hc
        exact World.block_lt_of_cell? W ⟨b, _, none⟩ hc
      · simp only [List.length_map, List.length_range] at hi
        simp only [List.getElem_map, List.getElem_range]
        refine ⟨fun f u hf' => ?_, (hq i hi).1⟩
        have := (hq i hi).2 f u hf'
        rw [add_plain, ← Nat.add_assoc] at this
        exact this
end
end Go.Proofs.YtamiichlbmllcaaGreatDoor
