/-
  What the given reading of a script tells, its steps' fuel and registers too.
-/
import Derived.Test.YtamiichlbmllcaaGreatDoorOpenS
import Derived.Test.YtamiichlbmllcaaGreatDoorRunsP
namespace Go.Proofs.YtamiichlbmllcaaGreatDoor
open Go.ChangeShapes Go.WideShapes Go.ChangeAt Go.RowKit Go.Deep
theorem cArr : Tryz.prog.cellsOf 42 = 8 := by kernel_rfl
section
variable {H : Type} {enc : TypeId × Value → H} {W : World} {base : Nat} {spare : Nat → Bool} {held : Bool}
set_option maxRecDepth 100000 in
theorem read_ints {n : Nat} {cs : List Value} {x : DataW H × List MemPlace} (h : DataW.trod enc Tryz.prog W base spare held n 44 cs = some x) :
    (∃ f, cs[2]? = some (.int .i64 f)) ∧ ∃ rg : Nat → Int, ∀ j, j < 8 → cs[22 + j]? = some (.int .i64 (rg j)) := by
  obtain ⟨xs, m, _, hx, hl, hlen, hf⟩ := DataW.trod_struct Tryz.underlying44 h
  rw [cOp] at hl
  replace hlen : xs.length = 8 := hlen
  have g2 : DataW.trod enc Tryz.prog W base spare held m 3 ((cs.drop 2).take (Tryz.prog.cellsOf 3)) = xs[2]? := hf 2 _ rfl
  have g7 : DataW.trod enc Tryz.prog W base spare held m 42 ((cs.drop 22).take (Tryz.prog.cellsOf 42)) = xs[7]? := hf 7 _ rfl
  rw [cInt, List.getElem?_eq_getElem (by omega)] at g2
  rw [cArr, List.getElem?_eq_getElem (by omega)] at g7
  obtain ⟨a2, e2, _, _⟩ := DataW.trod_int Tryz.underlying3 g2
  obtain ⟨ys, m7, _, _, _, hy, h7⟩ := DataW.trod_array Tryz.underlying42 g7
  refine ⟨⟨a2, ?_⟩, ?_⟩
  · have c := congrArg (fun l => l[0]?) e2
    simp [List.getElem?_drop] at c
    exact c
  · have each : ∀ j, j < 8 → ∃ z : Int, cs[22 + j]? = some (.int .i64 z) := by
      intro j hj
      have := h7 j hj
      rw [cInt, List.getElem?_eq_getElem (by omega)] at this
      obtain ⟨z, e, _, _⟩ := DataW.trod_int Tryz.underlying3 this
      refine ⟨z, ?_⟩
      have c := congrArg (fun l => l[0]?) e
      simp only [Nat.mul_one, List.getElem?_take, List.getElem?_drop] at c
      rw [if_pos (by omega), if_pos (by omega)] at c
      simpa using c
    obtain ⟨q, hq⟩ := choose_lt each
    exact ⟨q, hq⟩
theorem read_opR {n : Nat} {cs : List Value} {x : DataW H × List MemPlace} (h : DataW.trod enc Tryz.prog W base spare held n 44 cs = some x) : ∃ o : OpD, cs = o.cells.toList ∧ (Fits 44 x.1 → o.okR W) := by
  obtain ⟨⟨f, hf⟩, rg, hr⟩ := read_ints h
  obtain ⟨o, rfl, hok⟩ := read_op h
  refine ⟨o, rfl, fun hx => ⟨hok hx, ⟨f, ?_⟩, rg, fun j hj => ?_⟩⟩
  · have : some o.fu = some (Value.int .i64 f) := hf
    exact Option.some.inj this
  · have h2 := hr j hj
    have : o.cells.toList[22 + j]? = some (o.r j) := by
      match j, hj with
      | 0, _ => rfl
      | 1, _ => rfl
      | 2, _ => rfl
      | 3, _ => rfl
      | 4, _ => rfl
      | 5, _ => rfl
      | 6, _ => rfl
      | 7, _ => rfl
      | j + 8, hj => omega
    rw [this] at h2
    exact Option.some.inj h2
set_option maxRecDepth 100000 in
/-- A SCRIPT THAT CAME IN. -/
theorem open_scrR {v : Value} {d : DataW H} {ps : List MemPlace} (hv : ∃ a len cap, v = .slice a len cap) (h : DataW.Trod enc Tryz.prog W base spare held 22 v d ps) (hfit : Fits 22 d) :
    ∃ l : List OpD, ScrR W v l ∧ l.length < 600000000000 := by
  obtain ⟨a0, len0, cap0, rfl⟩ := hv
  obtain ⟨fuel, hf⟩ := h
  rcases open_slice Tryz.underlying22 hf with ⟨hcs, _⟩ | ⟨a, len, cap, m, n, D, Pl, hcs, _, hl, hm, hmm, hd, hx⟩
  · simp [Value.cells] at hcs
    obtain ⟨rfl, rfl, rfl⟩ := hcs
    exact ⟨[], Or.inl ⟨⟨_, _, rfl⟩, rfl⟩, by simp⟩
  · simp [Value.cells] at hcs
    obtain ⟨rfl, rfl, rfl⟩ := hcs
    simp only [Prod.mk.injEq] at hd
    have hlm : len0 ≤ m := by rw [hmm]; split <;> omega
    have hsz : len0 * 280 ≤ 140737488351232 := by
      have := hfit _ (by rw [hd.1]; simp only [DataW.weights, Tryz.underlying22]; exact List.mem_cons_self)
      rw [byOp] at this
      simp only [List.length_map, List.length_range, reachBytes] at this
      omega
    have each : ∀ i, i < len0 → ∃ o : OpD, o.okR W ∧ ∀ f u, o.cells.toList[f]? = some u → W.cell? (a.add (i * 30 + f)) = some u := by
      intro i hi
      obtain ⟨cs', h1, h2⟩ := hx i (by omega)
      obtain ⟨o, rfl, hok⟩ := read_opR h2
      rw [cOp] at h1
      obtain ⟨_, _, hcell⟩ := World.cells?_some h1
      refine ⟨o, hok fun k hk => hfit k ?_, fun f u hf' => ?_⟩
      · rw [hd.1]
        simp only [DataW.weights, Tryz.underlying22]
        refine List.mem_cons_of_mem _ (List.mem_append_left _ (weights_mem_all ?_ k hk))
        exact List.mem_map.2 ⟨i, List.mem_range.2 hi, rfl⟩
      · have hlt : f < 30 := (List.getElem?_eq_some_iff.1 hf').1
        rw [← add_add, hcell f hlt]; exact hf'
    have : Inhabited OpD := ⟨⟨0, undef, undef, undef, [], ⟨#[]⟩, fun _ => undef, undef, fun _ => undef⟩⟩
    obtain ⟨q, hq⟩ := choose_lt each
    refine ⟨(List.range len0).map q, ?_, by simp; omega⟩
    by_cases h0 : len0 = 0
    · subst h0
      exact Or.inl ⟨⟨_, _, rfl⟩, rfl⟩
    · obtain ⟨b, off, spot⟩ := a
      have hc := (hq 0 (by omega)).2 0 _ (q 0).kind
      have hspot : spot = none := by simpa [Addr.add] using World.cell?_spot hc
      subst hspot
      refine Or.inr ⟨b, off, cap0, by simp, ?_, fun i hi => ?_⟩
      · rw [add_plain] at hc
        exact World.block_lt_of_cell? W ⟨b, _, none⟩ hc
      · simp only [List.length_map, List.length_range] at hi
        simp only [List.getElem_map, List.getElem_range]
        refine ⟨fun f u hf' => ?_, (hq i hi).1⟩
        have := (hq i hi).2 f u hf'
        rw [add_plain, ← Nat.add_assoc] at this
        exact this
end
end Go.Proofs.YtamiichlbmllcaaGreatDoor
