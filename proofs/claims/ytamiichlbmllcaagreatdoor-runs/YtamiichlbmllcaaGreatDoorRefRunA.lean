/-
  The document's answer: what holds while suretyref.Run runs.
-/
import Derived.Test.YtamiichlbmllcaaGreatDoorTraX
import Derived.Test.YtamiichlbmllcaaGreatDoorRefA
import Derived.Deep.CutRange
import Derived.Deep.DeepCutAuto
namespace Go.Proofs.YtamiichlbmllcaaGreatDoor
open Go.RowKit
def RegR (w : World) (b : Nat) (r : Nat → Int) : Prop := RowF w b 42 8 (fun j => .int .i64 (r j))
def WordR (w : World) (b : Nat) (m : Nat → Int) : Prop := RowF w b 128 16 (fun j => .int .i64 (m j))
theorem RegR.set {w : World} {b : Nat} {r : Nat → Int} (h : RegR w b r) (a : Nat) (v : Int) : RegR (w.setCell ⟨b, a, none⟩ (.int .i64 v)) b (upd r a v) := by
  refine (RowF.set h a (.int .i64 v)).congr fun j _ => ?_
  unfold upd
  by_cases e : j = a
  · rw [if_pos e, if_pos e]
  · rw [if_neg e, if_neg e]
theorem WordR.set {w : World} {b : Nat} {r : Nat → Int} (h : WordR w b r) (a : Nat) (v : Int) : WordR (w.setCell ⟨b, a, none⟩ (.int .i64 v)) b (upd r a v) := by
  refine (RowF.set h a (.int .i64 v)).congr fun j _ => ?_
  unfold upd
  by_cases e : j = a
  · rw [if_pos e, if_pos e]
  · rw [if_neg e, if_neg e]
theorem regR_of {w : World} {N : Nat} {r : Nat → Int} (hH : w.heap[N]? = some (.cells #[.int .i64 (r 0), .int .i64 (r 1), .int .i64 (r 2), .int .i64 (r 3), .int .i64 (r 4), .int .i64 (r 5), .int .i64 (r 6), .int .i64 (r 7)] 42 (0, 0))) : RegR w N r := by
  refine ⟨_, hH, rfl, fun j hj => ?_⟩
  match j, hj with
  | 0, _ => rfl
  | 1, _ => rfl
  | 2, _ => rfl
  | 3, _ => rfl
  | 4, _ => rfl
  | 5, _ => rfl
  | 6, _ => rfl
  | 7, _ => rfl
  | j + 8, h => omega
theorem wordR_of {w : World} {N : Nat} (hH : w.heap[N]? = some (.cells #[.int .i64 0, .int .i64 0, .int .i64 0, .int .i64 0, .int .i64 0, .int .i64 0, .int .i64 0, .int .i64 0, .int .i64 0, .int .i64 0, .int .i64 0, .int .i64 0, .int .i64 0, .int .i64 0, .int .i64 0, .int .i64 0] 128 (0, 0))) : WordR w N zeroW := by
  refine ⟨_, hH, rfl, fun j hj => ?_⟩
  match j, hj with
  | 0, _ => rfl
  | 1, _ => rfl
  | 2, _ => rfl
  | 3, _ => rfl
  | 4, _ => rfl
  | 5, _ => rfl
  | 6, _ => rfl
  | 7, _ => rfl
  | 8, _ => rfl
  | 9, _ => rfl
  | 10, _ => rfl
  | 11, _ => rfl
  | 12, _ => rfl
  | 13, _ => rfl
  | 14, _ => rfl
  | 15, _ => rfl
  | j + 16, h => omega
theorem own_set4 {w : World} {B g : Nat} {v : Value} {l : List V9} (h : OwnV w B v l) (hg : g < B) (o0 o1 o2 o3 : Nat) (u0 u1 u2 u3 : Value) : OwnV ((((w.setCell ⟨g, o0, none⟩ u0).setCell ⟨g, o1, none⟩ u1).setCell ⟨g, o2, none⟩ u2).setCell ⟨g, o3, none⟩ u3) B v l :=
  (((h.but (But.set g _ _ _) hg).but (But.set g _ _ _) hg).but (But.set g _ _ _) hg).but (But.set g _ _ _) hg
/-- what holds at the head of the document's loop: N: the registers' block, N + 1 the result's, W the words' -/
structure RefSt (w wr : World) (N W : Nat) (l : List I5) (F : Nat) (full : List V9) (o : O4) (k : Nat) (s : MS) (u : Value) (vs : List V9) (u13 u14 : Value) : Prop where
  pc : u13 = .int .i64 s.pc
  st : u14 = .int .i64 s.n
  regs : RegR wr N s.r
  words : WordR wr W s.m
  res : wr.heap[N + 1]? = some (.cells #[.int .i64 0, .int .i64 0, .int .i64 0, .int .i64 0] 53 (0, 0))
  own : OwnV wr (W + 1) u vs
  bel : Below N w wr
  sz : W + 1 ≤ wr.heap.size
  hpc : s.pc ≤ l.length
  hk : s.n + k = F
  hv : ∃ pre, full = pre ++ (runR l k s).1 ∧ vs = pre.take 100
  ho : (runR l k s).2 = o
theorem RefSt.stop {w wr : World} {N W : Nat} {l : List I5} {F : Nat} {full : List V9} {o : O4} {k : Nat} {s : MS} {u : Value} {vs : List V9} {u13 u14 : Value} (h : RefSt w wr N W l F full o k s u vs u13 u14) {o' : O4} (hr : runR l k s = ([], o')) : full.take 100 = vs ∧ o = o' := by
  obtain ⟨pre, h1, h2⟩ := h.hv
  have h3 := h.ho
  rw [hr] at h1 h3
  simp only [List.append_nil] at h1
  exact ⟨by rw [h1, h2], h3.symm⟩
/-- behind what is come to -/
structure RefMid (w wr : World) (N W : Nat) (l : List I5) (F : Nat) (full : List V9) (o : O4) (k : Nat) (s : MS) (u : Value) (vs : List V9) : Prop where
  regs : RegR wr N s.r
  words : WordR wr W s.m
  res : wr.heap[N + 1]? = some (.cells #[.int .i64 0, .int .i64 0, .int .i64 0, .int .i64 0] 53 (0, 0))
  own : OwnV wr (W + 1) u vs
  bel : Below N w wr
  sz : W + 1 ≤ wr.heap.size
  hpc : s.pc < l.length
  hk : s.n + (k + 1) = F
  hv : ∃ pre, full = pre ++ (runR l (k + 1) s).1 ∧ vs = (pre ++ [V9.mk s.pc s.r]).take 100
  ho : (runR l (k + 1) s).2 = o
theorem RefSt.mid {w wr w' : World} {N W : Nat} {l : List I5} {F : Nat} {full : List V9} {o : O4} {k : Nat} {s : MS} {u u' : Value} {vs : List V9} {u13 u14 : Value} (h : RefSt w wr N W l F full o (k + 1) s u vs u13 u14) (hpc : s.pc < l.length) (hb : Below (W + 1) wr w') (hN : N + 1 < W) (ho : vs.length < 100 ∧ OwnV w' (W + 1) u' (vs ++ [V9.mk s.pc s.r]) ∨ ¬ vs.length < 100 ∧ OwnV w' (W + 1) u' vs) :
    ∃ vs', RefMid w w' N W l F full o k s u' vs' ∧ vs'.length ≤ 100 := by
  obtain ⟨pre, h1, h2⟩ := h.hv
  have hlen : (pre.take 100).length = min 100 pre.length := List.length_take
  rcases ho with ⟨hlt, ho⟩ | ⟨hge, ho⟩
  · refine ⟨vs ++ [V9.mk s.pc s.r], ⟨RowF.block h.regs (hb.block _ (by omega)), RowF.block h.words (hb.block _ (by omega)), (hb.block _ (by omega)).trans h.res, ho, h.bel.trans (hb.mono (by omega)), Nat.le_trans h.sz hb.size, hpc, h.hk, ⟨pre, h1, ?_⟩, h.ho⟩, by simp; omega⟩
    rw [h2] at hlt ⊢
    have : pre.take 100 = pre := List.take_of_length_le (by omega)
    rw [this, List.take_of_length_le]
    simp; omega
  · refine ⟨_, ⟨RowF.block h.regs (hb.block _ (by omega)), RowF.block h.words (hb.block _ (by omega)), (hb.block _ (by omega)).trans h.res, ho, h.bel.trans (hb.mono (by omega)), Nat.le_trans h.sz hb.size, hpc, h.hk, ⟨pre, h1, ?_⟩, h.ho⟩, by rw [h2]; simp; omega⟩
    rw [h2] at hge ⊢
    rw [List.take_append_of_le_length (by omega)]
theorem RefSt.regCells {w : World} {b : Nat} {r : Nat → Int} (h : RegR w b r) : w.cell? ⟨b, 0, none⟩ = some (.int .i64 (r 0)) ∧ w.cell? ⟨b, 1, none⟩ = some (.int .i64 (r 1)) ∧ w.cell? ⟨b, 2, none⟩ = some (.int .i64 (r 2)) ∧ w.cell? ⟨b, 3, none⟩ = some (.int .i64 (r 3)) ∧ w.cell? ⟨b, 4, none⟩ = some (.int .i64 (r 4)) ∧ w.cell? ⟨b, 5, none⟩ = some (.int .i64 (r 5)) ∧ w.cell? ⟨b, 6, none⟩ = some (.int .i64 (r 6)) ∧ w.cell? ⟨b, 7, none⟩ = some (.int .i64 (r 7)) :=
  ⟨(h.cell 0 (by omega)).1, (h.cell 1 (by omega)).1, (h.cell 2 (by omega)).1, (h.cell 3 (by omega)).1, (h.cell 4 (by omega)).1, (h.cell 5 (by omega)).1, (h.cell 6 (by omega)).1, (h.cell 7 (by omega)).1⟩
structure But2 (N W : Nat) (w w' : World) : Prop where
  os : w'.os = w.os
  tape : w'.tape = w.tape
  output : w'.output = w.output
  size : w.heap.size ≤ w'.heap.size
  block : ∀ k, k < w.heap.size → k ≠ N → k ≠ W → w'.heap[k]? = w.heap[k]?
theorem But2.refl (N W : Nat) (w : World) : But2 N W w w := ⟨rfl, rfl, rfl, Nat.le_refl _, fun _ _ _ _ => rfl⟩
theorem But2.set1 (N W : Nat) (w : World) (off : Nat) (u : Value) : But2 N W w (w.setCell ⟨N, off, none⟩ u) := ⟨rfl, rfl, rfl, by simp, fun k _ hn _ => Below.heap_setCell _ _ _ _ hn⟩
theorem But2.set2 (N W : Nat) (w : World) (off : Nat) (u : Value) : But2 N W w (w.setCell ⟨W, off, none⟩ u) := ⟨rfl, rfl, rfl, by simp, fun k _ _ hn => Below.heap_setCell _ _ _ _ hn⟩
theorem RefMid.next {w wr : World} {N W : Nat} {l : List I5} {F : Nat} {full : List V9} {o : O4} {k : Nat} {s : MS} {u : Value} {vs : List V9} (h : RefMid w wr N W l F full o k s u vs) {s' : MS} (hd : doAt l s = (0, s')) {w1 w' : World} (b1 : But2 N W wr w1) (hr : RegR w1 N s'.r) (hm : WordR w1 W s'.m) (hb : Below w1.heap.size w1 w') {u13 u14 : Value} (h13 : u13 = .int .i64 s'.pc) (h14 : u14 = .int .i64 s'.n) (hl : AllFit l) (hN : N + 1 < W) :
    RefSt w w' N W l F full o k s' u vs u13 u14 := by
  have hsz := h.sz
  have hbs := b1.size
  have hs' : s' = (doAt l s).2 := by rw [hd]
  have hrun := runR_go (p := l) (k := k) (s := s) (by have := h.hpc; omega) (by rw [hd])
  rw [← hs'] at hrun
  obtain ⟨pre, h1, h2⟩ := h.hv
  refine ⟨h13, h14, RowF.block hr (hb.block _ (RowF.lt hr)), RowF.block hm (hb.block _ (RowF.lt hm)), ?_, ?_, ?_, by have := hb.size; omega, by rw [hs']; exact doAt_pc hl h.hpc, by rw [hs', doAt_n]; have := h.hk; omega, ⟨pre ++ [V9.mk s.pc s.r], ?_, h2⟩, ?_⟩
  · rw [hb.block _ (by omega), b1.block _ (by omega) (by omega) (by omega)]; exact h.res
  · refine ⟨h.own.1, ?_⟩
    rcases h.own.2 with h3 | ⟨g, cap, cur, h3, h4, hh, r⟩
    · exact Or.inl h3
    · have := lt_of_block hh
      exact Or.inr ⟨g, cap, cur, h3, h4, by rw [hb.block _ (by omega), b1.block _ this (by omega) (by omega)]; exact hh, r⟩
  · refine h.bel.trans ⟨hb.os.trans b1.os, hb.tape.trans b1.tape, hb.output.trans b1.output, Nat.le_trans b1.size hb.size, fun i hi => ?_⟩
    rw [hb.block _ (by omega), b1.block _ (by omega) (by omega) (by omega)]
  · rw [h1, hrun]; simp
  · have := h.ho; rw [hrun] at this; exact this
theorem RefMid.halt {w wr : World} {N W : Nat} {l : List I5} {F : Nat} {full : List V9} {o : O4} {k : Nat} {s : MS} {u : Value} {vs : List V9} (h : RefMid w wr N W l F full o k s u vs) {kd : Int} {s' : MS} (hd : doAt l s = (kd, s')) (hk : kd ≠ 0) : full.take 100 = vs ∧ o = endO kd s.pc s' := by
  have hrun := runR_stop (p := l) (k := k) (s := s) (by have := h.hpc; omega) (by rw [hd]; exact hk)
  rw [hd] at hrun
  obtain ⟨pre, h1, h2⟩ := h.hv
  have h3 := h.ho
  rw [hrun] at h1 h3
  exact ⟨by rw [h1, h2], h3.symm⟩
theorem RefMid.out {w wr : World} {N W : Nat} {l : List I5} {F : Nat} {full : List V9} {o : O4} {k : Nat} {s : MS} {u : Value} {vs : List V9} (h : RefMid w wr N W l F full o k s u vs) (x : Obj) (hN : N + 1 < W) (o0 o1 o2 o3 : Nat) (u0 u1 u2 u3 : Value) :
    OwnV (((((wr.setCell ⟨N + 1, o0, none⟩ u0).setCell ⟨N + 1, o1, none⟩ u1).setCell ⟨N + 1, o2, none⟩ u2).setCell ⟨N + 1, o3, none⟩ u3).alloc x) N u vs ∧ Below N w (((((wr.setCell ⟨N + 1, o0, none⟩ u0).setCell ⟨N + 1, o1, none⟩ u1).setCell ⟨N + 1, o2, none⟩ u2).setCell ⟨N + 1, o3, none⟩ u3).alloc x) := by
  have hsz := h.sz
  exact ⟨World.ownsRow.alloc (own_low (own_set4 h.own (by omega) _ _ _ _ _ _ _ _) (by omega)) x, (below_set4 h.bel (by omega) _ _ _ _ _ _ _ _).alloc (by simp; omega) x⟩
end Go.Proofs.YtamiichlbmllcaaGreatDoor
