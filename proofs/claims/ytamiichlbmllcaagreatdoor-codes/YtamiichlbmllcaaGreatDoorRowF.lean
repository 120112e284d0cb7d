/-
  A row by what each of its cells holds.
-/
import Derived.Test.YtamiichlbmllcaaGreatDoorRight
namespace Go.Proofs.YtamiichlbmllcaaGreatDoor
open Go.RowKit
theorem set_block {w : World} {g off : Nat} {A : Array Value} {t : TypeId} {u : Value} (h : w.heap[g]? = some (.cells A t (0, 0))) : (w.setCell ⟨g, off, none⟩ u).heap[g]? = some (.cells (A.setIfInBounds off u) t (0, 0)) := by
  have hlt := lt_of_block h
  have h' : w.heap[g] = .cells A t (0, 0) := by simpa [Array.getElem?_eq_getElem hlt] using h
  show (w.heap.modify g _)[g]? = _
  rw [Array.getElem?_eq_getElem (by simpa using hlt), Array.getElem_modify_self, h']; rfl
/-- a row by what each of its cells holds -/
def RowF (w : World) (g : Nat) (t : TypeId) (n : Nat) (f : Nat → Value) : Prop := ∃ A, w.heap[g]? = some (.cells A t (0, 0)) ∧ A.size = n ∧ ∀ j, j < n → A[j]? = some (f j)
theorem RowF.lt {w : World} {g n : Nat} {t : TypeId} {f : Nat → Value} (h : RowF w g t n f) : g < w.heap.size := by obtain ⟨A, h1, _⟩ := h; exact lt_of_block h1
theorem RowF.cell {w : World} {g n : Nat} {t : TypeId} {f : Nat → Value} (h : RowF w g t n f) (j : Nat) (hj : j < n) : w.cell? ⟨g, j, none⟩ = some (f j) ∧ w.frozen? ⟨g, j, none⟩ = false := by
  obtain ⟨A, h1, h2, h3⟩ := h
  exact ⟨by rw [cell_of_row _ _ _ _ _ _ h1]; exact h3 j hj, by simp [World.frozen?, h1]⟩
theorem RowF.set {w : World} {g n : Nat} {t : TypeId} {f : Nat → Value} (h : RowF w g t n f) (j0 : Nat) (u : Value) : RowF (w.setCell ⟨g, j0, none⟩ u) g t n (fun j => if j = j0 then u else f j) := by
  obtain ⟨A, h1, h2, h3⟩ := h
  refine ⟨_, set_block h1, by simp [h2], fun j hj => ?_⟩
  show (A.setIfInBounds j0 u)[j]? = some (if j = j0 then u else f j)
  by_cases e : j = j0
  · subst e
    rw [if_pos rfl, Array.getElem?_setIfInBounds_self_of_lt (by omega)]
  · rw [if_neg e, Array.getElem?_setIfInBounds_ne (Ne.symm e)]; exact h3 j hj
theorem RowF.congr {w : World} {g n : Nat} {t : TypeId} {f f' : Nat → Value} (h : RowF w g t n f) (he : ∀ j, j < n → f j = f' j) : RowF w g t n f' := by
  obtain ⟨A, h1, h2, h3⟩ := h
  exact ⟨A, h1, h2, fun j hj => by rw [h3 j hj, he j hj]⟩
theorem RowF.block {w w' : World} {g n : Nat} {t : TypeId} {f : Nat → Value} (h : RowF w g t n f) (hb : w'.heap[g]? = w.heap[g]?) : RowF w' g t n f := by
  obtain ⟨A, h1, h2⟩ := h
  exact ⟨A, by rw [hb]; exact h1, h2⟩
/-- nothing that was there is written, but for one block -/
structure But (g : Nat) (w w' : World) : Prop where
  os : w'.os = w.os
  tape : w'.tape = w.tape
  output : w'.output = w.output
  size : w.heap.size ≤ w'.heap.size
  block : ∀ k, k < w.heap.size → k ≠ g → w'.heap[k]? = w.heap[k]?
theorem But.refl (g : Nat) (w : World) : But g w w := ⟨rfl, rfl, rfl, Nat.le_refl _, fun _ _ _ => rfl⟩
theorem But.trans {g : Nat} {a b c : World} (h : But g a b) (k : But g b c) : But g a c :=
  ⟨k.os.trans h.os, k.tape.trans h.tape, k.output.trans h.output, Nat.le_trans h.size k.size, fun i hi hn => (k.block i (Nat.lt_of_lt_of_le hi h.size) hn).trans (h.block i hi hn)⟩
theorem But.ofBelow {g : Nat} {w w' : World} (h : Below w.heap.size w w') : But g w w' := ⟨h.os, h.tape, h.output, h.size, fun k hk _ => h.block k hk⟩
theorem But.set (g : Nat) (w : World) (off : Nat) (u : Value) : But g w (w.setCell ⟨g, off, none⟩ u) :=
  ⟨rfl, rfl, rfl, by simp, fun k _ hn => Below.heap_setCell _ _ _ _ hn⟩
theorem But.below {g B : Nat} {w w' : World} (h : But g w w') (hB : B ≤ g) (hs : B ≤ w.heap.size) : Below B w w' :=
  ⟨h.os, h.tape, h.output, h.size, fun k hk => h.block k (by omega) (by omega)⟩
theorem But.set5 {g : Nat} {w0 w : World} (h : But g w0 w) (o0 o1 o2 o3 o4 : Nat) (u0 u1 u2 u3 u4 : Value) :
    But g w0 (((((w.setCell ⟨g, o0, none⟩ u0).setCell ⟨g, o1, none⟩ u1).setCell ⟨g, o2, none⟩ u2).setCell ⟨g, o3, none⟩ u3).setCell ⟨g, o4, none⟩ u4) :=
  ((((h.trans (But.set g _ _ _)).trans (But.set g _ _ _)).trans (But.set g _ _ _)).trans (But.set g _ _ _)).trans (But.set g _ _ _)
end Go.Proofs.YtamiichlbmllcaaGreatDoor
