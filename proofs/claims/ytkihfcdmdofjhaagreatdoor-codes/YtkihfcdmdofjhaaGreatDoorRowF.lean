/-
  A row by what each of its cells holds.
-/
import Derived.Test.YtkihfcdmdofjhaaGreatDoorRight
namespace Go.Proofs.YtkihfcdmdofjhaaGreatDoor
open Go.RowKit
theorem set_block {w : World} {g off : Nat} {A : Array Value} {t : TypeId} {u : Value} (h : w.heap[g]? = some (.cells A t (0, 0))) : (w.setCell ⟨g, off, none⟩ u).heap[g]? = some (.cells (A.setIfInBounds off u) t (0, 0)) := by
  have hlt := lt_of_block h
  have h' : w.heap[g] = .cells A t (0, 0) := by simpa [Array.getElem?_eq_getElem hlt] using h
  show (w.heap.modify g _)[g]? = _
  rw [Array.getElem?_eq_getElem (by simpa using hlt), Array.getElem_modify_self, h']; rfl
/-- a row by what each of its cells holds -/
def RowF (w : World) (g : Nat) (t : TypeId) (n : Nat) (f : Nat → Value) : Prop := ∃ A, w.heap[g]? = some (.cells A t (0, 0)) ∧ A.size = n ∧ ∀ j, j < n → A[j]? = some (f j)
theorem RowF.lt {w : World} {g n : Nat} {t : TypeId} {f : Nat → Value} (h : RowF w g t n f) : g < w.heap.size := by obtain ⟨A, h1, _⟩ := h; exact lt_of_block h1
theorem RowF.cell {w : World} {g n : Nat} {t : TypeId} {f : Nat → Value} (h : RowF w g t n f) (j : Nat) (hj : j < n) : w.cell? ⟨g, j, none⟩ = some (f j) ∧ w.frozen? ⟨g, j, none⟩ = false := by
  obtain ⟨A, h1, h2, h3⟩ := h
  exact ⟨by rw [cell_of_row _ _ _ _ _ _ h1]; exact h3 j hj, by simp [World.frozen?, h1]⟩
theorem RowF.set {w : World} {g n : Nat} {t : TypeId} {f : Nat → Value} (h : RowF w g t n f) (j0 : Nat) (u : Value) : RowF (w.setCell ⟨g, j0, none⟩ u) g t n (fun j => if j = j0 then u else f j) := by
  obtain ⟨A, h1, h2, h3⟩ := h
  refine ⟨_, set_block h1, by simp [h2], fun j hj => ?_⟩
  show (A.setIfInBounds j0 u)[j]? = some (if j = j0 then u else f j)
  by_cases e : j = j0
  · subst e
    rw [if_pos rfl, Array.getElem?_setIfInBounds_self_of_lt (by omega)]
  · rw [if_neg e, Array.getElem?_setIfInBounds_ne (Ne.symm e)]; exact h3 j hj
theorem RowF.congr {w : World} {g n : Nat} {t : TypeId} {f f' : Nat → Value} (h : RowF w g t n f) (he : ∀ j, j < n → f j = f' j) : RowF w g t n f' := by
  obtain ⟨A, h1, h2, h3⟩ := h
  exact ⟨A, h1, h2, fun j hj => by rw [h3 j hj, he j hj]⟩
theorem RowF.block {w w' : World} {g n : Nat} {t : TypeId} {f : Nat → Value} (h : RowF w g t n f) (hb : w'.heap[g]? = w.heap[g]?) : RowF w' g t n f := by
  obtain ⟨A, h1, h2⟩ := h
  exact ⟨A, by rw [hb]; exact h1, h2⟩
end Go.Proofs.YtkihfcdmdofjhaaGreatDoor
