import Derived.Test.YtamiichlbmllcaaDoorRight
import Derived.Deep.MidRow
import Derived.Laws.NewFold
import Derived.Deep.RegionHeld3
import Derived.Laws.MakeOwn
/-
  A row by what each of its cells holds.
-/
namespace Go.Proofs.YtamiichlbmllcaaDoor
open Go.RowKit
theorem set_block {w : World} {g off : Nat} {A : Array Value} {t : TypeId} {u : Value} (h : w.heap[g]? = some (.cells A t (0, 0))) : (w.setCell ⟨g, off, none⟩ u).heap[g]? = some (.cells (A.setIfInBounds off u) t (0, 0)) := by
  have hlt := lt_of_block h
  have h' : w.heap[g] = .cells A t (0, 0) := by simpa [Array.getElem?_eq_getElem hlt] using h
  show (w.heap.modify g _)[g]? = _
  rw [Array.getElem?_eq_getElem (by simpa using hlt), Array.getElem_modify_self, h']; rfl
/-- a row by what each of its cells holds -/
def RowF (w : World) (g : Nat) (t : TypeId) (n : Nat) (f : Nat → Value) : Prop := ∃ A, w.heap[g]? = some (.cells A t (0, 0)) ∧ A.size = n ∧ ∀ j, j < n → A[j]? = some (f j)
theorem RowF.lt {w : World} {g n : Nat} {t : TypeId} {f : Nat → Value} (h : RowF w g t n f) : g < w.heap.size := by obtain ⟨A, h1, _⟩ := h; exact lt_of_block h1
theorem RowF.cell {w : World} {g n : Nat} {t : TypeId} {f : Nat → Value} (h : RowF w g t n f) (j : Nat) (hj : j < n) : w.cell? ⟨g, j, none⟩ = some (f j) ∧ w.frozen? ⟨g, j, none⟩ = false := by
  obtain ⟨A, h1, h2, h3⟩ := h
  exact ⟨by rw [cell_of_row _ _ _ _ _ _ h1]; exact h3 j hj, by simp [World.frozen?, h1]⟩
theorem RowF.set {w : World} {g n : Nat} {t : TypeId} {f : Nat → Value} (h : RowF w g t n f) (j0 : Nat) (u : Value) : RowF (w.setCell ⟨g, j0, none⟩ u) g t n (fun j => if j = j0 then u else f j) := by
  obtain ⟨A, h1, h2, h3⟩ := h
  refine ⟨_, set_block h1, by simp [h2], fun j hj => ?_⟩
  show (A.setIfInBounds j0 u)[j]? = some (if j = j0 then u else f j)
  by_cases e : j = j0
  · subst e
    rw [if_pos rfl, Array.getElem?_setIfInBounds_self_of_lt (by omega)]
  · rw [if_neg e, Array.getElem?_setIfInBounds_ne (Ne.symm e)]; exact h3 j hj
theorem RowF.congr {w : World} {g n : Nat} {t : TypeId} {f f' : Nat → Value} (h : RowF w g t n f) (he : ∀ j, j < n → f j = f' j) : RowF w g t n f' := by
  obtain ⟨A, h1, h2, h3⟩ := h
  exact ⟨A, h1, h2, fun j hj => by rw [h3 j hj, he j hj]⟩
theorem RowF.block {w w' : World} {g n : Nat} {t : TypeId} {f : Nat → Value} (h : RowF w g t n f) (hb : w'.heap[g]? = w.heap[g]?) : RowF w' g t n f := by
  obtain ⟨A, h1, h2⟩ := h
  exact ⟨A, by rw [hb]; exact h1, h2⟩
/-- nothing that was there is written, but for one block -/
structure But (g : Nat) (w w' : World) : Prop where
  os : w'.os = w.os
  tape : w'.tape = w.tape
  output : w'.output = w.output
  size : w.heap.size ≤ w'.heap.size
  block : ∀ k, k < w.heap.size → k ≠ g → w'.heap[k]? = w.heap[k]?
theorem But.refl (g : Nat) (w : World) : But g w w := ⟨rfl, rfl, rfl, Nat.le_refl _, fun _ _ _ => rfl⟩
theorem But.trans {g : Nat} {a b c : World} (h : But g a b) (k : But g b c) : But g a c :=
  ⟨k.os.trans h.os, k.tape.trans h.tape, k.output.trans h.output, Nat.le_trans h.size k.size, fun i hi hn => (k.block i (Nat.lt_of_lt_of_le hi h.size) hn).trans (h.block i hi hn)⟩
theorem But.ofBelow {g : Nat} {w w' : World} (h : Below w.heap.size w w') : But g w w' := ⟨h.os, h.tape, h.output, h.size, fun k hk _ => h.block k hk⟩
theorem But.set (g : Nat) (w : World) (off : Nat) (u : Value) : But g w (w.setCell ⟨g, off, none⟩ u) :=
  ⟨rfl, rfl, rfl, by simp, fun k _ hn => Below.heap_setCell _ _ _ _ hn⟩
theorem But.below {g B : Nat} {w w' : World} (h : But g w w') (hB : B ≤ g) (hs : B ≤ w.heap.size) : Below B w w' :=
  ⟨h.os, h.tape, h.output, h.size, fun k hk => h.block k (by omega) (by omega)⟩
theorem But.set5 {g : Nat} {w0 w : World} (h : But g w0 w) (o0 o1 o2 o3 o4 : Nat) (u0 u1 u2 u3 u4 : Value) :
    But g w0 (((((w.setCell ⟨g, o0, none⟩ u0).setCell ⟨g, o1, none⟩ u1).setCell ⟨g, o2, none⟩ u2).setCell ⟨g, o3, none⟩ u3).setCell ⟨g, o4, none⟩ u4) :=
  ((((h.trans (But.set g _ _ _)).trans (But.set g _ _ _)).trans (But.set g _ _ _)).trans (But.set g _ _ _)).trans (But.set g _ _ _)
end Go.Proofs.YtamiichlbmllcaaDoor
/-
  Walks over rows of many cells: the world behind each operation is a letter, with what is known of it.
-/
namespace Go.Proofs.YtamiichlbmllcaaDoor
open Go.RowKit
/-- the block b is the row A -/
def At (w : World) (b : Nat) (A : Array Value) (t : TypeId) : Prop := w.heap[b]? = some (.cells A t (0, 0))
theorem At.lt {w : World} {b : Nat} {A : Array Value} {t : TypeId} (h : At w b A t) : b < w.heap.size := lt_of_block h
theorem At.cell {w : World} {b : Nat} {A : Array Value} {t : TypeId} (h : At w b A t) (j : Nat) : w.cell? ⟨b, j, none⟩ = A[j]? := cell_of_row _ _ _ _ _ _ h
theorem At.free {w : World} {b : Nat} {A : Array Value} {t : TypeId} (h : At w b A t) (j : Nat) : w.frozen? ⟨b, j, none⟩ = false := by
  unfold At at h; simp [World.frozen?, h]
theorem At.of {w w' : World} {b : Nat} {A : Array Value} {t : TypeId} (h : At w b A t) (hb : w'.heap[b]? = w.heap[b]?) : At w' b A t := by
  unfold At at *; rw [hb]; exact h
theorem At.range {w : World} {b : Nat} {A : Array Value} {t : TypeId} (h : At w b A t) (o n : Nat) : w.rangeAt b o (A.extract o (o + n)).toList := World.rangeAt_of_block h o n
/-- cells laid into a row -/
def putA (A : Array Value) (o : Nat) : List Value → Array Value
  | [] => A
  | v :: r => putA (A.setIfInBounds o v) (o + 1) r
theorem putA_size (o : Nat) (l : List Value) : ∀ (A : Array Value), (putA A o l).size = A.size := by
  induction l generalizing o with
  | nil => intro A; rfl
  | cons v r ih => intro A; rw [putA, ih]; simp
theorem putA_get (l : List Value) : ∀ (o : Nat) (A : Array Value) (j : Nat), j < A.size → (putA A o l)[j]? = if o ≤ j ∧ j < o + l.length then l[j - o]? else A[j]? := by
  induction l with
  | nil => intro o A j hj; simp [putA]; intro h1 h2; omega
  | cons v r ih =>
    intro o A j hj
    rw [putA, ih (o + 1) _ j (by simpa using hj)]
    by_cases h1 : o + 1 ≤ j ∧ j < o + 1 + r.length
    · rw [if_pos h1, if_pos (by simp; omega)]
      rw [show j - o = (j - (o + 1)) + 1 by omega, List.getElem?_cons_succ]
    · rw [if_neg h1]
      by_cases h2 : j = o
      · subst h2
        rw [if_pos (by simp), Array.getElem?_setIfInBounds_self_of_lt hj]; simp
      · rw [if_neg (by simp; omega), Array.getElem?_setIfInBounds_ne (Ne.symm h2)]
theorem putA_whole {A cs : Array Value} (h : A.size = cs.size) : putA A 0 cs.toList = cs := by
  apply Array.ext_getElem?
  intro j
  by_cases hj : j < A.size
  · rw [putA_get _ _ _ _ hj, if_pos (by simp; omega)]; simp
  · rw [Array.getElem?_eq_none (by rw [putA_size]; omega), Array.getElem?_eq_none (by omega)]
theorem At.setCells {b : Nat} {t : TypeId} (l : List Value) : ∀ {w : World} {A : Array Value} (o : Nat), At w b A t → At (w.setCells b o l) b (putA A o l) t := by
  induction l with
  | nil => intro w A o h; exact h
  | cons v r ih => intro w A o h; exact ih (o + 1) (set_block h)
theorem setCells_heap {b k : Nat} (hne : k ≠ b) (l : List Value) : ∀ (w : World) (o : Nat), (w.setCells b o l).heap[k]? = w.heap[k]? := by
  induction l with
  | nil => intro w o; rfl
  | cons v r ih => intro w o; exact (ih _ _).trans (Below.heap_setCell _ _ _ _ hne)
theorem setCells_size (b : Nat) (l : List Value) : ∀ (w : World) (o : Nat), (w.setCells b o l).heap.size = w.heap.size := by
  induction l with
  | nil => intro w o; rfl
  | cons v r ih => intro w o; rw [World.setCells, ih]; simp
/-- nothing that was there is turned, but for the blocks M -/
structure Mod (M : List Nat) (w w' : World) : Prop where
  os : w'.os = w.os
  tape : w'.tape = w.tape
  output : w'.output = w.output
  size : w.heap.size ≤ w'.heap.size
  block : ∀ k, k < w.heap.size → k ∉ M → w'.heap[k]? = w.heap[k]?
theorem Mod.refl (M : List Nat) (w : World) : Mod M w w := ⟨rfl, rfl, rfl, Nat.le_refl _, fun _ _ _ => rfl⟩
theorem Mod.trans {M : List Nat} {a b c : World} (h : Mod M a b) (k : Mod M b c) : Mod M a c :=
  ⟨k.os.trans h.os, k.tape.trans h.tape, k.output.trans h.output, Nat.le_trans h.size k.size, fun i hi hn => (k.block i (Nat.lt_of_lt_of_le hi h.size) hn).trans (h.block i hi hn)⟩
theorem Mod.ofBelow {M : List Nat} {w w' : World} (h : Below w.heap.size w w') : Mod M w w' := ⟨h.os, h.tape, h.output, h.size, fun k hk _ => h.block k hk⟩
theorem Mod.below {w w' : World} (h : Mod [] w w') : Below w.heap.size w w' := ⟨h.os, h.tape, h.output, h.size, fun k hk => h.block k hk (by simp)⟩
theorem Mod.alloc (M : List Nat) (w : World) (o : Obj) : Mod M w (w.alloc o) := Mod.ofBelow ((Below.refl _ _).alloc (Nat.le_refl _) o)
theorem Mod.drew (M : List Nat) (w : World) : Mod M w w.drew := Mod.ofBelow ((Below.refl _ _).drew)
/-- a callee's own frame: what it may turn is new to us, or ours to turn -/
theorem Mod.step {M N : List Nat} {w0 w w' : World} (h : Mod M w0 w) (k : Mod N w w') (hN : ∀ b, b ∈ N → w0.heap.size ≤ b ∨ b ∈ M) : Mod M w0 w' :=
  ⟨k.os.trans h.os, k.tape.trans h.tape, k.output.trans h.output, Nat.le_trans h.size k.size, fun i hi hn => by
    refine (k.block i (Nat.lt_of_lt_of_le hi h.size) fun hb => ?_).trans (h.block i hi hn)
    rcases hN i hb with h1 | h1
    · omega
    · exact hn h1⟩
theorem Mod.setCells {M : List Nat} {w0 w : World} (h : Mod M w0 w) {b : Nat} (hb : w0.heap.size ≤ b ∨ b ∈ M) (o : Nat) (l : List Value) : Mod M w0 (w.setCells b o l) := by
  refine h.step (N := [b]) ⟨?_, ?_, ?_, by rw [setCells_size]; exact Nat.le_refl _, fun k _ hk => setCells_heap (by simpa using hk) l w o⟩ (fun k hk => by simp at hk; subst hk; exact hb)
  all_goals
    clear hb h
    induction l generalizing w o with
    | nil => rfl
    | cons v r ih => rw [World.setCells]; exact (ih (w := w.setCell ⟨b, o, none⟩ v) (o := o + 1)).trans rfl
abbrev RowL := List (Nat × Array Value × TypeId)
/-- what a walk knows of the world: its frame since w0, and which blocks (new ones, or of M) are which rows -/
structure Kn (M : List Nat) (w0 w : World) (L : RowL) : Prop where
  mod : Mod M w0 w
  has : ∀ x, x ∈ L → At w x.1 x.2.1 x.2.2 ∧ (w0.heap.size ≤ x.1 ∨ x.1 ∈ M)
  dis : L.Pairwise fun x y => x.1 ≠ y.1
theorem Kn.at {M : List Nat} {w0 w : World} {L : RowL} {b : Nat} {A : Array Value} {t : TypeId} (h : Kn M w0 w L) (hm : (b, A, t) ∈ L) : At w b A t := (h.has _ hm).1
theorem Kn.nil (M : List Nat) (w : World) : Kn M w w [] := ⟨Mod.refl _ _, fun x h => (by cases h), List.Pairwise.nil⟩
theorem Kn.alloc {M : List Nat} {w0 w : World} {L : RowL} (h : Kn M w0 w L) (A : Array Value) (t : TypeId) : Kn M w0 (w.alloc (.cells A t)) ((w.heap.size, A, t) :: L) := by
  refine ⟨h.mod.trans (Mod.alloc _ _ _), ?_, List.Pairwise.cons (fun y hy e => by have := (h.has y hy).1.lt; omega) h.dis⟩
  intro x hx
  rcases List.mem_cons.1 hx with rfl | hx
  · exact ⟨heap_alloc_new _ _, Or.inl h.mod.size⟩
  · exact ⟨(h.has x hx).1.of (Below.heap_alloc _ _ _ (h.has x hx).1.lt), (h.has x hx).2⟩
theorem Kn.drew {M : List Nat} {w0 w : World} {L : RowL} (h : Kn M w0 w L) : Kn M w0 w.drew L := ⟨h.mod.trans (Mod.drew _ _), h.has, h.dis⟩
/-- behind a call that turns nothing -/
theorem Kn.call {M : List Nat} {w0 w w' : World} {L : RowL} (h : Kn M w0 w L) (hb : Below w.heap.size w w') : Kn M w0 w' L :=
  ⟨h.mod.trans (Mod.ofBelow hb), fun x hx => ⟨(h.has x hx).1.of (hb.block _ (h.has x hx).1.lt), (h.has x hx).2⟩, h.dis⟩
theorem Kn.drop {M : List Nat} {w0 w : World} {L : RowL} {x : Nat × Array Value × TypeId} (h : Kn M w0 w (x :: L)) : Kn M w0 w L :=
  ⟨h.mod, fun y hy => h.has y (List.mem_cons_of_mem _ hy), (List.pairwise_cons.1 h.dis).2⟩
/-- the row of a block, turned -/
def setB (b : Nat) (A : Array Value) : RowL → RowL → Prop
  | x :: L, y :: M => (x.1 = b ∧ y = (b, A, x.2.2) ∧ L = M) ∨ (x = y ∧ setB b A L M)
  | _, _ => False
theorem setB_here (b : Nat) (A A' : Array Value) (t : TypeId) (L : RowL) : setB b A' ((b, A, t) :: L) ((b, A', t) :: L) := Or.inl ⟨rfl, rfl, rfl⟩
theorem setB_next {b : Nat} {A' : Array Value} (x : Nat × Array Value × TypeId) {L M : RowL} (h : setB b A' L M) : setB b A' (x :: L) (x :: M) := Or.inr ⟨rfl, h⟩
theorem setB_keys {b : Nat} {A : Array Value} : ∀ {L M : RowL}, setB b A L M → L.map (·.1) = M.map (·.1)
  | [], [], h => h.elim
  | [], _ :: _, h => h.elim
  | _ :: _, [], h => h.elim
  | x :: L, y :: M, h => by
    rcases h with ⟨h1, h2, rfl⟩ | ⟨rfl, h⟩
    · simp [h1, h2]
    · simp [setB_keys h]
theorem setB_in {b : Nat} {A : Array Value} : ∀ {L M : RowL}, setB b A L M → b ∈ L.map (·.1)
  | [], [], h => h.elim
  | [], _ :: _, h => h.elim
  | _ :: _, [], h => h.elim
  | x :: L, y :: M, h => by
    rcases h with ⟨h1, _⟩ | ⟨_, h⟩
    · simp [h1]
    · simp only [List.map_cons, List.mem_cons]; exact Or.inr (setB_in h)
theorem setB_mem {b : Nat} {A : Array Value} : ∀ {L M : RowL}, setB b A L M → L.Pairwise (fun x y => x.1 ≠ y.1) → ∀ y, y ∈ M → (∃ x, x ∈ L ∧ x.1 = b ∧ y = (b, A, x.2.2)) ∨ (y.1 ≠ b ∧ y ∈ L)
  | [], [], h, _, _, _ => h.elim
  | [], _ :: _, h, _, _, _ => h.elim
  | _ :: _, [], h, _, _, _ => h.elim
  | x :: L, z :: M, h, hp, y, hy => by
    rcases h with ⟨h1, h2, rfl⟩ | ⟨rfl, h⟩
    · rcases List.mem_cons.1 hy with rfl | hy
      · exact Or.inl ⟨x, List.mem_cons_self, h1, h2⟩
      · have := (List.pairwise_cons.1 hp).1 y hy
        exact Or.inr ⟨fun e => this (h1.trans e.symm), List.mem_cons_of_mem _ hy⟩
    · rcases List.mem_cons.1 hy with rfl | hy
      · by_cases e : y.1 = b
        · exfalso
          have : b ∈ L.map (·.1) := setB_in h
          obtain ⟨q, hq, hq2⟩ := List.mem_map.1 this
          exact (List.pairwise_cons.1 hp).1 q hq (e.trans hq2.symm)
        · exact Or.inr ⟨e, List.mem_cons_self⟩
      · rcases setB_mem h (List.pairwise_cons.1 hp).2 y hy with ⟨q, h3, h4, h5⟩ | ⟨h1, h2⟩
        · exact Or.inl ⟨q, List.mem_cons_of_mem _ h3, h4, h5⟩
        · exact Or.inr ⟨h1, List.mem_cons_of_mem _ h2⟩
theorem pw_keys {L M : RowL} (h : L.map (·.1) = M.map (·.1)) (hp : L.Pairwise fun x y => x.1 ≠ y.1) : M.Pairwise fun x y => x.1 ≠ y.1 := by
  have h1 : (L.map (·.1)).Pairwise (fun x y => x ≠ y) := List.pairwise_map.2 hp
  rw [h] at h1
  exact List.pairwise_map.1 h1
theorem Kn.put {M : List Nat} {w0 w : World} {L L' : RowL} {b o : Nat} {A : Array Value} {t : TypeId} (h : Kn M w0 w L) (hm : (b, A, t) ∈ L) (l : List Value) (hs : setB b (putA A o l) L L') : Kn M w0 (w.setCells b o l) L' := by
  refine ⟨h.mod.setCells (h.has _ hm).2 o l, fun y hy => ?_, pw_keys (setB_keys hs) h.dis⟩
  rcases setB_mem hs h.dis y hy with ⟨q, h3, h4, h5⟩ | ⟨h1, h2⟩
  · have hq := (h.has q h3).1
    have hr := (h.has _ hm).1
    unfold At at hq hr
    simp only at hr
    rw [h4, hr] at hq
    simp only [Option.some.injEq, Obj.cells.injEq] at hq
    rw [h5, ← hq.2.1]
    exact ⟨(h.has _ hm).1.setCells l o, (h.has _ hm).2⟩
  · exact ⟨(h.has y h2).1.of (setCells_heap h1 l w o), (h.has y h2).2⟩
/-- a type of rows of n cells; one of one cell -/
structure RowT (P : Program) (ty : TypeId) (n : Nat) : Prop where
  ex : ∃ d, P.underlying ty = some d ∧ d.isRow = true
  hi : (P.info? ty).map (·.size) = some n
structure OneT (P : Program) (ty : TypeId) : Prop where
  ex : ∃ d, P.underlying ty = some d ∧ d.isRow = false
  hi : (P.info? ty).map (·.size) = some 1
section laws
variable {P : Program} {d : Option Tmp} {tt : TypeId} {pos : String} {aft : Array Edge} {g : Option (Nat × Bool)} {a : Act} {w : World} {K : Act → World → Prop} {Q : Exit → Act → World → Prop} {M : List Nat} {w0 : World} {L L' : RowL} {ty : TypeId} {x y : Operand} {A A' cs : Array Value} {b j n : Nat} {t : TypeId} {v z : Value}
/-- a row into a new block -/
theorem oBox (hx : a.eval x = .agg A) (hk : Kn M w0 w L) (h : ∀ w1, Kn M w0 w1 ((w.heap.size, A, ty) :: L) → K (a.put d (.pointer (some ⟨w.heap.size, 0, none⟩))) w1) : Oper.wp P ⟨d, .box ty x, tt, pos, aft, g⟩ a w K Q := by
  have h1 := h (w.alloc (.cells A ty)) (hk.alloc A ty)
  unfold Oper.wp execOp
  simp only [hx, Instr.box, newVar, newRow, Value.cells, run_newObj_alloc, Sem.run_bind, Sem.run_pure, Result.andThen_ok]
  exact h1
theorem oBox1 (hx : a.eval x = v) (hv : v.cells = #[v]) (hk : Kn M w0 w L) (h : ∀ w1, Kn M w0 w1 ((w.heap.size, #[v], ty) :: L) → K (a.put d (.pointer (some ⟨w.heap.size, 0, none⟩))) w1) : Oper.wp P ⟨d, .box ty x, tt, pos, aft, g⟩ a w K Q := by
  have h1 := h (w.alloc (.cells #[v] ty)) (hk.alloc _ ty)
  unfold Oper.wp execOp
  simp only [hx, Instr.box, newVar, newRow, hv, run_newObj_alloc, Sem.run_bind, Sem.run_pure, Result.andThen_ok]
  exact h1
/-- a new variable, at its zero -/
theorem oAlloc (hz : (P.info? ty).map (·.zero) = some (some z)) (hA : z.cells = A) (hk : Kn M w0 w L) (h : ∀ w1, Kn M w0 w1 ((w.heap.size, A, ty) :: L) → K (a.put d (.pointer (some ⟨w.heap.size, 0, none⟩))) w1) : Oper.wp P ⟨d, .alloc ty, tt, pos, aft, g⟩ a w K Q := by
  have h1 := h (w.alloc (.cells A ty)) (hk.alloc A ty)
  cases hq : P.info? ty with
  | none => rw [hq] at hz; simp at hz
  | some i =>
    have hs : i.zero = some z := by simpa [hq] using hz
    unfold Oper.wp execOp
    simp only [Instr.alloc, zeroValue, typeInfo, newVar, newRow, hA, run_newObj_alloc, Sem.run_bind, Sem.run_pure, Result.andThen_ok, hq, hs, run_program]
    exact h1
/-- a new row, at its zero -/
theorem oAllocR (hz : (P.info? ty).map (·.zero) = some (some (.agg A))) (hk : Kn M w0 w L) (h : ∀ w1, Kn M w0 w1 ((w.heap.size, A, ty) :: L) → K (a.put d (.pointer (some ⟨w.heap.size, 0, none⟩))) w1) : Oper.wp P ⟨d, .alloc ty, tt, pos, aft, g⟩ a w K Q := oAlloc hz rfl hk h
/-- a row is made of parts -/
theorem oBuild {parts : Array (Nat × Operand)} {ps : List (Nat × Value)} (hps : (parts.toList.map fun (i, x) => (i, a.eval x)) = ps) (hb : (Instr.build ty ps.toArray).run P w = .ok v w) (h : K (a.put d v) w) : Oper.wp P ⟨d, .build ty parts, tt, pos, aft, g⟩ a w K Q := by
  unfold Oper.wp execOp
  have e : (parts.map fun (i, x) => (i, a.eval x)) = ps.toArray := by rw [← hps]; exact (Array.toList_inj.1 (by rw [Array.toList_map]))
  simp only [Sem.run_bind, Sem.run_pure, Result.andThen_ok, e, hb]
  exact h
theorem run_loadRange (hr : w.rangeAt b j cs.toList) (hT : RowT P ty n) (hn : cs.size = n) : (Instr.loadAt ty (.pointer (some ⟨b, j, none⟩))).run P w = .ok (.agg cs) w := by
  obtain ⟨dd, hu, hd⟩ := hT.ex
  have := run_loadAt_mid (P := P) w b j ty cs.toList dd hr hu hd (by rw [hT.hi, Array.length_toList, hn])
  simpa using this
theorem run_loadA (hat : At w b A t) (hT : RowT P ty n) (hc : A.extract j (j + n) = cs) (hn : cs.size = n) : (Instr.loadAt ty (.pointer (some ⟨b, j, none⟩))).run P w = .ok (.agg cs) w := by
  subst hc
  exact run_loadRange (hat.range j n) hT hn
theorem run_loadC (hc : w.cell? ⟨b, j, none⟩ = some v) (hT : OneT P ty) : (Instr.loadAt ty (.pointer (some ⟨b, j, none⟩))).run P w = .ok v w := by
  obtain ⟨dd, hu, hd⟩ := hT.ex
  have hagg : (isAgg ty).run P w = .ok false w := by
    unfold isAgg
    rw [Sem.run_bind, run_underlying hu w]
    cases dd <;> simp_all
  simp [Instr.loadAt, Instr.sureAddr, loadVar, Sem.run_bind, hagg, hc]
/-- a row is read -/
theorem oLoadR (hx : a.eval x = .pointer (some ⟨b, j, none⟩)) (hk : Kn M w0 w L) (hm : (b, A, t) ∈ L) (hT : RowT P ty n) (hc : A.extract j (j + n) = cs) (hn : cs.size = n) (h : K (a.put d (.agg cs)) w) : Oper.wp P ⟨d, .load ty x, tt, pos, aft, g⟩ a w K Q := by
  unfold Oper.wp execOp
  simp only [hx, Sem.run_bind, Sem.run_pure, Result.andThen_ok, run_loadA (hk.at hm) hT hc hn]
  exact h
/-- one cell is read -/
theorem oLoad1 (hx : a.eval x = .pointer (some ⟨b, j, none⟩)) (hk : Kn M w0 w L) (hm : (b, A, t) ∈ L) (hT : OneT P ty) (hv : A[j]? = some v) (h : K (a.put d v) w) : Oper.wp P ⟨d, .load ty x, tt, pos, aft, g⟩ a w K Q := by
  unfold Oper.wp execOp
  simp only [hx, Sem.run_bind, Sem.run_pure, Result.andThen_ok, run_loadC (by rw [(hk.at hm).cell]; exact hv) hT]
  exact h
/-- old cells are read -/
theorem oLoadOld1 (hx : a.eval x = .pointer (some ⟨b, j, none⟩)) (hk : Kn M w0 w L) (hc : w0.cell? ⟨b, j, none⟩ = some v) (hM : b ∉ M) (hT : OneT P ty) (h : K (a.put d v) w) : Oper.wp P ⟨d, .load ty x, tt, pos, aft, g⟩ a w K Q := by
  have hb := World.block_lt_of_cell? w0 _ hc
  have hc' : w.cell? ⟨b, j, none⟩ = some v := by
    rw [World.cell?_of_block (w := w0) (a := ⟨b, j, none⟩) (hk.mod.block b hb hM)]; exact hc
  unfold Oper.wp execOp
  simp only [hx, Sem.run_bind, Sem.run_pure, Result.andThen_ok, run_loadC hc' hT]
  exact h
theorem oLoadOldR (hx : a.eval x = .pointer (some ⟨b, j, none⟩)) (hk : Kn M w0 w L) (hc : w0.rangeAt b j cs.toList) (hb : b < w0.heap.size) (hM : b ∉ M) (hT : RowT P ty n) (hn : cs.size = n) (h : K (a.put d (.agg cs)) w) : Oper.wp P ⟨d, .load ty x, tt, pos, aft, g⟩ a w K Q := by
  have hc' : w.rangeAt b j cs.toList := fun i u hu => by
    rw [World.cell?_of_block (w := w0) (a := ⟨b, j + i, none⟩) (hk.mod.block b hb hM)]; exact hc i u hu
  unfold Oper.wp execOp
  simp only [hx, Sem.run_bind, Sem.run_pure, Result.andThen_ok, run_loadRange hc' hT hn]
  exact h
/-- a row is written -/
theorem oStoreR (hx : a.eval x = .pointer (some ⟨b, j, none⟩)) (hy : a.eval y = .agg cs) (hk : Kn M w0 w L) (hm : (b, A, t) ∈ L) (hT : RowT P ty n) (hn : cs.size = n) (hj : j + n ≤ A.size) (h1 : cs.toList.all (·.oneCell') = true) (hA : putA A j cs.toList = A') (hs : setB b A' L L')
    (h : ∀ w1, Kn M w0 w1 L' → K (a.put d undef) w1) : Oper.wp P ⟨d, .store ty x y, tt, pos, aft, g⟩ a w K Q := by
  subst hA
  have h2 := h (w.setCells b j cs.toList) (hk.put hm cs.toList hs)
  have hat := hk.at hm
  have ht : w.there b j cs.size := fun k hk => ⟨by rw [hat.cell, Array.getElem?_eq_getElem (by omega)]; rfl, hat.free _⟩
  exact wp_store_mid ty x y rfl b j cs hx hy ht (by rw [hT.hi, hn]) (by rw [← Array.all_toList]; exact h1) h2
/-- one cell is written -/
theorem oStore1 (hx : a.eval x = .pointer (some ⟨b, j, none⟩)) (hy : a.eval y = v) (hk : Kn M w0 w L) (hm : (b, A, t) ∈ L) (hT : OneT P ty) (hv : v.cells = #[v]) (hj : j + 1 ≤ A.size) (h1 : v.oneCell' = true) (hA : A.setIfInBounds j v = A') (hs : setB b A' L L')
    (h : ∀ w1, Kn M w0 w1 L' → K (a.put d undef) w1) : Oper.wp P ⟨d, .store ty x y, tt, pos, aft, g⟩ a w K Q := by
  subst hA
  have h2 := h (w.setCells b j [v]) (hk.put hm [v] hs)
  have hat := hk.at hm
  have hst : (store ⟨b, j, none⟩ v).run P w = .ok () (w.setCell ⟨b, j, none⟩ v) := by
    have hc : (w.cell? ⟨b, j, none⟩).isSome = true := by rw [hat.cell, Array.getElem?_eq_getElem (by omega)]; rfl
    have := run_storeCells_cells (P := P) b j [v] 0 w (fun k hk => by simp at hk; subst hk; simpa using hc) (fun k hk => hat.free _) (fun u hu => by simp at hu; subst hu; exact h1)
    have e0 : (⟨b, j, none⟩ : Addr).add 0 = ⟨b, j, none⟩ := by rw [Addr.add_mid]; rfl
    simpa [storeCells, World.setCells, e0] using this
  have hi := hT.hi
  cases hq : P.info? ty with
  | none => simp [hq] at hi
  | some i =>
    have hs1 : i.size = 1 := by simpa [hq] using hi
    have e0 : (⟨b, j, none⟩ : Addr).add 0 = ⟨b, j, none⟩ := by rw [Addr.add_mid]; rfl
    unfold Oper.wp execOp
    simp only [hx, hy, Instr.storeAt, Instr.sureAddr, storeVar, sizeOf, typeInfo, hq, hv, hs1, storeCells, e0, Sem.run_bind, Sem.run_pure, Result.andThen_ok, run_program]
    simp only [ne_eq, not_true_eq_false, Array.size_singleton, if_false, Sem.run_bind, hst, Result.andThen_ok, Sem.run_pure]
    exact h2
end laws
/-- the first operation of a list -/
theorem wl1 {P : Program} {ops : Array Oper} {Q : Exit → Act → World → Prop} {a : Act} {w : World} {rest : List Oper} {o : Oper} (hw : Region.wanted o (yielded ops a.tmps) = true) (h : o.wp P a w (wpList P ops Q rest) Q) : wpList P ops Q (o :: rest) a w := by
  unfold wpList; rw [if_pos hw]; exact Or.inl h
/-- results that lie in memory -/
theorem run_resA {P : Program} {w : World} {b : Nat} {A : Array Value} {t ty : TypeId} {n : Nat} (hat : At w b A t) (hT : RowT P ty n) (hn : A.size = n) : (loadVar ty ⟨b, 0, none⟩).run P w = .ok (.agg A) w := by
  obtain ⟨dd, hu, hd⟩ := hT.ex
  have hr := hat.range 0 n
  have e : A.extract 0 (0 + n) = A := by rw [Nat.zero_add, ← hn]; exact Array.extract_size
  rw [e] at hr
  have := run_loadVar_mid (P := P) w b 0 ty A.toList dd hr hu hd (by rw [hT.hi, Array.length_toList, hn])
  simpa using this
theorem post_1 {P : Program} {fn : Func} {R : Ending → World → Prop} {a : Act} {w : World} {s b n : Nat} {ty t : TypeId} {A : Array Value} (hf : fn.results = #[.cell s ty]) (hs : a.tmps.getD s undef = .pointer (some ⟨b, 0, none⟩)) (hat : At w b A t) (hT : RowT P ty n) (hn : A.size = n) (hd : a.defers = []) (hR : R (.returned (.agg A)) w) : bodyPost P fn R .ret a w := by
  refine bodyPost_ret (v := .agg A) ?_ hd hR
  rw [Array.getD_eq_getD_getElem?] at hs
  simp [results, hf, hs, asAddr, run_resA hat hT hn]
theorem post_2 {P : Program} {fn : Func} {R : Ending → World → Prop} {a : Act} {w : World} {s b n s' b' n' : Nat} {ty t ty' t' : TypeId} {A A' : Array Value} (hf : fn.results = #[.cell s ty, .cell s' ty']) (hs : a.tmps.getD s undef = .pointer (some ⟨b, 0, none⟩)) (hat : At w b A t) (hT : RowT P ty n) (hn : A.size = n)
    (hs' : a.tmps.getD s' undef = .pointer (some ⟨b', 0, none⟩)) (hat' : At w b' A' t') (hT' : RowT P ty' n') (hn' : A'.size = n') (hd : a.defers = []) (hR : R (.returned (.tuple #[.agg A, .agg A'])) w) : bodyPost P fn R .ret a w := by
  refine bodyPost_ret (v := .tuple #[.agg A, .agg A']) ?_ hd hR
  rw [Array.getD_eq_getD_getElem?] at hs hs'
  simp [results, hf, hs, hs', asAddr, run_resA hat hT hn, run_resA hat' hT' hn']
end Go.Proofs.YtamiichlbmllcaaDoor
/-
  Regions that draw their order, walked in one order that is laid down: what only reads is taken where it is written, the rest comes up by itself.
-/
namespace Go.Proofs.YtamiichlbmllcaaDoor
open Go.RowKit
section any
variable {P : Program} {ops : Array Oper} {Q : Exit → Act → World → Prop} {F : Nat → Bool} {S : World → Prop}
/-- whatever order is picked; behind each operation of F the world meets S -/
def wpAnyJ (P : Program) (ops : Array Oper) (Q : Exit → Act → World → Prop) (F : Nat → Bool) (S : World → Prop) : Nat → Array Bool → Act → World → Prop
  | 0, listed, a, w => Region.ready .any ops listed = [] ∧ Q .normal a w
  | fuel + 1, listed, a, w =>
    (Region.ready .any ops listed = [] → Q .normal a w) ∧
    ∀ i ∈ Region.ready .any ops listed, wpOp P ops Q i (fun a' w' => (F i = true → S w') ∧ wpAnyJ P ops Q F S fuel (listed.setIfInBounds i true) a' w') a w
theorem wpAny_ofJ : ∀ (fuel : Nat) (listed : Array Bool) (a : Act) (w : World), wpAnyJ P ops Q F S fuel listed a w → wpAny P .any ops Q fuel listed a w
  | 0, _, _, _, h => h
  | fuel + 1, _, _, _, h => ⟨h.1, fun i hi => wpOp_mono (fun a' w' h' => wpAny_ofJ fuel _ a' w' h'.2) (h.2 i hi)⟩
theorem wpAnyJ_first {i : Nat} {oi : Oper} {v : Value} (hi : ops[i]? = some oi) (hsel : ∀ (j : Nat) (o : Oper) cs b, ops[j]? = some o → o.op ≠ .select cs b)
    (hQ : ∀ c a w, Q (.panic c) (a.put oi.dst v) w → Q (.panic c) a w) :
    ∀ (fuel : Nat) (listed : Array Bool) (a : Act) (w : World),
      (∀ j oj, ops[j]? = some oj → j ≠ i → listed.getD j true = false → (∀ e ∈ oj.after, Region.binds .any e = true → e.on ≠ i) → oi.apart ops oj = true ∧ F j = true) →
      i ∈ Region.ready .any ops listed → YieldsIf P ops S oi v a → S w →
      wpAnyJ P ops Q F S fuel (listed.setIfInBounds i true) (a.put oi.dst v) w → wpAnyJ P ops Q F S (fuel + 1) listed a w := by
  intro fuel
  induction fuel with
  | zero =>
    intro listed a w _ hr hy hS H
    refine ⟨fun h => (by rw [h] at hr; cases hr), fun j hj => ?_⟩
    by_cases hji : j = i
    · subst hji; exact hy.wpOp hi hS ⟨fun _ => hS, H⟩
    · have := ready_mono hj hji
      rw [H.1] at this
      cases this
  | succ fuel ih =>
    intro listed a w hfree hr hy hS H
    refine ⟨fun h => (by rw [h] at hr; cases hr), fun j hj => ?_⟩
    by_cases hji : j = i
    · subst hji; exact hy.wpOp hi hS ⟨fun _ => hS, H⟩
    · have h1 := H.2 j (ready_mono hj hji)
      obtain ⟨hjun, oj, hoj, hall⟩ := mem_ready.1 hj
      have hnot : ∀ e ∈ oj.after, Region.binds .any e = true → e.on ≠ i := fun e he hb heq => by
        have h1 := hall e he hb
        have h0 := (mem_ready.1 hr).1
        rw [heq] at h1
        rcases Nat.lt_or_ge i listed.size with h' | h'
        · simp [h'] at h0 h1; rw [h0] at h1; cases h1
        · simp [Array.getElem?_eq_none h'] at h1
      have hap := hfree j oj hoj hji hjun hnot
      have h2 := wpOp_putIf hoj hap.1 (fun cs b => hsel i oi cs b hi) (fun cs b => hsel j oj cs b hoj) hQ hy h1
      have hfree' : ∀ k ok, ops[k]? = some ok → k ≠ i → (listed.setIfInBounds j true).getD k true = false →
          (∀ e ∈ ok.after, Region.binds .any e = true → e.on ≠ i) → oi.apart ops ok = true ∧ F k = true := fun k ok hk hki hun hno => by
        refine hfree k ok hk hki ?_ hno
        by_cases hjk : j = k
        · subst hjk; exact hjun
        · rw [getD_set_ne true hjk] at hun; exact hun
      refine wpOp_mono (fun a' w' h3 => ⟨h3.2.1, ih (listed.setIfInBounds j true) a' w' hfree' (ready_mono hr (Ne.symm hji)) h3.1 (h3.2.1 hap.2) ?_⟩) h2
      rw [Array.setIfInBounds_comm _ _ hji]
      exact h3.2.2
end any
/-- operations that only yield a value -/
def stillOp (o : Oper) : Bool := match o.op with
  | .move _ | .assign _ | .pick .. | .build .. | .load .. | .nilCheck _ | .binOp .. | .unOp .. | .convert .. | .makeInterface .. | .fieldAddr .. | .field .. | .indexAddr .. | .index .. | .typeAssert .. | .extract .. | .slice .. => true
  | _ => false
/-- an order -/
inductive OT where
  | nil
  | op (i : Nat) (r : OT)
  | either (i j : Nat) (r s : OT)
def okT (ops : Array Oper) (F : Nat → Bool) : OT → Array Bool → Bool
  | .nil, listed => (Region.ready .any ops listed).isEmpty
  | .op i r, listed => (match ops[i]? with
      | some o => if stillOp o then Region.free .any ops listed i && (Region.ready .any ops listed).contains i && ((List.range ops.size).all fun j => j == i || listed.getD j true || F j || match ops[j]? with
          | some oj => oj.after.any (fun e => Region.binds .any e && e.on == i)
          | none => true) else Region.ready .any ops listed == [i]
      | none => false) && okT ops F r (listed.setIfInBounds i true)
  | .either i j r s, listed => Region.ready .any ops listed == [i, j] && (match ops[i]?, ops[j]? with
      | some o, some o' => !stillOp o && !stillOp o'
      | _, _ => false) && okT ops F r (listed.setIfInBounds i true) && okT ops F s (listed.setIfInBounds j true)
def OT.size : OT → Nat
  | .nil => 0
  | .op _ r => r.size + 1
  | .either _ _ r s => max r.size s.size + 1
def nthO : Nat → List Oper → Option Oper
  | _, [] => none
  | 0, x :: _ => some x
  | n + 1, _ :: r => nthO n r
theorem nthO_eq : ∀ (n : Nat) (l : List Oper), nthO n l = l[n]?
  | _, [] => by simp [nthO]
  | 0, x :: _ => by simp [nthO]
  | n + 1, _ :: r => by simp [nthO, nthO_eq n r]
/-- operations in such an order -/
def wpT (P : Program) (l : List Oper) (Q : Exit → Act → World → Prop) (F : Nat → Bool) (S : World → Prop) : OT → Act → World → Prop
  | .nil, a, w => Q .normal a w
  | .op i r, a, w => ∃ o, nthO i l = some o ∧ if stillOp o then S w ∧ ∃ v, YieldsIf P l.toArray S o v a ∧ wpT P l Q F S r (a.put o.dst v) w
      else if Region.wanted o (yielded l.toArray a.tmps) then o.wp P a w (fun a' w' => (F i = true → S w') ∧ wpT P l Q F S r a' w') (NoPanic Q) else (F i = true → S w) ∧ wpT P l Q F S r (a.put o.dst undef) w
  | .either i j r s, a, w => (∃ o, nthO i l = some o ∧ Region.wanted o (yielded l.toArray a.tmps) = true ∧ o.wp P a w (fun a' w' => (F i = true → S w') ∧ wpT P l Q F S r a' w') (NoPanic Q)) ∧
      (∃ o, nthO j l = some o ∧ Region.wanted o (yielded l.toArray a.tmps) = true ∧ o.wp P a w (fun a' w' => (F j = true → S w') ∧ wpT P l Q F S s a' w') (NoPanic Q))
theorem wpT_sound {P : Program} {l : List Oper} {Q : Exit → Act → World → Prop} {F : Nat → Bool} {S : World → Prop} (hsel : Region.noSelect l.toArray = true) : ∀ (t : OT) (fuel : Nat) (listed : Array Bool) (a : Act) (w : World), t.size ≤ fuel → okT l.toArray F t listed = true →
    wpT P l Q F S t a w → wpAnyJ P l.toArray (NoPanic Q) F S fuel listed a w := by
  intro t
  induction t with
  | nil =>
    intro fuel listed a w _ hv h
    have hr : Region.ready .any l.toArray listed = [] := by simpa [okT] using hv
    cases fuel with
    | zero => exact ⟨hr, NoPanic.normal h⟩
    | succ fuel => exact ⟨fun _ => NoPanic.normal h, by rw [hr]; simp⟩
  | op i r ih =>
    intro fuel listed a w hf hv h
    cases fuel with
    | zero => simp [OT.size] at hf
    | succ fuel =>
      simp only [okT, Bool.and_eq_true] at hv
      obtain ⟨hv1, hv2⟩ := hv
      have hl : l.toArray[i]? = nthO i l := by rw [nthO_eq]; simp
      rw [hl] at hv1
      obtain ⟨o, ho, h⟩ := h
      rw [ho] at hv1 hl
      by_cases hst : stillOp o = true
      · simp only [hst, if_true, Bool.and_eq_true] at hv1 h
        obtain ⟨hS, v, hy, h⟩ := h
        obtain ⟨⟨hfree, hrd⟩, hall⟩ := hv1
        refine wpAnyJ_first hl (Region.noSelect_spec hsel) (fun _ _ _ h => h.elim) fuel listed a w ?_ (by simpa using hrd) hy hS (ih fuel _ _ w (by simp [OT.size] at hf; omega) hv2 h)
        intro j oj hj hne hun hno
        refine ⟨Region.free_spec hl hfree j oj hj hne hun hno, ?_⟩
        rw [List.all_eq_true] at hall
        have := hall j (List.mem_range.2 (Array.getElem?_eq_some_iff.1 hj).1)
        simp only [hj, Bool.or_eq_true, beq_iff_eq, hne, false_or, hun, Bool.false_eq_true] at this
        rcases this with h1 | h1
        · exact h1
        · obtain ⟨e, he, hb⟩ := Array.any_eq_true'.1 h1
          simp only [Bool.and_eq_true, beq_iff_eq] at hb
          exact absurd hb.2 (hno e he hb.1)
      · simp only [hst, Bool.false_eq_true, if_false] at hv1 h
        have hr : Region.ready .any l.toArray listed = [i] := by simpa using hv1
        refine ⟨fun h0 => (by rw [hr] at h0; cases h0), fun k hk => ?_⟩
        rw [hr] at hk
        simp at hk
        subst hk
        unfold wpOp
        simp only [hl]
        by_cases hw : Region.wanted o (yielded l.toArray a.tmps) = true
        · simp only [hw, if_true] at h ⊢
          refine Or.inl (Oper.wp_mono ?_ h)
          rintro a' w' ⟨h1, h2⟩
          exact ⟨h1, ih fuel _ a' w' (by simp [OT.size] at hf; omega) hv2 h2⟩
        · simp only [hw, Bool.false_eq_true, if_false] at h ⊢
          exact ⟨h.1, ih fuel _ _ w (by simp [OT.size] at hf; omega) hv2 h.2⟩
  | either i j r s ihr ihs =>
    intro fuel listed a w hf hv h
    cases fuel with
    | zero => simp [OT.size] at hf
    | succ fuel =>
      simp only [okT, Bool.and_eq_true] at hv
      obtain ⟨⟨⟨hv1, _⟩, hv2⟩, hv3⟩ := hv
      have hr : Region.ready .any l.toArray listed = [i, j] := by simpa using hv1
      obtain ⟨⟨o, ho, hw, h1⟩, o', ho', hw', h2⟩ := h
      simp only [OT.size] at hf
      refine ⟨fun h0 => (by rw [hr] at h0; cases h0), fun k hk => ?_⟩
      rw [hr] at hk
      simp at hk
      rcases hk with rfl | rfl
      · have hl : l.toArray[k]? = some o := by rw [← ho, nthO_eq]; simp
        unfold wpOp
        simp only [hl, hw, if_true]
        refine Or.inl (Oper.wp_mono ?_ h1)
        rintro a' w' ⟨h3, h4⟩
        exact ⟨h3, ihr fuel _ a' w' (by omega) hv2 h4⟩
      · have hl : l.toArray[k]? = some o' := by rw [← ho', nthO_eq]; simp
        unfold wpOp
        simp only [hl, hw', if_true]
        refine Or.inl (Oper.wp_mono ?_ h2)
        rintro a' w' ⟨h3, h4⟩
        exact ⟨h3, ihs fuel _ a' w' (by omega) hv3 h4⟩
/-- a region in such an order -/
theorem wp_regT {P : Program} {id : Nat} {l : List Oper} {Q : Exit → Act → World → Prop} {a : Act} {w : World} (t : OT) (F : Nat → Bool) (S : World → Prop) (hm : P.follows .mixedOrders = true) (hn : t.size ≤ l.length) (hsel : Region.noSelect l.toArray = true)
    (hv : okT l.toArray F t (Array.replicate l.length false) = true) (h : wpT P l Q F S t a w.drew) : (Code.region id l.toArray true).wp P Q a w := by
  refine wp_region_noPanic (wp_region_any hm (wpAny_ofJ (F := F) (S := S) _ _ _ _ ?_))
  have := wpT_sound (P := P) (Q := Q) (F := F) (S := S) hsel t l.toArray.size (Array.replicate l.length false) a w.drew (by simpa using hn) hv h
  simpa using this
/-- the same, the world behind the draw as a letter -/
theorem wp_regK {P : Program} {id : Nat} {l : List Oper} {Q : Exit → Act → World → Prop} {a : Act} {w : World} {M : List Nat} {w0 : World} {L : RowL} (hk : Kn M w0 w L) (t : OT) (F : Nat → Bool) (hm : P.follows .mixedOrders = true) (hn : t.size ≤ l.length) (hsel : Region.noSelect l.toArray = true)
    (hv : okT l.toArray F t (Array.replicate l.length false) = true) (h : ∀ w1, Kn M w0 w1 L → wpT P l Q F (fun wx => Kn M w0 wx L) t a w1) : (Code.region id l.toArray true).wp P Q a w :=
  wp_regT t F _ hm hn hsel hv (h _ hk.drew)
/-- a type's field: where it lies -/
structure FldT (P : Program) (ty : TypeId) (f k : Nat) : Prop where
  ex : ∃ fs x, P.underlying ty = some (.struct fs) ∧ fs[f]? = some x ∧ x.offset = k ∧ ∀ (b j : Nat) (w : World), (fieldPlace ⟨b, j, none⟩ x).run P w = .ok (if k = 0 then ⟨b, j, none⟩ else ⟨b, j + k, none⟩) w
/-- a type's elements: how many, how many cells each -/
structure ArrT (P : Program) (ty : TypeId) (len n : Nat) : Prop where
  ex : ∃ e, P.underlying ty = some (.array len e) ∧ (P.info? e).map (·.size) = some n
structure SlcT (P : Program) (ty : TypeId) (n : Nat) : Prop where
  ex : ∃ e, P.underlying ty = some (.slice e) ∧ (P.info? e).map (·.size) = some n
section still
variable {P : Program} {l : List Oper} {Q : Exit → Act → World → Prop} {F : Nat → Bool} {S : World → Prop} {r r' : OT} {a : Act} {w : World} {i i' : Nat} {o o' : Oper} {d : Option Tmp} {tt : TypeId} {pos : String} {aft : Array Edge} {g : Option (Nat × Bool)} {M : List Nat} {w0 : World} {L : RowL} {ty : TypeId} {x y : Operand} {A cs : Array Value} {b j n k f : Nat} {t : TypeId} {v : Value}
theorem tNil (h : Q .normal a w) : wpT P l Q F S .nil a w := h
theorem tStill (ho : nthO i l = some o) (hs : stillOp o = true) (hw : Region.wanted o (yielded l.toArray a.tmps) = true) (hS : S w) (hy : ∀ wx, S wx → (execOp a.eval o).run P wx = .ok (.value v) wx) (h : wpT P l Q F S r (a.put o.dst v) w) : wpT P l Q F S (.op i r) a w :=
  ⟨o, ho, by rw [if_pos hs]; exact ⟨hS, v, Or.inl ⟨hw, hy⟩, h⟩⟩
theorem tSkip (ho : nthO i l = some o) (hs : stillOp o = true) (hw : Region.wanted o (yielded l.toArray a.tmps) = false) (hS : S w) (h : wpT P l Q F S r (a.put o.dst undef) w) : wpT P l Q F S (.op i r) a w :=
  ⟨o, ho, by rw [if_pos hs]; exact ⟨hS, undef, Or.inr ⟨hw, rfl⟩, h⟩⟩
theorem tSkipA (ho : nthO i l = some o) (hs : stillOp o = false) (hw : Region.wanted o (yielded l.toArray a.tmps) = false) (hS : S w) (h : wpT P l Q F S r (a.put o.dst undef) w) : wpT P l Q F S (.op i r) a w :=
  ⟨o, ho, by rw [if_neg (by simp [hs]), if_neg (by simp [hw])]; exact ⟨fun _ => hS, h⟩⟩
theorem tAct (ho : nthO i l = some o) (hs : stillOp o = false) (hw : Region.wanted o (yielded l.toArray a.tmps) = true) (h : o.wp P a w (fun a' w' => (F i = true → S w') ∧ wpT P l Q F S r a' w') (NoPanic Q)) : wpT P l Q F S (.op i r) a w :=
  ⟨o, ho, by rw [if_neg (by simp [hs]), if_pos hw]; exact h⟩
theorem tActK (ho : nthO i l = some o) (hs : stillOp o = false) (hw : Region.wanted o (yielded l.toArray a.tmps) = true) (h : ∀ K : Act → World → Prop, (∀ a' w', (F i = true → S w') → wpT P l Q F S r a' w' → K a' w') → o.wp P a w K (NoPanic Q)) : wpT P l Q F S (.op i r) a w :=
  tAct ho hs hw (h _ fun _ _ h1 h2 => ⟨h1, h2⟩)
theorem tEither (ho : nthO i l = some o) (hw : Region.wanted o (yielded l.toArray a.tmps) = true) (ho' : nthO i' l = some o') (hw' : Region.wanted o' (yielded l.toArray a.tmps) = true) (h : o.wp P a w (fun a' w' => (F i = true → S w') ∧ wpT P l Q F S r a' w') (NoPanic Q))
    (h' : o'.wp P a w (fun a' w' => (F i' = true → S w') ∧ wpT P l Q F S r' a' w') (NoPanic Q)) : wpT P l Q F S (.either i i' r r') a w := ⟨⟨o, ho, hw, h⟩, o', ho', hw', h'⟩
theorem tEitherK (ho : nthO i l = some o) (hw : Region.wanted o (yielded l.toArray a.tmps) = true) (ho' : nthO i' l = some o') (hw' : Region.wanted o' (yielded l.toArray a.tmps) = true) (h : ∀ K : Act → World → Prop, (∀ a' w', (F i = true → S w') → wpT P l Q F S r a' w' → K a' w') → o.wp P a w K (NoPanic Q))
    (h' : ∀ K : Act → World → Prop, (∀ a' w', (F i' = true → S w') → wpT P l Q F S r' a' w' → K a' w') → o'.wp P a w K (NoPanic Q)) : wpT P l Q F S (.either i i' r r') a w := tEither ho hw ho' hw' (h _ fun _ _ h1 h2 => ⟨h1, h2⟩) (h' _ fun _ _ h1 h2 => ⟨h1, h2⟩)
theorem tMove (ho : nthO i l = some ⟨d, .move x, tt, pos, aft, g⟩) (hw : Region.wanted ⟨d, .move x, tt, pos, aft, g⟩ (yielded l.toArray a.tmps) = true) (hS : S w) (h : wpT P l Q F S r (a.put d (a.eval x)) w) : wpT P l Q F S (.op i r) a w :=
  tStill ho rfl hw hS (fun _ _ => rfl) h
theorem tAssign (ho : nthO i l = some ⟨d, .assign x, tt, pos, aft, g⟩) (hw : Region.wanted ⟨d, .assign x, tt, pos, aft, g⟩ (yielded l.toArray a.tmps) = true) (hS : S w) (h : wpT P l Q F S r (a.put d (a.eval x)) w) : wpT P l Q F S (.op i r) a w :=
  tStill ho rfl hw hS (fun _ _ => rfl) h
theorem tExtract {vs : Array Value} (ho : nthO i l = some ⟨d, .extract x k, tt, pos, aft, g⟩) (hw : Region.wanted ⟨d, .extract x k, tt, pos, aft, g⟩ (yielded l.toArray a.tmps) = true) (hS : S w) (hx : a.eval x = .tuple vs) (hv : vs[k]? = some v) (h : wpT P l Q F S r (a.put d v) w) : wpT P l Q F S (.op i r) a w :=
  tStill ho rfl hw hS (fun wx _ => by unfold execOp; simp only [hx, Instr.extract, hv, Sem.run_bind, Sem.run_pure, Result.andThen_ok]) h
theorem tBuild {parts : Array (Nat × Operand)} {ps : List (Nat × Value)} (ho : nthO i l = some ⟨d, .build ty parts, tt, pos, aft, g⟩) (hw : Region.wanted ⟨d, .build ty parts, tt, pos, aft, g⟩ (yielded l.toArray a.tmps) = true) (hS : S w) (hps : (parts.toList.map fun (i, x) => (i, a.eval x)) = ps) (hb : ∀ wx, (Instr.build ty ps.toArray).run P wx = .ok v wx)
    (h : wpT P l Q F S r (a.put d v) w) : wpT P l Q F S (.op i r) a w :=
  tStill ho rfl hw hS (fun wx _ => by
    have e : (parts.map fun (i, x) => (i, a.eval x)) = ps.toArray := by rw [← hps]; exact (Array.toList_inj.1 (by rw [Array.toList_map]))
    unfold execOp; simp only [Sem.run_bind, Sem.run_pure, Result.andThen_ok, e, hb wx]) h
theorem run_field (hT : FldT P ty f k) (w : World) : (Instr.fieldAt ty (.pointer (some ⟨b, j, none⟩)) f).run P w = .ok (.pointer (some ⟨b, j + k, none⟩)) w := by
  obtain ⟨fs, fx, hu, hf, _, hp⟩ := hT.ex
  unfold Instr.fieldAt
  simp only [Sem.run_bind, run_underlying hu w, Result.andThen_ok, hf, Instr.sureAddr, Sem.run_pure, hp]
  by_cases h0 : k = 0
  · subst h0; simp
  · rw [if_neg h0]
theorem tField (ho : nthO i l = some ⟨d, .fieldAddr ty x f, tt, pos, aft, g⟩) (hw : Region.wanted ⟨d, .fieldAddr ty x f, tt, pos, aft, g⟩ (yielded l.toArray a.tmps) = true) (hS : S w) (hx : a.eval x = .pointer (some ⟨b, j, none⟩)) (hT : FldT P ty f k) (h : wpT P l Q F S r (a.put d (.pointer (some ⟨b, j + k, none⟩))) w) : wpT P l Q F S (.op i r) a w :=
  tStill ho rfl hw hS (fun wx _ => by unfold execOp; simp only [hx, run_field hT, Sem.run_bind, Sem.run_pure, Result.andThen_ok]) h
theorem run_indexA {len c : Nat} (hT : ArrT P ty len n) (hc : c < len) (w : World) : (Instr.indexAt ty (.pointer (some ⟨b, j, none⟩)) (.int .i64 c)).run P w = .ok (.pointer (some ⟨b, j + c * n, none⟩)) w := by
  obtain ⟨e, hu, hi⟩ := hT.ex
  cases hq : P.info? e with
  | none => simp [hq] at hi
  | some q =>
    have hs : q.size = n := by simpa [hq] using hi
    unfold Instr.indexAt
    simp only [asIntOf, Sem.run_bind, Sem.run_pure, run_underlying hu w, Result.andThen_ok, Instr.sureAddr]
    rw [if_pos (by omega)]
    simp [sizeOf, typeInfo, hq, hs, Addr.add_mid]
theorem run_indexS {len cap c : Nat} (hT : SlcT P ty n) (hc : c < len) (w : World) : (Instr.indexAt ty (.slice (some ⟨b, j, none⟩) len cap) (.int .i64 c)).run P w = .ok (.pointer (some ⟨b, j + c * n, none⟩)) w := by
  obtain ⟨e, hu, hi⟩ := hT.ex
  cases hq : P.info? e with
  | none => simp [hq] at hi
  | some q =>
    have hs : q.size = n := by simpa [hq] using hi
    unfold Instr.indexAt
    simp only [asIntOf, Sem.run_bind, Sem.run_pure, run_underlying hu w, Result.andThen_ok]
    rw [if_pos (by omega)]
    simp [sizeOf, typeInfo, hq, hs, Addr.add_mid]
theorem tIndexA {len c : Nat} (ho : nthO i l = some ⟨d, .indexAddr ty x y, tt, pos, aft, g⟩) (hw : Region.wanted ⟨d, .indexAddr ty x y, tt, pos, aft, g⟩ (yielded l.toArray a.tmps) = true) (hS : S w) (hx : a.eval x = .pointer (some ⟨b, j, none⟩)) (hy : a.eval y = .int .i64 c) (hT : ArrT P ty len n) (hc : c < len)
    (h : wpT P l Q F S r (a.put d (.pointer (some ⟨b, j + c * n, none⟩))) w) : wpT P l Q F S (.op i r) a w :=
  tStill ho rfl hw hS (fun wx _ => by unfold execOp; simp only [hx, hy, run_indexA hT hc, Sem.run_bind, Sem.run_pure, Result.andThen_ok]) h
theorem tIndexS {len cap c : Nat} (ho : nthO i l = some ⟨d, .indexAddr ty x y, tt, pos, aft, g⟩) (hw : Region.wanted ⟨d, .indexAddr ty x y, tt, pos, aft, g⟩ (yielded l.toArray a.tmps) = true) (hS : S w) (hx : a.eval x = .slice (some ⟨b, j, none⟩) len cap) (hy : a.eval y = .int .i64 c) (hT : SlcT P ty n) (hc : c < len)
    (h : wpT P l Q F S r (a.put d (.pointer (some ⟨b, j + c * n, none⟩))) w) : wpT P l Q F S (.op i r) a w :=
  tStill ho rfl hw hS (fun wx _ => by unfold execOp; simp only [hx, hy, run_indexS hT hc, Sem.run_bind, Sem.run_pure, Result.andThen_ok]) h
theorem tLoadR (ho : nthO i l = some ⟨d, .load ty x, tt, pos, aft, g⟩) (hw : Region.wanted ⟨d, .load ty x, tt, pos, aft, g⟩ (yielded l.toArray a.tmps) = true) (hS : Kn M w0 w L) (hx : a.eval x = .pointer (some ⟨b, j, none⟩)) (hm : (b, A, t) ∈ L) (hT : RowT P ty n) (hc : A.extract j (j + n) = cs) (hn : cs.size = n)
    (h : wpT P l Q F (fun wx => Kn M w0 wx L) r (a.put d (.agg cs)) w) : wpT P l Q F (fun wx => Kn M w0 wx L) (.op i r) a w :=
  tStill ho rfl hw hS (fun wx hk => by unfold execOp; simp only [hx, Sem.run_bind, Sem.run_pure, Result.andThen_ok, run_loadA (hk.at hm) hT hc hn]) h
theorem tLoad1 (ho : nthO i l = some ⟨d, .load ty x, tt, pos, aft, g⟩) (hw : Region.wanted ⟨d, .load ty x, tt, pos, aft, g⟩ (yielded l.toArray a.tmps) = true) (hS : Kn M w0 w L) (hx : a.eval x = .pointer (some ⟨b, j, none⟩)) (hm : (b, A, t) ∈ L) (hT : OneT P ty) (hv : A[j]? = some v)
    (h : wpT P l Q F (fun wx => Kn M w0 wx L) r (a.put d v) w) : wpT P l Q F (fun wx => Kn M w0 wx L) (.op i r) a w :=
  tStill ho rfl hw hS (fun wx hk => by unfold execOp; simp only [hx, Sem.run_bind, Sem.run_pure, Result.andThen_ok, run_loadC (by rw [(hk.at hm).cell]; exact hv) hT]) h
theorem tLoadOld1 (ho : nthO i l = some ⟨d, .load ty x, tt, pos, aft, g⟩) (hw : Region.wanted ⟨d, .load ty x, tt, pos, aft, g⟩ (yielded l.toArray a.tmps) = true) (hS : Kn M w0 w L) (hx : a.eval x = .pointer (some ⟨b, j, none⟩)) (hc : w0.cell? ⟨b, j, none⟩ = some v) (hM : b ∉ M) (hT : OneT P ty)
    (h : wpT P l Q F (fun wx => Kn M w0 wx L) r (a.put d v) w) : wpT P l Q F (fun wx => Kn M w0 wx L) (.op i r) a w :=
  tStill ho rfl hw hS (fun wx hk => by
    have hc' : wx.cell? ⟨b, j, none⟩ = some v := by rw [World.cell?_of_block (w := w0) (a := ⟨b, j, none⟩) (hk.mod.block b (World.block_lt_of_cell? w0 _ hc) hM)]; exact hc
    unfold execOp; simp only [hx, Sem.run_bind, Sem.run_pure, Result.andThen_ok, run_loadC hc' hT]) h
theorem tLoadOldR (ho : nthO i l = some ⟨d, .load ty x, tt, pos, aft, g⟩) (hw : Region.wanted ⟨d, .load ty x, tt, pos, aft, g⟩ (yielded l.toArray a.tmps) = true) (hS : Kn M w0 w L) (hx : a.eval x = .pointer (some ⟨b, j, none⟩)) (hc : w0.rangeAt b j cs.toList) (hb : b < w0.heap.size) (hM : b ∉ M) (hT : RowT P ty n) (hn : cs.size = n)
    (h : wpT P l Q F (fun wx => Kn M w0 wx L) r (a.put d (.agg cs)) w) : wpT P l Q F (fun wx => Kn M w0 wx L) (.op i r) a w :=
  tStill ho rfl hw hS (fun wx hk => by
    have hc' : wx.rangeAt b j cs.toList := fun q u hu => by rw [World.cell?_of_block (w := w0) (a := ⟨b, j + q, none⟩) (hk.mod.block b hb hM)]; exact hc q u hu
    unfold execOp; simp only [hx, Sem.run_bind, Sem.run_pure, Result.andThen_ok, run_loadRange hc' hT hn]) h
theorem tFieldZ (ho : nthO i l = some ⟨d, .fieldAddr ty x f, tt, pos, aft, g⟩) (hw : Region.wanted ⟨d, .fieldAddr ty x f, tt, pos, aft, g⟩ (yielded l.toArray a.tmps) = true) (hS : S w) (hx : a.eval x = .pointer (some ⟨b, j, none⟩)) (hT : FldT P ty f 0) (h : wpT P l Q F S r (a.put d (.pointer (some ⟨b, j, none⟩))) w) : wpT P l Q F S (.op i r) a w := tField ho hw hS hx hT h
theorem tField0 (ho : nthO i l = some ⟨d, .fieldAddr ty x f, tt, pos, aft, g⟩) (hw : Region.wanted ⟨d, .fieldAddr ty x f, tt, pos, aft, g⟩ (yielded l.toArray a.tmps) = true) (hS : S w) (hx : a.eval x = .pointer (some ⟨b, 0, none⟩)) (hT : FldT P ty f k) (h : wpT P l Q F S r (a.put d (.pointer (some ⟨b, k, none⟩))) w) : wpT P l Q F S (.op i r) a w := tField ho hw hS hx hT (by rw [Nat.zero_add]; exact h)
theorem tIndexA0 {len c : Nat} (ho : nthO i l = some ⟨d, .indexAddr ty x y, tt, pos, aft, g⟩) (hw : Region.wanted ⟨d, .indexAddr ty x y, tt, pos, aft, g⟩ (yielded l.toArray a.tmps) = true) (hS : S w) (hx : a.eval x = .pointer (some ⟨b, 0, none⟩)) (hy : a.eval y = .int .i64 c) (hT : ArrT P ty len n) (hc : c < len)
    (h : wpT P l Q F S r (a.put d (.pointer (some ⟨b, c * n, none⟩))) w) : wpT P l Q F S (.op i r) a w := tIndexA ho hw hS hx hy hT hc (by rw [Nat.zero_add]; exact h)
theorem tIndexS0 {len cap c : Nat} (ho : nthO i l = some ⟨d, .indexAddr ty x y, tt, pos, aft, g⟩) (hw : Region.wanted ⟨d, .indexAddr ty x y, tt, pos, aft, g⟩ (yielded l.toArray a.tmps) = true) (hS : S w) (hx : a.eval x = .slice (some ⟨b, 0, none⟩) len cap) (hy : a.eval y = .int .i64 c) (hT : SlcT P ty n) (hc : c < len)
    (h : wpT P l Q F S r (a.put d (.pointer (some ⟨b, c * n, none⟩))) w) : wpT P l Q F S (.op i r) a w := tIndexS ho hw hS hx hy hT hc (by rw [Nat.zero_add]; exact h)
theorem tRun (ho : nthO i l = some o) (hs : stillOp o = true) (hw : Region.wanted o (yielded l.toArray a.tmps) = true) (hS : S w) (hr : ∀ wx, (execOp a.eval o).run P wx = .ok (.value v) wx) (h : wpT P l Q F S r (a.put o.dst v) w) : wpT P l Q F S (.op i r) a w := tStill ho hs hw hS (fun wx _ => hr wx) h
theorem tPickT {c y : Operand} (ho : nthO i l = some ⟨d, .pick c x y, tt, pos, aft, g⟩) (hw : Region.wanted ⟨d, .pick c x y, tt, pos, aft, g⟩ (yielded l.toArray a.tmps) = true) (hS : S w) (hc : a.eval c = .bool true) (h : wpT P l Q F S r (a.put d (a.eval x)) w) : wpT P l Q F S (.op i r) a w :=
  tStill ho rfl hw hS (fun wx _ => by unfold execOp; simp only [hc]; rfl) h
theorem tPickF {c y : Operand} (ho : nthO i l = some ⟨d, .pick c x y, tt, pos, aft, g⟩) (hw : Region.wanted ⟨d, .pick c x y, tt, pos, aft, g⟩ (yielded l.toArray a.tmps) = true) (hS : S w) (hc : a.eval c = .bool false) (h : wpT P l Q F S r (a.put d (a.eval y)) w) : wpT P l Q F S (.op i r) a w :=
  tStill ho rfl hw hS (fun wx _ => by unfold execOp; simp only [hc]; rfl) h
end still
/-- fewer rows -/
theorem Kn.sub {M : List Nat} {w0 w : World} {L L' : RowL} (h : Kn M w0 w L) (hs : L'.Sublist L) : Kn M w0 w L' := ⟨h.mod, fun x hx => h.has x (hs.subset hx), h.dis.sublist hs⟩
/-- a region, fewer rows held -/
theorem wp_regS {P : Program} {id : Nat} {l : List Oper} {Q : Exit → Act → World → Prop} {a : Act} {w : World} {M : List Nat} {w0 : World} {L : RowL} (hk : Kn M w0 w L) (L' : RowL) (t : OT) (F : Nat → Bool) (hm : P.follows .mixedOrders = true) (hn : t.size ≤ l.length) (hsel : Region.noSelect l.toArray = true)
    (hv : okT l.toArray F t (Array.replicate l.length false) = true) (h : ∀ w1, Kn M w0 w1 L → wpT P l Q F (fun wx => Kn M w0 wx L') t a w1) : (Code.region id l.toArray true).wp P Q a w :=
  wp_regT t F _ hm hn hsel hv (h _ hk.drew)
section plain
variable {P : Program} {d : Option Tmp} {tt : TypeId} {pos : String} {aft : Array Edge} {g : Option (Nat × Bool)} {a : Act} {w : World} {K : Act → World → Prop} {Q : Exit → Act → World → Prop} {ty : TypeId} {x y : Operand} {b j n k f : Nat}
theorem oField (hx : a.eval x = .pointer (some ⟨b, j, none⟩)) (hT : FldT P ty f k) (h : K (a.put d (.pointer (some ⟨b, j + k, none⟩))) w) : Oper.wp P ⟨d, .fieldAddr ty x f, tt, pos, aft, g⟩ a w K Q := by
  unfold Oper.wp execOp; simp only [hx, run_field hT, Sem.run_bind, Sem.run_pure, Result.andThen_ok]; exact h
theorem oIndexA {len c : Nat} (hx : a.eval x = .pointer (some ⟨b, j, none⟩)) (hy : a.eval y = .int .i64 c) (hT : ArrT P ty len n) (hc : c < len) (h : K (a.put d (.pointer (some ⟨b, j + c * n, none⟩))) w) : Oper.wp P ⟨d, .indexAddr ty x y, tt, pos, aft, g⟩ a w K Q := by
  unfold Oper.wp execOp; simp only [hx, hy, run_indexA hT hc, Sem.run_bind, Sem.run_pure, Result.andThen_ok]; exact h
theorem oIndexS {len cap c : Nat} (hx : a.eval x = .slice (some ⟨b, j, none⟩) len cap) (hy : a.eval y = .int .i64 c) (hT : SlcT P ty n) (hc : c < len) (h : K (a.put d (.pointer (some ⟨b, j + c * n, none⟩))) w) : Oper.wp P ⟨d, .indexAddr ty x y, tt, pos, aft, g⟩ a w K Q := by
  unfold Oper.wp execOp; simp only [hx, hy, run_indexS hT hc, Sem.run_bind, Sem.run_pure, Result.andThen_ok]; exact h
theorem oFieldZ (hx : a.eval x = .pointer (some ⟨b, j, none⟩)) (hT : FldT P ty f 0) (h : K (a.put d (.pointer (some ⟨b, j, none⟩))) w) : Oper.wp P ⟨d, .fieldAddr ty x f, tt, pos, aft, g⟩ a w K Q := oField hx hT h
theorem oField0 (hx : a.eval x = .pointer (some ⟨b, 0, none⟩)) (hT : FldT P ty f k) (h : K (a.put d (.pointer (some ⟨b, k, none⟩))) w) : Oper.wp P ⟨d, .fieldAddr ty x f, tt, pos, aft, g⟩ a w K Q := oField hx hT (by rw [Nat.zero_add]; exact h)
theorem oIndexA0 {len c : Nat} (hx : a.eval x = .pointer (some ⟨b, 0, none⟩)) (hy : a.eval y = .int .i64 c) (hT : ArrT P ty len n) (hc : c < len) (h : K (a.put d (.pointer (some ⟨b, c * n, none⟩))) w) : Oper.wp P ⟨d, .indexAddr ty x y, tt, pos, aft, g⟩ a w K Q := oIndexA hx hy hT hc (by rw [Nat.zero_add]; exact h)
theorem oIndexS0 {len cap c : Nat} (hx : a.eval x = .slice (some ⟨b, 0, none⟩) len cap) (hy : a.eval y = .int .i64 c) (hT : SlcT P ty n) (hc : c < len) (h : K (a.put d (.pointer (some ⟨b, c * n, none⟩))) w) : Oper.wp P ⟨d, .indexAddr ty x y, tt, pos, aft, g⟩ a w K Q := oIndexS hx hy hT hc (by rw [Nat.zero_add]; exact h)
end plain
end Go.Proofs.YtamiichlbmllcaaDoor
/-
  Rows of rows; lists that are made; tests of a type; what lies in old blocks.
-/
namespace Go.Proofs.YtamiichlbmllcaaDoor
open Go.RowKit
/-- n rows of k cells, one behind the other -/
def rowsA (n k : Nat) (g : Nat → Array Value) : Array Value := Array.ofFn (n := n * k) fun j => (g (j.val / k)).getD (j.val % k) undef
theorem rows_size (n k : Nat) (g : Nat → Array Value) : (rowsA n k g).size = n * k := by unfold rowsA; simp
theorem rows_get {n k : Nat} {g : Nat → Array Value} {j : Nat} (h : j < n * k) : (rowsA n k g)[j]? = some ((g (j / k)).getD (j % k) undef) := by
  unfold rowsA
  rw [Array.getElem?_ofFn, dif_pos h]
theorem rows_at {n k : Nat} {g : Nat → Array Value} {i q : Nat} (hi : i < n) (hq : q < k) (hg : (g i).size = k) : (rowsA n k g)[i * k + q]? = (g i)[q]? := by
  have h : i * k + q < n * k := by
    have : (i + 1) * k ≤ n * k := Nat.mul_le_mul_right k hi
    rw [Nat.add_mul, Nat.one_mul] at this
    omega
  have hk : 0 < k := by omega
  have e1 : (i * k + q) / k = i := by
    rw [Nat.add_comm, Nat.add_mul_div_right _ _ hk, Nat.div_eq_of_lt hq, Nat.zero_add]
  have e2 : (i * k + q) % k = q := by
    rw [Nat.add_comm, Nat.add_mul_mod_self_right, Nat.mod_eq_of_lt hq]
  rw [rows_get h, e1, e2, Array.getD_eq_getD_getElem?, Array.getElem?_eq_getElem (by omega)]
  rfl
theorem rows_ex {n k : Nat} {g : Nat → Array Value} {i : Nat} (hi : i < n) (hg : (g i).size = k) : (rowsA n k g).extract (i * k) (i * k + k) = g i := by
  have hn : i * k + k ≤ n * k := by
    have : (i + 1) * k ≤ n * k := Nat.mul_le_mul_right k hi
    rwa [Nat.add_mul, Nat.one_mul] at this
  apply Array.ext_getElem?
  intro q
  by_cases hq : q < k
  · rw [Array.getElem?_extract, if_pos (by rw [rows_size]; omega)]
    exact rows_at hi hq hg
  · rw [Array.getElem?_eq_none (by rw [Array.size_extract, rows_size]; omega), Array.getElem?_eq_none (by omega)]
theorem rows_put {n k : Nat} {g : Nat → Array Value} {i : Nat} {c : Array Value} (hc : c.size = k) : putA (rowsA n k g) (i * k) c.toList = rowsA n k (fun j => if j = i then c else g j) := by
  apply Array.ext_getElem?
  intro q
  by_cases hq : q < n * k
  · have hk : 0 < k := by
      rcases Nat.eq_zero_or_pos k with h | h
      · subst h; simp at hq
      · exact h
    rw [putA_get _ _ _ _ (by rw [rows_size]; exact hq), rows_get (g := fun j => if j = i then c else g j) hq]
    by_cases h1 : i * k ≤ q ∧ q < i * k + c.toList.length
    · have e1 : q / k = i := by
        rw [Nat.div_eq_iff hk]
        simp only [Array.length_toList, hc] at h1
        omega
      have e2 : q % k = q - i * k := by
        have := Nat.mod_add_div q k
        rw [e1, Nat.mul_comm] at this
        omega
      rw [if_pos h1, e1, e2]
      simp only [if_true]
      simp only [Array.length_toList] at h1
      rw [Array.getD_eq_getD_getElem?, Array.getElem?_toList, Array.getElem?_eq_getElem (by omega)]
      rfl
    · have e1 : q / k ≠ i := by
        intro e
        apply h1
        rw [Nat.div_eq_iff hk] at e
        simp only [Array.length_toList, hc]
        omega
      rw [if_neg h1, rows_get hq, if_neg e1]
  · rw [Array.getElem?_eq_none (by rw [putA_size, rows_size]; omega), Array.getElem?_eq_none (by rw [rows_size]; omega)]
theorem rows_congr {n k : Nat} {g h : Nat → Array Value} (e : ∀ i, i < n → g i = h i) : rowsA n k g = rowsA n k h := by
  apply Array.ext_getElem?
  intro q
  by_cases hq : q < n * k
  · have hk : 0 < k := by
      rcases Nat.eq_zero_or_pos k with h | h
      · subst h; simp at hq
      · exact h
    rw [rows_get hq, rows_get hq, e _ (Nat.div_lt_of_lt_mul (by rw [Nat.mul_comm]; exact hq))]
  · rw [Array.getElem?_eq_none (by rw [rows_size]; omega), Array.getElem?_eq_none (by rw [rows_size]; omega)]
theorem made_rows (n k : Nat) (z : Array Value) (hz : z.size = k) : madeCells z (n * k) = rowsA n k (fun _ => z) := by
  apply Array.ext_getElem?
  intro q
  unfold madeCells
  by_cases hq : q < n * k
  · rw [rows_get hq]
    have hk : 0 < k := by
      rcases Nat.eq_zero_or_pos k with h | h
      · subst h; simp at hq
      · exact h
    have hlt : q % k < z.size := by rw [hz]; exact Nat.mod_lt _ hk
    have e : z[q % k]! = z.getD (q % k) undef := by rw [getElem!_pos z _ hlt, Array.getD_eq_getD_getElem?, Array.getElem?_eq_getElem hlt]; rfl
    rw [Array.getElem?_map, Array.getElem?_eq_getElem (by simpa using hq), Array.getElem_range, Option.map_some, hz, e]
  · rw [Array.getElem?_eq_none (xs := rowsA n k fun _ => z) (by rw [rows_size]; omega), Array.getElem?_eq_none (by simp; omega)]
/-- a type of lists that can be made -/
structure MkT (P : Program) (ty e : TypeId) (k by_ : Nat) (z : Array Value) : Prop where
  hu : P.underlying ty = some (.slice e)
  ex : ∃ zv, (P.info? e).map (fun i => (i.zero, i.size, i.bytes)) = some (some zv, k, by_) ∧ zv.cells = z ∧ z.size = k
/-- a type that is asked for: no interface, and its zero -/
structure AsT (P : Program) (ty : TypeId) (z : Value) : Prop where
  ex : ∃ d, P.underlying ty = some d ∧ ∀ m, d ≠ .interface m
  hz : (P.info? ty).map (·.zero) = some (some z)
section laws
variable {P : Program} {d : Option Tmp} {tt : TypeId} {pos : String} {aft : Array Edge} {g : Option (Nat × Bool)} {a : Act} {w : World} {K : Act → World → Prop} {Q : Exit → Act → World → Prop} {M : List Nat} {w0 : World} {L : RowL} {ty e t : TypeId} {x y : Operand} {A z cs : Array Value} {b j n k by_ : Nat} {v zv : Value}
/-- make([]T, n) -/
theorem oMake (hx : a.eval x = .int .i64 n) (hy : a.eval y = .int .i64 n) (hk : Kn M w0 w L) (hT : MkT P ty e k by_ z) (hb : (by_ : Int) * n ≤ 281474976710656) (hn : (n : Int) ≤ 9223372036854775807)
    (h : ∀ w1, Kn M w0 w1 ((w.heap.size, rowsA n k (fun _ => z), e) :: L) → K (a.put d (.slice (some ⟨w.heap.size, 0, none⟩) n n)) w1) : Oper.wp P ⟨d, .makeSlice ty x y, tt, pos, aft, g⟩ a w K Q := by
  have hu := hT.hu
  obtain ⟨zv, hin, hc, hzs⟩ := hT.ex
  obtain ⟨i, hi, hz, hs, hby⟩ : ∃ i, P.info? e = some i ∧ i.zero = some zv ∧ i.size = k ∧ i.bytes = by_ := by
    cases hq : P.info? e with
    | none => rw [hq] at hin; simp at hin
    | some i => rw [hq] at hin; simp at hin; exact ⟨i, rfl, hin.1, hin.2.1, hin.2.2⟩
  have h1 := h (w.alloc (.cells (rowsA n k (fun _ => z)) e)) (hk.alloc _ e)
  have hr := run_make (P := P) w ty e i zv hu hi hz .i64 .i64 (n : Int) (n : Int) (by omega) (Int.le_refl _) (by rw [hby]; exact hb) hn
  rw [hc, hs, Int.toNat_natCast, made_rows n k z hzs] at hr
  unfold Oper.wp execOp
  simp only [hx, hy, Sem.run_bind, Sem.run_pure, Result.andThen_ok, hr]
  exact h1
/-- the type is the one that is asked for -/
theorem oAssertY (hx : a.eval x = .iface ty v) (hT : AsT P ty zv) (h : K (a.put d (.tuple #[v, .bool true])) w) : Oper.wp P ⟨d, .typeAssert x e ty true, tt, pos, aft, g⟩ a w K Q := by
  obtain ⟨dd, hu, hni⟩ := hT.ex
  unfold Oper.wp execOp
  simp only [hx, Instr.typeAssert, Sem.run_bind, run_underlying hu w, Result.andThen_ok]
  cases dd with
  | interface m => exact absurd rfl (hni m)
  | _ => simpa [Oper.upon] using h
theorem oAssertN (hx : a.eval x = .iface t v) (hne : t ≠ ty) (hT : AsT P ty zv) (h : K (a.put d (.tuple #[zv, .bool false])) w) : Oper.wp P ⟨d, .typeAssert x e ty true, tt, pos, aft, g⟩ a w K Q := by
  obtain ⟨dd, hu, hni⟩ := hT.ex
  have hzz := hT.hz
  obtain ⟨i, hi, hz⟩ : ∃ i, P.info? ty = some i ∧ i.zero = some zv := by
    cases hq : P.info? ty with
    | none => rw [hq] at hzz; simp at hzz
    | some i => rw [hq] at hzz; simp at hzz; exact ⟨i, rfl, hzz⟩
  unfold Oper.wp execOp
  simp only [hx, Instr.typeAssert, Sem.run_bind, run_underlying hu w, Result.andThen_ok]
  cases dd with
  | interface m => exact absurd rfl (hni m)
  | _ => simpa [Oper.upon, hne, zeroValue, typeInfo, hi, hz] using h
theorem old_at (hk : Kn M w0 w L) (hat : At w0 b A t) (hM : b ∉ M) : At w b A t := hat.of (hk.mod.block b hat.lt hM)
theorem oOldR (hx : a.eval x = .pointer (some ⟨b, j, none⟩)) (hk : Kn M w0 w L) (hat : At w0 b A t) (hM : b ∉ M) (hT : RowT P ty n) (hc : A.extract j (j + n) = cs) (hn : cs.size = n) (h : K (a.put d (.agg cs)) w) : Oper.wp P ⟨d, .load ty x, tt, pos, aft, g⟩ a w K Q := by
  unfold Oper.wp execOp
  simp only [hx, Sem.run_bind, Sem.run_pure, Result.andThen_ok, run_loadA (old_at hk hat hM) hT hc hn]
  exact h
theorem oOld1 (hx : a.eval x = .pointer (some ⟨b, j, none⟩)) (hk : Kn M w0 w L) (hat : At w0 b A t) (hM : b ∉ M) (hT : OneT P ty) (hv : A[j]? = some v) (h : K (a.put d v) w) : Oper.wp P ⟨d, .load ty x, tt, pos, aft, g⟩ a w K Q := by
  unfold Oper.wp execOp
  simp only [hx, Sem.run_bind, Sem.run_pure, Result.andThen_ok, run_loadC (by rw [(old_at hk hat hM).cell]; exact hv) hT]
  exact h
end laws
section still
variable {P : Program} {l : List Oper} {Q : Exit → Act → World → Prop} {F : Nat → Bool} {r : OT} {a : Act} {w : World} {i : Nat} {d : Option Tmp} {tt : TypeId} {pos : String} {aft : Array Edge} {g : Option (Nat × Bool)} {M : List Nat} {w0 : World} {L : RowL} {ty t : TypeId} {x : Operand} {A cs : Array Value} {b j n : Nat} {v : Value}
theorem tOldR (ho : nthO i l = some ⟨d, .load ty x, tt, pos, aft, g⟩) (hw : Region.wanted ⟨d, .load ty x, tt, pos, aft, g⟩ (yielded l.toArray a.tmps) = true) (hS : Kn M w0 w L) (hx : a.eval x = .pointer (some ⟨b, j, none⟩)) (hat : At w0 b A t) (hM : b ∉ M) (hT : RowT P ty n) (hc : A.extract j (j + n) = cs) (hn : cs.size = n)
    (h : wpT P l Q F (fun wx => Kn M w0 wx L) r (a.put d (.agg cs)) w) : wpT P l Q F (fun wx => Kn M w0 wx L) (.op i r) a w :=
  tStill ho rfl hw hS (fun wx hk => by unfold execOp; simp only [hx, Sem.run_bind, Sem.run_pure, Result.andThen_ok, run_loadA (old_at hk hat hM) hT hc hn]) h
theorem tOld1 (ho : nthO i l = some ⟨d, .load ty x, tt, pos, aft, g⟩) (hw : Region.wanted ⟨d, .load ty x, tt, pos, aft, g⟩ (yielded l.toArray a.tmps) = true) (hS : Kn M w0 w L) (hx : a.eval x = .pointer (some ⟨b, j, none⟩)) (hat : At w0 b A t) (hM : b ∉ M) (hT : OneT P ty) (hv : A[j]? = some v)
    (h : wpT P l Q F (fun wx => Kn M w0 wx L) r (a.put d v) w) : wpT P l Q F (fun wx => Kn M w0 wx L) (.op i r) a w :=
  tStill ho rfl hw hS (fun wx hk => by unfold execOp; simp only [hx, Sem.run_bind, Sem.run_pure, Result.andThen_ok, run_loadC (by rw [(old_at hk hat hM).cell]; exact hv) hT]) h
end still
end Go.Proofs.YtamiichlbmllcaaDoor
