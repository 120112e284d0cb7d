import Derived.Test.YtamiichlbmllcaaGreatDoorTRowF
import Derived.Deep.MidRow
import Derived.Laws.NewFold
import Derived.Deep.RegionHeld3
/-
  Walks over rows of many cells: the world behind each operation is a letter, with what is known of it.
-/
namespace Go.Proofs.YtamiichlbmllcaaGreatDoor
open Go.RowKit
/-- the block b is the row A -/
def At (w : World) (b : Nat) (A : Array Value) (t : TypeId) : Prop := w.heap[b]? = some (.cells A t (0, 0))
theorem At.lt {w : World} {b : Nat} {A : Array Value} {t : TypeId} (h : At w b A t) : b < w.heap.size := lt_of_block h
theorem At.cell {w : World} {b : Nat} {A : Array Value} {t : TypeId} (h : At w b A t) (j : Nat) : w.cell? ⟨b, j, none⟩ = A[j]? := cell_of_row _ _ _ _ _ _ h
theorem At.free {w : World} {b : Nat} {A : Array Value} {t : TypeId} (h : At w b A t) (j : Nat) : w.frozen? ⟨b, j, none⟩ = false := by
  unfold At at h; simp [World.frozen?, h]
theorem At.of {w w' : World} {b : Nat} {A : Array Value} {t : TypeId} (h : At w b A t) (hb : w'.heap[b]? = w.heap[b]?) : At w' b A t := by
  unfold At at *; rw [hb]; exact h
theorem At.range {w : World} {b : Nat} {A : Array Value} {t : TypeId} (h : At w b A t) (o n : Nat) : w.rangeAt b o (A.extract o (o + n)).toList := World.rangeAt_of_block h o n
/-- cells laid into a row -/
def putA (A : Array Value) (o : Nat) : List Value → Array Value
  | [] => A
  | v :: r => putA (A.setIfInBounds o v) (o + 1) r
theorem putA_size (o : Nat) (l : List Value) : ∀ (A : Array Value), (putA A o l).size = A.size := by
  induction l generalizing o with
  | nil => intro A; rfl
  | cons v r ih => intro A; rw [putA, ih]; simp
theorem putA_get (l : List Value) : ∀ (o : Nat) (A : Array Value) (j : Nat), j < A.size → (putA A o l)[j]? = if o ≤ j ∧ j < o + l.length then l[j - o]? else A[j]? := by
  induction l with
  | nil => intro o A j hj; simp [putA]; intro h1 h2; omega
  | cons v r ih =>
    intro o A j hj
    rw [putA, ih (o + 1) _ j (by simpa using hj)]
    by_cases h1 : o + 1 ≤ j ∧ j < o + 1 + r.length
    · rw [if_pos h1, if_pos (by simp; omega)]
      rw [show j - o = (j - (o + 1)) + 1 by omega, List.getElem?_cons_succ]
    · rw [if_neg h1]
      by_cases h2 : j = o
      · subst h2
        rw [if_pos (by simp), Array.getElem?_setIfInBounds_self_of_lt hj]; simp
      · rw [if_neg (by simp; omega), Array.getElem?_setIfInBounds_ne (Ne.symm h2)]
theorem putA_whole {A cs : Array Value} (h : A.size = cs.size) : putA A 0 cs.toList = cs := by
  apply Array.ext_getElem?
  intro j
  by_cases hj : j < A.size
  · rw [putA_get _ _ _ _ hj, if_pos (by simp; omega)]; simp
  · rw [Array.getElem?_eq_none (by rw [putA_size]; omega), Array.getElem?_eq_none (by omega)]
theorem At.setCells {b : Nat} {t : TypeId} (l : List Value) : ∀ {w : World} {A : Array Value} (o : Nat), At w b A t → At (w.setCells b o l) b (putA A o l) t := by
  induction l with
  | nil => intro w A o h; exact h
  | cons v r ih => intro w A o h; exact ih (o + 1) (set_block h)
theorem setCells_heap {b k : Nat} (hne : k ≠ b) (l : List Value) : ∀ (w : World) (o : Nat), (w.setCells b o l).heap[k]? = w.heap[k]? := by
  induction l with
  | nil => intro w o; rfl
  | cons v r ih => intro w o; exact (ih _ _).trans (Below.heap_setCell _ _ _ _ hne)
theorem setCells_size (b : Nat) (l : List Value) : ∀ (w : World) (o : Nat), (w.setCells b o l).heap.size = w.heap.size := by
  induction l with
  | nil => intro w o; rfl
  | cons v r ih => intro w o; rw [World.setCells, ih]; simp
/-- nothing that was there is turned, but for the blocks M -/
structure Mod (M : List Nat) (w w' : World) : Prop where
  os : w'.os = w.os
  tape : w'.tape = w.tape
  output : w'.output = w.output
  size : w.heap.size ≤ w'.heap.size
  block : ∀ k, k < w.heap.size → k ∉ M → w'.heap[k]? = w.heap[k]?
theorem Mod.refl (M : List Nat) (w : World) : Mod M w w := ⟨rfl, rfl, rfl, Nat.le_refl _, fun _ _ _ => rfl⟩
theorem Mod.trans {M : List Nat} {a b c : World} (h : Mod M a b) (k : Mod M b c) : Mod M a c :=
  ⟨k.os.trans h.os, k.tape.trans h.tape, k.output.trans h.output, Nat.le_trans h.size k.size, fun i hi hn => (k.block i (Nat.lt_of_lt_of_le hi h.size) hn).trans (h.block i hi hn)⟩
theorem Mod.ofBelow {M : List Nat} {w w' : World} (h : Below w.heap.size w w') : Mod M w w' := ⟨h.os, h.tape, h.output, h.size, fun k hk _ => h.block k hk⟩
theorem Mod.below {w w' : World} (h : Mod [] w w') : Below w.heap.size w w' := ⟨h.os, h.tape, h.output, h.size, fun k hk => h.block k hk (by simp)⟩
theorem Mod.alloc (M : List Nat) (w : World) (o : Obj) : Mod M w (w.alloc o) := Mod.ofBelow ((Below.refl _ _).alloc (Nat.le_refl _) o)
theorem Mod.drew (M : List Nat) (w : World) : Mod M w w.drew := Mod.ofBelow ((Below.refl _ _).drew)
/-- a callee's own frame: what it may turn is new to us, or ours to turn -/
theorem Mod.step {M N : List Nat} {w0 w w' : World} (h : Mod M w0 w) (k : Mod N w w') (hN : ∀ b, b ∈ N → w0.heap.size ≤ b ∨ b ∈ M) : Mod M w0 w' :=
  ⟨k.os.trans h.os, k.tape.trans h.tape, k.output.trans h.output, Nat.le_trans h.size k.size, fun i hi hn => by
    refine (k.block i (Nat.lt_of_lt_of_le hi h.size) fun hb => ?_).trans (h.block i hi hn)
    rcases hN i hb with h1 | h1
    · omega
    · exact hn h1⟩
theorem Mod.setCells {M : List Nat} {w0 w : World} (h : Mod M w0 w) {b : Nat} (hb : w0.heap.size ≤ b ∨ b ∈ M) (o : Nat) (l : List Value) : Mod M w0 (w.setCells b o l) := by
  refine h.step (N := [b]) ⟨?_, ?_, ?_, by rw [setCells_size]; exact Nat.le_refl _, fun k _ hk => setCells_heap (by simpa using hk) l w o⟩ (fun k hk => by simp at hk; subst hk; exact hb)
  all_goals
    clear hb h
    induction l generalizing w o with
    | nil => rfl
    | cons v r ih => rw [World.setCells]; exact (ih (w := w.setCell ⟨b, o, none⟩ v) (o := o + 1)).trans rfl
abbrev RowL := List (Nat × Array Value × TypeId)
/-- what a walk knows of the world: its frame since w0, and which blocks (new ones, or of M) are which rows -/
structure Kn (M : List Nat) (w0 w : World) (L : RowL) : Prop where
  mod : Mod M w0 w
  has : ∀ x, x ∈ L → At w x.1 x.2.1 x.2.2 ∧ (w0.heap.size ≤ x.1 ∨ x.1 ∈ M)
  dis : L.Pairwise fun x y => x.1 ≠ y.1
theorem Kn.at {M : List Nat} {w0 w : World} {L : RowL} {b : Nat} {A : Array Value} {t : TypeId} (h : Kn M w0 w L) (hm : (b, A, t) ∈ L) : At w b A t := (h.has _ hm).1
theorem Kn.nil (M : List Nat) (w : World) : Kn M w w [] := ⟨Mod.refl _ _, fun x h => (by cases h), List.Pairwise.nil⟩
theorem Kn.alloc {M : List Nat} {w0 w : World} {L : RowL} (h : Kn M w0 w L) (A : Array Value) (t : TypeId) : Kn M w0 (w.alloc (.cells A t)) ((w.heap.size, A, t) :: L) := by
  refine ⟨h.mod.trans (Mod.alloc _ _ _), ?_, List.Pairwise.cons (fun y hy e => by have := (h.has y hy).1.lt; omega) h.dis⟩
  intro x hx
  rcases List.mem_cons.1 hx with rfl | hx
  · exact ⟨heap_alloc_new _ _, Or.inl h.mod.size⟩
  · exact ⟨(h.has x hx).1.of (Below.heap_alloc _ _ _ (h.has x hx).1.lt), (h.has x hx).2⟩
theorem Kn.drew {M : List Nat} {w0 w : World} {L : RowL} (h : Kn M w0 w L) : Kn M w0 w.drew L := ⟨h.mod.trans (Mod.drew _ _), h.has, h.dis⟩
/-- behind a call that turns nothing -/
theorem Kn.call {M : List Nat} {w0 w w' : World} {L : RowL} (h : Kn M w0 w L) (hb : Below w.heap.size w w') : Kn M w0 w' L :=
  ⟨h.mod.trans (Mod.ofBelow hb), fun x hx => ⟨(h.has x hx).1.of (hb.block _ (h.has x hx).1.lt), (h.has x hx).2⟩, h.dis⟩
theorem Kn.drop {M : List Nat} {w0 w : World} {L : RowL} {x : Nat × Array Value × TypeId} (h : Kn M w0 w (x :: L)) : Kn M w0 w L :=
  ⟨h.mod, fun y hy => h.has y (List.mem_cons_of_mem _ hy), (List.pairwise_cons.1 h.dis).2⟩
/-- the row of a block, turned -/
def setB (b : Nat) (A : Array Value) : RowL → RowL → Prop
  | x :: L, y :: M => (x.1 = b ∧ y = (b, A, x.2.2) ∧ L = M) ∨ (x = y ∧ setB b A L M)
  | _, _ => False
theorem setB_here (b : Nat) (A A' : Array Value) (t : TypeId) (L : RowL) : setB b A' ((b, A, t) :: L) ((b, A', t) :: L) := Or.inl ⟨rfl, rfl, rfl⟩
theorem setB_next {b : Nat} {A' : Array Value} (x : Nat × Array Value × TypeId) {L M : RowL} (h : setB b A' L M) : setB b A' (x :: L) (x :: M) := Or.inr ⟨rfl, h⟩
theorem setB_keys {b : Nat} {A : Array Value} : ∀ {L M : RowL}, setB b A L M → L.map (·.1) = M.map (·.1)
  | [], [], h => h.elim
  | [], _ :: _, h => h.elim
  | _ :: _, [], h => h.elim
  | x :: L, y :: M, h => by
    rcases h with ⟨h1, h2, rfl⟩ | ⟨rfl, h⟩
    · simp [h1, h2]
    · simp [setB_keys h]
theorem setB_in {b : Nat} {A : Array Value} : ∀ {L M : RowL}, setB b A L M → b ∈ L.map (·.1)
  | [], [], h => h.elim
  | [], _ :: _, h => h.elim
  | _ :: _, [], h => h.elim
  | x :: L, y :: M, h => by
    rcases h with ⟨h1, _⟩ | ⟨_, h⟩
    · simp [h1]
    · simp only [List.map_cons, List.mem_cons]; exact Or.inr (setB_in h)
theorem setB_mem {b : Nat} {A : Array Value} : ∀ {L M : RowL}, setB b A L M → L.Pairwise (fun x y => x.1 ≠ y.1) → ∀ y, y ∈ M → (∃ x, x ∈ L ∧ x.1 = b ∧ y = (b, A, x.2.2)) ∨ (y.1 ≠ b ∧ y ∈ L)
  | [], [], h, _, _, _ => h.elim
  | [], _ :: _, h, _, _, _ => h.elim
  | _ :: _, [], h, _, _, _ => h.elim
  | x :: L, z :: M, h, hp, y, hy => by
    rcases h with ⟨h1, h2, rfl⟩ | ⟨rfl, h⟩
    · rcases List.mem_cons.1 hy with rfl | hy
      · exact Or.inl ⟨x, List.mem_cons_self, h1, h2⟩
      · have := (List.pairwise_cons.1 hp).1 y hy
        exact Or.inr ⟨fun e => this (h1.trans e.symm), List.mem_cons_of_mem _ hy⟩
    · rcases List.mem_cons.1 hy with rfl | hy
      · by_cases e : y.1 = b
        · exfalso
          have : b ∈ L.map (·.1) := setB_in h
          obtain ⟨q, hq, hq2⟩ := List.mem_map.1 this
          exact (List.pairwise_cons.1 hp).1 q hq (e.trans hq2.symm)
        · exact Or.inr ⟨e, List.mem_cons_self⟩
      · rcases setB_mem h (List.pairwise_cons.1 hp).2 y hy with ⟨q, h3, h4, h5⟩ | ⟨h1, h2⟩
        · exact Or.inl ⟨q, List.mem_cons_of_mem _ h3, h4, h5⟩
        · exact Or.inr ⟨h1, List.mem_cons_of_mem _ h2⟩
theorem pw_keys {L M : RowL} (h : L.map (·.1) = M.map (·.1)) (hp : L.Pairwise fun x y => x.1 ≠ y.1) : M.Pairwise fun x y => x.1 ≠ y.1 := by
  have h1 : (L.map (·.1)).Pairwise (fun x y => x ≠ y) := List.pairwise_map.2 hp
  rw [h] at h1
  exact List.pairwise_map.1 h1
theorem Kn.put {M : List Nat} {w0 w : World} {L L' : RowL} {b o : Nat} {A : Array Value} {t : TypeId} (h : Kn M w0 w L) (hm : (b, A, t) ∈ L) (l : List Value) (hs : setB b (putA A o l) L L') : Kn M w0 (w.setCells b o l) L' := by
  refine ⟨h.mod.setCells (h.has _ hm).2 o l, fun y hy => ?_, pw_keys (setB_keys hs) h.dis⟩
  rcases setB_mem hs h.dis y hy with ⟨q, h3, h4, h5⟩ | ⟨h1, h2⟩
  · have hq := (h.has q h3).1
    have hr := (h.has _ hm).1
    unfold At at hq hr
    simp only at hr
    rw [h4, hr] at hq
    simp only [Option.some.injEq, Obj.cells.injEq] at hq
    rw [h5, ← hq.2.1]
    exact ⟨(h.has _ hm).1.setCells l o, (h.has _ hm).2⟩
  · exact ⟨(h.has y h2).1.of (setCells_heap h1 l w o), (h.has y h2).2⟩
/-- a type of rows of n cells; one of one cell -/
structure RowT (P : Program) (ty : TypeId) (n : Nat) : Prop where
  ex : ∃ d, P.underlying ty = some d ∧ d.isRow = true
  hi : (P.info? ty).map (·.size) = some n
structure OneT (P : Program) (ty : TypeId) : Prop where
  ex : ∃ d, P.underlying ty = some d ∧ d.isRow = false
  hi : (P.info? ty).map (·.size) = some 1
section laws
variable {P : Program} {d : Option Tmp} {tt : TypeId} {pos : String} {aft : Array Edge} {g : Option (Nat × Bool)} {a : Act} {w : World} {K : Act → World → Prop} {Q : Exit → Act → World → Prop} {M : List Nat} {w0 : World} {L L' : RowL} {ty : TypeId} {x y : Operand} {A A' cs : Array Value} {b j n : Nat} {t : TypeId} {v z : Value}
/-- a row into a new block -/
theorem oBox (hx : a.eval x = .agg A) (hk : Kn M w0 w L) (h : ∀ w1, Kn M w0 w1 ((w.heap.size, A, ty) :: L) → K (a.put d (.pointer (some ⟨w.heap.size, 0, none⟩))) w1) : Oper.wp P ⟨d, .box ty x, tt, pos, aft, g⟩ a w K Q := by
  have h1 := h (w.alloc (.cells A ty)) (hk.alloc A ty)
  unfold Oper.wp execOp
  simp only [hx, Instr.box, newVar, newRow, Value.cells, run_newObj_alloc, Sem.run_bind, Sem.run_pure, Result.andThen_ok]
  exact h1
theorem oBox1 (hx : a.eval x = v) (hv : v.cells = #[v]) (hk : Kn M w0 w L) (h : ∀ w1, Kn M w0 w1 ((w.heap.size, #[v], ty) :: L) → K (a.put d (.pointer (some ⟨w.heap.size, 0, none⟩))) w1) : Oper.wp P ⟨d, .box ty x, tt, pos, aft, g⟩ a w K Q := by
  have h1 := h (w.alloc (.cells #[v] ty)) (hk.alloc _ ty)
  unfold Oper.wp execOp
  simp only [hx, Instr.box, newVar, newRow, hv, run_newObj_alloc, Sem.run_bind, Sem.run_pure, Result.andThen_ok]
  exact h1
/-- a new variable, at its zero -/
theorem oAlloc (hz : (P.info? ty).map (·.zero) = some (some z)) (hA : z.cells = A) (hk : Kn M w0 w L) (h : ∀ w1, Kn M w0 w1 ((w.heap.size, A, ty) :: L) → K (a.put d (.pointer (some ⟨w.heap.size, 0, none⟩))) w1) : Oper.wp P ⟨d, .alloc ty, tt, pos, aft, g⟩ a w K Q := by
  have h1 := h (w.alloc (.cells A ty)) (hk.alloc A ty)
  cases hq : P.info? ty with
  | none => rw [hq] at hz; simp at hz
  | some i =>
    have hs : i.zero = some z := by simpa [hq] using hz
    unfold Oper.wp execOp
    simp only [Instr.alloc, zeroValue, typeInfo, newVar, newRow, hA, run_newObj_alloc, Sem.run_bind, Sem.run_pure, Result.andThen_ok, hq, hs, run_program]
    exact h1
/-- a new row, at its zero -/
theorem oAllocR (hz : (P.info? ty).map (·.zero) = some (some (.agg A))) (hk : Kn M w0 w L) (h : ∀ w1, Kn M w0 w1 ((w.heap.size, A, ty) :: L) → K (a.put d (.pointer (some ⟨w.heap.size, 0, none⟩))) w1) : Oper.wp P ⟨d, .alloc ty, tt, pos, aft, g⟩ a w K Q := oAlloc hz rfl hk h
/-- a row is made of parts -/
theorem oBuild {parts : Array (Nat × Operand)} {ps : List (Nat × Value)} (hps : (parts.toList.map fun (i, x) => (i, a.eval x)) = ps) (hb : (Instr.build ty ps.toArray).run P w = .ok v w) (h : K (a.put d v) w) : Oper.wp P ⟨d, .build ty parts, tt, pos, aft, g⟩ a w K Q := by
  unfold Oper.wp execOp
  have e : (parts.map fun (i, x) => (i, a.eval x)) = ps.toArray := by rw [← hps]; exact (Array.toList_inj.1 (by rw [Array.toList_map]))
  simp only [Sem.run_bind, Sem.run_pure, Result.andThen_ok, e, hb]
  exact h
theorem run_loadRange (hr : w.rangeAt b j cs.toList) (hT : RowT P ty n) (hn : cs.size = n) : (Instr.loadAt ty (.pointer (some ⟨b, j, none⟩))).run P w = .ok (.agg cs) w := by
  obtain ⟨dd, hu, hd⟩ := hT.ex
  have := run_loadAt_mid (P := P) w b j ty cs.toList dd hr hu hd (by rw [hT.hi, Array.length_toList, hn])
  simpa using this
theorem run_loadA (hat : At w b A t) (hT : RowT P ty n) (hc : A.extract j (j + n) = cs) (hn : cs.size = n) : (Instr.loadAt ty (.pointer (some ⟨b, j, none⟩))).run P w = .ok (.agg cs) w := by
  subst hc
  exact run_loadRange (hat.range j n) hT hn
theorem run_loadC (hc : w.cell? ⟨b, j, none⟩ = some v) (hT : OneT P ty) : (Instr.loadAt ty (.pointer (some ⟨b, j, none⟩))).run P w = .ok v w := by
  obtain ⟨dd, hu, hd⟩ := hT.ex
  have hagg : (isAgg ty).run P w = .ok false w := by
    unfold isAgg
    rw [Sem.run_bind, run_underlying hu w]
    cases dd <;> simp_all
  simp [Instr.loadAt, Instr.sureAddr, loadVar, Sem.run_bind, hagg, hc]
/-- a row is read -/
theorem oLoadR (hx : a.eval x = .pointer (some ⟨b, j, none⟩)) (hk : Kn M w0 w L) (hm : (b, A, t) ∈ L) (hT : RowT P ty n) (hc : A.extract j (j + n) = cs) (hn : cs.size = n) (h : K (a.put d (.agg cs)) w) : Oper.wp P ⟨d, .load ty x, tt, pos, aft, g⟩ a w K Q := by
  unfold Oper.wp execOp
  simp only [hx, Sem.run_bind, Sem.run_pure, Result.andThen_ok, run_loadA (hk.at hm) hT hc hn]
  exact h
/-- one cell is read -/
theorem oLoad1 (hx : a.eval x = .pointer (some ⟨b, j, none⟩)) (hk : Kn M w0 w L) (hm : (b, A, t) ∈ L) (hT : OneT P ty) (hv : A[j]? = some v) (h : K (a.put d v) w) : Oper.wp P ⟨d, .load ty x, tt, pos, aft, g⟩ a w K Q := by
  unfold Oper.wp execOp
  simp only [hx, Sem.run_bind, Sem.run_pure, Result.andThen_ok, run_loadC (by rw [(hk.at hm).cell]; exact hv) hT]
  exact h
/-- old cells are read -/
theorem oLoadOld1 (hx : a.eval x = .pointer (some ⟨b, j, none⟩)) (hk : Kn M w0 w L) (hc : w0.cell? ⟨b, j, none⟩ = some v) (hM : b ∉ M) (hT : OneT P ty) (h : K (a.put d v) w) : Oper.wp P ⟨d, .load ty x, tt, pos, aft, g⟩ a w K Q := by
  have hb := World.block_lt_of_cell? w0 _ hc
  have hc' : w.cell? ⟨b, j, none⟩ = some v := by
    rw [World.cell?_of_block (w := w0) (a := ⟨b, j, none⟩) (hk.mod.block b hb hM)]; exact hc
  unfold Oper.wp execOp
  simp only [hx, Sem.run_bind, Sem.run_pure, Result.andThen_ok, run_loadC hc' hT]
  exact h
theorem oLoadOldR (hx : a.eval x = .pointer (some ⟨b, j, none⟩)) (hk : Kn M w0 w L) (hc : w0.rangeAt b j cs.toList) (hb : b < w0.heap.size) (hM : b ∉ M) (hT : RowT P ty n) (hn : cs.size = n) (h : K (a.put d (.agg cs)) w) : Oper.wp P ⟨d, .load ty x, tt, pos, aft, g⟩ a w K Q := by
  have hc' : w.rangeAt b j cs.toList := fun i u hu => by
    rw [World.cell?_of_block (w := w0) (a := ⟨b, j + i, none⟩) (hk.mod.block b hb hM)]; exact hc i u hu
  unfold Oper.wp execOp
  simp only [hx, Sem.run_bind, Sem.run_pure, Result.andThen_ok, run_loadRange hc' hT hn]
  exact h
/-- a row is written -/
theorem oStoreR (hx : a.eval x = .pointer (some ⟨b, j, none⟩)) (hy : a.eval y = .agg cs) (hk : Kn M w0 w L) (hm : (b, A, t) ∈ L) (hT : RowT P ty n) (hn : cs.size = n) (hj : j + n ≤ A.size) (h1 : cs.toList.all (·.oneCell') = true) (hA : putA A j cs.toList = A') (hs : setB b A' L L')
    (h : ∀ w1, Kn M w0 w1 L' → K (a.put d undef) w1) : Oper.wp P ⟨d, .store ty x y, tt, pos, aft, g⟩ a w K Q := by
  subst hA
  have h2 := h (w.setCells b j cs.toList) (hk.put hm cs.toList hs)
  have hat := hk.at hm
  have ht : w.there b j cs.size := fun k hk => ⟨by rw [hat.cell, Array.getElem?_eq_getElem (by omega)]; rfl, hat.free _⟩
  exact wp_store_mid ty x y rfl b j cs hx hy ht (by rw [hT.hi, hn]) (by rw [← Array.all_toList]; exact h1) h2
/-- one cell is written -/
theorem oStore1 (hx : a.eval x = .pointer (some ⟨b, j, none⟩)) (hy : a.eval y = v) (hk : Kn M w0 w L) (hm : (b, A, t) ∈ L) (hT : OneT P ty) (hv : v.cells = #[v]) (hj : j + 1 ≤ A.size) (h1 : v.oneCell' = true) (hA : A.setIfInBounds j v = A') (hs : setB b A' L L')
    (h : ∀ w1, Kn M w0 w1 L' → K (a.put d undef) w1) : Oper.wp P ⟨d, .store ty x y, tt, pos, aft, g⟩ a w K Q := by
  subst hA
  have h2 := h (w.setCells b j [v]) (hk.put hm [v] hs)
  have hat := hk.at hm
  have hst : (store ⟨b, j, none⟩ v).run P w = .ok () (w.setCell ⟨b, j, none⟩ v) := by
    have hc : (w.cell? ⟨b, j, none⟩).isSome = true := by rw [hat.cell, Array.getElem?_eq_getElem (by omega)]; rfl
    have := run_storeCells_cells (P := P) b j [v] 0 w (fun k hk => by simp at hk; subst hk; simpa using hc) (fun k hk => hat.free _) (fun u hu => by simp at hu; subst hu; exact h1)
    have e0 : (⟨b, j, none⟩ : Addr).add 0 = ⟨b, j, none⟩ := by rw [Addr.add_mid]; rfl
    simpa [storeCells, World.setCells, e0] using this
  have hi := hT.hi
  cases hq : P.info? ty with
  | none => simp [hq] at hi
  | some i =>
    have hs1 : i.size = 1 := by simpa [hq] using hi
    have e0 : (⟨b, j, none⟩ : Addr).add 0 = ⟨b, j, none⟩ := by rw [Addr.add_mid]; rfl
    unfold Oper.wp execOp
    simp only [hx, hy, Instr.storeAt, Instr.sureAddr, storeVar, sizeOf, typeInfo, hq, hv, hs1, storeCells, e0, Sem.run_bind, Sem.run_pure, Result.andThen_ok, run_program]
    simp only [ne_eq, not_true_eq_false, Array.size_singleton, if_false, Sem.run_bind, hst, Result.andThen_ok, Sem.run_pure]
    exact h2
end laws
/-- the first operation of a list -/
theorem wl1 {P : Program} {ops : Array Oper} {Q : Exit → Act → World → Prop} {a : Act} {w : World} {rest : List Oper} {o : Oper} (hw : Region.wanted o (yielded ops a.tmps) = true) (h : o.wp P a w (wpList P ops Q rest) Q) : wpList P ops Q (o :: rest) a w := by
  unfold wpList; rw [if_pos hw]; exact Or.inl h
/-- results that lie in memory -/
theorem run_resA {P : Program} {w : World} {b : Nat} {A : Array Value} {t ty : TypeId} {n : Nat} (hat : At w b A t) (hT : RowT P ty n) (hn : A.size = n) : (loadVar ty ⟨b, 0, none⟩).run P w = .ok (.agg A) w := by
  obtain ⟨dd, hu, hd⟩ := hT.ex
  have hr := hat.range 0 n
  have e : A.extract 0 (0 + n) = A := by rw [Nat.zero_add, ← hn]; exact Array.extract_size
  rw [e] at hr
  have := run_loadVar_mid (P := P) w b 0 ty A.toList dd hr hu hd (by rw [hT.hi, Array.length_toList, hn])
  simpa using this
theorem post_1 {P : Program} {fn : Func} {R : Ending → World → Prop} {a : Act} {w : World} {s b n : Nat} {ty t : TypeId} {A : Array Value} (hf : fn.results = #[.cell s ty]) (hs : a.tmps.getD s undef = .pointer (some ⟨b, 0, none⟩)) (hat : At w b A t) (hT : RowT P ty n) (hn : A.size = n) (hd : a.defers = []) (hR : R (.returned (.agg A)) w) : bodyPost P fn R .ret a w := by
  refine bodyPost_ret (v := .agg A) ?_ hd hR
  rw [Array.getD_eq_getD_getElem?] at hs
  simp [results, hf, hs, asAddr, run_resA hat hT hn]
theorem post_2 {P : Program} {fn : Func} {R : Ending → World → Prop} {a : Act} {w : World} {s b n s' b' n' : Nat} {ty t ty' t' : TypeId} {A A' : Array Value} (hf : fn.results = #[.cell s ty, .cell s' ty']) (hs : a.tmps.getD s undef = .pointer (some ⟨b, 0, none⟩)) (hat : At w b A t) (hT : RowT P ty n) (hn : A.size = n)
    (hs' : a.tmps.getD s' undef = .pointer (some ⟨b', 0, none⟩)) (hat' : At w b' A' t') (hT' : RowT P ty' n') (hn' : A'.size = n') (hd : a.defers = []) (hR : R (.returned (.tuple #[.agg A, .agg A'])) w) : bodyPost P fn R .ret a w := by
  refine bodyPost_ret (v := .tuple #[.agg A, .agg A']) ?_ hd hR
  rw [Array.getD_eq_getD_getElem?] at hs hs'
  simp [results, hf, hs, hs', asAddr, run_resA hat hT hn, run_resA hat' hT' hn']
end Go.Proofs.YtamiichlbmllcaaGreatDoor
