/-
  A run, as a function: what an instruction does to the registers and words, and how a run ends.
-/
import Derived.Test.YtamiichlbmllcaaGreatDoorLent
import Derived.Test.YtamiichlbmllcaaGreatDoorPrg
namespace Go.Proofs.YtamiichlbmllcaaGreatDoor
open Go.RowKit
/-- registers, words, where it stands, how many instructions were done -/
structure MS where
  r : Nat → Int
  m : Nat → Int
  pc : Nat
  n : Nat
def upd (f : Nat → Int) (a : Nat) (v : Int) : Nat → Int := fun j => if j = a then v else f j
theorem upd_at (f : Nat → Int) (a j : Nat) (v : Int) : upd f a v j = if j = a then v else f j := rfl
/-- kind, place, value, steps -/
structure O4 where
  kind : Int
  place : Int
  value : Int
  steps : Int
def O4.zero : O4 := ⟨0, 0, 0, 0⟩
def O4.val (o : O4) : Value := .agg #[.int .i64 o.kind, .int .i64 o.place, .int .i64 o.value, .int .i64 o.steps]
/-- what an instruction does, the machine standing at the next one: the kind of its end (0: none) and the state -/
def doI (i : I5) (s : MS) : Int × MS :=
  if i.o = 1 then (0, { s with r := upd s.r i.a.toNat i.k })
  else if i.o = 2 then (0, { s with r := upd s.r i.a.toNat (s.r i.b.toNat) })
  else if i.o = 3 then (0, { s with r := upd s.r i.a.toNat (wrap64 (s.r i.b.toNat + s.r i.c.toNat)) })
  else if i.o = 4 then (0, { s with r := upd s.r i.a.toNat (wrap64 (s.r i.b.toNat - s.r i.c.toNat)) })
  else if i.o = 5 then (0, { s with r := upd s.r i.a.toNat (wrap64 (s.r i.b.toNat * s.r i.c.toNat)) })
  else if i.o = 6 then (if s.r i.c.toNat = 0 then (3, s) else (0, { s with r := upd s.r i.a.toNat (wrap64 ((s.r i.b.toNat).tdiv (s.r i.c.toNat))) }))
  else if i.o = 7 then (if 0 ≤ s.r i.b.toNat ∧ s.r i.b.toNat < 16 then (0, { s with r := upd s.r i.a.toNat (s.m (s.r i.b.toNat).toNat) }) else (4, s))
  else if i.o = 8 then (if 0 ≤ s.r i.a.toNat ∧ s.r i.a.toNat < 16 then (0, { s with m := upd s.m (s.r i.a.toNat).toNat (s.r i.b.toNat) }) else (4, s))
  else if i.o = 9 then (0, { s with pc := i.k.toNat })
  else if i.o = 10 then (0, if s.r i.a.toNat < s.r i.b.toNat then { s with pc := i.k.toNat } else s)
  else if i.o = 11 then (0, if s.r i.a.toNat = s.r i.b.toNat then { s with pc := i.k.toNat } else s)
  else (1, s)
/-- one cell of a machine -/
def mcell (pv : Value) (s : MS) (F : Int) (o : O4) (j : Nat) : Value :=
  if j = 0 then pv else if j < 9 then .int .i64 (s.r (j - 1)) else if j < 25 then .int .i64 (s.m (j - 9)) else if j = 25 then .int .i64 s.pc else if j = 26 then .int .i64 s.n else if j = 27 then .int .i64 F
  else if j = 28 then .int .i64 o.kind else if j = 29 then .int .i64 o.place else if j = 30 then .int .i64 o.value else .int .i64 o.steps
def MRow (w : World) (g : Nat) (pv : Value) (s : MS) (F : Int) (o : O4) : Prop := RowF w g 130 32 (mcell pv s F o)
theorem MRow.reg {w : World} {g : Nat} {pv : Value} {s : MS} {F : Int} {o : O4} (h : MRow w g pv s F o) (a : Nat) (ha : a < 8) : w.cell? ⟨g, 1 + a, none⟩ = some (.int .i64 (s.r a)) ∧ w.frozen? ⟨g, 1 + a, none⟩ = false := by
  have := h.cell (1 + a) (by omega)
  unfold mcell at this
  rw [if_neg (by omega), if_pos (by omega), show 1 + a - 1 = a by omega] at this
  exact this
theorem MRow.word {w : World} {g : Nat} {pv : Value} {s : MS} {F : Int} {o : O4} (h : MRow w g pv s F o) (a : Nat) (ha : a < 16) : w.cell? ⟨g, 9 + a, none⟩ = some (.int .i64 (s.m a)) ∧ w.frozen? ⟨g, 9 + a, none⟩ = false := by
  have := h.cell (9 + a) (by omega)
  unfold mcell at this
  rw [if_neg (by omega), if_neg (by omega), if_pos (by omega), show 9 + a - 9 = a by omega] at this
  exact this
theorem MRow.fields {w : World} {g : Nat} {pv : Value} {s : MS} {F : Int} {o : O4} (h : MRow w g pv s F o) : w.cell? ⟨g, 0, none⟩ = some pv ∧ w.cell? ⟨g, 25, none⟩ = some (.int .i64 s.pc) ∧ w.cell? ⟨g, 26, none⟩ = some (.int .i64 s.n) ∧ w.cell? ⟨g, 27, none⟩ = some (.int .i64 F) ∧
    w.cell? ⟨g, 28, none⟩ = some (.int .i64 o.kind) ∧ w.cell? ⟨g, 29, none⟩ = some (.int .i64 o.place) ∧ w.cell? ⟨g, 30, none⟩ = some (.int .i64 o.value) ∧ w.cell? ⟨g, 31, none⟩ = some (.int .i64 o.steps) :=
  ⟨(h.cell 0 (by omega)).1, (h.cell 25 (by omega)).1, (h.cell 26 (by omega)).1, (h.cell 27 (by omega)).1, (h.cell 28 (by omega)).1, (h.cell 29 (by omega)).1, (h.cell 30 (by omega)).1, (h.cell 31 (by omega)).1⟩
theorem MRow.free {w : World} {g : Nat} {pv : Value} {s : MS} {F : Int} {o : O4} (h : MRow w g pv s F o) (j : Nat) : w.frozen? ⟨g, j, none⟩ = false := by
  obtain ⟨A, h1, _⟩ := h
  simp [World.frozen?, h1]
theorem MRow.setReg {w : World} {g : Nat} {pv : Value} {s : MS} {F : Int} {o : O4} (h : MRow w g pv s F o) (a : Nat) (ha : a < 8) (v : Int) : MRow (w.setCell ⟨g, 1 + a, none⟩ (.int .i64 v)) g pv { s with r := upd s.r a v } F o := by
  refine (RowF.set h (1 + a) (.int .i64 v)).congr fun j hj => ?_
  unfold mcell upd
  simp only
  by_cases h0 : j = 1 + a
  · subst h0
    rw [if_pos rfl, if_neg (by omega), if_pos (by omega), if_pos (by omega)]
  · rw [if_neg h0]
    by_cases h1 : j = 0
    · rw [if_pos h1, if_pos h1]
    · rw [if_neg h1, if_neg h1]
      by_cases h2 : j < 9
      · rw [if_pos h2, if_pos h2, if_neg (by omega)]
      · rw [if_neg h2, if_neg h2]
theorem MRow.setWord {w : World} {g : Nat} {pv : Value} {s : MS} {F : Int} {o : O4} (h : MRow w g pv s F o) (a : Nat) (ha : a < 16) (v : Int) : MRow (w.setCell ⟨g, 9 + a, none⟩ (.int .i64 v)) g pv { s with m := upd s.m a v } F o := by
  refine (RowF.set h (9 + a) (.int .i64 v)).congr fun j hj => ?_
  unfold mcell upd
  simp only
  by_cases h0 : j = 9 + a
  · subst h0
    rw [if_pos rfl, if_neg (by omega), if_neg (by omega), if_pos (by omega), if_pos (by omega)]
  · rw [if_neg h0]
    by_cases h1 : j = 0
    · rw [if_pos h1, if_pos h1]
    · rw [if_neg h1, if_neg h1]
      by_cases h2 : j < 9
      · rw [if_pos h2, if_pos h2]
      · rw [if_neg h2, if_neg h2]
        by_cases h3 : j < 25
        · rw [if_pos h3, if_pos h3, if_neg (by omega)]
        · rw [if_neg h3, if_neg h3]
theorem MRow.setTail {w : World} {g : Nat} {pv : Value} {s : MS} {F : Int} {o : O4} (h : MRow w g pv s F o) (j0 : Nat) (hj0 : 25 ≤ j0) (u : Value) (s' : MS) (F' : Int) (o' : O4) (hr : s'.r = s.r) (hm : s'.m = s.m)
    (h2 : ∀ j, 25 ≤ j → j < 32 → j ≠ j0 → mcell pv s' F' o' j = mcell pv s F o j) (h3 : mcell pv s' F' o' j0 = u) : MRow (w.setCell ⟨g, j0, none⟩ u) g pv s' F' o' := by
  refine (RowF.set h j0 u).congr fun j hj => ?_
  by_cases h0 : j = j0
  · subst h0; rw [if_pos rfl, h3]
  · rw [if_neg h0]
    by_cases h1 : 25 ≤ j
    · exact (h2 j h1 hj h0).symm
    · unfold mcell
      rw [hr, hm]
      by_cases h4 : j = 0
      · rw [if_pos h4, if_pos h4]
      · rw [if_neg h4, if_neg h4]
        by_cases h5 : j < 9
        · rw [if_pos h5, if_pos h5]
        · rw [if_neg h5, if_neg h5, if_pos (by omega), if_pos (by omega)]
theorem tail_cases {j : Nat} (h : 25 ≤ j) (h2 : j < 32) : j = 25 ∨ j = 26 ∨ j = 27 ∨ j = 28 ∨ j = 29 ∨ j = 30 ∨ j = 31 := by omega
theorem MRow.setPc {w : World} {g : Nat} {pv : Value} {s : MS} {F : Int} {o : O4} (h : MRow w g pv s F o) (p : Nat) : MRow (w.setCell ⟨g, 25, none⟩ (.int .i64 p)) g pv { s with pc := p } F o :=
  h.setTail 25 (by omega) _ _ _ _ rfl rfl (fun j h1 h2 h3 => by rcases tail_cases h1 h2 with rfl | rfl | rfl | rfl | rfl | rfl | rfl <;> first | rfl | exact absurd rfl h3) rfl
theorem MRow.setN {w : World} {g : Nat} {pv : Value} {s : MS} {F : Int} {o : O4} (h : MRow w g pv s F o) (p : Nat) : MRow (w.setCell ⟨g, 26, none⟩ (.int .i64 p)) g pv { s with n := p } F o :=
  h.setTail 26 (by omega) _ _ _ _ rfl rfl (fun j h1 h2 h3 => by rcases tail_cases h1 h2 with rfl | rfl | rfl | rfl | rfl | rfl | rfl <;> first | rfl | exact absurd rfl h3) rfl
theorem MRow.setKind {w : World} {g : Nat} {pv : Value} {s : MS} {F : Int} {o : O4} (h : MRow w g pv s F o) (p : Int) : MRow (w.setCell ⟨g, 28, none⟩ (.int .i64 p)) g pv s F { o with kind := p } :=
  h.setTail 28 (by omega) _ _ _ _ rfl rfl (fun j h1 h2 h3 => by rcases tail_cases h1 h2 with rfl | rfl | rfl | rfl | rfl | rfl | rfl <;> first | rfl | exact absurd rfl h3) rfl
theorem MRow.setPlace {w : World} {g : Nat} {pv : Value} {s : MS} {F : Int} {o : O4} (h : MRow w g pv s F o) (p : Int) : MRow (w.setCell ⟨g, 29, none⟩ (.int .i64 p)) g pv s F { o with place := p } :=
  h.setTail 29 (by omega) _ _ _ _ rfl rfl (fun j h1 h2 h3 => by rcases tail_cases h1 h2 with rfl | rfl | rfl | rfl | rfl | rfl | rfl <;> first | rfl | exact absurd rfl h3) rfl
theorem MRow.setValue {w : World} {g : Nat} {pv : Value} {s : MS} {F : Int} {o : O4} (h : MRow w g pv s F o) (p : Int) : MRow (w.setCell ⟨g, 30, none⟩ (.int .i64 p)) g pv s F { o with value := p } :=
  h.setTail 30 (by omega) _ _ _ _ rfl rfl (fun j h1 h2 h3 => by rcases tail_cases h1 h2 with rfl | rfl | rfl | rfl | rfl | rfl | rfl <;> first | rfl | exact absurd rfl h3) rfl
theorem MRow.setSteps {w : World} {g : Nat} {pv : Value} {s : MS} {F : Int} {o : O4} (h : MRow w g pv s F o) (p : Int) : MRow (w.setCell ⟨g, 31, none⟩ (.int .i64 p)) g pv s F { o with steps := p } :=
  h.setTail 31 (by omega) _ _ _ _ rfl rfl (fun j h1 h2 h3 => by rcases tail_cases h1 h2 with rfl | rfl | rfl | rfl | rfl | rfl | rfl <;> first | rfl | exact absurd rfl h3) rfl
theorem MRow.bel {w w' : World} {g : Nat} {pv : Value} {s : MS} {F : Int} {o : O4} (h : MRow w g pv s F o) (hb : Below w.heap.size w w') : MRow w' g pv s F o := RowF.block h (hb.block g (RowF.lt h))
end Go.Proofs.YtamiichlbmllcaaGreatDoor
