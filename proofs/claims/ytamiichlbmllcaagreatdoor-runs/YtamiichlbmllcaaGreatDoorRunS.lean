/-
  A whole run, as a function, and what is come to.
-/
import Derived.Test.YtamiichlbmllcaaGreatDoorStart
namespace Go.Proofs.YtamiichlbmllcaaGreatDoor
open Go.RowKit
/-- what is come to: where, and the registers -/
structure V9 where
  pc : Nat
  r : Nat → Int
/-- what the instruction at which it stands does -/
def doAt (p : List I5) (s : MS) : Int × MS := doI (insAt p s.pc) (nxt s)
/-- a run with so much fuel left: what is come to, and the outcome -/
def runR (p : List I5) : Nat → MS → List V9 × O4
  | 0, s => if s.pc = p.length then ([], endO 5 s.pc s) else ([], endO 2 s.pc s)
  | k + 1, s => if s.pc = p.length then ([], endO 5 s.pc s) else
    if (doAt p s).1 = 0 then (⟨s.pc, s.r⟩ :: (runR p k (doAt p s).2).1, (runR p k (doAt p s).2).2) else ([⟨s.pc, s.r⟩], endO (doAt p s).1 s.pc (doAt p s).2)
theorem runR_end {p : List I5} {k : Nat} {s : MS} (h : s.pc = p.length) : runR p k s = ([], endO 5 s.pc s) := by
  cases k <;> unfold runR <;> rw [if_pos h]
theorem runR_fuel {p : List I5} {s : MS} (h : s.pc ≠ p.length) : runR p 0 s = ([], endO 2 s.pc s) := by
  unfold runR; rw [if_neg h]
theorem runR_go {p : List I5} {k : Nat} {s : MS} (h : s.pc ≠ p.length) (hd : (doAt p s).1 = 0) : runR p (k + 1) s = (⟨s.pc, s.r⟩ :: (runR p k (doAt p s).2).1, (runR p k (doAt p s).2).2) := by
  rw [runR, if_neg h, if_pos hd]
theorem runR_stop {p : List I5} {k : Nat} {s : MS} (h : s.pc ≠ p.length) (hd : (doAt p s).1 ≠ 0) : runR p (k + 1) s = ([⟨s.pc, s.r⟩], endO (doAt p s).1 s.pc (doAt p s).2) := by
  rw [runR, if_neg h, if_neg hd]
theorem doI_n (i : I5) (s : MS) : (doI i s).2.n = s.n := by
  unfold doI
  by_cases h1 : i.o = 1
  · rw [if_pos h1]
  rw [if_neg h1]
  by_cases h1 : i.o = 2
  · rw [if_pos h1]
  rw [if_neg h1]
  by_cases h1 : i.o = 3
  · rw [if_pos h1]
  rw [if_neg h1]
  by_cases h1 : i.o = 4
  · rw [if_pos h1]
  rw [if_neg h1]
  by_cases h1 : i.o = 5
  · rw [if_pos h1]
  rw [if_neg h1]
  by_cases h1 : i.o = 6
  · rw [if_pos h1]; split <;> rfl
  rw [if_neg h1]
  by_cases h1 : i.o = 7
  · rw [if_pos h1]; split <;> rfl
  rw [if_neg h1]
  by_cases h1 : i.o = 8
  · rw [if_pos h1]; split <;> rfl
  rw [if_neg h1]
  by_cases h1 : i.o = 9
  · rw [if_pos h1]
  rw [if_neg h1]
  by_cases h1 : i.o = 10
  · rw [if_pos h1]; simp only; split <;> rfl
  rw [if_neg h1]
  by_cases h1 : i.o = 11
  · rw [if_pos h1]; simp only; split <;> rfl
  rw [if_neg h1]
theorem doI_pc (i : I5) (s : MS) {N : Nat} (hs : s.pc ≤ N) (hk : 9 ≤ i.o → i.k.toNat ≤ N) : (doI i s).2.pc ≤ N := by
  unfold doI
  by_cases h1 : i.o = 1
  · rw [if_pos h1]; exact hs
  rw [if_neg h1]
  by_cases h1 : i.o = 2
  · rw [if_pos h1]; exact hs
  rw [if_neg h1]
  by_cases h1 : i.o = 3
  · rw [if_pos h1]; exact hs
  rw [if_neg h1]
  by_cases h1 : i.o = 4
  · rw [if_pos h1]; exact hs
  rw [if_neg h1]
  by_cases h1 : i.o = 5
  · rw [if_pos h1]; exact hs
  rw [if_neg h1]
  by_cases h1 : i.o = 6
  · rw [if_pos h1]; split <;> exact hs
  rw [if_neg h1]
  by_cases h1 : i.o = 7
  · rw [if_pos h1]; split <;> exact hs
  rw [if_neg h1]
  by_cases h1 : i.o = 8
  · rw [if_pos h1]; split <;> exact hs
  rw [if_neg h1]
  by_cases h1 : i.o = 9
  · rw [if_pos h1]; exact hk (by omega)
  rw [if_neg h1]
  by_cases h1 : i.o = 10
  · rw [if_pos h1]; simp only; split; exact hk (by omega); exact hs
  rw [if_neg h1]
  by_cases h1 : i.o = 11
  · rw [if_pos h1]; simp only; split; exact hk (by omega); exact hs
  rw [if_neg h1]; exact hs
theorem doAt_pc {p : List I5} (h : AllFit p) {s : MS} (hpc : s.pc < p.length) : (doAt p s).2.pc ≤ p.length :=
  doI_pc _ _ (show s.pc + 1 ≤ p.length by omega) (fun h9 => by have := (h.k hpc h9).2; omega)
theorem doAt_n {p : List I5} {s : MS} : (doAt p s).2.n = s.n + 1 := doI_n _ _
/-- the outcome of a run -/
def runO (p : List I5) (r : Nat → Int) (f : Int) : O4 := (runR p (fuelI f).toNat (startS r)).2
/-- the first hundred that are come to -/
def runV (p : List I5) (r : Nat → Int) (f : Int) : List V9 := (runR p (fuelI f).toNat (startS r)).1.take 100
theorem fuelI_bd (f : Int) : 0 ≤ fuelI f ∧ fuelI f ≤ 10000 := by unfold fuelI; omega
theorem OwnP.cell {w : World} {B b n c : Nat} {l : List I5} (h : OwnP w B (.slice (some ⟨b, 0, none⟩) n c) l) (pc : Nat) (hpc : pc < l.length) : w.cell? ⟨b, pc, none⟩ = some (iVal (insAt l pc)) := by
  have := World.ownsRow.cells h rfl pc (iVal (insAt l pc)) (by rw [List.getElem?_map, List.getElem?_eq_getElem hpc, insAt_get hpc]; rfl)
  have hadd : (⟨b, 0, none⟩ : Addr).add pc = ⟨b, pc, none⟩ := by unfold Addr.add; split <;> simp_all
  rw [hadd] at this
  exact this
theorem OwnP.but {w w' : World} {B b n c g : Nat} {l : List I5} (h : OwnP w B (.slice (some ⟨b, 0, none⟩) n c) l) (hb : But g w w') (hne : b ≠ g) : OwnP w' B (.slice (some ⟨b, 0, none⟩) n c) l := by
  refine ⟨h.1, ?_⟩
  rcases h.2 with h2 | ⟨g2, cap, cur, h3, h4, hh, r⟩
  · exact Or.inl h2
  · simp only [Value.slice.injEq, Option.some.injEq, Addr.mk.injEq, and_true] at h3
    obtain ⟨rfl, rfl, rfl⟩ := h3
    exact Or.inr ⟨b, c, cur, rfl, h4, by rw [hb.block b (lt_of_block hh) hne]; exact hh, r⟩
end Go.Proofs.YtamiichlbmllcaaGreatDoor
