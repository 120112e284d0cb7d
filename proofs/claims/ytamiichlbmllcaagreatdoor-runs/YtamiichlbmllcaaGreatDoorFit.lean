/-
  Programs whose every instruction may stand there; where their instructions lie.
-/
import Derived.Test.YtamiichlbmllcaaGreatDoorLent
import Derived.Test.YtamiichlbmllcaaGreatDoorPrg
namespace Go.Proofs.YtamiichlbmllcaaGreatDoor
open Go.RowKit
def inR (a : Int) : Prop := 0 ≤ a ∧ a < 8
theorem fit_cases {i : I5} {n : Nat} (h : i.fits n = true) :
    (i.o = 0) ∨ (i.o = 1 ∧ inR i.a) ∨ (i.o = 2 ∧ inR i.a ∧ inR i.b) ∨ (i.o = 3 ∧ inR i.a ∧ inR i.b ∧ inR i.c) ∨ (i.o = 4 ∧ inR i.a ∧ inR i.b ∧ inR i.c) ∨ (i.o = 5 ∧ inR i.a ∧ inR i.b ∧ inR i.c) ∨ (i.o = 6 ∧ inR i.a ∧ inR i.b ∧ inR i.c) ∨
    (i.o = 7 ∧ inR i.a ∧ inR i.b) ∨ (i.o = 8 ∧ inR i.a ∧ inR i.b) ∨ (i.o = 9 ∧ 0 ≤ i.k ∧ i.k < n) ∨ (i.o = 10 ∧ inR i.a ∧ inR i.b ∧ 0 ≤ i.k ∧ i.k < n) ∨ (i.o = 11 ∧ inR i.a ∧ inR i.b ∧ 0 ≤ i.k ∧ i.k < n) := by
  obtain ⟨o, a, b, c, k⟩ := i
  unfold I5.fits fitsB at h
  simp only [Bool.and_eq_true, decide_eq_true_eq] at h
  obtain ⟨⟨⟨⟨⟨h0, h1⟩, ha⟩, hb⟩, hc⟩, hk⟩ := h
  have : o = 0 ∨ o = 1 ∨ o = 2 ∨ o = 3 ∨ o = 4 ∨ o = 5 ∨ o = 6 ∨ o = 7 ∨ o = 8 ∨ o = 9 ∨ o = 10 ∨ o = 11 := by omega
  unfold inR
  rcases this with rfl | rfl | rfl | rfl | rfl | rfl | rfl | rfl | rfl | rfl | rfl | rfl <;> simp [regOk, kOk, nregs, kbytes] at ha hb hc hk ⊢ <;> omega
theorem inR.nat {a : Int} (h : inR a) : ∃ n : Nat, n < 8 ∧ a = n := ⟨a.toNat, by have := h.1; have := h.2; omega, by have := h.1; omega⟩
def insAt (p : List I5) (pc : Nat) : I5 := (p[pc]?).getD ⟨0, 0, 0, 0, 0⟩
theorem insAt_get {p : List I5} {pc : Nat} (h : pc < p.length) : insAt p pc = p[pc] := by unfold insAt; rw [List.getElem?_eq_getElem h]; rfl
/-- a program's instructions lie in block pb -/
def ProgAt (w : World) (pb : Nat) (vf : I5 → Value) (l : List I5) : Prop := pb < w.heap.size ∧ ∀ pc, pc < l.length → w.cell? ⟨pb, pc, none⟩ = some (vf (insAt l pc))
theorem ProgAt.bel {w w' : World} {pb B : Nat} {vf : I5 → Value} {l : List I5} (h : ProgAt w pb vf l) (hb : Below B w w') (hB : pb < B) : ProgAt w' pb vf l :=
  ⟨Nat.lt_of_lt_of_le h.1 hb.size, fun pc hpc => by rw [hb.cell (p := ⟨pb, pc, none⟩) hB]; exact h.2 pc hpc⟩
theorem ProgAt.but {w w' : World} {pb g : Nat} {vf : I5 → Value} {l : List I5} (h : ProgAt w pb vf l) (hb : But g w w') (hne : pb ≠ g) : ProgAt w' pb vf l :=
  ⟨Nat.lt_of_lt_of_le h.1 hb.size, fun pc hpc => by rw [World.cell?_of_block (w := w) (a := ⟨pb, pc, none⟩) (hb.block pb h.1 hne)]; exact h.2 pc hpc⟩
/-- every instruction may stand there -/
def AllFit (p : List I5) : Prop := 0 < p.length ∧ p.length ≤ 64 ∧ ∀ i (h : i < p.length), p[i].fits p.length = true
theorem AllFit.k {p : List I5} (h : AllFit p) {pc : Nat} (hpc : pc < p.length) (h9 : 9 ≤ (insAt p pc).o) : 0 ≤ (insAt p pc).k ∧ (insAt p pc).k.toNat < p.length := by
  rw [insAt_get hpc] at *
  rcases fit_cases (h.2.2 pc hpc) with h | ⟨h, _⟩ | ⟨h, _⟩ | ⟨h, _⟩ | ⟨h, _⟩ | ⟨h, _⟩ | ⟨h, _⟩ | ⟨h, _⟩ | ⟨h, _⟩ | ⟨_, h⟩ | ⟨_, _, _, h⟩ | ⟨_, _, _, h⟩
  all_goals omega
end Go.Proofs.YtamiichlbmllcaaGreatDoor
