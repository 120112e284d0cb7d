/-
  What a raw program becomes: the definitions.
-/
import Derived.Test.YtamiichlbmllcaaGreatDoorDec
namespace Go.Proofs.YtamiichlbmllcaaGreatDoor
open Go.RowKit
/-- within int's range -/
def I64 (x : Int) : Prop := -9223372036854775808 ≤ x ∧ x < 9223372036854775808
def pickI (c n : Int) : Int := if c < 0 then -(c + 1) % n else c % n
theorem pickI_bd (c n : Int) (hn : 0 < n) : 0 ≤ pickI c n ∧ pickI c n < n := by
  unfold pickI; split
  · exact ⟨Int.emod_nonneg _ (by omega), Int.emod_lt_of_pos _ hn⟩
  · exact ⟨Int.emod_nonneg _ (by omega), Int.emod_lt_of_pos _ hn⟩
def I5.in64 (i : I5) : Prop := I64 i.o ∧ I64 i.a ∧ I64 i.b ∧ I64 i.c ∧ I64 i.k
def mkI (n : Nat) (r : I5) : I5 :=
  let o := pickI r.o 12
  ⟨o, if o ≠ 0 ∧ o ≠ 9 then pickI r.a 8 else 0, if 2 ≤ o ∧ o ≠ 9 then pickI r.b 8 else 0, if 3 ≤ o ∧ o ≤ 6 then pickI r.c 8 else 0, if o = 1 then r.k else if 9 ≤ o then pickI r.k (n + 1) else 0⟩
def I5.zero : I5 := ⟨0, 0, 0, 0, 0⟩
def progL (l : List I5) : List I5 := (l.take 63).map (mkI (min l.length 63)) ++ [I5.zero]
theorem map_take_succ {f : I5 → I5} (l : List I5) (n : Nat) (h : n < l.length) : (l.take (n + 1)).map f = (l.take n).map f ++ [f l[n]] := by
  rw [List.take_succ_eq_append_getElem h, List.map_append]; rfl
/-- the tests of the round, by the op -/
structure OpIs (o : Int) (n0 n9 g2 g3 l6 e1 g9 : Bool) : Prop where
  a : (o != 0) = n0
  b : (o != 9) = n9
  c : decide (2 ≤ o) = g2
  d : decide (3 ≤ o) = g3
  e : decide (o ≤ 6) = l6
  f : (o == 1) = e1
  g : decide (9 ≤ o) = g9
theorem op_is (o : Int) (h0 : 0 ≤ o) (h1 : o < 12) : o = 0 ∨ o = 1 ∨ o = 2 ∨ (3 ≤ o ∧ o ≤ 6) ∨ (7 ≤ o ∧ o ≤ 8) ∨ o = 9 ∨ (10 ≤ o ∧ o ≤ 11) := by omega
end Go.Proofs.YtamiichlbmllcaaGreatDoor
