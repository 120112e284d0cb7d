/-
  The contracts of code.Right and surety.Right: for every slice of instructions the error and the place.
-/
import Derived.Test.YtamiichlbmllcaaDoorLeaf
namespace Go.Proofs.YtamiichlbmllcaaDoor
open Go.RowKit
structure I5 where
  o : Int
  a : Int
  b : Int
  c : Int
  k : Int
def I5.val (i : I5) : Value := .agg #[.int .i64 i.o, .int .i64 i.a, .int .i64 i.b, .int .i64 i.c, .int .i64 i.k]
def I5.fits (i : I5) (n : Int) : Bool := fitsB i.o i.a i.b i.c i.k n
/-- five cells at an address -/
def InsAt (w : World) (b o : Nat) (i : I5) : Prop := w.cell? ⟨b, o, none⟩ = some (.int .i64 i.o) ∧ w.cell? ⟨b, o + 1, none⟩ = some (.int .i64 i.a) ∧ w.cell? ⟨b, o + 2, none⟩ = some (.int .i64 i.b) ∧ w.cell? ⟨b, o + 3, none⟩ = some (.int .i64 i.c) ∧ w.cell? ⟨b, o + 4, none⟩ = some (.int .i64 i.k)
theorem InsAt.below {w w' : World} {b o B : Nat} {i : I5} (h : InsAt w b o i) (hb : Below B w w') (hlt : b < B) : InsAt w' b o i := by
  unfold InsAt at *
  rw [hb.cell (p := ⟨b, o, none⟩) hlt, hb.cell (p := ⟨b, o + 1, none⟩) hlt, hb.cell (p := ⟨b, o + 2, none⟩) hlt, hb.cell (p := ⟨b, o + 3, none⟩) hlt, hb.cell (p := ⟨b, o + 4, none⟩) hlt]
  exact h
theorem Shapes.below {w w' : World} {B : Nat} (h : Shapes w) (hb : Below B w w') (hB : 0 < B) : Shapes w' := by
  refine ⟨by have := hb.size; have := h.1; omega, fun o h0 h1 => ?_⟩
  rw [hb.cell (p := ⟨0, _, none⟩) hB, hb.cell (p := ⟨0, _, none⟩) hB, hb.cell (p := ⟨0, _, none⟩) hB]
  exact h.2 o h0 h1
/-- a slice of instructions -/
def Slc (w : World) (v : Value) (l : List I5) : Prop :=
  ((∃ a cap, v = .slice a 0 cap) ∧ l = []) ∨ ∃ b off cap, v = .slice (some ⟨b, off, none⟩) l.length cap ∧ b < w.heap.size ∧ ∀ i (h : i < l.length), InsAt w b (off + i * 5) l[i]
/-- the first instruction from j on that may not be there -/
def badFrom (l : List I5) (n : Int) : Option Nat := l.findIdx? fun x => !x.fits n
theorem badFrom_none {l : List I5} {n : Int} (h : ∀ i (h : i < l.length), l[i].fits n = true) : badFrom l n = none := by
  unfold badFrom; rw [List.findIdx?_eq_none_iff]; intro x hx
  obtain ⟨i, hi, rfl⟩ := List.getElem_of_mem hx
  simp [h i hi]
theorem badFrom_some {l : List I5} {n : Int} {j : Nat} (hj : j < l.length) (hb : l[j].fits n = false) (h : ∀ i (h : i < l.length), i < j → l[i].fits n = true) : badFrom l n = some j := by
  unfold badFrom; rw [List.findIdx?_eq_some_iff_getElem]
  exact ⟨hj, by simp [hb], fun i hi => by simp [h i (by omega) hi]⟩
/-- Right: the error and the place -/
def rightR (l : List I5) : Int × Int :=
  if l.length = 0 ∨ 64 < l.length then (1, 0) else match badFrom l l.length with
    | some j => (1, j)
    | none => (0, 0)
theorem ret_two {a b c d : Int} (h : a = c) (k : b = d) : Ending.returned (.tuple #[.int .i64 a, .int .i64 b]) = .returned (.tuple #[.int .i64 c, .int .i64 d]) := by rw [h, k]
theorem rightR_yes {l : List I5} (hl : 0 < l.length) (hl2 : l.length ≤ 64) (h : ∀ i (h : i < l.length), l[i].fits l.length = true) : rightR l = (0, 0) := by
  unfold rightR; rw [if_neg (by omega), badFrom_none h]
theorem rightR_no {l : List I5} (hl : 0 < l.length) (hl2 : l.length ≤ 64) {j : Nat} (hj : j < l.length) (hb : l[j].fits l.length = false) (h : ∀ i (h : i < l.length), i < j → l[i].fits l.length = true) : rightR l = (1, (j : Int)) := by
  unfold rightR; rw [if_neg (by omega), badFrom_some hj hb h]
theorem rightR_len {l : List I5} (h : l.length = 0 ∨ 64 < l.length) : rightR l = (1, 0) := by unfold rightR; rw [if_pos h]
set_option maxHeartbeats 400000 in
theorem right_some (l : List I5) (b off cap : Nat) (w : World) (hs : Shapes w) (hb : b < w.heap.size) (hl : 0 < l.length) (hl2 : l.length ≤ 64) (hi : ∀ i (h : i < l.length), InsAt w b (off + i * 5) l[i]) :
    Calls Tryd.prog 12 #[.slice (some ⟨b, off, none⟩) l.length cap] w fun e w' => e = .returned (.tuple #[.int .i64 (rightR l).1, .int .i64 (rightR l).2]) ∧ Below w.heap.size w w' := by
  have d0 : ((l.length : Int) == 0) = false := by rw [beq_eq_false_iff_ne]; omega
  have d1 : decide ((64 : Int) < l.length) = false := by rw [decide_eq_false_iff_not]; omega
  go_enter Tryd.func12, Tryd.ntmps12
  go_wp2_with fail
  go_loopw [16] (fun i w' => ∃ j : Nat, j ≤ l.length ∧ i = .int .i64 j ∧ (∀ i (h : i < l.length), i < j → l[i].fits l.length = true) ∧ Below w.heap.size w w') (fun i _ => l.length - (intOf i).toNat)
  case atStart => exact ⟨0, by omega, rfl, fun _ _ h => by omega, Below.refl _ _⟩
  case round =>
    obtain ⟨j, hj, rfl, hall, hbl⟩ := hrel
    have hall := hide hall
    by_cases hlt : j < l.length
    · obtain ⟨c0, c1, c2, c3, c4⟩ := (hi j hlt).below hbl hb
      have hz := hbl.size
      have hs1 := hs.below hbl hs.1
      cases hfit : l[j].fits l.length
      · have R : Hid (rightR l = (1, (j : Int))) := hide (rightR_no hl hl2 hlt hfit hall.out)
        have F : Hid (l[j].fits l.length = false) := hide hfit
        clear hfit
        go_wp2_with (go_at_call 22; refine (mayStand_any _ _ _ _ _ _ _ (hs1.below ((Below.refl _ _).alloc (Nat.le_refl _) _) hs1.1)).mono ?_; rintro e w' ⟨rfl, hb2⟩; rw [show fitsB l[j].o l[j].a l[j].b l[j].c l[j].k l.length = false from F.out])
        go_ret2
        exact ⟨ret_two (by rw [R.out]) (by rw [R.out]), hbl.trans (((Below.refl _ _).alloc hz _).trans (hb2.mono (by simp; omega)))⟩
      · have F : Hid (l[j].fits l.length = true) := hide hfit
        clear hfit
        go_wp2_with (go_at_call 22; refine (mayStand_any _ _ _ _ _ _ _ (hs1.below ((Below.refl _ _).alloc (Nat.le_refl _) _) hs1.1)).mono ?_; rintro e w' ⟨rfl, hb2⟩; rw [show fitsB l[j].o l[j].a l[j].b l[j].c l[j].k l.length = true from F.out])
        go_roundw
        case rel => exact ⟨j + 1, by omega, by go_num, fun i h h2 => by rcases Nat.lt_succ_iff_lt_or_eq.1 h2 with h3 | h3; exact hall.out i h h3; subst h3; exact F.out, hbl.trans (((Below.refl _ _).alloc hz _).trans (hb2.mono (by simp; omega)))⟩
        case measure => simp [intOf]; omega
    · have R : Hid (rightR l = (0, 0)) := hide (rightR_yes hl hl2 fun i h => hall.out i h (by omega))
      go_wp2
      go_ret2
      exact ⟨ret_two (by rw [R.out]) (by rw [R.out]), hbl⟩
set_option maxHeartbeats 400000 in
theorem right_len (n : Nat) (a : Option Addr) (cap : Nat) (w : World) (h : n = 0 ∨ 64 < n) :
    Calls Tryd.prog 12 #[.slice a n cap] w fun e w' => e = .returned (.tuple #[.int .i64 1, .int .i64 0]) ∧ w' = w := by
  rcases h with h | h
  · subst h
    go_enter Tryd.func12, Tryd.ntmps12
    go_wp2
    go_ret2
    exact ⟨rfl, rfl⟩
  · have d0 : ((n : Int) == 0) = false := by rw [beq_eq_false_iff_ne]; omega
    go_enter Tryd.func12, Tryd.ntmps12
    go_wp2
    go_ret2
    exact ⟨rfl, rfl⟩
theorem Slc.len {w : World} {v : Value} {l : List I5} (h : Slc w v l) : ∃ a cap, v = .slice a l.length cap := by
  rcases h with ⟨⟨a, cap, rfl⟩, rfl⟩ | ⟨b, off, cap, rfl, _⟩
  · exact ⟨_, _, rfl⟩
  · exact ⟨_, _, rfl⟩
theorem Slc.below {w w' : World} {v : Value} {l : List I5} {B : Nat} (h : Slc w v l) (hb : Below B w w') (hB : w.heap.size ≤ B) : Slc w' v l := by
  rcases h with h | ⟨b, off, cap, rfl, h1, h2⟩
  · exact Or.inl h
  · exact Or.inr ⟨b, off, cap, rfl, by have := hb.size; omega, fun i h => (h2 i h).below hb (by omega)⟩
theorem codeRight_any (l : List I5) (v : Value) (w : World) (hs : Shapes w) (h : Slc w v l) :
    Calls Tryd.prog 12 #[v] w fun e w' => e = .returned (.tuple #[.int .i64 (rightR l).1, .int .i64 (rightR l).2]) ∧ Below w.heap.size w w' := by
  by_cases hl : l.length = 0 ∨ 64 < l.length
  · obtain ⟨a, cap, rfl⟩ := h.len
    refine (right_len l.length a cap w hl).mono ?_
    rintro e w' ⟨rfl, rfl⟩
    rw [rightR_len hl]
    exact ⟨rfl, Below.refl _ _⟩
  · rcases h with ⟨_, rfl⟩ | ⟨b, off, cap, rfl, h1, h2⟩
    · exact absurd (Or.inl rfl) hl
    · exact right_some l b off cap w hs h1 (by omega) (by omega) h2
set_option maxHeartbeats 400000 in
theorem Right_any (l : List I5) (v : Value) (w : World) (hs : Shapes w) (h : Slc w v l) :
    Calls Tryd.prog 6 #[v] w fun e w' => e = .returned (.tuple #[.int .i64 (rightR l).1, .int .i64 (rightR l).2]) ∧ Below w.heap.size w w' := by
  go_enter Tryd.func6, Tryd.ntmps6
  go_wp2_with (go_at_call 12; refine (codeRight_any l _ _ hs h).mono ?_; rintro e w' ⟨rfl, hb⟩)
  go_ret2
  exact ⟨rfl, hb⟩
end Go.Proofs.YtamiichlbmllcaaDoor
