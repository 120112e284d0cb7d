import Derived.Test.YtamiichlbmllcaaGreatDoorProg
import Derived.WalkKit
import Derived.WalkSpells
import Derived.WalkLawsBesides
import Derived.Deep.MidRow
import Derived.Laws.NewFold
import Derived.Deep.RegionHeld3
/-
  Contracts of the leaves of package code: isBelow, registersOf, mayStand, for every argument, in every world that holds the table of shapes.
-/
namespace Go.Proofs.YtamiichlbmllcaaGreatDoor
open Go.RowKit
theorem isBelow_any (n b : Int) (w : World) :
    Calls Tryz.prog 99 #[.int .i64 n, .int .i64 b] w fun e w' => e = .returned (.bool (decide (0 ≤ n ∧ n < b))) ∧ w' = w := by
  by_cases h0 : 0 ≤ n <;> by_cases h1 : n < b
  all_goals
    go_enter Tryz.func99, Tryz.ntmps99
    go_wp2
    go_ret
    exact ⟨by simp [h0, h1], rfl⟩
theorem registersOf_any (o a b c k : Int) (w : World) :
    Calls Tryz.prog 98 #[.agg #[.int .i64 o, .int .i64 a, .int .i64 b, .int .i64 c, .int .i64 k]] w fun e w' => e = .returned (.agg #[.int .i64 a, .int .i64 b, .int .i64 c]) ∧ Below w.heap.size w w' := by
  go_enter Tryz.func98, Tryz.ntmps98
  go_wp2
  exact bodyPost_ret (v := .agg #[.int .i64 a, .int .i64 b, .int .i64 c]) (by simp [results, Tryz.results98, go_sem]) rfl ⟨rfl, ((Below.refl _ _).alloc (Nat.le_refl _) _).alloc (by simp) _⟩
def nregs (o : Int) : Int := if o = 0 ∨ o = 9 then 0 else if o = 1 then 1 else if 3 ≤ o ∧ o ≤ 6 then 3 else 2
def kbytes (o : Int) : Int := if o = 1 then 8 else if 9 ≤ o then 1 else 0
theorem nregs_bd (o : Int) : 0 ≤ nregs o ∧ nregs o ≤ 3 := by unfold nregs; repeat' split <;> omega
/-- what the table holds -/
def Shapes (w : World) : Prop := 0 < w.heap.size ∧ ∀ o : Int, 0 ≤ o → o < 12 → w.cell? ⟨0, o.toNat * 3, none⟩ = some (.int .i64 (nregs o)) ∧ w.cell? ⟨0, o.toNat * 3 + 1, none⟩ = some (.int .i64 (kbytes o)) ∧ w.cell? ⟨0, o.toNat * 3 + 2, none⟩ = some (.int .i64 (1 + nregs o + kbytes o))
theorem bcell {W w1 : World} (hb : Below W.heap.size W w1) : (∀ b o, b < W.heap.size → w1.cell? ⟨b, o, none⟩ = W.cell? ⟨b, o, none⟩) ∧ (∀ b o, b < W.heap.size → w1.frozen? ⟨b, o, none⟩ = W.frozen? ⟨b, o, none⟩) :=
  ⟨fun b o h => hb.cell (p := ⟨b, o, none⟩) h, fun b o h => hb.frozen (p := ⟨b, o, none⟩) h⟩

def regOk (need j r : Int) : Bool := if j < need then decide (0 ≤ r) && decide (r < 8) else decide (r = 0)
def kOk (kb k n : Int) : Bool := if kb = 8 then true else if kb = 1 then decide (0 ≤ k) && decide (k < n) else decide (k = 0)
def fitsB (o a b c k n : Int) : Bool := decide (0 ≤ o) && decide (o < 12) && regOk (nregs o) 0 a && regOk (nregs o) 1 b && regOk (nregs o) 2 c && kOk (kbytes o) k n
theorem regOk_lo {need j r : Int} (h : j < need) : regOk need j r = (decide (0 ≤ r) && decide (r < 8)) := by simp [regOk, h]
theorem regOk_hi {need j r : Int} (h : ¬ j < need) : regOk need j r = decide (r = 0) := by simp [regOk, h]
theorem kb_three (o : Int) : kbytes o = 8 ∨ kbytes o = 1 ∨ kbytes o = 0 := by unfold kbytes; (repeat' split) <;> omega
theorem fits_no0 {o a b c k n : Int} (h : regOk (nregs o) 0 a = false) : fitsB o a b c k n = false := by simp [fitsB, h]
theorem fits_no1 {o a b c k n : Int} (h : regOk (nregs o) 1 b = false) : fitsB o a b c k n = false := by simp [fitsB, h]
theorem fits_no2 {o a b c k n : Int} (h : regOk (nregs o) 2 c = false) : fitsB o a b c k n = false := by simp [fitsB, h]
theorem hide {p : Prop} (h : p) : Hid p := h
theorem ret_bool {a b : Bool} (h : a = b) : Ending.returned (.bool a) = .returned (.bool b) := by rw [h]
set_option maxHeartbeats 1000000 in
theorem mayStand_yes (o a b c k n : Int) (w : World) (hs : Shapes w) (ho0 : 0 ≤ o) (ho1 : o < 12) :
    Calls Tryz.prog 61 #[.agg #[.int .i64 o, .int .i64 a, .int .i64 b, .int .i64 c, .int .i64 k], .int .i64 n] w fun e w' => e = .returned (.bool (fitsB o a b c k n)) ∧ Below w.heap.size w w' := by
  obtain ⟨h0, hs⟩ := hs
  obtain ⟨s0, s1, _⟩ := hs o ho0 ho1
  clear hs
  have d0 : decide (o < 0) = false := by simpa using ho0
  have d1 : decide (12 ≤ o) = false := by simpa using ho1
  obtain ⟨nb0, nb1⟩ := nregs_bd o
  have i0 : ∀ w, (Instr.index 167 (.agg #[.int .i64 a, .int .i64 b, .int .i64 c]) (.int .i64 0)).run Tryz.prog w = .ok (.int .i64 a) w := fun _ => by kernel_rfl
  have i1 : ∀ w, (Instr.index 167 (.agg #[.int .i64 a, .int .i64 b, .int .i64 c]) (.int .i64 1)).run Tryz.prog w = .ok (.int .i64 b) w := fun _ => by kernel_rfl
  have i2 : ∀ w, (Instr.index 167 (.agg #[.int .i64 a, .int .i64 b, .int .i64 c]) (.int .i64 2)).run Tryz.prog w = .ok (.int .i64 c) w := fun _ => by kernel_rfl
  go_enter Tryz.func61, Tryz.ntmps61
  go_wp2_with (go_at_call 98; refine (registersOf_any _ _ _ _ _ _).mono ?_; rintro e w1 ⟨rfl, hb⟩)
  obtain ⟨hc, hf⟩ := bcell hb
  clear hf
  simp at hc
  have hfin : Below w.heap.size w w1 := (((Below.refl _ _).alloc (Nat.le_refl _) _).trans (hb.mono (by simp)))
  go_loop [23] (fun i => ∃ j : Nat, j ≤ 3 ∧ i = .int .i64 j ∧ (0 < j → regOk (nregs o) 0 a = true) ∧ (1 < j → regOk (nregs o) 1 b = true) ∧ (2 < j → regOk (nregs o) 2 c = true)) (fun i => 3 - (intOf i).toNat)
  case atStart => exact ⟨0, by omega, rfl, by simp, by simp, by simp⟩
  case round =>
    obtain ⟨j, hj, rfl, r0, r1, r2⟩ := hrel
    match j, hj, r0, r1, r2 with
    | 0, _, r0, r1, r2 =>
      clear i1 i2
      by_cases hn : 0 < nregs o
      · have R : Hid (regOk (nregs o) 0 a = (decide (0 ≤ a) && decide (a < 8))) := hide (regOk_lo (r := a) hn)
        by_cases hx : 0 ≤ a <;> by_cases hy : a < 8
        all_goals
          go_wp2_with (go_at_call 99; refine (isBelow_any _ _ _).mono ?_; rintro e w' ⟨rfl, rfl⟩)
          all_goals first
            | exact ⟨⟨1, by omega, rfl, (fun _ => R.out.trans (by simp [*])), (by omega), (by omega)⟩, by simp [intOf]⟩
            | (go_ret; exact ⟨ret_bool (fits_no0 (R.out.trans (by simp [hx, hy]))).symm, hfin⟩)
      · have R : Hid (regOk (nregs o) 0 a = decide (a = 0)) := hide (regOk_hi (r := a) hn)
        have hx : (a != 0) = !decide (a = 0) := by by_cases h : a = 0 <;> simp [h]
        cases hy : decide (a = 0)
        all_goals
          rw [hy] at hx
          go_wp2_with (go_at_call 99; refine (isBelow_any _ _ _).mono ?_; rintro e w' ⟨rfl, rfl⟩)
          all_goals first
            | exact ⟨⟨1, by omega, rfl, (fun _ => R.out.trans (by simp [*])), (by omega), (by omega)⟩, by simp [intOf]⟩
            | (go_ret; exact ⟨ret_bool (fits_no0 (R.out.trans hy)).symm, hfin⟩)
    | 1, _, r0, r1, r2 =>
      clear i0 i2
      by_cases hn : 1 < nregs o
      · have R : Hid (regOk (nregs o) 1 b = (decide (0 ≤ b) && decide (b < 8))) := hide (regOk_lo (r := b) hn)
        by_cases hx : 0 ≤ b <;> by_cases hy : b < 8
        all_goals
          go_wp2_with (go_at_call 99; refine (isBelow_any _ _ _).mono ?_; rintro e w' ⟨rfl, rfl⟩)
          all_goals first
            | exact ⟨⟨2, by omega, rfl, (fun _ => r0 (by omega)), (fun _ => R.out.trans (by simp [*])), (by omega)⟩, by simp [intOf]⟩
            | (go_ret; exact ⟨ret_bool (fits_no1 (R.out.trans (by simp [hx, hy]))).symm, hfin⟩)
      · have R : Hid (regOk (nregs o) 1 b = decide (b = 0)) := hide (regOk_hi (r := b) hn)
        have hx : (b != 0) = !decide (b = 0) := by by_cases h : b = 0 <;> simp [h]
        cases hy : decide (b = 0)
        all_goals
          rw [hy] at hx
          go_wp2_with (go_at_call 99; refine (isBelow_any _ _ _).mono ?_; rintro e w' ⟨rfl, rfl⟩)
          all_goals first
            | exact ⟨⟨2, by omega, rfl, (fun _ => r0 (by omega)), (fun _ => R.out.trans (by simp [*])), (by omega)⟩, by simp [intOf]⟩
            | (go_ret; exact ⟨ret_bool (fits_no1 (R.out.trans hy)).symm, hfin⟩)
    | 2, _, r0, r1, r2 =>
      clear i0 i1
      by_cases hn : 2 < nregs o
      · have R : Hid (regOk (nregs o) 2 c = (decide (0 ≤ c) && decide (c < 8))) := hide (regOk_lo (r := c) hn)
        by_cases hx : 0 ≤ c <;> by_cases hy : c < 8
        all_goals
          go_wp2_with (go_at_call 99; refine (isBelow_any _ _ _).mono ?_; rintro e w' ⟨rfl, rfl⟩)
          all_goals first
            | exact ⟨⟨3, by omega, rfl, (fun _ => r0 (by omega)), (fun _ => r1 (by omega)), (fun _ => R.out.trans (by simp [*]))⟩, by simp [intOf]⟩
            | (go_ret; exact ⟨ret_bool (fits_no2 (R.out.trans (by simp [hx, hy]))).symm, hfin⟩)
      · have R : Hid (regOk (nregs o) 2 c = decide (c = 0)) := hide (regOk_hi (r := c) hn)
        have hx : (c != 0) = !decide (c = 0) := by by_cases h : c = 0 <;> simp [h]
        cases hy : decide (c = 0)
        all_goals
          rw [hy] at hx
          go_wp2_with (go_at_call 99; refine (isBelow_any _ _ _).mono ?_; rintro e w' ⟨rfl, rfl⟩)
          all_goals first
            | exact ⟨⟨3, by omega, rfl, (fun _ => r0 (by omega)), (fun _ => r1 (by omega)), (fun _ => R.out.trans (by simp [*]))⟩, by simp [intOf]⟩
            | (go_ret; exact ⟨ret_bool (fits_no2 (R.out.trans hy)).symm, hfin⟩)
    | 3, _, r0, r1, r2 =>
      clear i0 i1 i2
      have r0 := hide (r0 (by omega))
      have r1 := hide (r1 (by omega))
      have r2 := hide (r2 (by omega))
      rcases kb_three o with hk | hk | hk
      · have R : Hid (fitsB o a b c k n = true) := hide (by simp [fitsB, r0.out, r1.out, r2.out, hk, kOk, ho0, ho1])
        rw [hk] at s1
        go_wp2
        go_ret
        exact ⟨ret_bool R.out.symm, hfin⟩
      · have R : Hid (fitsB o a b c k n = (decide (0 ≤ k) && decide (k < n))) := hide (by simp [fitsB, r0.out, r1.out, r2.out, hk, kOk, ho0, ho1])
        rw [hk] at s1
        go_wp2_with (go_at_call 99; refine (isBelow_any _ _ _).mono ?_; rintro e w' ⟨rfl, rfl⟩)
        go_ret
        exact ⟨ret_bool R.out.symm, hfin⟩
      · have R : Hid (fitsB o a b c k n = (k == 0)) := hide (by simp [fitsB, r0.out, r1.out, r2.out, hk, kOk, ho0, ho1]; rfl)
        rw [hk] at s1
        go_wp2
        go_ret
        exact ⟨ret_bool R.out.symm, hfin⟩
    | j + 4, hj, _, _, _ => omega
set_option maxHeartbeats 400000 in
theorem mayStand_any (o a b c k n : Int) (w : World) (hs : Shapes w) :
    Calls Tryz.prog 61 #[.agg #[.int .i64 o, .int .i64 a, .int .i64 b, .int .i64 c, .int .i64 k], .int .i64 n] w fun e w' => e = .returned (.bool (fitsB o a b c k n)) ∧ Below w.heap.size w w' := by
  by_cases ho0 : 0 ≤ o
  · by_cases ho1 : o < 12
    · exact mayStand_yes o a b c k n w hs ho0 ho1
    · have R : Hid (fitsB o a b c k n = false) := hide (by simp [fitsB, ho1])
      go_enter Tryz.func61, Tryz.ntmps61
      go_wp2
      go_ret
      exact ⟨ret_bool R.out.symm, (Below.refl _ _).alloc (Nat.le_refl _) _⟩
  · have R : Hid (fitsB o a b c k n = false) := hide (by simp [fitsB, ho0])
    go_enter Tryz.func61, Tryz.ntmps61
    go_wp2
    go_ret
    exact ⟨ret_bool R.out.symm, (Below.refl _ _).alloc (Nat.le_refl _) _⟩
end Go.Proofs.YtamiichlbmllcaaGreatDoor
/-
  The contracts of code.Right and surety.Right: for every slice of instructions the error and the place.
-/
namespace Go.Proofs.YtamiichlbmllcaaGreatDoor
open Go.RowKit
structure I5 where
  o : Int
  a : Int
  b : Int
  c : Int
  k : Int
def I5.val (i : I5) : Value := .agg #[.int .i64 i.o, .int .i64 i.a, .int .i64 i.b, .int .i64 i.c, .int .i64 i.k]
def I5.fits (i : I5) (n : Int) : Bool := fitsB i.o i.a i.b i.c i.k n
/-- five cells at an address -/
def InsAt (w : World) (b o : Nat) (i : I5) : Prop := w.cell? ⟨b, o, none⟩ = some (.int .i64 i.o) ∧ w.cell? ⟨b, o + 1, none⟩ = some (.int .i64 i.a) ∧ w.cell? ⟨b, o + 2, none⟩ = some (.int .i64 i.b) ∧ w.cell? ⟨b, o + 3, none⟩ = some (.int .i64 i.c) ∧ w.cell? ⟨b, o + 4, none⟩ = some (.int .i64 i.k)
theorem InsAt.below {w w' : World} {b o B : Nat} {i : I5} (h : InsAt w b o i) (hb : Below B w w') (hlt : b < B) : InsAt w' b o i := by
  unfold InsAt at *
  rw [hb.cell (p := ⟨b, o, none⟩) hlt, hb.cell (p := ⟨b, o + 1, none⟩) hlt, hb.cell (p := ⟨b, o + 2, none⟩) hlt, hb.cell (p := ⟨b, o + 3, none⟩) hlt, hb.cell (p := ⟨b, o + 4, none⟩) hlt]
  exact h
theorem Shapes.below {w w' : World} {B : Nat} (h : Shapes w) (hb : Below B w w') (hB : 0 < B) : Shapes w' := by
  refine ⟨by have := hb.size; have := h.1; omega, fun o h0 h1 => ?_⟩
  rw [hb.cell (p := ⟨0, _, none⟩) hB, hb.cell (p := ⟨0, _, none⟩) hB, hb.cell (p := ⟨0, _, none⟩) hB]
  exact h.2 o h0 h1
/-- a slice of instructions -/
def Slc (w : World) (v : Value) (l : List I5) : Prop :=
  ((∃ a cap, v = .slice a 0 cap) ∧ l = []) ∨ ∃ b off cap, v = .slice (some ⟨b, off, none⟩) l.length cap ∧ b < w.heap.size ∧ ∀ i (h : i < l.length), InsAt w b (off + i * 5) l[i]
/-- the first instruction from j on that may not be there -/
def badFrom (l : List I5) (n : Int) : Option Nat := l.findIdx? fun x => !x.fits n
theorem badFrom_none {l : List I5} {n : Int} (h : ∀ i (h : i < l.length), l[i].fits n = true) : badFrom l n = none := by
  unfold badFrom; rw [List.findIdx?_eq_none_iff]; intro x hx
  obtain ⟨i, hi, rfl⟩ := List.getElem_of_mem hx
  simp [h i hi]
theorem badFrom_some {l : List I5} {n : Int} {j : Nat} (hj : j < l.length) (hb : l[j].fits n = false) (h : ∀ i (h : i < l.length), i < j → l[i].fits n = true) : badFrom l n = some j := by
  unfold badFrom; rw [List.findIdx?_eq_some_iff_getElem]
  exact ⟨hj, by simp [hb], fun i hi => by simp [h i (by omega) hi]⟩
/-- Right: the error and the place -/
def rightR (l : List I5) : Int × Int :=
  if l.length = 0 ∨ 64 < l.length then (1, 0) else match badFrom l l.length with
    | some j => (1, j)
    | none => (0, 0)
theorem ret_two {a b c d : Int} (h : a = c) (k : b = d) : Ending.returned (.tuple #[.int .i64 a, .int .i64 b]) = .returned (.tuple #[.int .i64 c, .int .i64 d]) := by rw [h, k]
theorem rightR_yes {l : List I5} (hl : 0 < l.length) (hl2 : l.length ≤ 64) (h : ∀ i (h : i < l.length), l[i].fits l.length = true) : rightR l = (0, 0) := by
  unfold rightR; rw [if_neg (by omega), badFrom_none h]
theorem rightR_no {l : List I5} (hl : 0 < l.length) (hl2 : l.length ≤ 64) {j : Nat} (hj : j < l.length) (hb : l[j].fits l.length = false) (h : ∀ i (h : i < l.length), i < j → l[i].fits l.length = true) : rightR l = (1, (j : Int)) := by
  unfold rightR; rw [if_neg (by omega), badFrom_some hj hb h]
theorem rightR_len {l : List I5} (h : l.length = 0 ∨ 64 < l.length) : rightR l = (1, 0) := by unfold rightR; rw [if_pos h]
set_option maxHeartbeats 400000 in
theorem right_some (l : List I5) (b off cap : Nat) (w : World) (hs : Shapes w) (hb : b < w.heap.size) (hl : 0 < l.length) (hl2 : l.length ≤ 64) (hi : ∀ i (h : i < l.length), InsAt w b (off + i * 5) l[i]) :
    Calls Tryz.prog 41 #[.slice (some ⟨b, off, none⟩) l.length cap] w fun e w' => e = .returned (.tuple #[.int .i64 (rightR l).1, .int .i64 (rightR l).2]) ∧ Below w.heap.size w w' := by
  have d0 : ((l.length : Int) == 0) = false := by rw [beq_eq_false_iff_ne]; omega
  have d1 : decide ((64 : Int) < l.length) = false := by rw [decide_eq_false_iff_not]; omega
  go_enter Tryz.func41, Tryz.ntmps41
  go_wp2_with fail
  go_loopw [16] (fun i w' => ∃ j : Nat, j ≤ l.length ∧ i = .int .i64 j ∧ (∀ i (h : i < l.length), i < j → l[i].fits l.length = true) ∧ Below w.heap.size w w') (fun i _ => l.length - (intOf i).toNat)
  case atStart => exact ⟨0, by omega, rfl, fun _ _ h => by omega, Below.refl _ _⟩
  case round =>
    obtain ⟨j, hj, rfl, hall, hbl⟩ := hrel
    have hall := hide hall
    by_cases hlt : j < l.length
    · obtain ⟨c0, c1, c2, c3, c4⟩ := (hi j hlt).below hbl hb
      have hz := hbl.size
      have hs1 := hs.below hbl hs.1
      cases hfit : l[j].fits l.length
      · have R : Hid (rightR l = (1, (j : Int))) := hide (rightR_no hl hl2 hlt hfit hall.out)
        have F : Hid (l[j].fits l.length = false) := hide hfit
        clear hfit
        go_wp2_with (go_at_call 61; refine (mayStand_any _ _ _ _ _ _ _ (hs1.below ((Below.refl _ _).alloc (Nat.le_refl _) _) hs1.1)).mono ?_; rintro e w' ⟨rfl, hb2⟩; rw [show fitsB l[j].o l[j].a l[j].b l[j].c l[j].k l.length = false from F.out])
        go_ret2
        exact ⟨ret_two (by rw [R.out]) (by rw [R.out]), hbl.trans (((Below.refl _ _).alloc hz _).trans (hb2.mono (by simp; omega)))⟩
      · have F : Hid (l[j].fits l.length = true) := hide hfit
        clear hfit
        go_wp2_with (go_at_call 61; refine (mayStand_any _ _ _ _ _ _ _ (hs1.below ((Below.refl _ _).alloc (Nat.le_refl _) _) hs1.1)).mono ?_; rintro e w' ⟨rfl, hb2⟩; rw [show fitsB l[j].o l[j].a l[j].b l[j].c l[j].k l.length = true from F.out])
        go_roundw
        case rel => exact ⟨j + 1, by omega, by go_num, fun i h h2 => by rcases Nat.lt_succ_iff_lt_or_eq.1 h2 with h3 | h3; exact hall.out i h h3; subst h3; exact F.out, hbl.trans (((Below.refl _ _).alloc hz _).trans (hb2.mono (by simp; omega)))⟩
        case measure => simp [intOf]; omega
    · have R : Hid (rightR l = (0, 0)) := hide (rightR_yes hl hl2 fun i h => hall.out i h (by omega))
      go_wp2
      go_ret2
      exact ⟨ret_two (by rw [R.out]) (by rw [R.out]), hbl⟩
set_option maxHeartbeats 400000 in
theorem right_len (n : Nat) (a : Option Addr) (cap : Nat) (w : World) (h : n = 0 ∨ 64 < n) :
    Calls Tryz.prog 41 #[.slice a n cap] w fun e w' => e = .returned (.tuple #[.int .i64 1, .int .i64 0]) ∧ w' = w := by
  rcases h with h | h
  · subst h
    go_enter Tryz.func41, Tryz.ntmps41
    go_wp2
    go_ret2
    exact ⟨rfl, rfl⟩
  · have d0 : ((n : Int) == 0) = false := by rw [beq_eq_false_iff_ne]; omega
    go_enter Tryz.func41, Tryz.ntmps41
    go_wp2
    go_ret2
    exact ⟨rfl, rfl⟩
theorem Slc.len {w : World} {v : Value} {l : List I5} (h : Slc w v l) : ∃ a cap, v = .slice a l.length cap := by
  rcases h with ⟨⟨a, cap, rfl⟩, rfl⟩ | ⟨b, off, cap, rfl, _⟩
  · exact ⟨_, _, rfl⟩
  · exact ⟨_, _, rfl⟩
theorem Slc.below {w w' : World} {v : Value} {l : List I5} {B : Nat} (h : Slc w v l) (hb : Below B w w') (hB : w.heap.size ≤ B) : Slc w' v l := by
  rcases h with h | ⟨b, off, cap, rfl, h1, h2⟩
  · exact Or.inl h
  · exact Or.inr ⟨b, off, cap, rfl, by have := hb.size; omega, fun i h => (h2 i h).below hb (by omega)⟩
theorem codeRight_any (l : List I5) (v : Value) (w : World) (hs : Shapes w) (h : Slc w v l) :
    Calls Tryz.prog 41 #[v] w fun e w' => e = .returned (.tuple #[.int .i64 (rightR l).1, .int .i64 (rightR l).2]) ∧ Below w.heap.size w w' := by
  by_cases hl : l.length = 0 ∨ 64 < l.length
  · obtain ⟨a, cap, rfl⟩ := h.len
    refine (right_len l.length a cap w hl).mono ?_
    rintro e w' ⟨rfl, rfl⟩
    rw [rightR_len hl]
    exact ⟨rfl, Below.refl _ _⟩
  · rcases h with ⟨_, rfl⟩ | ⟨b, off, cap, rfl, h1, h2⟩
    · exact absurd (Or.inl rfl) hl
    · exact right_some l b off cap w hs h1 (by omega) (by omega) h2
set_option maxHeartbeats 400000 in
theorem Right_any (l : List I5) (v : Value) (w : World) (hs : Shapes w) (h : Slc w v l) :
    Calls Tryz.prog 76 #[v] w fun e w' => e = .returned (.tuple #[.int .i64 (rightR l).1, .int .i64 (rightR l).2]) ∧ Below w.heap.size w w' := by
  go_enter Tryz.func76, Tryz.ntmps76
  go_wp2_with (go_at_call 41; refine (codeRight_any l _ _ hs h).mono ?_; rintro e w' ⟨rfl, hb⟩)
  go_ret2
  exact ⟨rfl, hb⟩
end Go.Proofs.YtamiichlbmllcaaGreatDoor
/-
  A row by what each of its cells holds.
-/
namespace Go.Proofs.YtamiichlbmllcaaGreatDoor
open Go.RowKit
theorem set_block {w : World} {g off : Nat} {A : Array Value} {t : TypeId} {u : Value} (h : w.heap[g]? = some (.cells A t (0, 0))) : (w.setCell ⟨g, off, none⟩ u).heap[g]? = some (.cells (A.setIfInBounds off u) t (0, 0)) := by
  have hlt := lt_of_block h
  have h' : w.heap[g] = .cells A t (0, 0) := by simpa [Array.getElem?_eq_getElem hlt] using h
  show (w.heap.modify g _)[g]? = _
  rw [Array.getElem?_eq_getElem (by simpa using hlt), Array.getElem_modify_self, h']; rfl
/-- a row by what each of its cells holds -/
def RowF (w : World) (g : Nat) (t : TypeId) (n : Nat) (f : Nat → Value) : Prop := ∃ A, w.heap[g]? = some (.cells A t (0, 0)) ∧ A.size = n ∧ ∀ j, j < n → A[j]? = some (f j)
theorem RowF.lt {w : World} {g n : Nat} {t : TypeId} {f : Nat → Value} (h : RowF w g t n f) : g < w.heap.size := by obtain ⟨A, h1, _⟩ := h; exact lt_of_block h1
theorem RowF.cell {w : World} {g n : Nat} {t : TypeId} {f : Nat → Value} (h : RowF w g t n f) (j : Nat) (hj : j < n) : w.cell? ⟨g, j, none⟩ = some (f j) ∧ w.frozen? ⟨g, j, none⟩ = false := by
  obtain ⟨A, h1, h2, h3⟩ := h
  exact ⟨by rw [cell_of_row _ _ _ _ _ _ h1]; exact h3 j hj, by simp [World.frozen?, h1]⟩
theorem RowF.set {w : World} {g n : Nat} {t : TypeId} {f : Nat → Value} (h : RowF w g t n f) (j0 : Nat) (u : Value) : RowF (w.setCell ⟨g, j0, none⟩ u) g t n (fun j => if j = j0 then u else f j) := by
  obtain ⟨A, h1, h2, h3⟩ := h
  refine ⟨_, set_block h1, by simp [h2], fun j hj => ?_⟩
  show (A.setIfInBounds j0 u)[j]? = some (if j = j0 then u else f j)
  by_cases e : j = j0
  · subst e
    rw [if_pos rfl, Array.getElem?_setIfInBounds_self_of_lt (by omega)]
  · rw [if_neg e, Array.getElem?_setIfInBounds_ne (Ne.symm e)]; exact h3 j hj
theorem RowF.congr {w : World} {g n : Nat} {t : TypeId} {f f' : Nat → Value} (h : RowF w g t n f) (he : ∀ j, j < n → f j = f' j) : RowF w g t n f' := by
  obtain ⟨A, h1, h2, h3⟩ := h
  exact ⟨A, h1, h2, fun j hj => by rw [h3 j hj, he j hj]⟩
theorem RowF.block {w w' : World} {g n : Nat} {t : TypeId} {f : Nat → Value} (h : RowF w g t n f) (hb : w'.heap[g]? = w.heap[g]?) : RowF w' g t n f := by
  obtain ⟨A, h1, h2⟩ := h
  exact ⟨A, by rw [hb]; exact h1, h2⟩
/-- nothing that was there is written, but for one block -/
structure But (g : Nat) (w w' : World) : Prop where
  os : w'.os = w.os
  tape : w'.tape = w.tape
  output : w'.output = w.output
  size : w.heap.size ≤ w'.heap.size
  block : ∀ k, k < w.heap.size → k ≠ g → w'.heap[k]? = w.heap[k]?
theorem But.refl (g : Nat) (w : World) : But g w w := ⟨rfl, rfl, rfl, Nat.le_refl _, fun _ _ _ => rfl⟩
theorem But.trans {g : Nat} {a b c : World} (h : But g a b) (k : But g b c) : But g a c :=
  ⟨k.os.trans h.os, k.tape.trans h.tape, k.output.trans h.output, Nat.le_trans h.size k.size, fun i hi hn => (k.block i (Nat.lt_of_lt_of_le hi h.size) hn).trans (h.block i hi hn)⟩
theorem But.ofBelow {g : Nat} {w w' : World} (h : Below w.heap.size w w') : But g w w' := ⟨h.os, h.tape, h.output, h.size, fun k hk _ => h.block k hk⟩
theorem But.set (g : Nat) (w : World) (off : Nat) (u : Value) : But g w (w.setCell ⟨g, off, none⟩ u) :=
  ⟨rfl, rfl, rfl, by simp, fun k _ hn => Below.heap_setCell _ _ _ _ hn⟩
theorem But.below {g B : Nat} {w w' : World} (h : But g w w') (hB : B ≤ g) (hs : B ≤ w.heap.size) : Below B w w' :=
  ⟨h.os, h.tape, h.output, h.size, fun k hk => h.block k (by omega) (by omega)⟩
theorem But.set5 {g : Nat} {w0 w : World} (h : But g w0 w) (o0 o1 o2 o3 o4 : Nat) (u0 u1 u2 u3 u4 : Value) :
    But g w0 (((((w.setCell ⟨g, o0, none⟩ u0).setCell ⟨g, o1, none⟩ u1).setCell ⟨g, o2, none⟩ u2).setCell ⟨g, o3, none⟩ u3).setCell ⟨g, o4, none⟩ u4) :=
  ((((h.trans (But.set g _ _ _)).trans (But.set g _ _ _)).trans (But.set g _ _ _)).trans (But.set g _ _ _)).trans (But.set g _ _ _)
end Go.Proofs.YtamiichlbmllcaaGreatDoor
/-
  Walks over rows of many cells: the world behind each operation is a letter, with what is known of it.
-/
namespace Go.Proofs.YtamiichlbmllcaaGreatDoor
open Go.RowKit
/-- the block b is the row A -/
def At (w : World) (b : Nat) (A : Array Value) (t : TypeId) : Prop := w.heap[b]? = some (.cells A t (0, 0))
theorem At.lt {w : World} {b : Nat} {A : Array Value} {t : TypeId} (h : At w b A t) : b < w.heap.size := lt_of_block h
theorem At.cell {w : World} {b : Nat} {A : Array Value} {t : TypeId} (h : At w b A t) (j : Nat) : w.cell? ⟨b, j, none⟩ = A[j]? := cell_of_row _ _ _ _ _ _ h
theorem At.free {w : World} {b : Nat} {A : Array Value} {t : TypeId} (h : At w b A t) (j : Nat) : w.frozen? ⟨b, j, none⟩ = false := by
  unfold At at h; simp [World.frozen?, h]
theorem At.of {w w' : World} {b : Nat} {A : Array Value} {t : TypeId} (h : At w b A t) (hb : w'.heap[b]? = w.heap[b]?) : At w' b A t := by
  unfold At at *; rw [hb]; exact h
theorem At.range {w : World} {b : Nat} {A : Array Value} {t : TypeId} (h : At w b A t) (o n : Nat) : w.rangeAt b o (A.extract o (o + n)).toList := World.rangeAt_of_block h o n
/-- cells laid into a row -/
def putA (A : Array Value) (o : Nat) : List Value → Array Value
  | [] => A
  | v :: r => putA (A.setIfInBounds o v) (o + 1) r
theorem putA_size (o : Nat) (l : List Value) : ∀ (A : Array Value), (putA A o l).size = A.size := by
  induction l generalizing o with
  | nil => intro A; rfl
  | cons v r ih => intro A; rw [putA, ih]; simp
theorem putA_get (l : List Value) : ∀ (o : Nat) (A : Array Value) (j : Nat), j < A.size → (putA A o l)[j]? = if o ≤ j ∧ j < o + l.length then l[j - o]? else A[j]? := by
  induction l with
  | nil => intro o A j hj; simp [putA]; intro h1 h2; omega
  | cons v r ih =>
    intro o A j hj
    rw [putA, ih (o + 1) _ j (by simpa using hj)]
    by_cases h1 : o + 1 ≤ j ∧ j < o + 1 + r.length
    · rw [if_pos h1, if_pos (by simp; omega)]
      rw [show j - o = (j - (o + 1)) + 1 by omega, List.getElem?_cons_succ]
    · rw [if_neg h1]
      by_cases h2 : j = o
      · subst h2
        rw [if_pos (by simp), Array.getElem?_setIfInBounds_self_of_lt hj]; simp
      · rw [if_neg (by simp; omega), Array.getElem?_setIfInBounds_ne (Ne.symm h2)]
theorem putA_whole {A cs : Array Value} (h : A.size = cs.size) : putA A 0 cs.toList = cs := by
  apply Array.ext_getElem?
  intro j
  by_cases hj : j < A.size
  · rw [putA_get _ _ _ _ hj, if_pos (by simp; omega)]; simp
  · rw [Array.getElem?_eq_none (by rw [putA_size]; omega), Array.getElem?_eq_none (by omega)]
theorem At.setCells {b : Nat} {t : TypeId} (l : List Value) : ∀ {w : World} {A : Array Value} (o : Nat), At w b A t → At (w.setCells b o l) b (putA A o l) t := by
  induction l with
  | nil => intro w A o h; exact h
  | cons v r ih => intro w A o h; exact ih (o + 1) (set_block h)
theorem setCells_heap {b k : Nat} (hne : k ≠ b) (l : List Value) : ∀ (w : World) (o : Nat), (w.setCells b o l).heap[k]? = w.heap[k]? := by
  induction l with
  | nil => intro w o; rfl
  | cons v r ih => intro w o; exact (ih _ _).trans (Below.heap_setCell _ _ _ _ hne)
theorem setCells_size (b : Nat) (l : List Value) : ∀ (w : World) (o : Nat), (w.setCells b o l).heap.size = w.heap.size := by
  induction l with
  | nil => intro w o; rfl
  | cons v r ih => intro w o; rw [World.setCells, ih]; simp
/-- nothing that was there is turned, but for the blocks M -/
structure Mod (M : List Nat) (w w' : World) : Prop where
  os : w'.os = w.os
  tape : w'.tape = w.tape
  output : w'.output = w.output
  size : w.heap.size ≤ w'.heap.size
  block : ∀ k, k < w.heap.size → k ∉ M → w'.heap[k]? = w.heap[k]?
theorem Mod.refl (M : List Nat) (w : World) : Mod M w w := ⟨rfl, rfl, rfl, Nat.le_refl _, fun _ _ _ => rfl⟩
theorem Mod.trans {M : List Nat} {a b c : World} (h : Mod M a b) (k : Mod M b c) : Mod M a c :=
  ⟨k.os.trans h.os, k.tape.trans h.tape, k.output.trans h.output, Nat.le_trans h.size k.size, fun i hi hn => (k.block i (Nat.lt_of_lt_of_le hi h.size) hn).trans (h.block i hi hn)⟩
theorem Mod.ofBelow {M : List Nat} {w w' : World} (h : Below w.heap.size w w') : Mod M w w' := ⟨h.os, h.tape, h.output, h.size, fun k hk _ => h.block k hk⟩
theorem Mod.below {w w' : World} (h : Mod [] w w') : Below w.heap.size w w' := ⟨h.os, h.tape, h.output, h.size, fun k hk => h.block k hk (by simp)⟩
theorem Mod.alloc (M : List Nat) (w : World) (o : Obj) : Mod M w (w.alloc o) := Mod.ofBelow ((Below.refl _ _).alloc (Nat.le_refl _) o)
theorem Mod.drew (M : List Nat) (w : World) : Mod M w w.drew := Mod.ofBelow ((Below.refl _ _).drew)
/-- a callee's own frame: what it may turn is new to us, or ours to turn -/
theorem Mod.step {M N : List Nat} {w0 w w' : World} (h : Mod M w0 w) (k : Mod N w w') (hN : ∀ b, b ∈ N → w0.heap.size ≤ b ∨ b ∈ M) : Mod M w0 w' :=
  ⟨k.os.trans h.os, k.tape.trans h.tape, k.output.trans h.output, Nat.le_trans h.size k.size, fun i hi hn => by
    refine (k.block i (Nat.lt_of_lt_of_le hi h.size) fun hb => ?_).trans (h.block i hi hn)
    rcases hN i hb with h1 | h1
    · omega
    · exact hn h1⟩
theorem Mod.setCells {M : List Nat} {w0 w : World} (h : Mod M w0 w) {b : Nat} (hb : w0.heap.size ≤ b ∨ b ∈ M) (o : Nat) (l : List Value) : Mod M w0 (w.setCells b o l) := by
  refine h.step (N := [b]) ⟨?_, ?_, ?_, by rw [setCells_size]; exact Nat.le_refl _, fun k _ hk => setCells_heap (by simpa using hk) l w o⟩ (fun k hk => by simp at hk; subst hk; exact hb)
  all_goals
    clear hb h
    induction l generalizing w o with
    | nil => rfl
    | cons v r ih => rw [World.setCells]; exact (ih (w := w.setCell ⟨b, o, none⟩ v) (o := o + 1)).trans rfl
abbrev RowL := List (Nat × Array Value × TypeId)
/-- what a walk knows of the world: its frame since w0, and which blocks (new ones, or of M) are which rows -/
structure Kn (M : List Nat) (w0 w : World) (L : RowL) : Prop where
  mod : Mod M w0 w
  has : ∀ x, x ∈ L → At w x.1 x.2.1 x.2.2 ∧ (w0.heap.size ≤ x.1 ∨ x.1 ∈ M)
  dis : L.Pairwise fun x y => x.1 ≠ y.1
theorem Kn.at {M : List Nat} {w0 w : World} {L : RowL} {b : Nat} {A : Array Value} {t : TypeId} (h : Kn M w0 w L) (hm : (b, A, t) ∈ L) : At w b A t := (h.has _ hm).1
theorem Kn.nil (M : List Nat) (w : World) : Kn M w w [] := ⟨Mod.refl _ _, fun x h => (by cases h), List.Pairwise.nil⟩
theorem Kn.alloc {M : List Nat} {w0 w : World} {L : RowL} (h : Kn M w0 w L) (A : Array Value) (t : TypeId) : Kn M w0 (w.alloc (.cells A t)) ((w.heap.size, A, t) :: L) := by
  refine ⟨h.mod.trans (Mod.alloc _ _ _), ?_, List.Pairwise.cons (fun y hy e => by have := (h.has y hy).1.lt; omega) h.dis⟩
  intro x hx
  rcases List.mem_cons.1 hx with rfl | hx
  · exact ⟨heap_alloc_new _ _, Or.inl h.mod.size⟩
  · exact ⟨(h.has x hx).1.of (Below.heap_alloc _ _ _ (h.has x hx).1.lt), (h.has x hx).2⟩
theorem Kn.drew {M : List Nat} {w0 w : World} {L : RowL} (h : Kn M w0 w L) : Kn M w0 w.drew L := ⟨h.mod.trans (Mod.drew _ _), h.has, h.dis⟩
/-- behind a call that turns nothing -/
theorem Kn.call {M : List Nat} {w0 w w' : World} {L : RowL} (h : Kn M w0 w L) (hb : Below w.heap.size w w') : Kn M w0 w' L :=
  ⟨h.mod.trans (Mod.ofBelow hb), fun x hx => ⟨(h.has x hx).1.of (hb.block _ (h.has x hx).1.lt), (h.has x hx).2⟩, h.dis⟩
theorem Kn.drop {M : List Nat} {w0 w : World} {L : RowL} {x : Nat × Array Value × TypeId} (h : Kn M w0 w (x :: L)) : Kn M w0 w L :=
  ⟨h.mod, fun y hy => h.has y (List.mem_cons_of_mem _ hy), (List.pairwise_cons.1 h.dis).2⟩
/-- the row of a block, turned -/
def setB (b : Nat) (A : Array Value) : RowL → RowL → Prop
  | x :: L, y :: M => (x.1 = b ∧ y = (b, A, x.2.2) ∧ L = M) ∨ (x = y ∧ setB b A L M)
  | _, _ => False
theorem setB_here (b : Nat) (A A' : Array Value) (t : TypeId) (L : RowL) : setB b A' ((b, A, t) :: L) ((b, A', t) :: L) := Or.inl ⟨rfl, rfl, rfl⟩
theorem setB_next {b : Nat} {A' : Array Value} (x : Nat × Array Value × TypeId) {L M : RowL} (h : setB b A' L M) : setB b A' (x :: L) (x :: M) := Or.inr ⟨rfl, h⟩
theorem setB_keys {b : Nat} {A : Array Value} : ∀ {L M : RowL}, setB b A L M → L.map (·.1) = M.map (·.1)
  | [], [], h => h.elim
  | [], _ :: _, h => h.elim
  | _ :: _, [], h => h.elim
  | x :: L, y :: M, h => by
    rcases h with ⟨h1, h2, rfl⟩ | ⟨rfl, h⟩
    · simp [h1, h2]
    · simp [setB_keys h]
theorem setB_in {b : Nat} {A : Array Value} : ∀ {L M : RowL}, setB b A L M → b ∈ L.map (·.1)
  | [], [], h => h.elim
  | [], _ :: _, h => h.elim
  | _ :: _, [], h => h.elim
  | x :: L, y :: M, h => by
    rcases h with ⟨h1, _⟩ | ⟨_, h⟩
    · simp [h1]
    · simp only [List.map_cons, List.mem_cons]; exact Or.inr (setB_in h)
theorem setB_mem {b : Nat} {A : Array Value} : ∀ {L M : RowL}, setB b A L M → L.Pairwise (fun x y => x.1 ≠ y.1) → ∀ y, y ∈ M → (∃ x, x ∈ L ∧ x.1 = b ∧ y = (b, A, x.2.2)) ∨ (y.1 ≠ b ∧ y ∈ L)
  | [], [], h, _, _, _ => h.elim
  | [], _ :: _, h, _, _, _ => h.elim
  | _ :: _, [], h, _, _, _ => h.elim
  | x :: L, z :: M, h, hp, y, hy => by
    rcases h with ⟨h1, h2, rfl⟩ | ⟨rfl, h⟩
    · rcases List.mem_cons.1 hy with rfl | hy
      · exact Or.inl ⟨x, List.mem_cons_self, h1, h2⟩
      · have := (List.pairwise_cons.1 hp).1 y hy
        exact Or.inr ⟨fun e => this (h1.trans e.symm), List.mem_cons_of_mem _ hy⟩
    · rcases List.mem_cons.1 hy with rfl | hy
      · by_cases e : y.1 = b
        · exfalso
          have : b ∈ L.map (·.1) := setB_in h
          obtain ⟨q, hq, hq2⟩ := List.mem_map.1 this
          exact (List.pairwise_cons.1 hp).1 q hq (e.trans hq2.symm)
        · exact Or.inr ⟨e, List.mem_cons_self⟩
      · rcases setB_mem h (List.pairwise_cons.1 hp).2 y hy with ⟨q, h3, h4, h5⟩ | ⟨h1, h2⟩
        · exact Or.inl ⟨q, List.mem_cons_of_mem _ h3, h4, h5⟩
        · exact Or.inr ⟨h1, List.mem_cons_of_mem _ h2⟩
theorem pw_keys {L M : RowL} (h : L.map (·.1) = M.map (·.1)) (hp : L.Pairwise fun x y => x.1 ≠ y.1) : M.Pairwise fun x y => x.1 ≠ y.1 := by
  have h1 : (L.map (·.1)).Pairwise (fun x y => x ≠ y) := List.pairwise_map.2 hp
  rw [h] at h1
  exact List.pairwise_map.1 h1
theorem Kn.put {M : List Nat} {w0 w : World} {L L' : RowL} {b o : Nat} {A : Array Value} {t : TypeId} (h : Kn M w0 w L) (hm : (b, A, t) ∈ L) (l : List Value) (hs : setB b (putA A o l) L L') : Kn M w0 (w.setCells b o l) L' := by
  refine ⟨h.mod.setCells (h.has _ hm).2 o l, fun y hy => ?_, pw_keys (setB_keys hs) h.dis⟩
  rcases setB_mem hs h.dis y hy with ⟨q, h3, h4, h5⟩ | ⟨h1, h2⟩
  · have hq := (h.has q h3).1
    have hr := (h.has _ hm).1
    unfold At at hq hr
    simp only at hr
    rw [h4, hr] at hq
    simp only [Option.some.injEq, Obj.cells.injEq] at hq
    rw [h5, ← hq.2.1]
    exact ⟨(h.has _ hm).1.setCells l o, (h.has _ hm).2⟩
  · exact ⟨(h.has y h2).1.of (setCells_heap h1 l w o), (h.has y h2).2⟩
/-- a type of rows of n cells; one of one cell -/
structure RowT (P : Program) (ty : TypeId) (n : Nat) : Prop where
  ex : ∃ d, P.underlying ty = some d ∧ d.isRow = true
  hi : (P.info? ty).map (·.size) = some n
structure OneT (P : Program) (ty : TypeId) : Prop where
  ex : ∃ d, P.underlying ty = some d ∧ d.isRow = false
  hi : (P.info? ty).map (·.size) = some 1
section laws
variable {P : Program} {d : Option Tmp} {tt : TypeId} {pos : String} {aft : Array Edge} {g : Option (Nat × Bool)} {a : Act} {w : World} {K : Act → World → Prop} {Q : Exit → Act → World → Prop} {M : List Nat} {w0 : World} {L L' : RowL} {ty : TypeId} {x y : Operand} {A A' cs : Array Value} {b j n : Nat} {t : TypeId} {v z : Value}
/-- a row into a new block -/
theorem oBox (hx : a.eval x = .agg A) (hk : Kn M w0 w L) (h : ∀ w1, Kn M w0 w1 ((w.heap.size, A, ty) :: L) → K (a.put d (.pointer (some ⟨w.heap.size, 0, none⟩))) w1) : Oper.wp P ⟨d, .box ty x, tt, pos, aft, g⟩ a w K Q := by
  have h1 := h (w.alloc (.cells A ty)) (hk.alloc A ty)
  unfold Oper.wp execOp
  simp only [hx, Instr.box, newVar, newRow, Value.cells, run_newObj_alloc, Sem.run_bind, Sem.run_pure, Result.andThen_ok]
  exact h1
theorem oBox1 (hx : a.eval x = v) (hv : v.cells = #[v]) (hk : Kn M w0 w L) (h : ∀ w1, Kn M w0 w1 ((w.heap.size, #[v], ty) :: L) → K (a.put d (.pointer (some ⟨w.heap.size, 0, none⟩))) w1) : Oper.wp P ⟨d, .box ty x, tt, pos, aft, g⟩ a w K Q := by
  have h1 := h (w.alloc (.cells #[v] ty)) (hk.alloc _ ty)
  unfold Oper.wp execOp
  simp only [hx, Instr.box, newVar, newRow, hv, run_newObj_alloc, Sem.run_bind, Sem.run_pure, Result.andThen_ok]
  exact h1
/-- a new variable, at its zero -/
theorem oAlloc (hz : (P.info? ty).map (·.zero) = some (some z)) (hA : z.cells = A) (hk : Kn M w0 w L) (h : ∀ w1, Kn M w0 w1 ((w.heap.size, A, ty) :: L) → K (a.put d (.pointer (some ⟨w.heap.size, 0, none⟩))) w1) : Oper.wp P ⟨d, .alloc ty, tt, pos, aft, g⟩ a w K Q := by
  have h1 := h (w.alloc (.cells A ty)) (hk.alloc A ty)
  cases hq : P.info? ty with
  | none => rw [hq] at hz; simp at hz
  | some i =>
    have hs : i.zero = some z := by simpa [hq] using hz
    unfold Oper.wp execOp
    simp only [Instr.alloc, zeroValue, typeInfo, newVar, newRow, hA, run_newObj_alloc, Sem.run_bind, Sem.run_pure, Result.andThen_ok, hq, hs, run_program]
    exact h1
/-- a new row, at its zero -/
theorem oAllocR (hz : (P.info? ty).map (·.zero) = some (some (.agg A))) (hk : Kn M w0 w L) (h : ∀ w1, Kn M w0 w1 ((w.heap.size, A, ty) :: L) → K (a.put d (.pointer (some ⟨w.heap.size, 0, none⟩))) w1) : Oper.wp P ⟨d, .alloc ty, tt, pos, aft, g⟩ a w K Q := oAlloc hz rfl hk h
/-- a row is made of parts -/
theorem oBuild {parts : Array (Nat × Operand)} {ps : List (Nat × Value)} (hps : (parts.toList.map fun (i, x) => (i, a.eval x)) = ps) (hb : (Instr.build ty ps.toArray).run P w = .ok v w) (h : K (a.put d v) w) : Oper.wp P ⟨d, .build ty parts, tt, pos, aft, g⟩ a w K Q := by
  unfold Oper.wp execOp
  have e : (parts.map fun (i, x) => (i, a.eval x)) = ps.toArray := by rw [← hps]; exact (Array.toList_inj.1 (by rw [Array.toList_map]))
  simp only [Sem.run_bind, Sem.run_pure, Result.andThen_ok, e, hb]
  exact h
theorem run_loadRange (hr : w.rangeAt b j cs.toList) (hT : RowT P ty n) (hn : cs.size = n) : (Instr.loadAt ty (.pointer (some ⟨b, j, none⟩))).run P w = .ok (.agg cs) w := by
  obtain ⟨dd, hu, hd⟩ := hT.ex
  have := run_loadAt_mid (P := P) w b j ty cs.toList dd hr hu hd (by rw [hT.hi, Array.length_toList, hn])
  simpa using this
theorem run_loadA (hat : At w b A t) (hT : RowT P ty n) (hc : A.extract j (j + n) = cs) (hn : cs.size = n) : (Instr.loadAt ty (.pointer (some ⟨b, j, none⟩))).run P w = .ok (.agg cs) w := by
  subst hc
  exact run_loadRange (hat.range j n) hT hn
theorem run_loadC (hc : w.cell? ⟨b, j, none⟩ = some v) (hT : OneT P ty) : (Instr.loadAt ty (.pointer (some ⟨b, j, none⟩))).run P w = .ok v w := by
  obtain ⟨dd, hu, hd⟩ := hT.ex
  have hagg : (isAgg ty).run P w = .ok false w := by
    unfold isAgg
    rw [Sem.run_bind, run_underlying hu w]
    cases dd <;> simp_all
  simp [Instr.loadAt, Instr.sureAddr, loadVar, Sem.run_bind, hagg, hc]
/-- a row is read -/
theorem oLoadR (hx : a.eval x = .pointer (some ⟨b, j, none⟩)) (hk : Kn M w0 w L) (hm : (b, A, t) ∈ L) (hT : RowT P ty n) (hc : A.extract j (j + n) = cs) (hn : cs.size = n) (h : K (a.put d (.agg cs)) w) : Oper.wp P ⟨d, .load ty x, tt, pos, aft, g⟩ a w K Q := by
  unfold Oper.wp execOp
  simp only [hx, Sem.run_bind, Sem.run_pure, Result.andThen_ok, run_loadA (hk.at hm) hT hc hn]
  exact h
/-- one cell is read -/
theorem oLoad1 (hx : a.eval x = .pointer (some ⟨b, j, none⟩)) (hk : Kn M w0 w L) (hm : (b, A, t) ∈ L) (hT : OneT P ty) (hv : A[j]? = some v) (h : K (a.put d v) w) : Oper.wp P ⟨d, .load ty x, tt, pos, aft, g⟩ a w K Q := by
  unfold Oper.wp execOp
  simp only [hx, Sem.run_bind, Sem.run_pure, Result.andThen_ok, run_loadC (by rw [(hk.at hm).cell]; exact hv) hT]
  exact h
/-- old cells are read -/
theorem oLoadOld1 (hx : a.eval x = .pointer (some ⟨b, j, none⟩)) (hk : Kn M w0 w L) (hc : w0.cell? ⟨b, j, none⟩ = some v) (hM : b ∉ M) (hT : OneT P ty) (h : K (a.put d v) w) : Oper.wp P ⟨d, .load ty x, tt, pos, aft, g⟩ a w K Q := by
  have hb := World.block_lt_of_cell? w0 _ hc
  have hc' : w.cell? ⟨b, j, none⟩ = some v := by
    rw [World.cell?_of_block (w := w0) (a := ⟨b, j, none⟩) (hk.mod.block b hb hM)]; exact hc
  unfold Oper.wp execOp
  simp only [hx, Sem.run_bind, Sem.run_pure, Result.andThen_ok, run_loadC hc' hT]
  exact h
theorem oLoadOldR (hx : a.eval x = .pointer (some ⟨b, j, none⟩)) (hk : Kn M w0 w L) (hc : w0.rangeAt b j cs.toList) (hb : b < w0.heap.size) (hM : b ∉ M) (hT : RowT P ty n) (hn : cs.size = n) (h : K (a.put d (.agg cs)) w) : Oper.wp P ⟨d, .load ty x, tt, pos, aft, g⟩ a w K Q := by
  have hc' : w.rangeAt b j cs.toList := fun i u hu => by
    rw [World.cell?_of_block (w := w0) (a := ⟨b, j + i, none⟩) (hk.mod.block b hb hM)]; exact hc i u hu
  unfold Oper.wp execOp
  simp only [hx, Sem.run_bind, Sem.run_pure, Result.andThen_ok, run_loadRange hc' hT hn]
  exact h
/-- a row is written -/
theorem oStoreR (hx : a.eval x = .pointer (some ⟨b, j, none⟩)) (hy : a.eval y = .agg cs) (hk : Kn M w0 w L) (hm : (b, A, t) ∈ L) (hT : RowT P ty n) (hn : cs.size = n) (hj : j + n ≤ A.size) (h1 : cs.toList.all (·.oneCell') = true) (hA : putA A j cs.toList = A') (hs : setB b A' L L')
    (h : ∀ w1, Kn M w0 w1 L' → K (a.put d undef) w1) : Oper.wp P ⟨d, .store ty x y, tt, pos, aft, g⟩ a w K Q := by
  subst hA
  have h2 := h (w.setCells b j cs.toList) (hk.put hm cs.toList hs)
  have hat := hk.at hm
  have ht : w.there b j cs.size := fun k hk => ⟨by rw [hat.cell, Array.getElem?_eq_getElem (by omega)]; rfl, hat.free _⟩
  exact wp_store_mid ty x y rfl b j cs hx hy ht (by rw [hT.hi, hn]) (by rw [← Array.all_toList]; exact h1) h2
/-- one cell is written -/
theorem oStore1 (hx : a.eval x = .pointer (some ⟨b, j, none⟩)) (hy : a.eval y = v) (hk : Kn M w0 w L) (hm : (b, A, t) ∈ L) (hT : OneT P ty) (hv : v.cells = #[v]) (hj : j + 1 ≤ A.size) (h1 : v.oneCell' = true) (hA : A.setIfInBounds j v = A') (hs : setB b A' L L')
    (h : ∀ w1, Kn M w0 w1 L' → K (a.put d undef) w1) : Oper.wp P ⟨d, .store ty x y, tt, pos, aft, g⟩ a w K Q := by
  subst hA
  have h2 := h (w.setCells b j [v]) (hk.put hm [v] hs)
  have hat := hk.at hm
  have hst : (store ⟨b, j, none⟩ v).run P w = .ok () (w.setCell ⟨b, j, none⟩ v) := by
    have hc : (w.cell? ⟨b, j, none⟩).isSome = true := by rw [hat.cell, Array.getElem?_eq_getElem (by omega)]; rfl
    have := run_storeCells_cells (P := P) b j [v] 0 w (fun k hk => by simp at hk; subst hk; simpa using hc) (fun k hk => hat.free _) (fun u hu => by simp at hu; subst hu; exact h1)
    have e0 : (⟨b, j, none⟩ : Addr).add 0 = ⟨b, j, none⟩ := by rw [Addr.add_mid]; rfl
    simpa [storeCells, World.setCells, e0] using this
  have hi := hT.hi
  cases hq : P.info? ty with
  | none => simp [hq] at hi
  | some i =>
    have hs1 : i.size = 1 := by simpa [hq] using hi
    have e0 : (⟨b, j, none⟩ : Addr).add 0 = ⟨b, j, none⟩ := by rw [Addr.add_mid]; rfl
    unfold Oper.wp execOp
    simp only [hx, hy, Instr.storeAt, Instr.sureAddr, storeVar, sizeOf, typeInfo, hq, hv, hs1, storeCells, e0, Sem.run_bind, Sem.run_pure, Result.andThen_ok, run_program]
    simp only [ne_eq, not_true_eq_false, Array.size_singleton, if_false, Sem.run_bind, hst, Result.andThen_ok, Sem.run_pure]
    exact h2
end laws
/-- the first operation of a list -/
theorem wl1 {P : Program} {ops : Array Oper} {Q : Exit → Act → World → Prop} {a : Act} {w : World} {rest : List Oper} {o : Oper} (hw : Region.wanted o (yielded ops a.tmps) = true) (h : o.wp P a w (wpList P ops Q rest) Q) : wpList P ops Q (o :: rest) a w := by
  unfold wpList; rw [if_pos hw]; exact Or.inl h
/-- results that lie in memory -/
theorem run_resA {P : Program} {w : World} {b : Nat} {A : Array Value} {t ty : TypeId} {n : Nat} (hat : At w b A t) (hT : RowT P ty n) (hn : A.size = n) : (loadVar ty ⟨b, 0, none⟩).run P w = .ok (.agg A) w := by
  obtain ⟨dd, hu, hd⟩ := hT.ex
  have hr := hat.range 0 n
  have e : A.extract 0 (0 + n) = A := by rw [Nat.zero_add, ← hn]; exact Array.extract_size
  rw [e] at hr
  have := run_loadVar_mid (P := P) w b 0 ty A.toList dd hr hu hd (by rw [hT.hi, Array.length_toList, hn])
  simpa using this
theorem post_1 {P : Program} {fn : Func} {R : Ending → World → Prop} {a : Act} {w : World} {s b n : Nat} {ty t : TypeId} {A : Array Value} (hf : fn.results = #[.cell s ty]) (hs : a.tmps.getD s undef = .pointer (some ⟨b, 0, none⟩)) (hat : At w b A t) (hT : RowT P ty n) (hn : A.size = n) (hd : a.defers = []) (hR : R (.returned (.agg A)) w) : bodyPost P fn R .ret a w := by
  refine bodyPost_ret (v := .agg A) ?_ hd hR
  rw [Array.getD_eq_getD_getElem?] at hs
  simp [results, hf, hs, asAddr, run_resA hat hT hn]
theorem post_2 {P : Program} {fn : Func} {R : Ending → World → Prop} {a : Act} {w : World} {s b n s' b' n' : Nat} {ty t ty' t' : TypeId} {A A' : Array Value} (hf : fn.results = #[.cell s ty, .cell s' ty']) (hs : a.tmps.getD s undef = .pointer (some ⟨b, 0, none⟩)) (hat : At w b A t) (hT : RowT P ty n) (hn : A.size = n)
    (hs' : a.tmps.getD s' undef = .pointer (some ⟨b', 0, none⟩)) (hat' : At w b' A' t') (hT' : RowT P ty' n') (hn' : A'.size = n') (hd : a.defers = []) (hR : R (.returned (.tuple #[.agg A, .agg A'])) w) : bodyPost P fn R .ret a w := by
  refine bodyPost_ret (v := .tuple #[.agg A, .agg A']) ?_ hd hR
  rw [Array.getD_eq_getD_getElem?] at hs hs'
  simp [results, hf, hs, hs', asAddr, run_resA hat hT hn, run_resA hat' hT' hn']
end Go.Proofs.YtamiichlbmllcaaGreatDoor
