import Derived.Test.YtamiichlbmllcaaGreatDoorProg
import Derived.WalkKit
import Derived.WalkSpells
import Derived.WalkLawsBesides
/-
  Contracts of the leaves of package code: isBelow, registersOf, mayStand, for every argument, in every world that holds the table of shapes.
-/
namespace Go.Proofs.YtamiichlbmllcaaGreatDoor
open Go.RowKit
theorem isBelow_any (n b : Int) (w : World) :
    Calls Tryz.prog 99 #[.int .i64 n, .int .i64 b] w fun e w' => e = .returned (.bool (decide (0 ≤ n ∧ n < b))) ∧ w' = w := by
  by_cases h0 : 0 ≤ n <;> by_cases h1 : n < b
  all_goals
    go_enter Tryz.func99, Tryz.ntmps99
    go_wp2
    go_ret
    exact ⟨by simp [h0, h1], rfl⟩
theorem registersOf_any (o a b c k : Int) (w : World) :
    Calls Tryz.prog 98 #[.agg #[.int .i64 o, .int .i64 a, .int .i64 b, .int .i64 c, .int .i64 k]] w fun e w' => e = .returned (.agg #[.int .i64 a, .int .i64 b, .int .i64 c]) ∧ Below w.heap.size w w' := by
  go_enter Tryz.func98, Tryz.ntmps98
  go_wp2
  exact bodyPost_ret (v := .agg #[.int .i64 a, .int .i64 b, .int .i64 c]) (by simp [results, Tryz.results98, go_sem]) rfl ⟨rfl, ((Below.refl _ _).alloc (Nat.le_refl _) _).alloc (by simp) _⟩
def nregs (o : Int) : Int := if o = 0 ∨ o = 9 then 0 else if o = 1 then 1 else if 3 ≤ o ∧ o ≤ 6 then 3 else 2
def kbytes (o : Int) : Int := if o = 1 then 8 else if 9 ≤ o then 1 else 0
theorem nregs_bd (o : Int) : 0 ≤ nregs o ∧ nregs o ≤ 3 := by unfold nregs; repeat' split <;> omega
/-- what the table holds -/
def Shapes (w : World) : Prop := 0 < w.heap.size ∧ ∀ o : Int, 0 ≤ o → o < 12 → w.cell? ⟨0, o.toNat * 3, none⟩ = some (.int .i64 (nregs o)) ∧ w.cell? ⟨0, o.toNat * 3 + 1, none⟩ = some (.int .i64 (kbytes o)) ∧ w.cell? ⟨0, o.toNat * 3 + 2, none⟩ = some (.int .i64 (1 + nregs o + kbytes o))
theorem bcell {W w1 : World} (hb : Below W.heap.size W w1) : (∀ b o, b < W.heap.size → w1.cell? ⟨b, o, none⟩ = W.cell? ⟨b, o, none⟩) ∧ (∀ b o, b < W.heap.size → w1.frozen? ⟨b, o, none⟩ = W.frozen? ⟨b, o, none⟩) :=
  ⟨fun b o h => hb.cell (p := ⟨b, o, none⟩) h, fun b o h => hb.frozen (p := ⟨b, o, none⟩) h⟩

def regOk (need j r : Int) : Bool := if j < need then decide (0 ≤ r) && decide (r < 8) else decide (r = 0)
def kOk (kb k n : Int) : Bool := if kb = 8 then true else if kb = 1 then decide (0 ≤ k) && decide (k < n) else decide (k = 0)
def fitsB (o a b c k n : Int) : Bool := decide (0 ≤ o) && decide (o < 12) && regOk (nregs o) 0 a && regOk (nregs o) 1 b && regOk (nregs o) 2 c && kOk (kbytes o) k n
theorem regOk_lo {need j r : Int} (h : j < need) : regOk need j r = (decide (0 ≤ r) && decide (r < 8)) := by simp [regOk, h]
theorem regOk_hi {need j r : Int} (h : ¬ j < need) : regOk need j r = decide (r = 0) := by simp [regOk, h]
theorem kb_three (o : Int) : kbytes o = 8 ∨ kbytes o = 1 ∨ kbytes o = 0 := by unfold kbytes; (repeat' split) <;> omega
theorem fits_no0 {o a b c k n : Int} (h : regOk (nregs o) 0 a = false) : fitsB o a b c k n = false := by simp [fitsB, h]
theorem fits_no1 {o a b c k n : Int} (h : regOk (nregs o) 1 b = false) : fitsB o a b c k n = false := by simp [fitsB, h]
theorem fits_no2 {o a b c k n : Int} (h : regOk (nregs o) 2 c = false) : fitsB o a b c k n = false := by simp [fitsB, h]
theorem hide {p : Prop} (h : p) : Hid p := h
theorem ret_bool {a b : Bool} (h : a = b) : Ending.returned (.bool a) = .returned (.bool b) := by rw [h]
set_option maxHeartbeats 1000000 in
theorem mayStand_yes (o a b c k n : Int) (w : World) (hs : Shapes w) (ho0 : 0 ≤ o) (ho1 : o < 12) :
    Calls Tryz.prog 61 #[.agg #[.int .i64 o, .int .i64 a, .int .i64 b, .int .i64 c, .int .i64 k], .int .i64 n] w fun e w' => e = .returned (.bool (fitsB o a b c k n)) ∧ Below w.heap.size w w' := by
  obtain ⟨h0, hs⟩ := hs
  obtain ⟨s0, s1, _⟩ := hs o ho0 ho1
  clear hs
  have d0 : decide (o < 0) = false := by simpa using ho0
  have d1 : decide (12 ≤ o) = false := by simpa using ho1
  obtain ⟨nb0, nb1⟩ := nregs_bd o
  have i0 : ∀ w, (Instr.index 167 (.agg #[.int .i64 a, .int .i64 b, .int .i64 c]) (.int .i64 0)).run Tryz.prog w = .ok (.int .i64 a) w := fun _ => by kernel_rfl
  have i1 : ∀ w, (Instr.index 167 (.agg #[.int .i64 a, .int .i64 b, .int .i64 c]) (.int .i64 1)).run Tryz.prog w = .ok (.int .i64 b) w := fun _ => by kernel_rfl
  have i2 : ∀ w, (Instr.index 167 (.agg #[.int .i64 a, .int .i64 b, .int .i64 c]) (.int .i64 2)).run Tryz.prog w = .ok (.int .i64 c) w := fun _ => by kernel_rfl
  go_enter Tryz.func61, Tryz.ntmps61
  go_wp2_with (go_at_call 98; refine (registersOf_any _ _ _ _ _ _).mono ?_; rintro e w1 ⟨rfl, hb⟩)
  obtain ⟨hc, hf⟩ := bcell hb
  clear hf
  simp at hc
  have hfin : Below w.heap.size w w1 := (((Below.refl _ _).alloc (Nat.le_refl _) _).trans (hb.mono (by simp)))
  go_loop [23] (fun i => ∃ j : Nat, j ≤ 3 ∧ i = .int .i64 j ∧ (0 < j → regOk (nregs o) 0 a = true) ∧ (1 < j → regOk (nregs o) 1 b = true) ∧ (2 < j → regOk (nregs o) 2 c = true)) (fun i => 3 - (intOf i).toNat)
  case atStart => exact ⟨0, by omega, rfl, by simp, by simp, by simp⟩
  case round =>
    obtain ⟨j, hj, rfl, r0, r1, r2⟩ := hrel
    match j, hj, r0, r1, r2 with
    | 0, _, r0, r1, r2 =>
      clear i1 i2
      by_cases hn : 0 < nregs o
      · have R : Hid (regOk (nregs o) 0 a = (decide (0 ≤ a) && decide (a < 8))) := hide (regOk_lo (r := a) hn)
        by_cases hx : 0 ≤ a <;> by_cases hy : a < 8
        all_goals
          go_wp2_with (go_at_call 99; refine (isBelow_any _ _ _).mono ?_; rintro e w' ⟨rfl, rfl⟩)
          all_goals first
            | exact ⟨⟨1, by omega, rfl, (fun _ => R.out.trans (by simp [*])), (by omega), (by omega)⟩, by simp [intOf]⟩
            | (go_ret; exact ⟨ret_bool (fits_no0 (R.out.trans (by simp [hx, hy]))).symm, hfin⟩)
      · have R : Hid (regOk (nregs o) 0 a = decide (a = 0)) := hide (regOk_hi (r := a) hn)
        have hx : (a != 0) = !decide (a = 0) := by by_cases h : a = 0 <;> simp [h]
        cases hy : decide (a = 0)
        all_goals
          rw [hy] at hx
          go_wp2_with (go_at_call 99; refine (isBelow_any _ _ _).mono ?_; rintro e w' ⟨rfl, rfl⟩)
          all_goals first
            | exact ⟨⟨1, by omega, rfl, (fun _ => R.out.trans (by simp [*])), (by omega), (by omega)⟩, by simp [intOf]⟩
            | (go_ret; exact ⟨ret_bool (fits_no0 (R.out.trans hy)).symm, hfin⟩)
    | 1, _, r0, r1, r2 =>
      clear i0 i2
      by_cases hn : 1 < nregs o
      · have R : Hid (regOk (nregs o) 1 b = (decide (0 ≤ b) && decide (b < 8))) := hide (regOk_lo (r := b) hn)
        by_cases hx : 0 ≤ b <;> by_cases hy : b < 8
        all_goals
          go_wp2_with (go_at_call 99; refine (isBelow_any _ _ _).mono ?_; rintro e w' ⟨rfl, rfl⟩)
          all_goals first
            | exact ⟨⟨2, by omega, rfl, (fun _ => r0 (by omega)), (fun _ => R.out.trans (by simp [*])), (by omega)⟩, by simp [intOf]⟩
            | (go_ret; exact ⟨ret_bool (fits_no1 (R.out.trans (by simp [hx, hy]))).symm, hfin⟩)
      · have R : Hid (regOk (nregs o) 1 b = decide (b = 0)) := hide (regOk_hi (r := b) hn)
        have hx : (b != 0) = !decide (b = 0) := by by_cases h : b = 0 <;> simp [h]
        cases hy : decide (b = 0)
        all_goals
          rw [hy] at hx
          go_wp2_with (go_at_call 99; refine (isBelow_any _ _ _).mono ?_; rintro e w' ⟨rfl, rfl⟩)
          all_goals first
            | exact ⟨⟨2, by omega, rfl, (fun _ => r0 (by omega)), (fun _ => R.out.trans (by simp [*])), (by omega)⟩, by simp [intOf]⟩
            | (go_ret; exact ⟨ret_bool (fits_no1 (R.out.trans hy)).symm, hfin⟩)
    | 2, _, r0, r1, r2 =>
      clear i0 i1
      by_cases hn : 2 < nregs o
      · have R : Hid (regOk (nregs o) 2 c = (decide (0 ≤ c) && decide (c < 8))) := hide (regOk_lo (r := c) hn)
        by_cases hx : 0 ≤ c <;> by_cases hy : c < 8
        all_goals
          go_wp2_with (go_at_call 99; refine (isBelow_any _ _ _).mono ?_; rintro e w' ⟨rfl, rfl⟩)
          all_goals first
            | exact ⟨⟨3, by omega, rfl, (fun _ => r0 (by omega)), (fun _ => r1 (by omega)), (fun _ => R.out.trans (by simp [*]))⟩, by simp [intOf]⟩
            | (go_ret; exact ⟨ret_bool (fits_no2 (R.out.trans (by simp [hx, hy]))).symm, hfin⟩)
      · have R : Hid (regOk (nregs o) 2 c = decide (c = 0)) := hide (regOk_hi (r := c) hn)
        have hx : (c != 0) = !decide (c = 0) := by by_cases h : c = 0 <;> simp [h]
        cases hy : decide (c = 0)
        all_goals
          rw [hy] at hx
          go_wp2_with (go_at_call 99; refine (isBelow_any _ _ _).mono ?_; rintro e w' ⟨rfl, rfl⟩)
          all_goals first
            | exact ⟨⟨3, by omega, rfl, (fun _ => r0 (by omega)), (fun _ => r1 (by omega)), (fun _ => R.out.trans (by simp [*]))⟩, by simp [intOf]⟩
            | (go_ret; exact ⟨ret_bool (fits_no2 (R.out.trans hy)).symm, hfin⟩)
    | 3, _, r0, r1, r2 =>
      clear i0 i1 i2
      have r0 := hide (r0 (by omega))
      have r1 := hide (r1 (by omega))
      have r2 := hide (r2 (by omega))
      rcases kb_three o with hk | hk | hk
      · have R : Hid (fitsB o a b c k n = true) := hide (by simp [fitsB, r0.out, r1.out, r2.out, hk, kOk, ho0, ho1])
        rw [hk] at s1
        go_wp2
        go_ret
        exact ⟨ret_bool R.out.symm, hfin⟩
      · have R : Hid (fitsB o a b c k n = (decide (0 ≤ k) && decide (k < n))) := hide (by simp [fitsB, r0.out, r1.out, r2.out, hk, kOk, ho0, ho1])
        rw [hk] at s1
        go_wp2_with (go_at_call 99; refine (isBelow_any _ _ _).mono ?_; rintro e w' ⟨rfl, rfl⟩)
        go_ret
        exact ⟨ret_bool R.out.symm, hfin⟩
      · have R : Hid (fitsB o a b c k n = (k == 0)) := hide (by simp [fitsB, r0.out, r1.out, r2.out, hk, kOk, ho0, ho1]; rfl)
        rw [hk] at s1
        go_wp2
        go_ret
        exact ⟨ret_bool R.out.symm, hfin⟩
    | j + 4, hj, _, _, _ => omega
set_option maxHeartbeats 400000 in
theorem mayStand_any (o a b c k n : Int) (w : World) (hs : Shapes w) :
    Calls Tryz.prog 61 #[.agg #[.int .i64 o, .int .i64 a, .int .i64 b, .int .i64 c, .int .i64 k], .int .i64 n] w fun e w' => e = .returned (.bool (fitsB o a b c k n)) ∧ Below w.heap.size w w' := by
  by_cases ho0 : 0 ≤ o
  · by_cases ho1 : o < 12
    · exact mayStand_yes o a b c k n w hs ho0 ho1
    · have R : Hid (fitsB o a b c k n = false) := hide (by simp [fitsB, ho1])
      go_enter Tryz.func61, Tryz.ntmps61
      go_wp2
      go_ret
      exact ⟨ret_bool R.out.symm, (Below.refl _ _).alloc (Nat.le_refl _) _⟩
  · have R : Hid (fitsB o a b c k n = false) := hide (by simp [fitsB, ho0])
    go_enter Tryz.func61, Tryz.ntmps61
    go_wp2
    go_ret
    exact ⟨ret_bool R.out.symm, (Below.refl _ _).alloc (Nat.le_refl _) _⟩
end Go.Proofs.YtamiichlbmllcaaGreatDoor
/-
  The contracts of code.Right and surety.Right: for every slice of instructions the error and the place.
-/
namespace Go.Proofs.YtamiichlbmllcaaGreatDoor
open Go.RowKit
structure I5 where
  o : Int
  a : Int
  b : Int
  c : Int
  k : Int
def I5.val (i : I5) : Value := .agg #[.int .i64 i.o, .int .i64 i.a, .int .i64 i.b, .int .i64 i.c, .int .i64 i.k]
def I5.fits (i : I5) (n : Int) : Bool := fitsB i.o i.a i.b i.c i.k n
/-- five cells at an address -/
def InsAt (w : World) (b o : Nat) (i : I5) : Prop := w.cell? ⟨b, o, none⟩ = some (.int .i64 i.o) ∧ w.cell? ⟨b, o + 1, none⟩ = some (.int .i64 i.a) ∧ w.cell? ⟨b, o + 2, none⟩ = some (.int .i64 i.b) ∧ w.cell? ⟨b, o + 3, none⟩ = some (.int .i64 i.c) ∧ w.cell? ⟨b, o + 4, none⟩ = some (.int .i64 i.k)
theorem InsAt.below {w w' : World} {b o B : Nat} {i : I5} (h : InsAt w b o i) (hb : Below B w w') (hlt : b < B) : InsAt w' b o i := by
  unfold InsAt at *
  rw [hb.cell (p := ⟨b, o, none⟩) hlt, hb.cell (p := ⟨b, o + 1, none⟩) hlt, hb.cell (p := ⟨b, o + 2, none⟩) hlt, hb.cell (p := ⟨b, o + 3, none⟩) hlt, hb.cell (p := ⟨b, o + 4, none⟩) hlt]
  exact h
theorem Shapes.below {w w' : World} {B : Nat} (h : Shapes w) (hb : Below B w w') (hB : 0 < B) : Shapes w' := by
  refine ⟨by have := hb.size; have := h.1; omega, fun o h0 h1 => ?_⟩
  rw [hb.cell (p := ⟨0, _, none⟩) hB, hb.cell (p := ⟨0, _, none⟩) hB, hb.cell (p := ⟨0, _, none⟩) hB]
  exact h.2 o h0 h1
/-- a slice of instructions -/
def Slc (w : World) (v : Value) (l : List I5) : Prop :=
  ((∃ a cap, v = .slice a 0 cap) ∧ l = []) ∨ ∃ b off cap, v = .slice (some ⟨b, off, none⟩) l.length cap ∧ b < w.heap.size ∧ ∀ i (h : i < l.length), InsAt w b (off + i * 5) l[i]
/-- the first instruction from j on that may not be there -/
def badFrom (l : List I5) (n : Int) : Option Nat := l.findIdx? fun x => !x.fits n
theorem badFrom_none {l : List I5} {n : Int} (h : ∀ i (h : i < l.length), l[i].fits n = true) : badFrom l n = none := by
  unfold badFrom; rw [List.findIdx?_eq_none_iff]; intro x hx
  obtain ⟨i, hi, rfl⟩ := List.getElem_of_mem hx
  simp [h i hi]
theorem badFrom_some {l : List I5} {n : Int} {j : Nat} (hj : j < l.length) (hb : l[j].fits n = false) (h : ∀ i (h : i < l.length), i < j → l[i].fits n = true) : badFrom l n = some j := by
  unfold badFrom; rw [List.findIdx?_eq_some_iff_getElem]
  exact ⟨hj, by simp [hb], fun i hi => by simp [h i (by omega) hi]⟩
/-- Right: the error and the place -/
def rightR (l : List I5) : Int × Int :=
  if l.length = 0 ∨ 64 < l.length then (1, 0) else match badFrom l l.length with
    | some j => (1, j)
    | none => (0, 0)
theorem ret_two {a b c d : Int} (h : a = c) (k : b = d) : Ending.returned (.tuple #[.int .i64 a, .int .i64 b]) = .returned (.tuple #[.int .i64 c, .int .i64 d]) := by rw [h, k]
theorem rightR_yes {l : List I5} (hl : 0 < l.length) (hl2 : l.length ≤ 64) (h : ∀ i (h : i < l.length), l[i].fits l.length = true) : rightR l = (0, 0) := by
  unfold rightR; rw [if_neg (by omega), badFrom_none h]
theorem rightR_no {l : List I5} (hl : 0 < l.length) (hl2 : l.length ≤ 64) {j : Nat} (hj : j < l.length) (hb : l[j].fits l.length = false) (h : ∀ i (h : i < l.length), i < j → l[i].fits l.length = true) : rightR l = (1, (j : Int)) := by
  unfold rightR; rw [if_neg (by omega), badFrom_some hj hb h]
theorem rightR_len {l : List I5} (h : l.length = 0 ∨ 64 < l.length) : rightR l = (1, 0) := by unfold rightR; rw [if_pos h]
set_option maxHeartbeats 400000 in
theorem right_some (l : List I5) (b off cap : Nat) (w : World) (hs : Shapes w) (hb : b < w.heap.size) (hl : 0 < l.length) (hl2 : l.length ≤ 64) (hi : ∀ i (h : i < l.length), InsAt w b (off + i * 5) l[i]) :
    Calls Tryz.prog 41 #[.slice (some ⟨b, off, none⟩) l.length cap] w fun e w' => e = .returned (.tuple #[.int .i64 (rightR l).1, .int .i64 (rightR l).2]) ∧ Below w.heap.size w w' := by
  have d0 : ((l.length : Int) == 0) = false := by rw [beq_eq_false_iff_ne]; omega
  have d1 : decide ((64 : Int) < l.length) = false := by rw [decide_eq_false_iff_not]; omega
  go_enter Tryz.func41, Tryz.ntmps41
  go_wp2_with fail
  go_loopw [16] (fun i w' => ∃ j : Nat, j ≤ l.length ∧ i = .int .i64 j ∧ (∀ i (h : i < l.length), i < j → l[i].fits l.length = true) ∧ Below w.heap.size w w') (fun i _ => l.length - (intOf i).toNat)
  case atStart => exact ⟨0, by omega, rfl, fun _ _ h => by omega, Below.refl _ _⟩
  case round =>
    obtain ⟨j, hj, rfl, hall, hbl⟩ := hrel
    have hall := hide hall
    by_cases hlt : j < l.length
    · obtain ⟨c0, c1, c2, c3, c4⟩ := (hi j hlt).below hbl hb
      have hz := hbl.size
      have hs1 := hs.below hbl hs.1
      cases hfit : l[j].fits l.length
      · have R : Hid (rightR l = (1, (j : Int))) := hide (rightR_no hl hl2 hlt hfit hall.out)
        have F : Hid (l[j].fits l.length = false) := hide hfit
        clear hfit
        go_wp2_with (go_at_call 61; refine (mayStand_any _ _ _ _ _ _ _ (hs1.below ((Below.refl _ _).alloc (Nat.le_refl _) _) hs1.1)).mono ?_; rintro e w' ⟨rfl, hb2⟩; rw [show fitsB l[j].o l[j].a l[j].b l[j].c l[j].k l.length = false from F.out])
        go_ret2
        exact ⟨ret_two (by rw [R.out]) (by rw [R.out]), hbl.trans (((Below.refl _ _).alloc hz _).trans (hb2.mono (by simp; omega)))⟩
      · have F : Hid (l[j].fits l.length = true) := hide hfit
        clear hfit
        go_wp2_with (go_at_call 61; refine (mayStand_any _ _ _ _ _ _ _ (hs1.below ((Below.refl _ _).alloc (Nat.le_refl _) _) hs1.1)).mono ?_; rintro e w' ⟨rfl, hb2⟩; rw [show fitsB l[j].o l[j].a l[j].b l[j].c l[j].k l.length = true from F.out])
        go_roundw
        case rel => exact ⟨j + 1, by omega, by go_num, fun i h h2 => by rcases Nat.lt_succ_iff_lt_or_eq.1 h2 with h3 | h3; exact hall.out i h h3; subst h3; exact F.out, hbl.trans (((Below.refl _ _).alloc hz _).trans (hb2.mono (by simp; omega)))⟩
        case measure => simp [intOf]; omega
    · have R : Hid (rightR l = (0, 0)) := hide (rightR_yes hl hl2 fun i h => hall.out i h (by omega))
      go_wp2
      go_ret2
      exact ⟨ret_two (by rw [R.out]) (by rw [R.out]), hbl⟩
set_option maxHeartbeats 400000 in
theorem right_len (n : Nat) (a : Option Addr) (cap : Nat) (w : World) (h : n = 0 ∨ 64 < n) :
    Calls Tryz.prog 41 #[.slice a n cap] w fun e w' => e = .returned (.tuple #[.int .i64 1, .int .i64 0]) ∧ w' = w := by
  rcases h with h | h
  · subst h
    go_enter Tryz.func41, Tryz.ntmps41
    go_wp2
    go_ret2
    exact ⟨rfl, rfl⟩
  · have d0 : ((n : Int) == 0) = false := by rw [beq_eq_false_iff_ne]; omega
    go_enter Tryz.func41, Tryz.ntmps41
    go_wp2
    go_ret2
    exact ⟨rfl, rfl⟩
theorem Slc.len {w : World} {v : Value} {l : List I5} (h : Slc w v l) : ∃ a cap, v = .slice a l.length cap := by
  rcases h with ⟨⟨a, cap, rfl⟩, rfl⟩ | ⟨b, off, cap, rfl, _⟩
  · exact ⟨_, _, rfl⟩
  · exact ⟨_, _, rfl⟩
theorem Slc.below {w w' : World} {v : Value} {l : List I5} {B : Nat} (h : Slc w v l) (hb : Below B w w') (hB : w.heap.size ≤ B) : Slc w' v l := by
  rcases h with h | ⟨b, off, cap, rfl, h1, h2⟩
  · exact Or.inl h
  · exact Or.inr ⟨b, off, cap, rfl, by have := hb.size; omega, fun i h => (h2 i h).below hb (by omega)⟩
theorem codeRight_any (l : List I5) (v : Value) (w : World) (hs : Shapes w) (h : Slc w v l) :
    Calls Tryz.prog 41 #[v] w fun e w' => e = .returned (.tuple #[.int .i64 (rightR l).1, .int .i64 (rightR l).2]) ∧ Below w.heap.size w w' := by
  by_cases hl : l.length = 0 ∨ 64 < l.length
  · obtain ⟨a, cap, rfl⟩ := h.len
    refine (right_len l.length a cap w hl).mono ?_
    rintro e w' ⟨rfl, rfl⟩
    rw [rightR_len hl]
    exact ⟨rfl, Below.refl _ _⟩
  · rcases h with ⟨_, rfl⟩ | ⟨b, off, cap, rfl, h1, h2⟩
    · exact absurd (Or.inl rfl) hl
    · exact right_some l b off cap w hs h1 (by omega) (by omega) h2
set_option maxHeartbeats 400000 in
theorem Right_any (l : List I5) (v : Value) (w : World) (hs : Shapes w) (h : Slc w v l) :
    Calls Tryz.prog 76 #[v] w fun e w' => e = .returned (.tuple #[.int .i64 (rightR l).1, .int .i64 (rightR l).2]) ∧ Below w.heap.size w w' := by
  go_enter Tryz.func76, Tryz.ntmps76
  go_wp2_with (go_at_call 41; refine (codeRight_any l _ _ hs h).mono ?_; rintro e w' ⟨rfl, hb⟩)
  go_ret2
  exact ⟨rfl, hb⟩
end Go.Proofs.YtamiichlbmllcaaGreatDoor
