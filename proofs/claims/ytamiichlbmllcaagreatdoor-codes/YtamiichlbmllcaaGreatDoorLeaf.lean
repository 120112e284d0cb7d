/-
  Contracts of the leaves of package code: isBelow, registersOf, mayStand, for every argument, in every world that holds the table of shapes.
-/
import Derived.Test.YtamiichlbmllcaaGreatDoorProg
import Derived.WalkKit
import Derived.WalkSpells
import Derived.WalkLawsBesides
namespace Go.Proofs.YtamiichlbmllcaaGreatDoor
open Go.RowKit
theorem isBelow_any (n b : Int) (w : World) :
    Calls Tryz.prog 99 #[.int .i64 n, .int .i64 b] w fun e w' => e = .returned (.bool (decide (0 ≤ n ∧ n < b))) ∧ w' = w := by
  by_cases h0 : 0 ≤ n <;> by_cases h1 : n < b
  all_goals
    go_enter Tryz.func99, Tryz.ntmps99
    go_wp2
    go_ret
    exact ⟨by simp [h0, h1], rfl⟩
theorem registersOf_any (o a b c k : Int) (w : World) :
    Calls Tryz.prog 98 #[.agg #[.int .i64 o, .int .i64 a, .int .i64 b, .int .i64 c, .int .i64 k]] w fun e w' => e = .returned (.agg #[.int .i64 a, .int .i64 b, .int .i64 c]) ∧ Below w.heap.size w w' := by
  go_enter Tryz.func98, Tryz.ntmps98
  go_wp2
  exact bodyPost_ret (v := .agg #[.int .i64 a, .int .i64 b, .int .i64 c]) (by simp [results, Tryz.results98, go_sem]) rfl ⟨rfl, ((Below.refl _ _).alloc (Nat.le_refl _) _).alloc (by simp) _⟩
def nregs (o : Int) : Int := if o = 0 ∨ o = 9 then 0 else if o = 1 then 1 else if 3 ≤ o ∧ o ≤ 6 then 3 else 2
def kbytes (o : Int) : Int := if o = 1 then 8 else if 9 ≤ o then 1 else 0
theorem nregs_bd (o : Int) : 0 ≤ nregs o ∧ nregs o ≤ 3 := by unfold nregs; repeat' split <;> omega
/-- what the table holds -/
def Shapes (w : World) : Prop := 0 < w.heap.size ∧ ∀ o : Int, 0 ≤ o → o < 12 → w.cell? ⟨0, o.toNat * 3, none⟩ = some (.int .i64 (nregs o)) ∧ w.cell? ⟨0, o.toNat * 3 + 1, none⟩ = some (.int .i64 (kbytes o)) ∧ w.cell? ⟨0, o.toNat * 3 + 2, none⟩ = some (.int .i64 (1 + nregs o + kbytes o))
theorem bcell {W w1 : World} (hb : Below W.heap.size W w1) : (∀ b o, b < W.heap.size → w1.cell? ⟨b, o, none⟩ = W.cell? ⟨b, o, none⟩) ∧ (∀ b o, b < W.heap.size → w1.frozen? ⟨b, o, none⟩ = W.frozen? ⟨b, o, none⟩) :=
  ⟨fun b o h => hb.cell (p := ⟨b, o, none⟩) h, fun b o h => hb.frozen (p := ⟨b, o, none⟩) h⟩

def regOk (need j r : Int) : Bool := if j < need then decide (0 ≤ r) && decide (r < 8) else decide (r = 0)
def kOk (kb k n : Int) : Bool := if kb = 8 then true else if kb = 1 then decide (0 ≤ k) && decide (k < n) else decide (k = 0)
def fitsB (o a b c k n : Int) : Bool := decide (0 ≤ o) && decide (o < 12) && regOk (nregs o) 0 a && regOk (nregs o) 1 b && regOk (nregs o) 2 c && kOk (kbytes o) k n
theorem regOk_lo {need j r : Int} (h : j < need) : regOk need j r = (decide (0 ≤ r) && decide (r < 8)) := by simp [regOk, h]
theorem regOk_hi {need j r : Int} (h : ¬ j < need) : regOk need j r = decide (r = 0) := by simp [regOk, h]
theorem kb_three (o : Int) : kbytes o = 8 ∨ kbytes o = 1 ∨ kbytes o = 0 := by unfold kbytes; (repeat' split) <;> omega
theorem fits_no0 {o a b c k n : Int} (h : regOk (nregs o) 0 a = false) : fitsB o a b c k n = false := by simp [fitsB, h]
theorem fits_no1 {o a b c k n : Int} (h : regOk (nregs o) 1 b = false) : fitsB o a b c k n = false := by simp [fitsB, h]
theorem fits_no2 {o a b c k n : Int} (h : regOk (nregs o) 2 c = false) : fitsB o a b c k n = false := by simp [fitsB, h]
theorem hide {p : Prop} (h : p) : Hid p := h
theorem ret_bool {a b : Bool} (h : a = b) : Ending.returned (.bool a) = .returned (.bool b) := by rw [h]
set_option maxHeartbeats 1000000 in
theorem mayStand_yes (o a b c k n : Int) (w : World) (hs : Shapes w) (ho0 : 0 ≤ o) (ho1 : o < 12) :
    Calls Tryz.prog 61 #[.agg #[.int .i64 o, .int .i64 a, .int .i64 b, .int .i64 c, .int .i64 k], .int .i64 n] w fun e w' => e = .returned (.bool (fitsB o a b c k n)) ∧ Below w.heap.size w w' := by
  obtain ⟨h0, hs⟩ := hs
  obtain ⟨s0, s1, _⟩ := hs o ho0 ho1
  clear hs
  have d0 : decide (o < 0) = false := by simpa using ho0
  have d1 : decide (12 ≤ o) = false := by simpa using ho1
  obtain ⟨nb0, nb1⟩ := nregs_bd o
  have i0 : ∀ w, (Instr.index 167 (.agg #[.int .i64 a, .int .i64 b, .int .i64 c]) (.int .i64 0)).run Tryz.prog w = .ok (.int .i64 a) w := fun _ => by kernel_rfl
  have i1 : ∀ w, (Instr.index 167 (.agg #[.int .i64 a, .int .i64 b, .int .i64 c]) (.int .i64 1)).run Tryz.prog w = .ok (.int .i64 b) w := fun _ => by kernel_rfl
  have i2 : ∀ w, (Instr.index 167 (.agg #[.int .i64 a, .int .i64 b, .int .i64 c]) (.int .i64 2)).run Tryz.prog w = .ok (.int .i64 c) w := fun _ => by kernel_rfl
  go_enter Tryz.func61, Tryz.ntmps61
  go_wp2_with (go_at_call 98; refine (registersOf_any _ _ _ _ _ _).mono ?_; rintro e w1 ⟨rfl, hb⟩)
  obtain ⟨hc, hf⟩ := bcell hb
  clear hf
  simp at hc
  have hfin : Below w.heap.size w w1 := (((Below.refl _ _).alloc (Nat.le_refl _) _).trans (hb.mono (by simp)))
  go_loop [23] (fun i => ∃ j : Nat, j ≤ 3 ∧ i = .int .i64 j ∧ (0 < j → regOk (nregs o) 0 a = true) ∧ (1 < j → regOk (nregs o) 1 b = true) ∧ (2 < j → regOk (nregs o) 2 c = true)) (fun i => 3 - (intOf i).toNat)
  case atStart => exact ⟨0, by omega, rfl, by simp, by simp, by simp⟩
  case round =>
    obtain ⟨j, hj, rfl, r0, r1, r2⟩ := hrel
    match j, hj, r0, r1, r2 with
    | 0, _, r0, r1, r2 =>
      clear i1 i2
      by_cases hn : 0 < nregs o
      · have R : Hid (regOk (nregs o) 0 a = (decide (0 ≤ a) && decide (a < 8))) := hide (regOk_lo (r := a) hn)
        by_cases hx : 0 ≤ a <;> by_cases hy : a < 8
        all_goals
          go_wp2_with (go_at_call 99; refine (isBelow_any _ _ _).mono ?_; rintro e w' ⟨rfl, rfl⟩)
          all_goals first
            | exact ⟨⟨1, by omega, rfl, (fun _ => R.out.trans (by simp [*])), (by omega), (by omega)⟩, by simp [intOf]⟩
            | (go_ret; exact ⟨ret_bool (fits_no0 (R.out.trans (by simp [hx, hy]))).symm, hfin⟩)
      · have R : Hid (regOk (nregs o) 0 a = decide (a = 0)) := hide (regOk_hi (r := a) hn)
        have hx : (a != 0) = !decide (a = 0) := by by_cases h : a = 0 <;> simp [h]
        cases hy : decide (a = 0)
        all_goals
          rw [hy] at hx
          go_wp2_with (go_at_call 99; refine (isBelow_any _ _ _).mono ?_; rintro e w' ⟨rfl, rfl⟩)
          all_goals first
            | exact ⟨⟨1, by omega, rfl, (fun _ => R.out.trans (by simp [*])), (by omega), (by omega)⟩, by simp [intOf]⟩
            | (go_ret; exact ⟨ret_bool (fits_no0 (R.out.trans hy)).symm, hfin⟩)
    | 1, _, r0, r1, r2 =>
      clear i0 i2
      by_cases hn : 1 < nregs o
      · have R : Hid (regOk (nregs o) 1 b = (decide (0 ≤ b) && decide (b < 8))) := hide (regOk_lo (r := b) hn)
        by_cases hx : 0 ≤ b <;> by_cases hy : b < 8
        all_goals
          go_wp2_with (go_at_call 99; refine (isBelow_any _ _ _).mono ?_; rintro e w' ⟨rfl, rfl⟩)
          all_goals first
            | exact ⟨⟨2, by omega, rfl, (fun _ => r0 (by omega)), (fun _ => R.out.trans (by simp [*])), (by omega)⟩, by simp [intOf]⟩
            | (go_ret; exact ⟨ret_bool (fits_no1 (R.out.trans (by simp [hx, hy]))).symm, hfin⟩)
      · have R : Hid (regOk (nregs o) 1 b = decide (b = 0)) := hide (regOk_hi (r := b) hn)
        have hx : (b != 0) = !decide (b = 0) := by by_cases h : b = 0 <;> simp [h]
        cases hy : decide (b = 0)
        all_goals
          rw [hy] at hx
          go_wp2_with (go_at_call 99; refine (isBelow_any _ _ _).mono ?_; rintro e w' ⟨rfl, rfl⟩)
          all_goals first
            | exact ⟨⟨2, by omega, rfl, (fun _ => r0 (by omega)), (fun _ => R.out.trans (by simp [*])), (by omega)⟩, by simp [intOf]⟩
            | (go_ret; exact ⟨ret_bool (fits_no1 (R.out.trans hy)).symm, hfin⟩)
    | 2, _, r0, r1, r2 =>
      clear i0 i1
      by_cases hn : 2 < nregs o
      · have R : Hid (regOk (nregs o) 2 c = (decide (0 ≤ c) && decide (c < 8))) := hide (regOk_lo (r := c) hn)
        by_cases hx : 0 ≤ c <;> by_cases hy : c < 8
        all_goals
          go_wp2_with (go_at_call 99; refine (isBelow_any _ _ _).mono ?_; rintro e w' ⟨rfl, rfl⟩)
          all_goals first
            | exact ⟨⟨3, by omega, rfl, (fun _ => r0 (by omega)), (fun _ => r1 (by omega)), (fun _ => R.out.trans (by simp [*]))⟩, by simp [intOf]⟩
            | (go_ret; exact ⟨ret_bool (fits_no2 (R.out.trans (by simp [hx, hy]))).symm, hfin⟩)
      · have R : Hid (regOk (nregs o) 2 c = decide (c = 0)) := hide (regOk_hi (r := c) hn)
        have hx : (c != 0) = !decide (c = 0) := by by_cases h : c = 0 <;> simp [h]
        cases hy : decide (c = 0)
        all_goals
          rw [hy] at hx
          go_wp2_with (go_at_call 99; refine (isBelow_any _ _ _).mono ?_; rintro e w' ⟨rfl, rfl⟩)
          all_goals first
            | exact ⟨⟨3, by omega, rfl, (fun _ => r0 (by omega)), (fun _ => r1 (by omega)), (fun _ => R.out.trans (by simp [*]))⟩, by simp [intOf]⟩
            | (go_ret; exact ⟨ret_bool (fits_no2 (R.out.trans hy)).symm, hfin⟩)
    | 3, _, r0, r1, r2 =>
      clear i0 i1 i2
      have r0 := hide (r0 (by omega))
      have r1 := hide (r1 (by omega))
      have r2 := hide (r2 (by omega))
      rcases kb_three o with hk | hk | hk
      · have R : Hid (fitsB o a b c k n = true) := hide (by simp [fitsB, r0.out, r1.out, r2.out, hk, kOk, ho0, ho1])
        rw [hk] at s1
        go_wp2
        go_ret
        exact ⟨ret_bool R.out.symm, hfin⟩
      · have R : Hid (fitsB o a b c k n = (decide (0 ≤ k) && decide (k < n))) := hide (by simp [fitsB, r0.out, r1.out, r2.out, hk, kOk, ho0, ho1])
        rw [hk] at s1
        go_wp2_with (go_at_call 99; refine (isBelow_any _ _ _).mono ?_; rintro e w' ⟨rfl, rfl⟩)
        go_ret
        exact ⟨ret_bool R.out.symm, hfin⟩
      · have R : Hid (fitsB o a b c k n = (k == 0)) := hide (by simp [fitsB, r0.out, r1.out, r2.out, hk, kOk, ho0, ho1]; rfl)
        rw [hk] at s1
        go_wp2
        go_ret
        exact ⟨ret_bool R.out.symm, hfin⟩
    | j + 4, hj, _, _, _ => omega
set_option maxHeartbeats 400000 in
theorem mayStand_any (o a b c k n : Int) (w : World) (hs : Shapes w) :
    Calls Tryz.prog 61 #[.agg #[.int .i64 o, .int .i64 a, .int .i64 b, .int .i64 c, .int .i64 k], .int .i64 n] w fun e w' => e = .returned (.bool (fitsB o a b c k n)) ∧ Below w.heap.size w w' := by
  by_cases ho0 : 0 ≤ o
  · by_cases ho1 : o < 12
    · exact mayStand_yes o a b c k n w hs ho0 ho1
    · have R : Hid (fitsB o a b c k n = false) := hide (by simp [fitsB, ho1])
      go_enter Tryz.func61, Tryz.ntmps61
      go_wp2
      go_ret
      exact ⟨ret_bool R.out.symm, (Below.refl _ _).alloc (Nat.le_refl _) _⟩
  · have R : Hid (fitsB o a b c k n = false) := hide (by simp [fitsB, ho0])
    go_enter Tryz.func61, Tryz.ntmps61
    go_wp2
    go_ret
    exact ⟨ret_bool R.out.symm, (Below.refl _ _).alloc (Nat.le_refl _) _⟩
end Go.Proofs.YtamiichlbmllcaaGreatDoor
