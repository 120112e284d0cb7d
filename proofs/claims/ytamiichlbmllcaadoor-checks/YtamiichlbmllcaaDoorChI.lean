/-
  A pass that checks: the contract of (proof.route).pass.
-/
import Derived.Test.YtamiichlbmllcaaDoorChH
namespace Go.Proofs.YtamiichlbmllcaaDoor
open Go.RowKit
/-- a step of Check's pass: the error, and what goes on -/
def stepC (p : List I5) (cl : Nat → Option St) (n : Nat) (come : Option St) : Int × Option St :=
  if markB p n && !liesO come (cl n) then (5, none)
  else match (if markB p n then cl n else come) with
    | none => (0, none)
    | some s => if dangR (insAt p n) s ≠ 0 then (dangR (insAt p n) s, none)
      else if decide (9 ≤ (insAt p n).o) && !liesO (flowFar (insAt p n) s) (cl (insAt p n).k.toNat) then (5, none)
      else (0, flowOn (insAt p n) s)
/-- the pass: so many instructions are left -/
def passC (p : List I5) (cl : Nat → Option St) : Nat → Nat → Option St → Int × Nat
  | 0, n, come => if come.isSome then (8, n) else (0, 0)
  | k + 1, n, come => if (stepC p cl n come).1 ≠ 0 then ((stepC p cl n come).1, n) else passC p cl k (n + 1) (stepC p cl n come).2
def OkO (x : Option St) : Prop := ∀ s, x = some s → s.ok ∧ s.in64
theorem some_of {x : Option St} (h : x.isSome = true) : x = some (stO x) := by
  cases x with
  | none => cases h
  | some s => rfl
theorem none_of {x : Option St} (h : x.isSome = false) : x = none := by
  cases x with
  | none => rfl
  | some s => cases h
theorem step_ck (l : List I5) (hl : AllFit l) (pb pc mb sb : Nat) (cl : Nat → Option St) (m : Nat) (hm : m < l.length) (come : Option St) (w : World) (hP : ProgC w pb iVal l) (hM : At w mb (bosA l.length (markB l)) 4) (hS : At w sb (plsA l.length cl) 104) (hcl : ∀ k, OkO (cl k)) (hco : OkO come) : Calls Tryd.prog 52 #[.agg #[.slice (some ⟨pb, 0, none⟩) l.length pc, .slice (some ⟨mb, 0, none⟩) l.length l.length, .slice (some ⟨sb, 0, none⟩) l.length l.length], .int .i64 m, .agg (plC come.isSome (stO come)), .iface 90 (.agg #[.slice (some ⟨pb, 0, none⟩) l.length pc, .slice (some ⟨mb, 0, none⟩) l.length l.length, .slice (some ⟨sb, 0, none⟩) l.length l.length])] w fun e w' => e = .returned (.tuple #[.agg (plC (stepC l cl m come).2.isSome (stO (stepC l cl m come).2)), .int .i64 (stepC l cl m come).1]) ∧ Below w.heap.size w w' := by
  cases hmk : markB l m with
  | true =>
    cases hL : liesO come (cl m) with
    | false =>
      have e : stepC l cl m come = (5, none) := by unfold stepC; simp [hmk, hL]
      rw [e]
      exact stepA l hl pb pc mb sb cl m hm come w hP hM hS hmk (by rw [liesP_eq]; exact hL)
    | true =>
      have hL' : liesP come.isSome (stO come) (cl m) = true := by rw [liesP_eq]; exact hL
      cases hh : (cl m).isSome with
      | false =>
        have e : stepC l cl m come = (0, none) := by unfold stepC; rw [hmk, hL]; simp only [Bool.true_and, Bool.not_true, Bool.false_eq_true, if_false, if_true]; rw [none_of hh]
        rw [e]
        exact stepBT l hl pb pc mb sb cl m hm come w hP hM hS hmk hL' hh
      | true =>
        have hs := some_of hh
        have hok := hcl m _ hs
        have e0 : stepC l cl m come = if dangR (insAt l m) (stO (cl m)) ≠ 0 then (dangR (insAt l m) (stO (cl m)), none) else if decide (9 ≤ (insAt l m).o) && !liesO (flowFar (insAt l m) (stO (cl m))) (cl (insAt l m).k.toNat) then (5, none) else (0, flowOn (insAt l m) (stO (cl m))) := by
          unfold stepC; rw [hmk, hL]; simp only [Bool.true_and, Bool.not_true, Bool.false_eq_true, if_false, if_true]; rw [hs]; rfl
        by_cases hd : dangR (insAt l m) (stO (cl m)) = 0
        · cases hj : jumpsB (insAt l m) with
          | false =>
            have e : stepC l cl m come = (0, flowOn (insAt l m) (stO (cl m))) := by rw [e0, if_neg (by simp [hd])]; unfold jumpsB at hj; simp [hj]
            rw [e]
            exact stepGT l hl pb pc mb sb cl m hm come w hP hM hS hmk hL' hh hok hd hj
          | true =>
            obtain ⟨k, hk1, hk2⟩ := hl.targ hm hj
            have hkk : (insAt l m).k.toNat = k := by unfold targI at hk1; unfold jumpsB at hj; simp only [decide_eq_true_eq] at hj; rw [if_pos hj] at hk1; omega
            cases hf : liesO (flowFar (insAt l m) (stO (cl m))) (cl k) with
            | false =>
              have e : stepC l cl m come = (5, none) := by rw [e0, if_neg (by simp [hd]), hkk]; unfold jumpsB at hj; simp [hj, hf]
              rw [e]
              exact stepDT l hl pb pc mb sb cl m hm come w hP hM hS hmk hL' hh hok hd hj k hk1 hk2 (by rw [liesP_eq]; exact hf)
            | true =>
              have e : stepC l cl m come = (0, flowOn (insAt l m) (stO (cl m))) := by rw [e0, if_neg (by simp [hd]), hkk]; unfold jumpsB at hj; simp [hf]
              rw [e]
              exact stepET l hl pb pc mb sb cl m hm come w hP hM hS hmk hL' hh hok hd hj k hk1 hk2 (by rw [liesP_eq]; exact hf)
        · have e : stepC l cl m come = (dangR (insAt l m) (stO (cl m)), none) := by rw [e0, if_pos hd]
          rw [e]
          exact stepCT l hl pb pc mb sb cl m hm come w hP hM hS hmk hL' hh hok (by simpa using hd)
  | false =>
    cases hh : come.isSome with
    | false =>
      have e : stepC l cl m come = (0, none) := by unfold stepC; simp [hmk, none_of hh]
      rw [e, ← hh]
      exact stepBF l hl pb pc mb sb cl m hm come w hP hM hS hmk hh
    | true =>
      have hs := some_of hh
      have hok := hco _ hs
      have e0 : stepC l cl m come = if dangR (insAt l m) (stO come) ≠ 0 then (dangR (insAt l m) (stO come), none) else if decide (9 ≤ (insAt l m).o) && !liesO (flowFar (insAt l m) (stO come)) (cl (insAt l m).k.toNat) then (5, none) else (0, flowOn (insAt l m) (stO come)) := by
        unfold stepC; rw [hmk]; simp only [Bool.false_and, Bool.false_eq_true, if_false]; rw [hs]; rfl
      rw [← hh]
      by_cases hd : dangR (insAt l m) (stO come) = 0
      · cases hj : jumpsB (insAt l m) with
        | false =>
          have e : stepC l cl m come = (0, flowOn (insAt l m) (stO come)) := by rw [e0, if_neg (by simp [hd])]; unfold jumpsB at hj; simp [hj]
          rw [e]
          exact stepGF l hl pb pc mb sb cl m hm come w hP hM hS hmk hh hok hd hj
        | true =>
          obtain ⟨k, hk1, hk2⟩ := hl.targ hm hj
          have hkk : (insAt l m).k.toNat = k := by unfold targI at hk1; unfold jumpsB at hj; simp only [decide_eq_true_eq] at hj; rw [if_pos hj] at hk1; omega
          cases hf : liesO (flowFar (insAt l m) (stO come)) (cl k) with
          | false =>
            have e : stepC l cl m come = (5, none) := by rw [e0, if_neg (by simp [hd]), hkk]; unfold jumpsB at hj; simp [hj, hf]
            rw [e]
            exact stepDF l hl pb pc mb sb cl m hm come w hP hM hS hmk hh hok hd hj k hk1 hk2 (by rw [liesP_eq]; exact hf)
          | true =>
            have e : stepC l cl m come = (0, flowOn (insAt l m) (stO come)) := by rw [e0, if_neg (by simp [hd]), hkk]; unfold jumpsB at hj; simp [hf]
            rw [e]
            exact stepEF l hl pb pc mb sb cl m hm come w hP hM hS hmk hh hok hd hj k hk1 hk2 (by rw [liesP_eq]; exact hf)
      · have e : stepC l cl m come = (dangR (insAt l m) (stO come), none) := by rw [e0, if_pos hd]
        rw [e]
        exact stepCF l hl pb pc mb sb cl m hm come w hP hM hS hmk hh hok (by simpa using hd)
end Go.Proofs.YtamiichlbmllcaaDoor
