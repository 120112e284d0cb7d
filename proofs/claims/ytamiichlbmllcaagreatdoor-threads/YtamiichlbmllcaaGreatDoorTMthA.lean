import Derived.Test.YtamiichlbmllcaaGreatDoorTChH
/-
  A pass that checks: the contract of (proof.route).pass.
-/
namespace Go.Proofs.YtamiichlbmllcaaGreatDoor
open Go.RowKit
/-- a step of Check's pass: the error, and what goes on -/
def stepC (p : List I5) (cl : Nat → Option St) (n : Nat) (come : Option St) : Int × Option St :=
  if markB p n && !liesO come (cl n) then (5, none)
  else match (if markB p n then cl n else come) with
    | none => (0, none)
    | some s => if dangR (insAt p n) s ≠ 0 then (dangR (insAt p n) s, none)
      else if decide (9 ≤ (insAt p n).o) && !liesO (flowFar (insAt p n) s) (cl (insAt p n).k.toNat) then (5, none)
      else (0, flowOn (insAt p n) s)
/-- the pass: so many instructions are left -/
def passC (p : List I5) (cl : Nat → Option St) : Nat → Nat → Option St → Int × Nat
  | 0, n, come => if come.isSome then (8, n) else (0, 0)
  | k + 1, n, come => if (stepC p cl n come).1 ≠ 0 then ((stepC p cl n come).1, n) else passC p cl k (n + 1) (stepC p cl n come).2
def OkO (x : Option St) : Prop := ∀ s, x = some s → s.ok ∧ s.in64
theorem some_of {x : Option St} (h : x.isSome = true) : x = some (stO x) := by
  cases x with
  | none => cases h
  | some s => rfl
theorem none_of {x : Option St} (h : x.isSome = false) : x = none := by
  cases x with
  | none => rfl
  | some s => cases h
theorem step_ck (l : List I5) (hl : AllFit l) (pb pc mb sb : Nat) (cl : Nat → Option St) (m : Nat) (hm : m < l.length) (come : Option St) (w : World) (hP : ProgC w pb iVal l) (hM : At w mb (bosA l.length (markB l)) 4) (hS : At w sb (plsA l.length cl) 174) (hcl : ∀ k, OkO (cl k)) (hco : OkO come) : Calls Tryz.prog 103 #[.agg #[.slice (some ⟨pb, 0, none⟩) l.length pc, .slice (some ⟨mb, 0, none⟩) l.length l.length, .slice (some ⟨sb, 0, none⟩) l.length l.length], .int .i64 m, .agg (plC come.isSome (stO come)), .iface 121 (.agg #[.slice (some ⟨pb, 0, none⟩) l.length pc, .slice (some ⟨mb, 0, none⟩) l.length l.length, .slice (some ⟨sb, 0, none⟩) l.length l.length])] w fun e w' => e = .returned (.tuple #[.agg (plC (stepC l cl m come).2.isSome (stO (stepC l cl m come).2)), .int .i64 (stepC l cl m come).1]) ∧ Below w.heap.size w w' := by
  cases hmk : markB l m with
  | true =>
    cases hL : liesO come (cl m) with
    | false =>
      have e : stepC l cl m come = (5, none) := by unfold stepC; simp [hmk, hL]
      rw [e]
      exact stepA l hl pb pc mb sb cl m hm come w hP hM hS hmk (by rw [liesP_eq]; exact hL)
    | true =>
      have hL' : liesP come.isSome (stO come) (cl m) = true := by rw [liesP_eq]; exact hL
      cases hh : (cl m).isSome with
      | false =>
        have e : stepC l cl m come = (0, none) := by unfold stepC; rw [hmk, hL]; simp only [Bool.true_and, Bool.not_true, Bool.false_eq_true, if_false, if_true]; rw [none_of hh]
        rw [e]
        exact stepBT l hl pb pc mb sb cl m hm come w hP hM hS hmk hL' hh
      | true =>
        have hs := some_of hh
        have hok := hcl m _ hs
        have e0 : stepC l cl m come = if dangR (insAt l m) (stO (cl m)) ≠ 0 then (dangR (insAt l m) (stO (cl m)), none) else if decide (9 ≤ (insAt l m).o) && !liesO (flowFar (insAt l m) (stO (cl m))) (cl (insAt l m).k.toNat) then (5, none) else (0, flowOn (insAt l m) (stO (cl m))) := by
          unfold stepC; rw [hmk, hL]; simp only [Bool.true_and, Bool.not_true, Bool.false_eq_true, if_false, if_true]; rw [hs]; rfl
        by_cases hd : dangR (insAt l m) (stO (cl m)) = 0
        · cases hj : jumpsB (insAt l m) with
          | false =>
            have e : stepC l cl m come = (0, flowOn (insAt l m) (stO (cl m))) := by rw [e0, if_neg (by simp [hd])]; unfold jumpsB at hj; simp [hj]
            rw [e]
            exact stepGT l hl pb pc mb sb cl m hm come w hP hM hS hmk hL' hh hok hd hj
          | true =>
            obtain ⟨k, hk1, hk2⟩ := hl.targ hm hj
            have hkk : (insAt l m).k.toNat = k := by unfold targI at hk1; unfold jumpsB at hj; simp only [decide_eq_true_eq] at hj; rw [if_pos hj] at hk1; omega
            cases hf : liesO (flowFar (insAt l m) (stO (cl m))) (cl k) with
            | false =>
              have e : stepC l cl m come = (5, none) := by rw [e0, if_neg (by simp [hd]), hkk]; unfold jumpsB at hj; simp [hj, hf]
              rw [e]
              exact stepDT l hl pb pc mb sb cl m hm come w hP hM hS hmk hL' hh hok hd hj k hk1 hk2 (by rw [liesP_eq]; exact hf)
            | true =>
              have e : stepC l cl m come = (0, flowOn (insAt l m) (stO (cl m))) := by rw [e0, if_neg (by simp [hd]), hkk]; unfold jumpsB at hj; simp [hf]
              rw [e]
              exact stepET l hl pb pc mb sb cl m hm come w hP hM hS hmk hL' hh hok hd hj k hk1 hk2 (by rw [liesP_eq]; exact hf)
        · have e : stepC l cl m come = (dangR (insAt l m) (stO (cl m)), none) := by rw [e0, if_pos hd]
          rw [e]
          exact stepCT l hl pb pc mb sb cl m hm come w hP hM hS hmk hL' hh hok (by simpa using hd)
  | false =>
    cases hh : come.isSome with
    | false =>
      have e : stepC l cl m come = (0, none) := by unfold stepC; simp [hmk, none_of hh]
      rw [e, ← hh]
      exact stepBF l hl pb pc mb sb cl m hm come w hP hM hS hmk hh
    | true =>
      have hs := some_of hh
      have hok := hco _ hs
      have e0 : stepC l cl m come = if dangR (insAt l m) (stO come) ≠ 0 then (dangR (insAt l m) (stO come), none) else if decide (9 ≤ (insAt l m).o) && !liesO (flowFar (insAt l m) (stO come)) (cl (insAt l m).k.toNat) then (5, none) else (0, flowOn (insAt l m) (stO come)) := by
        unfold stepC; rw [hmk]; simp only [Bool.false_and, Bool.false_eq_true, if_false]; rw [hs]; rfl
      rw [← hh]
      by_cases hd : dangR (insAt l m) (stO come) = 0
      · cases hj : jumpsB (insAt l m) with
        | false =>
          have e : stepC l cl m come = (0, flowOn (insAt l m) (stO come)) := by rw [e0, if_neg (by simp [hd])]; unfold jumpsB at hj; simp [hj]
          rw [e]
          exact stepGF l hl pb pc mb sb cl m hm come w hP hM hS hmk hh hok hd hj
        | true =>
          obtain ⟨k, hk1, hk2⟩ := hl.targ hm hj
          have hkk : (insAt l m).k.toNat = k := by unfold targI at hk1; unfold jumpsB at hj; simp only [decide_eq_true_eq] at hj; rw [if_pos hj] at hk1; omega
          cases hf : liesO (flowFar (insAt l m) (stO come)) (cl k) with
          | false =>
            have e : stepC l cl m come = (5, none) := by rw [e0, if_neg (by simp [hd]), hkk]; unfold jumpsB at hj; simp [hj, hf]
            rw [e]
            exact stepDF l hl pb pc mb sb cl m hm come w hP hM hS hmk hh hok hd hj k hk1 hk2 (by rw [liesP_eq]; exact hf)
          | true =>
            have e : stepC l cl m come = (0, flowOn (insAt l m) (stO come)) := by rw [e0, if_neg (by simp [hd]), hkk]; unfold jumpsB at hj; simp [hf]
            rw [e]
            exact stepEF l hl pb pc mb sb cl m hm come w hP hM hS hmk hh hok hd hj k hk1 hk2 (by rw [liesP_eq]; exact hf)
      · have e : stepC l cl m come = (dangR (insAt l m) (stO come), none) := by rw [e0, if_pos hd]
        rw [e]
        exact stepCF l hl pb pc mb sb cl m hm come w hP hM hS hmk hh hok (by simpa using hd)
end Go.Proofs.YtamiichlbmllcaaGreatDoor
/-
  A pass that checks: the contract of (proof.route).pass.
-/
namespace Go.Proofs.YtamiichlbmllcaaGreatDoor
open Go.RowKit
theorem passC_end {p : List I5} {cl : Nat → Option St} {n : Nat} {come : Option St} : passC p cl 0 n come = if come.isSome then (8, n) else (0, 0) := by unfold passC; rfl
theorem passC_err {p : List I5} {cl : Nat → Option St} {k n : Nat} {come : Option St} (h : (stepC p cl n come).1 ≠ 0) : passC p cl (k + 1) n come = ((stepC p cl n come).1, n) := by rw [passC, if_pos h]
theorem passC_on {p : List I5} {cl : Nat → Option St} {k n : Nat} {come : Option St} (h : (stepC p cl n come).1 = 0) : passC p cl (k + 1) n come = passC p cl k (n + 1) (stepC p cl n come).2 := by rw [passC, if_neg (by simp [h])]
theorem ret_en {a b : Int} {c d : Nat} (h : (a, c) = (b, d)) : Ending.returned (.tuple #[.int .i64 a, .int .i64 (c : Int)]) = .returned (.tuple #[.int .i64 b, .int .i64 (d : Int)]) := by cases h; rfl
set_option maxHeartbeats 8000000 in
set_option maxRecDepth 100000 in
theorem pass_ck (l : List I5) (hl : AllFit l) (pb pc mb sb : Nat) (cl : Nat → Option St) (e : St) (w : World) (hP : ProgC w pb iVal l) (hM : At w mb (bosA l.length (markB l)) 4) (hS : At w sb (plsA l.length cl) 174) (hcl : ∀ k, OkO (cl k)) (he : e.ok ∧ e.in64)
    (hst : ∀ (m : Nat) (come : Option St), m < l.length → OkO come → OkO (stepC l cl m come).2) :
    Calls Tryz.prog 66 #[.agg #[.slice (some ⟨pb, 0, none⟩) l.length pc, .slice (some ⟨mb, 0, none⟩) l.length l.length, .slice (some ⟨sb, 0, none⟩) l.length l.length], .agg (stC e), .iface 121 (.agg #[.slice (some ⟨pb, 0, none⟩) l.length pc, .slice (some ⟨mb, 0, none⟩) l.length l.length, .slice (some ⟨sb, 0, none⟩) l.length l.length])] w fun r w' => r = .returned (.tuple #[.int .i64 (passC l cl l.length 0 (some e)).1, .int .i64 ((passC l cl l.length 0 (some e)).2 : Nat)]) ∧ Below w.heap.size w w' := by
  have hk := Kn.nil [] w
  have hn := hl.2.1
  have HP := hide hP
  have HCL := hide hcl
  have HST := hide hst
  have HE : Hid (OkO (some e)) := hide (fun s h => by cases h; exact he)
  clear hP hcl hst he
  obtain ⟨R, hR⟩ : ∃ R, R = passC l cl l.length 0 (some e) := ⟨_, rfl⟩
  rw [← hR]
  have HR := hide hR
  clear hR
  go_enter Tryz.func66, Tryz.ntmps66
  go_wp2_with (first | (go_at_call 102; refine (with_any _ _).mono ?_; rintro e w1 ⟨rfl, hb⟩; replace hk := hk.call hb; clear hb) | ((with_reducible show wpList _ _ _ _ _ _); (first | (refine wS hk ?_; simp only [Act.put, pw]) | (refine wN hk ?_; clear hk; intro w1 hk; simp only [Act.put, pw]) | (refine wT hk ?_; clear hk; intro w1 hk; simp only [Act.put]))))
  rename_i x1 x2 x3 x4 x5 x6 x7
  replace hk : Kn [] w w1 [(x4.heap.size, plC (some e).isSome (stO (some e)), 174), (x2.heap.size, stC e, 30), (w.heap.size, #[.slice (some ⟨pb, 0, none⟩) l.length pc, .slice (some ⟨mb, 0, none⟩) l.length l.length, .slice (some ⟨sb, 0, none⟩) l.length l.length], 119)] := hk
  go_loopw [17] (fun j wr => ∃ (i : Nat) (come : Option St), i ≤ l.length ∧ j = .int .i64 i ∧ OkO come ∧ passC l cl (l.length - i) i come = R ∧ Kn [] w wr [(x4.heap.size, plC come.isSome (stO come), 174), (x2.heap.size, stC e, 30), (w.heap.size, #[.slice (some ⟨pb, 0, none⟩) l.length pc, .slice (some ⟨mb, 0, none⟩) l.length l.length, .slice (some ⟨sb, 0, none⟩) l.length l.length], 119)]) (fun j _ => l.length - (intOf j).toNat)
  case atStart => exact ⟨0, some e, by omega, rfl, HE.out, HR.out.symm, hk⟩
  case round =>
    clear hk
    obtain ⟨i, come, hi, rfl, hco, hpa, hk⟩ := hrel
    have HCO := hide hco
    have HPA := hide hpa
    clear hco hpa HR HE
    by_cases hlt : i < l.length
    · have e1 : l.length - i = (l.length - (i + 1)) + 1 := by omega
      have HN := hide (HST.out i come hlt HCO.out)
      obtain ⟨E, O, hSC⟩ : ∃ E O, stepC l cl i come = (E, O) := ⟨_, _, rfl⟩
      rw [hSC] at HN
      by_cases hE : E = 0
      · have HQ : Hid (passC l cl (l.length - (i + 1)) (i + 1) O = R) := hide (by rw [← HPA.out, e1, passC_on (by rw [hSC]; exact hE), hSC])
        subst hE
        clear e1
        go_wp2_with (first | (go_at_call 103; refine (step_ck l hl pb pc mb sb cl i hlt come _ (HP.out.mod hk.mod List.not_mem_nil) (hM.of (hk.mod.block _ hM.lt List.not_mem_nil)) (hS.of (hk.mod.block _ hS.lt List.not_mem_nil)) HCL.out HCO.out).mono ?_; rintro e w1 ⟨rfl, hb⟩; replace hk := hk.call hb; clear hb; rw [hSC]) | ((with_reducible show wpList _ _ _ _ _ _); (first | (refine wS hk ?_; simp only [Act.put, pw]) | (refine wN hk ?_; clear hk; intro w1 hk; simp only [Act.put, pw]) | (refine wT hk ?_; clear hk; intro w1 hk; simp only [Act.put]))))
        go_roundw
        case rel => exact ⟨i + 1, O, by omega, by go_num, HN.out, HQ.out, hk.drop⟩
        case measure => simp [intOf]; omega
      · have HQ : Hid ((E, i) = R) := hide (by rw [← HPA.out, e1, passC_err (by rw [hSC]; exact hE), hSC])
        have hE2 : (E != 0) = true := by simpa using hE
        clear e1 hE
        go_wp2_with (first | (go_at_call 103; refine (step_ck l hl pb pc mb sb cl i hlt come _ (HP.out.mod hk.mod List.not_mem_nil) (hM.of (hk.mod.block _ hM.lt List.not_mem_nil)) (hS.of (hk.mod.block _ hS.lt List.not_mem_nil)) HCL.out HCO.out).mono ?_; rintro e w1 ⟨rfl, hb⟩; replace hk := hk.call hb; clear hb; rw [hSC]) | ((with_reducible show wpList _ _ _ _ _ _); (first | (refine wS hk ?_; simp only [Act.put, pw]) | (refine wN hk ?_; clear hk; intro w1 hk; simp only [Act.put, pw]) | (refine wT hk ?_; clear hk; intro w1 hk; simp only [Act.put]))))
        go_ret2
        exact ⟨ret_en HQ.out, hk.mod.below⟩
    · have e : i = l.length := by omega
      subst e
      have hpe := HPA.out
      rw [Nat.sub_self, passC_end] at hpe
      cases hcs : come.isSome with
      | true =>
        rw [hcs] at hpe
        have HQ : Hid ((8, l.length) = R) := hide hpe
        clear hpe
        go_wp2_with (first | ((with_reducible show wpList _ _ _ _ _ _); (first | (refine wS hk ?_; simp only [Act.put, pw]; (try rw [hcs])) | (refine wN hk ?_; clear hk; intro w1 hk; simp only [Act.put, pw]) | (refine wT hk ?_; clear hk; intro w1 hk; simp only [Act.put]))))
        (refine wp_regK hk (.op 0 (.op 1 (.op 3 (.op 2 (.op 4 .nil))))) (fun i => decide (i < 5)) mixT (by decide) (by kernel_rfl) (by kernel_rfl) ?_; clear hk; intro w1 hk)
        (repeat (refine sS hk ?_; simp only [Act.put, pw]))
        (refine sCall ?_; intro K hK; go_step; refine hK _ _ (fun _ => hk) ?_; clear hK K)
        (repeat (refine sS hk ?_; simp only [Act.put, pw]))
        refine tNil ?_
        go_wp2_with (first | ((with_reducible show wpList _ _ _ _ _ _); (first | (refine wS hk ?_; simp only [Act.put, pw]) | (refine wN hk ?_; clear hk; intro w1 hk; simp only [Act.put, pw]) | (refine wT hk ?_; clear hk; intro w1 hk; simp only [Act.put]))))
        go_ret2
        exact ⟨ret_en HQ.out, hk.mod.below⟩
      | false =>
        rw [hcs] at hpe
        have HQ : Hid ((0, 0) = R) := hide hpe
        clear hpe
        go_wp2_with (first | ((with_reducible show wpList _ _ _ _ _ _); (first | (refine wS hk ?_; simp only [Act.put, pw]; (try rw [hcs])) | (refine wN hk ?_; clear hk; intro w1 hk; simp only [Act.put, pw]) | (refine wT hk ?_; clear hk; intro w1 hk; simp only [Act.put]))))
        go_ret2
        exact ⟨ret_en HQ.out, hk.mod.below⟩
end Go.Proofs.YtamiichlbmllcaaGreatDoor
/-
  The mathematics of ranges and states: what can come of numbers lies in what becomes of their ranges; what is narrower stays so.
-/
namespace Go.Proofs.YtamiichlbmllcaaGreatDoor
open Go.RowKit
/-- a number lies in a range -/
def R2.mem (r : R2) (x : Int) : Prop := r.lo ≤ x ∧ x ≤ r.hi
theorem wrap_id {x : Int} (h : I64 x) : wrap64 x = x := by unfold I64 at h; unfold wrap64; omega
theorem wrap_I64 (x : Int) : I64 (wrap64 x) := by unfold I64 wrap64; omega
theorem all_mem {x : Int} (h : I64 x) : allR.mem x := by unfold I64 at h; unfold allR R2.mem; simp only; omega
theorem inI_iff {x : Int} : inI x = true ↔ I64 x := by unfold inI I64; simp; omega
theorem sum_mem {b c : R2} {x y : Int} (hx : b.mem x) (hy : c.mem y) : (sumR b c).mem (wrap64 (x + y)) := by
  unfold sumR fitR
  unfold R2.mem at hx hy
  split
  · rename_i h
    simp only [Bool.and_eq_true, inI_iff] at h
    obtain ⟨h1, h2⟩ := h
    rw [wrap_id (by unfold I64 at *; omega)]
    unfold R2.mem; simp only; omega
  · exact all_mem (wrap_I64 _)
theorem dif_mem {b c : R2} {x y : Int} (hx : b.mem x) (hy : c.mem y) : (difR b c).mem (wrap64 (x - y)) := by
  unfold difR fitR
  unfold R2.mem at hx hy
  split
  · rename_i h
    simp only [Bool.and_eq_true, inI_iff] at h
    obtain ⟨h1, h2⟩ := h
    rw [wrap_id (by unfold I64 at *; omega)]
    unfold R2.mem; simp only; omega
  · exact all_mem (wrap_I64 _)
theorem span_mem_iff {a b c d x : Int} : (spanR a b c d).mem x ↔ (a ≤ x ∨ b ≤ x ∨ c ≤ x ∨ d ≤ x) ∧ (x ≤ a ∨ x ≤ b ∨ x ≤ c ∨ x ≤ d) := by
  unfold spanR R2.mem min4 max4; simp only; omega
theorem mul_le_of {a b y : Int} (h : a ≤ b) (hy : 0 ≤ y) : a * y ≤ b * y := Int.mul_le_mul_of_nonneg_right h hy
theorem mul_ge_of {a b y : Int} (h : a ≤ b) (hy : y ≤ 0) : b * y ≤ a * y := Int.mul_le_mul_of_nonpos_right h hy
/-- a product lies between two products with the ends of one range -/
theorem mul_between {a b x y : Int} (h1 : a ≤ x) (h2 : x ≤ b) : (a * y ≤ x * y ∨ b * y ≤ x * y) ∧ (x * y ≤ a * y ∨ x * y ≤ b * y) := by
  rcases Int.le_total 0 y with hy | hy
  · exact ⟨Or.inl (mul_le_of h1 hy), Or.inr (mul_le_of h2 hy)⟩
  · exact ⟨Or.inr (mul_ge_of h2 hy), Or.inl (mul_ge_of h1 hy)⟩
theorem mul_corners {b c : R2} {x y : Int} (hx : b.mem x) (hy : c.mem y) : (spanR (b.lo * c.lo) (b.lo * c.hi) (b.hi * c.lo) (b.hi * c.hi)).mem (x * y) := by
  rw [span_mem_iff]
  have h1 := mul_between (y := y) hx.1 hx.2
  have h2 := mul_between (y := b.lo) hy.1 hy.2
  have h3 := mul_between (y := b.hi) hy.1 hy.2
  rw [Int.mul_comm y b.lo, Int.mul_comm c.lo b.lo, Int.mul_comm c.hi b.lo] at h2
  rw [Int.mul_comm y b.hi, Int.mul_comm c.lo b.hi, Int.mul_comm c.hi b.hi] at h3
  omega
theorem small_mul {x y : Int} (hx : -2147483648 ≤ x ∧ x ≤ 2147483648) (hy : -2147483648 ≤ y ∧ y ≤ 2147483648) : I64 (x * y) := by
  have := mul_corners (b := ⟨-2147483648, 2147483648⟩) (c := ⟨-2147483648, 2147483648⟩) (x := x) (y := y) hx hy
  rw [span_mem_iff] at this
  simp only at this
  unfold I64
  omega
theorem inRg_iff {r o : R2} : inRg r o = true ↔ o.lo ≤ r.lo ∧ r.hi ≤ o.hi := by unfold inRg; simp
theorem prod_mem {b c : R2} {x y : Int} (hx : b.mem x) (hy : c.mem y) : (prodR b c).mem (wrap64 (x * y)) := by
  unfold prodR
  split
  · rename_i h
    simp only [Bool.and_eq_true, inRg_iff, smallR] at h
    obtain ⟨⟨h1, h2⟩, h3, h4⟩ := h
    have hb1 := hx.1; have hb2 := hx.2; have hc1 := hy.1; have hc2 := hy.2
    rw [wrap_id (small_mul (x := b.lo) (y := c.lo) (by omega) (by omega)), wrap_id (small_mul (x := b.lo) (y := c.hi) (by omega) (by omega)), wrap_id (small_mul (x := b.hi) (y := c.lo) (by omega) (by omega)), wrap_id (small_mul (x := b.hi) (y := c.hi) (by omega) (by omega)), wrap_id (small_mul (x := x) (y := y) (by omega) (by omega))]
    exact mul_corners hx hy
  · exact all_mem (wrap_I64 _)
theorem tdiv_mono {a b y : Int} (h : a ≤ b) (hy : 0 < y) : a.tdiv y ≤ b.tdiv y := Int.tdiv_le_tdiv hy h
theorem tdiv_anti {a b y : Int} (h : a ≤ b) (hy : y < 0) : b.tdiv y ≤ a.tdiv y := by
  have := Int.tdiv_le_tdiv (show 0 < -y by omega) h
  rw [Int.tdiv_neg, Int.tdiv_neg] at this
  omega
theorem tdiv_between {a b x y : Int} (h1 : a ≤ x) (h2 : x ≤ b) (hy : y ≠ 0) : (a.tdiv y ≤ x.tdiv y ∨ b.tdiv y ≤ x.tdiv y) ∧ (x.tdiv y ≤ a.tdiv y ∨ x.tdiv y ≤ b.tdiv y) := by
  rcases Int.lt_or_gt_of_ne hy with h | h
  · exact ⟨Or.inr (tdiv_anti h2 h), Or.inl (tdiv_anti h1 h)⟩
  · exact ⟨Or.inl (tdiv_mono h1 h), Or.inr (tdiv_mono h2 h)⟩
/-- by greater divisors, of one sign -/
theorem tdiv_den_nonneg {x a b : Int} (hx : 0 ≤ x) (ha : 0 < a) (h : a ≤ b) : x.tdiv b ≤ x.tdiv a := by
  rw [Int.tdiv_eq_ediv_of_nonneg hx, Int.tdiv_eq_ediv_of_nonneg hx]
  have hb : 0 < b := by omega
  refine (Int.le_ediv_iff_mul_le ha).2 ?_
  have h0 : 0 ≤ x / b := Int.ediv_nonneg hx (by omega)
  have h1 : x / b * a ≤ x / b * b := Int.mul_le_mul_of_nonneg_left h h0
  have h2 : x / b * b ≤ x := Int.ediv_mul_le x (by omega)
  omega
theorem tdiv_den {x c d y : Int} (h1 : c ≤ y) (h2 : y ≤ d) (hs : 0 < c ∨ d < 0) : (x.tdiv c ≤ x.tdiv y ∨ x.tdiv d ≤ x.tdiv y) ∧ (x.tdiv y ≤ x.tdiv c ∨ x.tdiv y ≤ x.tdiv d) := by
  rcases hs with hs | hs
  · rcases Int.le_total 0 x with hx | hx
    · exact ⟨Or.inr (tdiv_den_nonneg hx (by omega) h2), Or.inl (tdiv_den_nonneg hx hs h1)⟩
    · have e1 := tdiv_den_nonneg (x := -x) (by omega) (show 0 < y by omega) h2
      have e2 := tdiv_den_nonneg (x := -x) (by omega) hs h1
      rw [Int.neg_tdiv, Int.neg_tdiv] at e1 e2
      exact ⟨Or.inl (by omega), Or.inr (by omega)⟩
  · rcases Int.le_total 0 x with hx | hx
    · have e1 := tdiv_den_nonneg (x := x) (a := -d) (b := -y) hx (by omega) (by omega)
      have e2 := tdiv_den_nonneg (x := x) (a := -y) (b := -c) hx (by omega) (by omega)
      rw [Int.tdiv_neg, Int.tdiv_neg] at e1 e2
      exact ⟨Or.inr (by omega), Or.inl (by omega)⟩
    · have e1 := tdiv_den_nonneg (x := -x) (a := -d) (b := -y) (by omega) (by omega) (by omega)
      have e2 := tdiv_den_nonneg (x := -x) (a := -y) (b := -c) (by omega) (by omega) (by omega)
      rw [Int.tdiv_neg, Int.tdiv_neg, Int.neg_tdiv, Int.neg_tdiv] at e1 e2
      exact ⟨Or.inl (by omega), Or.inr (by omega)⟩
theorem quo_corners {b c : R2} {x y : Int} (hx : b.mem x) (hy : c.mem y) (hs : 0 < c.lo ∨ c.hi < 0) : (spanR (b.lo.tdiv c.lo) (b.lo.tdiv c.hi) (b.hi.tdiv c.lo) (b.hi.tdiv c.hi)).mem (x.tdiv y) := by
  rw [span_mem_iff]
  have hy1 := hy.1; have hy2 := hy.2
  have h1 := tdiv_between (y := y) hx.1 hx.2 (by omega)
  have h2 := tdiv_den (x := b.lo) hy.1 hy.2 hs
  have h3 := tdiv_den (x := b.hi) hy.1 hy.2 hs
  omega
theorem tdiv_I64 {x y : Int} (hx : I64 x) (h : ¬ (x = -9223372036854775808 ∧ y = -1)) : I64 (x.tdiv y) := by
  have hn : (x.tdiv y).natAbs ≤ x.natAbs := by rw [Int.natAbs_tdiv]; exact Nat.div_le_self _ _
  unfold I64 at *
  by_cases hm : x.tdiv y = 9223372036854775808
  · exfalso
    apply h
    have hxa : x = -9223372036854775808 := by omega
    refine ⟨hxa, ?_⟩
    rw [hxa] at hm
    have e : ((-9223372036854775808 : Int).tdiv y).natAbs = 9223372036854775808 := by rw [hm]; rfl
    rw [Int.natAbs_tdiv] at e
    have h1 : y.natAbs = 1 := by
      rcases Nat.lt_or_ge 1 y.natAbs with hgt | hle
      · have : (-9223372036854775808 : Int).natAbs / y.natAbs ≤ (-9223372036854775808 : Int).natAbs / 2 := Nat.div_le_div_left (by omega) (by omega)
        have e2 : (-9223372036854775808 : Int).natAbs / y.natAbs = 9223372036854775808 := e
        rw [e2] at this
        exact absurd this (by decide)
      · rcases Nat.eq_zero_or_pos y.natAbs with h0 | h0
        · rw [h0] at e; simp at e
        · omega
    rcases Int.natAbs_eq y with hy | hy
    · rw [h1] at hy; rw [hy] at hm; simp at hm
    · rw [h1] at hy; omega
  · omega
theorem has_iff {r : R2} {x : Int} : hasR r x = true ↔ r.lo ≤ x ∧ x ≤ r.hi := by unfold hasR; simp
theorem quo_sign {c : R2} (h : hasR c 0 = false) : 0 < c.lo ∨ c.hi < 0 := by
  have : ¬ (c.lo ≤ 0 ∧ 0 ≤ c.hi) := fun h2 => by rw [has_iff.2 h2] at h; cases h
  omega
theorem quo_mem {b c : R2} {x y : Int} (hb : b.in64) (hx : b.mem x) (hy : c.mem y) : (quoR b c).mem (wrap64 (x.tdiv y)) := by
  unfold quoR
  split
  · exact all_mem (wrap_I64 _)
  · rename_i h
    simp only [quoAll, Bool.or_eq_true, Bool.and_eq_true, not_or, Bool.not_eq_true] at h
    obtain ⟨h0, h1⟩ := h
    have hbl := hb.1; have hbh := hb.2
    have hxI : I64 x := by have := hx.1; have := hx.2; unfold I64 at *; omega
    have hy1 := hy.1; have hy2 := hy.2; have hx1 := hx.1; have hx2 := hx.2
    have hno : ∀ u v, b.mem u → c.mem v → ¬ (u = -9223372036854775808 ∧ v = -1) := by
      rintro u v hu hv ⟨rfl, rfl⟩
      exact h1 ⟨has_iff.2 hv, has_iff.2 hu⟩
    have bl : b.mem b.lo := ⟨by omega, by omega⟩
    have bh : b.mem b.hi := ⟨by omega, by omega⟩
    have cl : c.mem c.lo := ⟨by omega, by omega⟩
    have ch : c.mem c.hi := ⟨by omega, by omega⟩
    rw [wrap_id (tdiv_I64 hbl (hno _ _ bl cl)), wrap_id (tdiv_I64 hbl (hno _ _ bl ch)), wrap_id (tdiv_I64 hbh (hno _ _ bh cl)), wrap_id (tdiv_I64 hbh (hno _ _ bh ch)), wrap_id (tdiv_I64 hxI (hno _ _ hx hy))]
    exact quo_corners hx hy (quo_sign h0)
def R2.sub (r o : R2) : Prop := o.lo ≤ r.lo ∧ r.hi ≤ o.hi
theorem R2.sub.mem {r o : R2} {x : Int} (h : r.sub o) (hx : r.mem x) : o.mem x := by unfold R2.sub at h; unfold R2.mem at *; omega
theorem sub_all {r : R2} (h : r.in64) : r.sub allR := by unfold R2.in64 I64 at h; unfold R2.sub allR; simp only; omega
theorem all_in64 : allR.in64 := by unfold R2.in64 I64 allR; simp
theorem all_ok : allR.lo ≤ allR.hi := by unfold allR; simp
theorem min4_in {a b c d : Int} : min4 a b c d = a ∨ min4 a b c d = b ∨ min4 a b c d = c ∨ min4 a b c d = d := by unfold min4; omega
theorem max4_in {a b c d : Int} : max4 a b c d = a ∨ max4 a b c d = b ∨ max4 a b c d = c ∨ max4 a b c d = d := by unfold max4; omega
theorem span_sub {a b c d : Int} {o : R2} (ha : o.mem a) (hb : o.mem b) (hc : o.mem c) (hd : o.mem d) : (spanR a b c d).sub o := by
  unfold spanR R2.sub; unfold R2.mem at *; simp only; unfold min4 max4; omega
theorem span_in64 {a b c d : Int} (ha : I64 a) (hb : I64 b) (hc : I64 c) (hd : I64 d) : (spanR a b c d).in64 := by
  unfold spanR R2.in64; unfold I64 at *; simp only; unfold min4 max4; omega
theorem span_ok (a b c d : Int) : (spanR a b c d).lo ≤ (spanR a b c d).hi := by unfold spanR min4 max4; simp only; omega
theorem sum_in64 (b c : R2) : (sumR b c).in64 := by
  unfold sumR fitR; split
  · rename_i h; simp only [Bool.and_eq_true, inI_iff] at h; exact h
  · exact all_in64
theorem dif_in64 (b c : R2) : (difR b c).in64 := by
  unfold difR fitR; split
  · rename_i h; simp only [Bool.and_eq_true, inI_iff] at h; exact h
  · exact all_in64
theorem prod_in64 (b c : R2) : (prodR b c).in64 := by
  unfold prodR; split
  · exact span_in64 (wrap_I64 _) (wrap_I64 _) (wrap_I64 _) (wrap_I64 _)
  · exact all_in64
theorem quo_in64 (b c : R2) : (quoR b c).in64 := by
  unfold quoR; split
  · exact all_in64
  · exact span_in64 (wrap_I64 _) (wrap_I64 _) (wrap_I64 _) (wrap_I64 _)
theorem sum_ok {b c : R2} (hb : b.lo ≤ b.hi) (hc : c.lo ≤ c.hi) : (sumR b c).lo ≤ (sumR b c).hi := by
  unfold sumR fitR; split
  · simp only; omega
  · exact all_ok
theorem dif_ok {b c : R2} (hb : b.lo ≤ b.hi) (hc : c.lo ≤ c.hi) : (difR b c).lo ≤ (difR b c).hi := by
  unfold difR fitR; split
  · simp only; omega
  · exact all_ok
theorem prod_ok (b c : R2) : (prodR b c).lo ≤ (prodR b c).hi := by
  unfold prodR; split
  · exact span_ok _ _ _ _
  · exact all_ok
theorem quo_ok (b c : R2) : (quoR b c).lo ≤ (quoR b c).hi := by
  unfold quoR; split
  · exact all_ok
  · exact span_ok _ _ _ _
theorem sum_mono {b c b' c' : R2} (hb : b'.sub b) (hc : c'.sub c) (hbo : b'.lo ≤ b'.hi) (hco : c'.lo ≤ c'.hi) : (sumR b' c').sub (sumR b c) := by
  by_cases h : (inI (b.lo + c.lo) && inI (b.hi + c.hi)) = true
  · have e : sumR b c = ⟨b.lo + c.lo, b.hi + c.hi⟩ := by unfold sumR fitR; rw [if_pos h]
    simp only [Bool.and_eq_true, inI_iff] at h
    unfold R2.sub at hb hc
    have e2 : sumR b' c' = ⟨b'.lo + c'.lo, b'.hi + c'.hi⟩ := by unfold sumR fitR; rw [if_pos (by simp only [Bool.and_eq_true, inI_iff]; unfold I64 at *; omega)]
    rw [e, e2]; unfold R2.sub; simp only; omega
  · have e : sumR b c = allR := by unfold sumR fitR; rw [if_neg h]
    rw [e]; exact sub_all (sum_in64 _ _)
theorem dif_mono {b c b' c' : R2} (hb : b'.sub b) (hc : c'.sub c) (hbo : b'.lo ≤ b'.hi) (hco : c'.lo ≤ c'.hi) : (difR b' c').sub (difR b c) := by
  by_cases h : (inI (b.lo - c.hi) && inI (b.hi - c.lo)) = true
  · have e : difR b c = ⟨b.lo - c.hi, b.hi - c.lo⟩ := by unfold difR fitR; rw [if_pos h]
    simp only [Bool.and_eq_true, inI_iff] at h
    unfold R2.sub at hb hc
    have e2 : difR b' c' = ⟨b'.lo - c'.hi, b'.hi - c'.lo⟩ := by unfold difR fitR; rw [if_pos (by simp only [Bool.and_eq_true, inI_iff]; unfold I64 at *; omega)]
    rw [e, e2]; unfold R2.sub; simp only; omega
  · have e : difR b c = allR := by unfold difR fitR; rw [if_neg h]
    rw [e]; exact sub_all (dif_in64 _ _)
theorem ends_mem {r : R2} (h : r.lo ≤ r.hi) : r.mem r.lo ∧ r.mem r.hi := by unfold R2.mem; omega
theorem prod_mono {b c b' c' : R2} (hb : b'.sub b) (hc : c'.sub c) (hbo : b'.lo ≤ b'.hi) (hco : c'.lo ≤ c'.hi) : (prodR b' c').sub (prodR b c) := by
  by_cases h : (inRg b' smallR && inRg c' smallR) = true
  · have e : prodR b' c' = spanR (wrap64 (b'.lo * c'.lo)) (wrap64 (b'.lo * c'.hi)) (wrap64 (b'.hi * c'.lo)) (wrap64 (b'.hi * c'.hi)) := by unfold prodR; rw [if_pos h]
    rw [e]
    obtain ⟨b1, b2⟩ := ends_mem hbo
    obtain ⟨c1, c2⟩ := ends_mem hco
    exact span_sub (prod_mem (hb.mem b1) (hc.mem c1)) (prod_mem (hb.mem b1) (hc.mem c2)) (prod_mem (hb.mem b2) (hc.mem c1)) (prod_mem (hb.mem b2) (hc.mem c2))
  · have e : prodR b c = allR := by
      unfold prodR; rw [if_neg]; intro h2; apply h
      simp only [Bool.and_eq_true, inRg_iff] at *; unfold R2.sub at hb hc; omega
    rw [e]; exact sub_all (prod_in64 _ _)
theorem has_mono {r o : R2} {x : Int} (h : r.sub o) (hx : hasR r x = true) : hasR o x = true := by
  rw [has_iff] at *; unfold R2.sub at h; omega
theorem quo_mono {b c b' c' : R2} (h64 : b.in64) (hb : b'.sub b) (hc : c'.sub c) (hbo : b'.lo ≤ b'.hi) (hco : c'.lo ≤ c'.hi) : (quoR b' c').sub (quoR b c) := by
  by_cases h : quoAll b' c' = true
  · have h2 : quoAll b c = true := by
      unfold quoAll at *
      simp only [Bool.or_eq_true, Bool.and_eq_true] at *
      rcases h with h | ⟨h, h2⟩
      · exact Or.inl (has_mono hc h)
      · exact Or.inr ⟨has_mono hc h, has_mono hb h2⟩
    have e : quoR b c = allR := by unfold quoR; rw [if_pos h2]
    rw [e]; exact sub_all (quo_in64 _ _)
  · have e : quoR b' c' = spanR (wrap64 (b'.lo.tdiv c'.lo)) (wrap64 (b'.lo.tdiv c'.hi)) (wrap64 (b'.hi.tdiv c'.lo)) (wrap64 (b'.hi.tdiv c'.hi)) := by unfold quoR; rw [if_neg h]
    rw [e]
    obtain ⟨b1, b2⟩ := ends_mem hbo
    obtain ⟨c1, c2⟩ := ends_mem hco
    exact span_sub (quo_mem h64 (hb.mem b1) (hc.mem c1)) (quo_mem h64 (hb.mem b1) (hc.mem c2)) (quo_mem h64 (hb.mem b2) (hc.mem c1)) (quo_mem h64 (hb.mem b2) (hc.mem c2))
def RegsIn (i : I5) : Prop := 0 ≤ i.a ∧ 0 ≤ i.b ∧ 0 ≤ i.c ∧ i.a.toNat < 8 ∧ i.b.toNat < 8 ∧ i.c.toNat < 8
theorem lies_iff {s t : St} : liesR s t = true ↔ ∀ j, j < 8 → (s j).sub (t j) := by
  unfold liesR
  rw [List.all_eq_true]
  constructor
  · intro h j hj; exact inRg_iff.1 (h j (List.mem_range.2 hj))
  · intro h j hj; exact inRg_iff.2 (h j (List.mem_range.1 hj))
theorem lies_refl (s : St) : liesR s s = true := lies_iff.2 fun j _ => by unfold R2.sub; omega
theorem lies_trans {s t u : St} (h : liesR s t = true) (k : liesR t u = true) : liesR s u = true := lies_iff.2 fun j hj => by
  have h1 := lies_iff.1 h j hj
  have h2 := lies_iff.1 k j hj
  unfold R2.sub at *; omega
theorem upd_same (s : St) (a : Nat) (r : R2) : updS s a r a = r := by unfold updS; rw [if_pos rfl]
theorem upd_other {s : St} {a j : Nat} {r : R2} (h : j ≠ a) : updS s a r j = s j := by unfold updS; rw [if_neg h]
theorem upd_ok {s : St} {a : Nat} {r : R2} (h : s.ok) (hr : r.lo ≤ r.hi) : St.ok (updS s a r) := fun j hj => by
  by_cases e : j = a
  · subst e; rw [upd_same]; exact hr
  · rw [upd_other e]; exact h j hj
theorem upd_in64 {s : St} {a : Nat} {r : R2} (h : s.in64) (hr : r.in64) : St.in64 (updS s a r) := fun j hj => by
  by_cases e : j = a
  · subst e; rw [upd_same]; exact hr
  · rw [upd_other e]; exact h j hj
theorem upd_lies {s t : St} {a : Nat} {r q : R2} (h : liesR s t = true) (hr : r.sub q) : liesR (updS s a r) (updS t a q) = true := lies_iff.2 fun j hj => by
  by_cases e : j = a
  · subst e; rw [upd_same, upd_same]; exact hr
  · rw [upd_other e, upd_other e]; exact lies_iff.1 h j hj
theorem narr_mono {s t s' : St} {a b : Nat} {x y x' y' : R2} (h : liesR s t = true) (hx : x.sub x') (hy : y.sub y') (he : narrR s a x b y = some s') : ∃ t', narrR t a x' b y' = some t' ∧ liesR s' t' = true := by
  unfold narrR at he ⊢
  split at he
  · cases he
  · rename_i hn
    simp only [Bool.or_eq_true, not_or, emptyR, decide_eq_true_eq] at hn
    simp only [Option.some.injEq] at he
    rw [if_neg (by simp only [Bool.or_eq_true, not_or, emptyR, decide_eq_true_eq]; unfold R2.sub at hx hy; omega)]
    exact ⟨_, rfl, by rw [← he]; exact upd_lies (upd_lies h hx) hy⟩
theorem narr_ok {s s' : St} {a b : Nat} {x y : R2} (h : s.ok) (he : narrR s a x b y = some s') : s'.ok := by
  unfold narrR at he
  split at he
  · cases he
  · rename_i hn
    simp only [Bool.or_eq_true, not_or, emptyR, decide_eq_true_eq] at hn
    simp only [Option.some.injEq] at he
    rw [← he]; exact upd_ok (upd_ok h (by omega)) (by omega)
theorem narr_in64 {s s' : St} {a b : Nat} {x y : R2} (h : s.in64) (hx : x.in64) (hy : y.in64) (he : narrR s a x b y = some s') : s'.in64 := by
  unfold narrR at he
  split at he
  · cases he
  · simp only [Option.some.injEq] at he
    rw [← he]; exact upd_in64 (upd_in64 h hx) hy
theorem flowOn_mono {i : I5} {s t s' : St} (hi : RegsIn i) (hso : s.ok) (ht : t.in64) (h : liesR s t = true) (he : flowOn i s = some s') : ∃ t', flowOn i t = some t' ∧ liesR s' t' = true := by
  obtain ⟨_, _, _, ha, hb, hc⟩ := hi
  have la := lies_iff.1 h _ ha
  have lb := lies_iff.1 h _ hb
  have lc := lies_iff.1 h _ hc
  have oa := hso _ ha
  have ob := hso _ hb
  have oc := hso _ hc
  unfold flowOn at he ⊢
  by_cases h1 : i.o = 1
  · rw [if_pos h1] at he ⊢; simp only [Option.some.injEq] at he; exact ⟨_, rfl, by rw [← he]; exact upd_lies h (by unfold R2.sub; simp)⟩
  rw [if_neg h1] at he ⊢
  by_cases h1 : i.o = 2
  · rw [if_pos h1] at he ⊢; simp only [Option.some.injEq] at he; exact ⟨_, rfl, by rw [← he]; exact upd_lies h lb⟩
  rw [if_neg h1] at he ⊢
  by_cases h1 : i.o = 3
  · rw [if_pos h1] at he ⊢; simp only [Option.some.injEq] at he; exact ⟨_, rfl, by rw [← he]; exact upd_lies h (sum_mono lb lc ob oc)⟩
  rw [if_neg h1] at he ⊢
  by_cases h1 : i.o = 4
  · rw [if_pos h1] at he ⊢; simp only [Option.some.injEq] at he; exact ⟨_, rfl, by rw [← he]; exact upd_lies h (dif_mono lb lc ob oc)⟩
  rw [if_neg h1] at he ⊢
  by_cases h1 : i.o = 5
  · rw [if_pos h1] at he ⊢; simp only [Option.some.injEq] at he; exact ⟨_, rfl, by rw [← he]; exact upd_lies h (prod_mono lb lc ob oc)⟩
  rw [if_neg h1] at he ⊢
  by_cases h1 : i.o = 6
  · rw [if_pos h1] at he ⊢; simp only [Option.some.injEq] at he; exact ⟨_, rfl, by rw [← he]; exact upd_lies h (quo_mono (ht _ hb) lb lc ob oc)⟩
  rw [if_neg h1] at he ⊢
  by_cases h1 : i.o = 7
  · rw [if_pos h1] at he ⊢; simp only [Option.some.injEq] at he; exact ⟨_, rfl, by rw [← he]; exact upd_lies h (by unfold R2.sub; omega)⟩
  rw [if_neg h1] at he ⊢
  by_cases h1 : i.o = 8
  · rw [if_pos h1] at he ⊢; simp only [Option.some.injEq] at he; exact ⟨_, rfl, by rw [← he]; exact h⟩
  rw [if_neg h1] at he ⊢
  by_cases h1 : i.o = 10
  · rw [if_pos h1] at he ⊢
    by_cases h2 : i.a = i.b
    · rw [if_pos h2] at he ⊢; simp only [Option.some.injEq] at he; exact ⟨_, rfl, by rw [← he]; exact h⟩
    · rw [if_neg h2] at he ⊢
      exact narr_mono h (by unfold R2.sub at *; simp only; omega) (by unfold R2.sub at *; simp only; omega) he
  rw [if_neg h1] at he ⊢
  by_cases h1 : i.o = 11
  · rw [if_pos h1] at he ⊢
    by_cases h2 : i.a = i.b
    · rw [if_pos h2] at he; cases he
    · rw [if_neg h2] at he ⊢
      by_cases h3 : oneR (s i.a.toNat) (s i.b.toNat) = true
      · rw [if_pos h3] at he; cases he
      · rw [if_neg h3] at he
        simp only [Option.some.injEq] at he
        rw [if_neg (by intro h4; apply h3; unfold oneR at *; simp only [decide_eq_true_eq] at *; unfold R2.sub at *; omega)]
        exact ⟨_, rfl, by rw [← he]; exact h⟩
  rw [if_neg h1] at he; cases he
theorem flowFar_mono {i : I5} {s t s' : St} (hi : RegsIn i) (hs64 : s.in64) (h : liesR s t = true) (he : flowFar i s = some s') : ∃ t', flowFar i t = some t' ∧ liesR s' t' = true := by
  obtain ⟨_, _, _, ha, hb, _⟩ := hi
  have la := lies_iff.1 h _ ha
  have lb := lies_iff.1 h _ hb
  have ia := hs64 _ ha
  have ib := hs64 _ hb
  unfold flowFar at he ⊢
  by_cases h1 : i.o = 9
  · rw [if_pos h1] at he ⊢; simp only [Option.some.injEq] at he; exact ⟨_, rfl, by rw [← he]; exact h⟩
  rw [if_neg h1] at he ⊢
  by_cases h1 : i.o = 10
  · rw [if_pos h1] at he ⊢
    by_cases h2 : i.a = i.b
    · rw [if_pos h2] at he; cases he
    · rw [if_neg h2] at he ⊢
      by_cases h3 : (s i.b.toNat).hi = -9223372036854775808 ∨ (s i.a.toNat).lo = 9223372036854775807
      · rw [if_pos h3] at he; cases he
      · rw [if_neg h3] at he
        rw [if_neg (by unfold R2.sub R2.in64 I64 at *; omega)]
        exact narr_mono h (by unfold R2.sub at *; simp only; omega) (by unfold R2.sub at *; simp only; omega) he
  rw [if_neg h1] at he ⊢
  by_cases h1 : i.o = 11
  · rw [if_pos h1] at he ⊢
    by_cases h2 : i.a = i.b
    · rw [if_pos h2] at he ⊢; simp only [Option.some.injEq] at he; exact ⟨_, rfl, by rw [← he]; exact h⟩
    · rw [if_neg h2] at he ⊢
      exact narr_mono h (by unfold R2.sub comR at *; simp only; omega) (by unfold R2.sub comR at *; simp only; omega) he
  rw [if_neg h1] at he; cases he
theorem dang_mono {i : I5} {s t : St} (hi : RegsIn i) (h : liesR s t = true) (hd : dangR i t = 0) : dangR i s = 0 := by
  obtain ⟨_, _, _, ha, hb, hc⟩ := hi
  have la := lies_iff.1 h _ ha
  have lb := lies_iff.1 h _ hb
  have lc := lies_iff.1 h _ hc
  unfold dangR at hd ⊢
  by_cases h1 : i.o = 6
  · rw [if_pos h1] at hd ⊢
    by_cases h2 : hasR (s i.c.toNat) 0 = true
    · rw [if_pos (has_mono lc h2)] at hd; cases hd
    · rw [if_neg h2]
  rw [if_neg h1] at hd ⊢
  by_cases h1 : i.o = 7
  · rw [if_pos h1] at hd ⊢
    by_cases h2 : inRg (t i.b.toNat) ⟨0, 15⟩ = true
    · rw [if_pos]; rw [inRg_iff] at *; unfold R2.sub at *; simp only at *; omega
    · rw [if_neg h2] at hd; cases hd
  rw [if_neg h1] at hd ⊢
  by_cases h1 : i.o = 8
  · rw [if_pos h1] at hd ⊢
    by_cases h2 : inRg (t i.a.toNat) ⟨0, 15⟩ = true
    · rw [if_pos]; rw [inRg_iff] at *; unfold R2.sub at *; simp only at *; omega
    · rw [if_neg h2] at hd; cases hd
  rw [if_neg h1]
theorem flowOn_keeps {i : I5} {s s' : St} (hi : RegsIn i) (hk : I64 i.k) (hso : s.ok) (h64 : s.in64) (he : flowOn i s = some s') : s'.ok ∧ s'.in64 := by
  obtain ⟨_, _, _, ha, hb, hc⟩ := hi
  have oa := hso _ ha
  have ob := hso _ hb
  have oc := hso _ hc
  have ia := h64 _ ha
  have ib := h64 _ hb
  have ic := h64 _ hc
  unfold flowOn at he
  by_cases h1 : i.o = 1
  · rw [if_pos h1] at he; simp only [Option.some.injEq] at he; rw [← he]; exact ⟨upd_ok hso (Int.le_refl _), upd_in64 h64 ⟨hk, hk⟩⟩
  rw [if_neg h1] at he
  by_cases h1 : i.o = 2
  · rw [if_pos h1] at he; simp only [Option.some.injEq] at he; rw [← he]; exact ⟨upd_ok hso ob, upd_in64 h64 ib⟩
  rw [if_neg h1] at he
  by_cases h1 : i.o = 3
  · rw [if_pos h1] at he; simp only [Option.some.injEq] at he; rw [← he]; exact ⟨upd_ok hso (sum_ok ob oc), upd_in64 h64 (sum_in64 _ _)⟩
  rw [if_neg h1] at he
  by_cases h1 : i.o = 4
  · rw [if_pos h1] at he; simp only [Option.some.injEq] at he; rw [← he]; exact ⟨upd_ok hso (dif_ok ob oc), upd_in64 h64 (dif_in64 _ _)⟩
  rw [if_neg h1] at he
  by_cases h1 : i.o = 5
  · rw [if_pos h1] at he; simp only [Option.some.injEq] at he; rw [← he]; exact ⟨upd_ok hso (prod_ok _ _), upd_in64 h64 (prod_in64 _ _)⟩
  rw [if_neg h1] at he
  by_cases h1 : i.o = 6
  · rw [if_pos h1] at he; simp only [Option.some.injEq] at he; rw [← he]; exact ⟨upd_ok hso (quo_ok _ _), upd_in64 h64 (quo_in64 _ _)⟩
  rw [if_neg h1] at he
  by_cases h1 : i.o = 7
  · rw [if_pos h1] at he; simp only [Option.some.injEq] at he; rw [← he]; exact ⟨upd_ok hso all_ok, upd_in64 h64 all_in64⟩
  rw [if_neg h1] at he
  by_cases h1 : i.o = 8
  · rw [if_pos h1] at he; simp only [Option.some.injEq] at he; rw [← he]; exact ⟨hso, h64⟩
  rw [if_neg h1] at he
  by_cases h1 : i.o = 10
  · rw [if_pos h1] at he
    by_cases h2 : i.a = i.b
    · rw [if_pos h2] at he; simp only [Option.some.injEq] at he; rw [← he]; exact ⟨hso, h64⟩
    · rw [if_neg h2] at he
      exact ⟨narr_ok hso he, narr_in64 h64 (by unfold R2.in64 I64 at *; simp only; omega) (by unfold R2.in64 I64 at *; simp only; omega) he⟩
  rw [if_neg h1] at he
  by_cases h1 : i.o = 11
  · rw [if_pos h1] at he
    by_cases h2 : i.a = i.b
    · rw [if_pos h2] at he; cases he
    · rw [if_neg h2] at he
      by_cases h3 : oneR (s i.a.toNat) (s i.b.toNat) = true
      · rw [if_pos h3] at he; cases he
      · rw [if_neg h3] at he; simp only [Option.some.injEq] at he; rw [← he]; exact ⟨hso, h64⟩
  rw [if_neg h1] at he; cases he
theorem flowFar_keeps {i : I5} {s s' : St} (hi : RegsIn i) (hso : s.ok) (h64 : s.in64) (he : flowFar i s = some s') : s'.ok ∧ s'.in64 := by
  obtain ⟨_, _, _, ha, hb, _⟩ := hi
  have ia := h64 _ ha
  have ib := h64 _ hb
  unfold flowFar at he
  by_cases h1 : i.o = 9
  · rw [if_pos h1] at he; simp only [Option.some.injEq] at he; rw [← he]; exact ⟨hso, h64⟩
  rw [if_neg h1] at he
  by_cases h1 : i.o = 10
  · rw [if_pos h1] at he
    by_cases h2 : i.a = i.b
    · rw [if_pos h2] at he; cases he
    · rw [if_neg h2] at he
      by_cases h3 : (s i.b.toNat).hi = -9223372036854775808 ∨ (s i.a.toNat).lo = 9223372036854775807
      · rw [if_pos h3] at he; cases he
      · rw [if_neg h3] at he
        exact ⟨narr_ok hso he, narr_in64 h64 (by unfold R2.in64 I64 at *; simp only; omega) (by unfold R2.in64 I64 at *; simp only; omega) he⟩
  rw [if_neg h1] at he
  by_cases h1 : i.o = 11
  · rw [if_pos h1] at he
    by_cases h2 : i.a = i.b
    · rw [if_pos h2] at he; simp only [Option.some.injEq] at he; rw [← he]; exact ⟨hso, h64⟩
    · rw [if_neg h2] at he
      exact ⟨narr_ok hso he, narr_in64 h64 (by unfold R2.in64 I64 comR at *; simp only; omega) (by unfold R2.in64 I64 comR at *; simp only; omega) he⟩
  rw [if_neg h1] at he; cases he
end Go.Proofs.YtamiichlbmllcaaGreatDoor
