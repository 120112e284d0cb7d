import Derived.Test.YtamiichlbmllcabGreatDoorQChH
import Derived.Test.YtamiichlbmllcabGreatDoorQKn
import Derived.Test.YtamiichlbmllcabGreatDoorQLawB
import Derived.Test.YtamiichlbmllcabGreatDoorQChF
import Derived.SizedLaws
set_option maxRecDepth 100000
set_option maxHeartbeats 32000000
namespace Go.Proofs.YtamiichlbmllcabGreatDoor
open Go.RowKit
def stepC (p : List I5) (cl : Nat -> Option St) (n : Nat) (come : Option St) : Int × Option St :=
 if markB p n && !liesO come (cl n) then (5, none)
 else match (if markB p n then cl n else come) with
  | none => (0, none)
  | some s => if dangR (insAt p n) s ≠ 0 then (dangR (insAt p n) s, none)
    else if decide (9 <= (insAt p n).o) && !liesO (flowFar (insAt p n) s) (cl (insAt p n).k.toNat) then (5, none)
    else (0, flowOn (insAt p n) s)
def passC (p : List I5) (cl : Nat -> Option St) : Nat -> Nat -> Option St -> Int × Nat
 | 0, n, come => if come.isSome then (8, n) else (0, 0)
 | k + 1, n, come => if (stepC p cl n come).1 ≠ 0 then ((stepC p cl n come).1, n) else passC p cl k (n + 1) (stepC p cl n come).2
def OkO (x : Option St) : Prop := ∀ s, x = some s -> s.ok /\ s.in64
theorem some_of {x : Option St} (h : x.isSome = true) : x = some (stO x) := by
 cases x with
 | none => cases h
 | some s => rfl
theorem none_of {x : Option St} (h : x.isSome = false) : x = none := by
 cases x with
 | none => rfl
 | some s => cases h
theorem step_ck (l : List I5) (hl : AllFit l) (pb pc mb sb : Nat) (cl : Nat -> Option St) (m : Nat) (hm : m < l.length) (come : Option St) (w : World) (hP : ProgC w pb iVal l) (hM : At w mb (bosA l.length (markB l)) 4) (hS : At w sb (plsA l.length cl) 190) (hcl : ∀ k, OkO (cl k)) (hco : OkO come) : Calls Tryz.prog 84 #[.agg #[.slice (some ⟨pb, 0, none⟩) l.length pc, .slice (some ⟨mb, 0, none⟩) l.length l.length, .slice (some ⟨sb, 0, none⟩) l.length l.length], .int .i64 m, .agg (plC come.isSome (stO come)), .iface 125 (.agg #[.slice (some ⟨pb, 0, none⟩) l.length pc, .slice (some ⟨mb, 0, none⟩) l.length l.length, .slice (some ⟨sb, 0, none⟩) l.length l.length])] w fun e w' => e = .returned (.tuple #[.agg (plC (stepC l cl m come).2.isSome (stO (stepC l cl m come).2)), .int .i64 (stepC l cl m come).1]) /\ Below w.heap.size w w' := by
 cases hmk : markB l m with
 | true =>
   cases hL : liesO come (cl m) with
   | false =>
     have e : stepC l cl m come = (5, none) := by unfold stepC; simp [hmk, hL]
     rw [e]
     exact stepA l hl pb pc mb sb cl m hm come w hP hM hS hmk (by rw [liesP_eq]; exact hL)
   | true =>
     have hL' : liesP come.isSome (stO come) (cl m) = true := by rw [liesP_eq]; exact hL
     cases hh : (cl m).isSome with
     | false =>
       have e : stepC l cl m come = (0, none) := by unfold stepC; rw [hmk, hL]; simp only [Bool.true_and, Bool.not_true, Bool.false_eq_true, if_false, if_true]; rw [none_of hh]
       rw [e]
       exact stepBT l hl pb pc mb sb cl m hm come w hP hM hS hmk hL' hh
     | true =>
       have hs := some_of hh
       have hok := hcl m _ hs
       have e0 : stepC l cl m come = if dangR (insAt l m) (stO (cl m)) ≠ 0 then (dangR (insAt l m) (stO (cl m)), none) else if decide (9 <= (insAt l m).o) && !liesO (flowFar (insAt l m) (stO (cl m))) (cl (insAt l m).k.toNat) then (5, none) else (0, flowOn (insAt l m) (stO (cl m))) := by
        unfold stepC; rw [hmk, hL]; simp only [Bool.true_and, Bool.not_true, Bool.false_eq_true, if_false, if_true]; rw [hs]; rfl
       by_cases hd : dangR (insAt l m) (stO (cl m)) = 0
       · cases hj : jumpsB (insAt l m) with
         | false =>
           have e : stepC l cl m come = (0, flowOn (insAt l m) (stO (cl m))) := by rw [e0, if_neg (by simp [hd])]; unfold jumpsB at hj; simp [hj]
           rw [e]
           exact stepGT l hl pb pc mb sb cl m hm come w hP hM hS hmk hL' hh hok hd hj
         | true =>
           obtain ⟨k, hk1, hk2⟩ := hl.targ hm hj
           have hkk : (insAt l m).k.toNat = k := by unfold targI at hk1; unfold jumpsB at hj; simp only [decide_eq_true_eq] at hj; rw [if_pos hj] at hk1; omega
           cases hf : liesO (flowFar (insAt l m) (stO (cl m))) (cl k) with
           | false =>
             have e : stepC l cl m come = (5, none) := by rw [e0, if_neg (by simp [hd]), hkk]; unfold jumpsB at hj; simp [hj, hf]
             rw [e]
             exact stepDT l hl pb pc mb sb cl m hm come w hP hM hS hmk hL' hh hok hd hj k hk1 hk2 (by rw [liesP_eq]; exact hf)
           | true =>
             have e : stepC l cl m come = (0, flowOn (insAt l m) (stO (cl m))) := by rw [e0, if_neg (by simp [hd]), hkk]; unfold jumpsB at hj; simp [hf]
             rw [e]
             exact stepET l hl pb pc mb sb cl m hm come w hP hM hS hmk hL' hh hok hd hj k hk1 hk2 (by rw [liesP_eq]; exact hf)
       · have e : stepC l cl m come = (dangR (insAt l m) (stO (cl m)), none) := by rw [e0, if_pos hd]
         rw [e]
         exact stepCT l hl pb pc mb sb cl m hm come w hP hM hS hmk hL' hh hok (by simpa using hd)
 | false =>
   cases hh : come.isSome with
   | false =>
     have e : stepC l cl m come = (0, none) := by unfold stepC; simp [hmk, none_of hh]
     rw [e, <- hh]
     exact stepBF l hl pb pc mb sb cl m hm come w hP hM hS hmk hh
   | true =>
     have hs := some_of hh
     have hok := hco _ hs
     have e0 : stepC l cl m come = if dangR (insAt l m) (stO come) ≠ 0 then (dangR (insAt l m) (stO come), none) else if decide (9 <= (insAt l m).o) && !liesO (flowFar (insAt l m) (stO come)) (cl (insAt l m).k.toNat) then (5, none) else (0, flowOn (insAt l m) (stO come)) := by
      unfold stepC; rw [hmk]; simp only [Bool.false_and, Bool.false_eq_true, if_false]; rw [hs]; rfl
     rw [<- hh]
     by_cases hd : dangR (insAt l m) (stO come) = 0
     · cases hj : jumpsB (insAt l m) with
       | false =>
         have e : stepC l cl m come = (0, flowOn (insAt l m) (stO come)) := by rw [e0, if_neg (by simp [hd])]; unfold jumpsB at hj; simp [hj]
         rw [e]
         exact stepGF l hl pb pc mb sb cl m hm come w hP hM hS hmk hh hok hd hj
       | true =>
         obtain ⟨k, hk1, hk2⟩ := hl.targ hm hj
         have hkk : (insAt l m).k.toNat = k := by unfold targI at hk1; unfold jumpsB at hj; simp only [decide_eq_true_eq] at hj; rw [if_pos hj] at hk1; omega
         cases hf : liesO (flowFar (insAt l m) (stO come)) (cl k) with
         | false =>
           have e : stepC l cl m come = (5, none) := by rw [e0, if_neg (by simp [hd]), hkk]; unfold jumpsB at hj; simp [hj, hf]
           rw [e]
           exact stepDF l hl pb pc mb sb cl m hm come w hP hM hS hmk hh hok hd hj k hk1 hk2 (by rw [liesP_eq]; exact hf)
         | true =>
           have e : stepC l cl m come = (0, flowOn (insAt l m) (stO come)) := by rw [e0, if_neg (by simp [hd]), hkk]; unfold jumpsB at hj; simp [hf]
           rw [e]
           exact stepEF l hl pb pc mb sb cl m hm come w hP hM hS hmk hh hok hd hj k hk1 hk2 (by rw [liesP_eq]; exact hf)
     · have e : stepC l cl m come = (dangR (insAt l m) (stO come), none) := by rw [e0, if_pos hd]
       rw [e]
       exact stepCF l hl pb pc mb sb cl m hm come w hP hM hS hmk hh hok (by simpa using hd)
theorem passC_end {p : List I5} {cl : Nat -> Option St} {n : Nat} {come : Option St} : passC p cl 0 n come = if come.isSome then (8, n) else (0, 0) := by unfold passC; rfl
theorem passC_err {p : List I5} {cl : Nat -> Option St} {k n : Nat} {come : Option St} (h : (stepC p cl n come).1 ≠ 0) : passC p cl (k + 1) n come = ((stepC p cl n come).1, n) := by rw [passC, if_pos h]
theorem passC_on {p : List I5} {cl : Nat -> Option St} {k n : Nat} {come : Option St} (h : (stepC p cl n come).1 = 0) : passC p cl (k + 1) n come = passC p cl k (n + 1) (stepC p cl n come).2 := by rw [passC, if_neg (by simp [h])]
theorem ret_en {a b : Int} {c d : Nat} (h : (a, c) = (b, d)) : Ending.returned (.tuple #[.int .i64 a, .int .i64 (c : Int)]) = .returned (.tuple #[.int .i64 b, .int .i64 (d : Int)]) := by cases h; rfl
theorem pass_ck (l : List I5) (hl : AllFit l) (pb pc mb sb : Nat) (cl : Nat -> Option St) (e : St) (w : World) (hP : ProgC w pb iVal l) (hM : At w mb (bosA l.length (markB l)) 4) (hS : At w sb (plsA l.length cl) 190) (hcl : ∀ k, OkO (cl k)) (he : e.ok /\ e.in64)
 (hst : ∀ (m : Nat) (come : Option St), m < l.length -> OkO come -> OkO (stepC l cl m come).2) :
 Calls Tryz.prog 62 #[.agg #[.slice (some ⟨pb, 0, none⟩) l.length pc, .slice (some ⟨mb, 0, none⟩) l.length l.length, .slice (some ⟨sb, 0, none⟩) l.length l.length], .agg (stC e), .iface 125 (.agg #[.slice (some ⟨pb, 0, none⟩) l.length pc, .slice (some ⟨mb, 0, none⟩) l.length l.length, .slice (some ⟨sb, 0, none⟩) l.length l.length])] w fun r w' => r = .returned (.tuple #[.int .i64 (passC l cl l.length 0 (some e)).1, .int .i64 ((passC l cl l.length 0 (some e)).2 : Nat)]) /\ Below w.heap.size w w' := by
 have hk := Kn.nil [] w
 have hn := hl.2.1
 have HP := hide hP
 have HCL := hide hcl
 have HST := hide hst
 have HE : Hid (OkO (some e)) := hide (fun s h => by cases h; exact he)
 clear hP hcl hst he
 obtain ⟨R, hR⟩ : ∃ R, R = passC l cl l.length 0 (some e) := ⟨_, rfl⟩
 rw [<- hR]
 have HR := hide hR
 clear hR
 go_enter Tryz.func62, Tryz.ntmps62
 go_wp2_with (first | (go_at_call 83; refine (with_any _ _).mono ?_; rintro e w1 ⟨rfl, hb⟩; replace hk := hk.call hb; clear hb) | ((with_reducible apply gL); (first | refine wS hk ?_ | (refine wN hk ?_; clear hk; intro w1 hk)); simp only [pw]))
 rename_i x1 x2 x3 x4 x5 x6 x7
 replace hk : Kn [] w w1 [(x4.heap.size, plC (some e).isSome (stO (some e)), 190), (x2.heap.size, stC e, 29), (w.heap.size, #[.slice (some ⟨pb, 0, none⟩) l.length pc, .slice (some ⟨mb, 0, none⟩) l.length l.length, .slice (some ⟨sb, 0, none⟩) l.length l.length], 123)] := hk
 go_loopw [17] (fun j wr => ∃ (i : Nat) (come : Option St), i <= l.length /\ j = .int .i64 i /\ OkO come /\ passC l cl (l.length - i) i come = R /\ Kn [] w wr [(x4.heap.size, plC come.isSome (stO come), 190), (x2.heap.size, stC e, 29), (w.heap.size, #[.slice (some ⟨pb, 0, none⟩) l.length pc, .slice (some ⟨mb, 0, none⟩) l.length l.length, .slice (some ⟨sb, 0, none⟩) l.length l.length], 123)]) (fun j _ => l.length - (intOf j).toNat)
 case atStart => exact ⟨0, some e, by omega, rfl, HE.out, HR.out.symm, hk⟩
 case round =>
  clear hk
  obtain ⟨i, come, hi, rfl, hco, hpa, hk⟩ := hrel
  have HCO := hide hco
  have HPA := hide hpa
  clear hco hpa HR HE
  by_cases hlt : i < l.length
  · have e1 : l.length - i = (l.length - (i + 1)) + 1 := by omega
    have HN := hide (HST.out i come hlt HCO.out)
    obtain ⟨E, O, hSC⟩ : ∃ E O, stepC l cl i come = (E, O) := ⟨_, _, rfl⟩
    rw [hSC] at HN
    by_cases hE : E = 0
    · have HQ : Hid (passC l cl (l.length - (i + 1)) (i + 1) O = R) := hide (by rw [<- HPA.out, e1, passC_on (by rw [hSC]; exact hE), hSC])
      subst hE
      clear e1
      go_wp2_with (first | (go_at_call 84; refine (step_ck l hl pb pc mb sb cl i hlt come _ (HP.out.mod hk.mod List.not_mem_nil) (hM.of (hk.mod.block _ hM.lt List.not_mem_nil)) (hS.of (hk.mod.block _ hS.lt List.not_mem_nil)) HCL.out HCO.out).mono ?_; rintro e w1 ⟨rfl, hb⟩; replace hk := hk.call hb; clear hb; rw [hSC]) | ((with_reducible apply gL); (first | refine wS hk ?_ | (refine wN hk ?_; clear hk; intro w1 hk)); simp only [pw]))
      go_roundw
      case rel => exact ⟨i + 1, O, by omega, by go_num, HN.out, HQ.out, hk.drop⟩
      case measure => simp [intOf]; omega
    · have HQ : Hid ((E, i) = R) := hide (by rw [<- HPA.out, e1, passC_err (by rw [hSC]; exact hE), hSC])
      have hE2 : (E != 0) = true := by simpa using hE
      clear e1 hE
      go_wp2_with (first | (go_at_call 84; refine (step_ck l hl pb pc mb sb cl i hlt come _ (HP.out.mod hk.mod List.not_mem_nil) (hM.of (hk.mod.block _ hM.lt List.not_mem_nil)) (hS.of (hk.mod.block _ hS.lt List.not_mem_nil)) HCL.out HCO.out).mono ?_; rintro e w1 ⟨rfl, hb⟩; replace hk := hk.call hb; clear hb; rw [hSC]) | ((with_reducible apply gL); (first | refine wS hk ?_ | (refine wN hk ?_; clear hk; intro w1 hk)); simp only [pw]))
      go_ret2
      exact ⟨ret_en HQ.out, hk.mod.below⟩
  · have e : i = l.length := by omega
    subst e
    have hpe := HPA.out
    rw [Nat.sub_self, passC_end] at hpe
    cases hcs : come.isSome with
    | true =>
      rw [hcs] at hpe
      have HQ : Hid ((8, l.length) = R) := hide hpe
      clear hpe
      go_wp2_with ((with_reducible apply gL); (first | (refine wS hk ?_; simp only [pw]; (try rw [hcs])) | (refine wN hk ?_; clear hk; intro w1 hk; simp only [pw])))
      (refine wp_regK hk (.op 0 (.op 1 (.op 3 (.op 2 (.op 4 .nil))))) (fun i => decide (i < 5)) mixT (by decide) (by kernel_rfl) (by kernel_rfl) ?_; clear hk; intro w1 hk)
      (repeat (refine sS hk ?_; simp only [pw]))
      (refine sCall ?_; intro K hK; go_step; refine hK _ _ (fun _ => hk) ?_; clear hK K)
      (repeat (refine sS hk ?_; simp only [pw]))
      refine tNil ?_
      go_wp2_with ((with_reducible apply gL); (first | refine wS hk ?_ | (refine wN hk ?_; clear hk; intro w1 hk)); simp only [pw])
      go_ret2
      exact ⟨ret_en HQ.out, hk.mod.below⟩
    | false =>
      rw [hcs] at hpe
      have HQ : Hid ((0, 0) = R) := hide hpe
      clear hpe
      go_wp2_with ((with_reducible apply gL); (first | (refine wS hk ?_; simp only [pw]; (try rw [hcs])) | (refine wN hk ?_; clear hk; intro w1 hk; simp only [pw])))
      go_ret2
      exact ⟨ret_en HQ.out, hk.mod.below⟩
def R2.mem (r : R2) (x : Int) : Prop := r.lo <= x /\ x <= r.hi
theorem wrap_id {x : Int} (h : I64 x) : wrap64 x = x := by unfold I64 at h; unfold wrap64; omega
theorem wrap_I64 (x : Int) : I64 (wrap64 x) := by unfold I64 wrap64; omega
theorem all_mem {x : Int} (h : I64 x) : allR.mem x := by unfold I64 at h; unfold allR R2.mem; simp only; omega
theorem inI_iff {x : Int} : inI x = true ↔ I64 x := by unfold inI I64; simp; omega
theorem sum_mem {b c : R2} {x y : Int} (hx : b.mem x) (hy : c.mem y) : (sumR b c).mem (wrap64 (x + y)) := by
 unfold sumR fitR
 unfold R2.mem at hx hy
 split
 · rename_i h
   simp only [Bool.and_eq_true, inI_iff] at h
   obtain ⟨h1, h2⟩ := h
   rw [wrap_id (by unfold I64 at *; omega)]
   unfold R2.mem; simp only; omega
 · exact all_mem (wrap_I64 _)
theorem dif_mem {b c : R2} {x y : Int} (hx : b.mem x) (hy : c.mem y) : (difR b c).mem (wrap64 (x - y)) := by
 unfold difR fitR
 unfold R2.mem at hx hy
 split
 · rename_i h
   simp only [Bool.and_eq_true, inI_iff] at h
   obtain ⟨h1, h2⟩ := h
   rw [wrap_id (by unfold I64 at *; omega)]
   unfold R2.mem; simp only; omega
 · exact all_mem (wrap_I64 _)
theorem span_mem_iff {a b c d x : Int} : (spanR a b c d).mem x ↔ (a <= x \/ b <= x \/ c <= x \/ d <= x) /\ (x <= a \/ x <= b \/ x <= c \/ x <= d) := by
 unfold spanR R2.mem min4 max4; simp only; omega
theorem mul_le_of {a b y : Int} (h : a <= b) (hy : 0 <= y) : a * y <= b * y := Int.mul_le_mul_of_nonneg_right h hy
theorem mul_ge_of {a b y : Int} (h : a <= b) (hy : y <= 0) : b * y <= a * y := Int.mul_le_mul_of_nonpos_right h hy
theorem mul_between {a b x y : Int} (h1 : a <= x) (h2 : x <= b) : (a * y <= x * y \/ b * y <= x * y) /\ (x * y <= a * y \/ x * y <= b * y) := by
 rcases Int.le_total 0 y with hy | hy
 · exact ⟨Or.inl (mul_le_of h1 hy), Or.inr (mul_le_of h2 hy)⟩
 · exact ⟨Or.inr (mul_ge_of h2 hy), Or.inl (mul_ge_of h1 hy)⟩
theorem mul_corners {b c : R2} {x y : Int} (hx : b.mem x) (hy : c.mem y) : (spanR (b.lo * c.lo) (b.lo * c.hi) (b.hi * c.lo) (b.hi * c.hi)).mem (x * y) := by
 rw [span_mem_iff]
 have h1 := mul_between (y := y) hx.1 hx.2
 have h2 := mul_between (y := b.lo) hy.1 hy.2
 have h3 := mul_between (y := b.hi) hy.1 hy.2
 rw [Int.mul_comm y b.lo, Int.mul_comm c.lo b.lo, Int.mul_comm c.hi b.lo] at h2
 rw [Int.mul_comm y b.hi, Int.mul_comm c.lo b.hi, Int.mul_comm c.hi b.hi] at h3
 omega
theorem small_mul {x y : Int} (hx : -2147483648 <= x /\ x <= 2147483648) (hy : -2147483648 <= y /\ y <= 2147483648) : I64 (x * y) := by
 have := mul_corners (b := ⟨-2147483648, 2147483648⟩) (c := ⟨-2147483648, 2147483648⟩) (x := x) (y := y) hx hy
 rw [span_mem_iff] at this
 simp only at this
 unfold I64
 omega
theorem inRg_iff {r o : R2} : inRg r o = true ↔ o.lo <= r.lo /\ r.hi <= o.hi := by unfold inRg; simp
theorem prod_mem {b c : R2} {x y : Int} (hx : b.mem x) (hy : c.mem y) : (prodR b c).mem (wrap64 (x * y)) := by
 unfold prodR
 split
 · rename_i h
   simp only [Bool.and_eq_true, inRg_iff, smallR] at h
   obtain ⟨⟨h1, h2⟩, h3, h4⟩ := h
   have hb1 := hx.1; have hb2 := hx.2; have hc1 := hy.1; have hc2 := hy.2
   rw [wrap_id (small_mul (x := b.lo) (y := c.lo) (by omega) (by omega)), wrap_id (small_mul (x := b.lo) (y := c.hi) (by omega) (by omega)), wrap_id (small_mul (x := b.hi) (y := c.lo) (by omega) (by omega)), wrap_id (small_mul (x := b.hi) (y := c.hi) (by omega) (by omega)), wrap_id (small_mul (x := x) (y := y) (by omega) (by omega))]
   exact mul_corners hx hy
 · exact all_mem (wrap_I64 _)
theorem tdiv_mono {a b y : Int} (h : a <= b) (hy : 0 < y) : a.tdiv y <= b.tdiv y := Int.tdiv_le_tdiv hy h
theorem tdiv_anti {a b y : Int} (h : a <= b) (hy : y < 0) : b.tdiv y <= a.tdiv y := by
 have := Int.tdiv_le_tdiv (show 0 < -y by omega) h
 rw [Int.tdiv_neg, Int.tdiv_neg] at this
 omega
theorem tdiv_between {a b x y : Int} (h1 : a <= x) (h2 : x <= b) (hy : y ≠ 0) : (a.tdiv y <= x.tdiv y \/ b.tdiv y <= x.tdiv y) /\ (x.tdiv y <= a.tdiv y \/ x.tdiv y <= b.tdiv y) := by
 rcases Int.lt_or_gt_of_ne hy with h | h
 · exact ⟨Or.inr (tdiv_anti h2 h), Or.inl (tdiv_anti h1 h)⟩
 · exact ⟨Or.inl (tdiv_mono h1 h), Or.inr (tdiv_mono h2 h)⟩
theorem tdiv_den_nonneg {x a b : Int} (hx : 0 <= x) (ha : 0 < a) (h : a <= b) : x.tdiv b <= x.tdiv a := by
 rw [Int.tdiv_eq_ediv_of_nonneg hx, Int.tdiv_eq_ediv_of_nonneg hx]
 have hb : 0 < b := by omega
 refine (Int.le_ediv_iff_mul_le ha).2 ?_
 have h0 : 0 <= x / b := Int.ediv_nonneg hx (by omega)
 have h1 : x / b * a <= x / b * b := Int.mul_le_mul_of_nonneg_left h h0
 have h2 : x / b * b <= x := Int.ediv_mul_le x (by omega)
 omega
theorem tdiv_den {x c d y : Int} (h1 : c <= y) (h2 : y <= d) (hs : 0 < c \/ d < 0) : (x.tdiv c <= x.tdiv y \/ x.tdiv d <= x.tdiv y) /\ (x.tdiv y <= x.tdiv c \/ x.tdiv y <= x.tdiv d) := by
 rcases hs with hs | hs
 · rcases Int.le_total 0 x with hx | hx
   · exact ⟨Or.inr (tdiv_den_nonneg hx (by omega) h2), Or.inl (tdiv_den_nonneg hx hs h1)⟩
   · have e1 := tdiv_den_nonneg (x := -x) (by omega) (show 0 < y by omega) h2
     have e2 := tdiv_den_nonneg (x := -x) (by omega) hs h1
     rw [Int.neg_tdiv, Int.neg_tdiv] at e1 e2
     exact ⟨Or.inl (by omega), Or.inr (by omega)⟩
 · rcases Int.le_total 0 x with hx | hx
   · have e1 := tdiv_den_nonneg (x := x) (a := -d) (b := -y) hx (by omega) (by omega)
     have e2 := tdiv_den_nonneg (x := x) (a := -y) (b := -c) hx (by omega) (by omega)
     rw [Int.tdiv_neg, Int.tdiv_neg] at e1 e2
     exact ⟨Or.inr (by omega), Or.inl (by omega)⟩
   · have e1 := tdiv_den_nonneg (x := -x) (a := -d) (b := -y) (by omega) (by omega) (by omega)
     have e2 := tdiv_den_nonneg (x := -x) (a := -y) (b := -c) (by omega) (by omega) (by omega)
     rw [Int.tdiv_neg, Int.tdiv_neg, Int.neg_tdiv, Int.neg_tdiv] at e1 e2
     exact ⟨Or.inl (by omega), Or.inr (by omega)⟩
theorem quo_corners {b c : R2} {x y : Int} (hx : b.mem x) (hy : c.mem y) (hs : 0 < c.lo \/ c.hi < 0) : (spanR (b.lo.tdiv c.lo) (b.lo.tdiv c.hi) (b.hi.tdiv c.lo) (b.hi.tdiv c.hi)).mem (x.tdiv y) := by
 rw [span_mem_iff]
 have hy1 := hy.1; have hy2 := hy.2
 have h1 := tdiv_between (y := y) hx.1 hx.2 (by omega)
 have h2 := tdiv_den (x := b.lo) hy.1 hy.2 hs
 have h3 := tdiv_den (x := b.hi) hy.1 hy.2 hs
 omega
theorem tdiv_I64 {x y : Int} (hx : I64 x) (h : ¬ (x = -9223372036854775808 /\ y = -1)) : I64 (x.tdiv y) := by
 have hn : (x.tdiv y).natAbs <= x.natAbs := by rw [Int.natAbs_tdiv]; exact Nat.div_le_self _ _
 unfold I64 at *
 by_cases hm : x.tdiv y = 9223372036854775808
 · exfalso
   apply h
   have hxa : x = -9223372036854775808 := by omega
   refine ⟨hxa, ?_⟩
   rw [hxa] at hm
   have e : ((-9223372036854775808 : Int).tdiv y).natAbs = 9223372036854775808 := by rw [hm]; rfl
   rw [Int.natAbs_tdiv] at e
   have h1 : y.natAbs = 1 := by
    rcases Nat.lt_or_ge 1 y.natAbs with hgt | hle
    · have : (-9223372036854775808 : Int).natAbs / y.natAbs <= (-9223372036854775808 : Int).natAbs / 2 := Nat.div_le_div_left (by omega) (by omega)
      have e2 : (-9223372036854775808 : Int).natAbs / y.natAbs = 9223372036854775808 := e
      rw [e2] at this
      exact absurd this (by decide)
    · rcases Nat.eq_zero_or_pos y.natAbs with h0 | h0
      · rw [h0] at e; simp at e
      · omega
   rcases Int.natAbs_eq y with hy | hy
   · rw [h1] at hy; rw [hy] at hm; simp at hm
   · rw [h1] at hy; omega
 · omega
theorem has_iff {r : R2} {x : Int} : hasR r x = true ↔ r.lo <= x /\ x <= r.hi := by unfold hasR; simp
theorem quo_sign {c : R2} (h : hasR c 0 = false) : 0 < c.lo \/ c.hi < 0 := by
 have : ¬ (c.lo <= 0 /\ 0 <= c.hi) := fun h2 => by rw [has_iff.2 h2] at h; cases h
 omega
theorem quo_mem {b c : R2} {x y : Int} (hb : b.in64) (hx : b.mem x) (hy : c.mem y) : (quoR b c).mem (wrap64 (x.tdiv y)) := by
 unfold quoR
 split
 · exact all_mem (wrap_I64 _)
 · rename_i h
   simp only [quoAll, Bool.or_eq_true, Bool.and_eq_true, not_or, Bool.not_eq_true] at h
   obtain ⟨h0, h1⟩ := h
   have hbl := hb.1; have hbh := hb.2
   have hxI : I64 x := by have := hx.1; have := hx.2; unfold I64 at *; omega
   have hy1 := hy.1; have hy2 := hy.2; have hx1 := hx.1; have hx2 := hx.2
   have hno : ∀ u v, b.mem u -> c.mem v -> ¬ (u = -9223372036854775808 /\ v = -1) := by
    rintro u v hu hv ⟨rfl, rfl⟩
    exact h1 ⟨has_iff.2 hv, has_iff.2 hu⟩
   have bl : b.mem b.lo := ⟨by omega, by omega⟩
   have bh : b.mem b.hi := ⟨by omega, by omega⟩
   have cl : c.mem c.lo := ⟨by omega, by omega⟩
   have ch : c.mem c.hi := ⟨by omega, by omega⟩
   rw [wrap_id (tdiv_I64 hbl (hno _ _ bl cl)), wrap_id (tdiv_I64 hbl (hno _ _ bl ch)), wrap_id (tdiv_I64 hbh (hno _ _ bh cl)), wrap_id (tdiv_I64 hbh (hno _ _ bh ch)), wrap_id (tdiv_I64 hxI (hno _ _ hx hy))]
   exact quo_corners hx hy (quo_sign h0)
def R2.sub (r o : R2) : Prop := o.lo <= r.lo /\ r.hi <= o.hi
theorem R2.sub.mem {r o : R2} {x : Int} (h : r.sub o) (hx : r.mem x) : o.mem x := by unfold R2.sub at h; unfold R2.mem at *; omega
theorem all_in64 : allR.in64 := by unfold R2.in64 I64 allR; simp
theorem all_ok : allR.lo <= allR.hi := by unfold allR; simp
theorem span_in64 {a b c d : Int} (ha : I64 a) (hb : I64 b) (hc : I64 c) (hd : I64 d) : (spanR a b c d).in64 := by
 unfold spanR R2.in64; unfold I64 at *; simp only; unfold min4 max4; omega
theorem span_ok (a b c d : Int) : (spanR a b c d).lo <= (spanR a b c d).hi := by unfold spanR min4 max4; simp only; omega
theorem sum_in64 (b c : R2) : (sumR b c).in64 := by
 unfold sumR fitR; split
 · rename_i h; simp only [Bool.and_eq_true, inI_iff] at h; exact h
 · exact all_in64
theorem dif_in64 (b c : R2) : (difR b c).in64 := by
 unfold difR fitR; split
 · rename_i h; simp only [Bool.and_eq_true, inI_iff] at h; exact h
 · exact all_in64
theorem prod_in64 (b c : R2) : (prodR b c).in64 := by
 unfold prodR; split
 · exact span_in64 (wrap_I64 _) (wrap_I64 _) (wrap_I64 _) (wrap_I64 _)
 · exact all_in64
theorem quo_in64 (b c : R2) : (quoR b c).in64 := by
 unfold quoR; split
 · exact all_in64
 · exact span_in64 (wrap_I64 _) (wrap_I64 _) (wrap_I64 _) (wrap_I64 _)
theorem sum_ok {b c : R2} (hb : b.lo <= b.hi) (hc : c.lo <= c.hi) : (sumR b c).lo <= (sumR b c).hi := by
 unfold sumR fitR; split
 · simp only; omega
 · exact all_ok
theorem dif_ok {b c : R2} (hb : b.lo <= b.hi) (hc : c.lo <= c.hi) : (difR b c).lo <= (difR b c).hi := by
 unfold difR fitR; split
 · simp only; omega
 · exact all_ok
theorem prod_ok (b c : R2) : (prodR b c).lo <= (prodR b c).hi := by
 unfold prodR; split
 · exact span_ok _ _ _ _
 · exact all_ok
theorem quo_ok (b c : R2) : (quoR b c).lo <= (quoR b c).hi := by
 unfold quoR; split
 · exact all_ok
 · exact span_ok _ _ _ _
def RegsIn (i : I5) : Prop := 0 <= i.a /\ 0 <= i.b /\ 0 <= i.c /\ i.a.toNat < 8 /\ i.b.toNat < 8 /\ i.c.toNat < 8
theorem lies_iff {s t : St} : liesR s t = true ↔ ∀ j, j < 8 -> (s j).sub (t j) := by
 unfold liesR
 rw [List.all_eq_true]
 constructor
 · intro h j hj; exact inRg_iff.1 (h j (List.mem_range.2 hj))
 · intro h j hj; exact inRg_iff.2 (h j (List.mem_range.1 hj))
theorem lies_refl (s : St) : liesR s s = true := lies_iff.2 fun j _ => by unfold R2.sub; omega
theorem lies_trans {s t u : St} (h : liesR s t = true) (k : liesR t u = true) : liesR s u = true := lies_iff.2 fun j hj => by
 have h1 := lies_iff.1 h j hj
 have h2 := lies_iff.1 k j hj
 unfold R2.sub at *; omega
theorem upd_same (s : St) (a : Nat) (r : R2) : updS s a r a = r := by unfold updS; rw [if_pos rfl]
theorem upd_other {s : St} {a j : Nat} {r : R2} (h : j ≠ a) : updS s a r j = s j := by unfold updS; rw [if_neg h]
theorem upd_ok {s : St} {a : Nat} {r : R2} (h : s.ok) (hr : r.lo <= r.hi) : St.ok (updS s a r) := fun j hj => by
 by_cases e : j = a
 · subst e; rw [upd_same]; exact hr
 · rw [upd_other e]; exact h j hj
theorem upd_in64 {s : St} {a : Nat} {r : R2} (h : s.in64) (hr : r.in64) : St.in64 (updS s a r) := fun j hj => by
 by_cases e : j = a
 · subst e; rw [upd_same]; exact hr
 · rw [upd_other e]; exact h j hj
theorem narr_ok {s s' : St} {a b : Nat} {x y : R2} (h : s.ok) (he : narrR s a x b y = some s') : s'.ok := by
 unfold narrR at he
 split at he
 · cases he
 · rename_i hn
   simp only [Bool.or_eq_true, not_or, emptyR, decide_eq_true_eq] at hn
   simp only [Option.some.injEq] at he
   rw [<- he]; exact upd_ok (upd_ok h (by omega)) (by omega)
theorem narr_in64 {s s' : St} {a b : Nat} {x y : R2} (h : s.in64) (hx : x.in64) (hy : y.in64) (he : narrR s a x b y = some s') : s'.in64 := by
 unfold narrR at he
 split at he
 · cases he
 · simp only [Option.some.injEq] at he
   rw [<- he]; exact upd_in64 (upd_in64 h hx) hy
theorem flowOn_keeps {i : I5} {s s' : St} (hi : RegsIn i) (hk : I64 i.k) (hso : s.ok) (h64 : s.in64) (he : flowOn i s = some s') : s'.ok /\ s'.in64 := by
 obtain ⟨_, _, _, ha, hb, hc⟩ := hi
 have oa := hso _ ha
 have ob := hso _ hb
 have oc := hso _ hc
 have ia := h64 _ ha
 have ib := h64 _ hb
 have ic := h64 _ hc
 unfold flowOn at he
 by_cases h1 : i.o = 1
 · rw [if_pos h1] at he; simp only [Option.some.injEq] at he; rw [<- he]; exact ⟨upd_ok hso (Int.le_refl _), upd_in64 h64 ⟨hk, hk⟩⟩
 rw [if_neg h1] at he
 by_cases h1 : i.o = 2
 · rw [if_pos h1] at he; simp only [Option.some.injEq] at he; rw [<- he]; exact ⟨upd_ok hso ob, upd_in64 h64 ib⟩
 rw [if_neg h1] at he
 by_cases h1 : i.o = 3
 · rw [if_pos h1] at he; simp only [Option.some.injEq] at he; rw [<- he]; exact ⟨upd_ok hso (sum_ok ob oc), upd_in64 h64 (sum_in64 _ _)⟩
 rw [if_neg h1] at he
 by_cases h1 : i.o = 4
 · rw [if_pos h1] at he; simp only [Option.some.injEq] at he; rw [<- he]; exact ⟨upd_ok hso (dif_ok ob oc), upd_in64 h64 (dif_in64 _ _)⟩
 rw [if_neg h1] at he
 by_cases h1 : i.o = 5
 · rw [if_pos h1] at he; simp only [Option.some.injEq] at he; rw [<- he]; exact ⟨upd_ok hso (prod_ok _ _), upd_in64 h64 (prod_in64 _ _)⟩
 rw [if_neg h1] at he
 by_cases h1 : i.o = 6
 · rw [if_pos h1] at he; simp only [Option.some.injEq] at he; rw [<- he]; exact ⟨upd_ok hso (quo_ok _ _), upd_in64 h64 (quo_in64 _ _)⟩
 rw [if_neg h1] at he
 by_cases h1 : i.o = 7
 · rw [if_pos h1] at he; simp only [Option.some.injEq] at he; rw [<- he]; exact ⟨upd_ok hso all_ok, upd_in64 h64 all_in64⟩
 rw [if_neg h1] at he
 by_cases h1 : i.o = 8
 · rw [if_pos h1] at he; simp only [Option.some.injEq] at he; rw [<- he]; exact ⟨hso, h64⟩
 rw [if_neg h1] at he
 by_cases h1 : i.o = 10
 · rw [if_pos h1] at he
   by_cases h2 : i.a = i.b
   · rw [if_pos h2] at he; simp only [Option.some.injEq] at he; rw [<- he]; exact ⟨hso, h64⟩
   · rw [if_neg h2] at he
     exact ⟨narr_ok hso he, narr_in64 h64 (by unfold R2.in64 I64 at *; simp only; omega) (by unfold R2.in64 I64 at *; simp only; omega) he⟩
 rw [if_neg h1] at he
 by_cases h1 : i.o = 11
 · rw [if_pos h1] at he
   by_cases h2 : i.a = i.b
   · rw [if_pos h2] at he; cases he
   · rw [if_neg h2] at he
     by_cases h3 : oneR (s i.a.toNat) (s i.b.toNat) = true
     · rw [if_pos h3] at he; cases he
     · rw [if_neg h3] at he; simp only [Option.some.injEq] at he; rw [<- he]; exact ⟨hso, h64⟩
 rw [if_neg h1] at he; cases he
theorem flowFar_keeps {i : I5} {s s' : St} (hi : RegsIn i) (hso : s.ok) (h64 : s.in64) (he : flowFar i s = some s') : s'.ok /\ s'.in64 := by
 obtain ⟨_, _, _, ha, hb, _⟩ := hi
 have ia := h64 _ ha
 have ib := h64 _ hb
 unfold flowFar at he
 by_cases h1 : i.o = 9
 · rw [if_pos h1] at he; simp only [Option.some.injEq] at he; rw [<- he]; exact ⟨hso, h64⟩
 rw [if_neg h1] at he
 by_cases h1 : i.o = 10
 · rw [if_pos h1] at he
   by_cases h2 : i.a = i.b
   · rw [if_pos h2] at he; cases he
   · rw [if_neg h2] at he
     by_cases h3 : (s i.b.toNat).hi = -9223372036854775808 \/ (s i.a.toNat).lo = 9223372036854775807
     · rw [if_pos h3] at he; cases he
     · rw [if_neg h3] at he
       exact ⟨narr_ok hso he, narr_in64 h64 (by unfold R2.in64 I64 at *; simp only; omega) (by unfold R2.in64 I64 at *; simp only; omega) he⟩
 rw [if_neg h1] at he
 by_cases h1 : i.o = 11
 · rw [if_pos h1] at he
   by_cases h2 : i.a = i.b
   · rw [if_pos h2] at he; simp only [Option.some.injEq] at he; rw [<- he]; exact ⟨hso, h64⟩
   · rw [if_neg h2] at he
     exact ⟨narr_ok hso he, narr_in64 h64 (by unfold R2.in64 I64 comR at *; simp only; omega) (by unfold R2.in64 I64 comR at *; simp only; omega) he⟩
 rw [if_neg h1] at he; cases he
def progA (A : Array Value) (vf : I5 -> Value) (l : List I5) : Prop := ∀ i, i < l.length -> A[i * 1]? = some (vf (insAt l i))
theorem progA.at {A : Array Value} {vf : I5 -> Value} {l : List I5} {w : World} {pb : Nat} {t : TypeId} (h : progA A vf l) (hat : At w pb A t) : ProgC w pb vf l := fun i hi => by rw [hat.cell]; exact h i hi
theorem Kn.make {M : List Nat} {w0 w w' : World} {L : RowL} {b : Nat} {A : Array Value} {t : TypeId} (h : Kn M w0 w L) (hb : Below w.heap.size w w') (hat : At w' b A t) (hge : w.heap.size <= b) : Kn M w0 w' ((b, A, t) :: L) := by
 have hk := h.call hb
 refine ⟨hk.mod, fun x hx => ?_, List.Pairwise.cons (fun y hy e => ?_) hk.dis⟩
 · rcases List.mem_cons.1 hx with rfl | hx
   · exact ⟨hat, Or.inl (Nat.le_trans h.mod.size hge)⟩
   · exact hk.has x hx
 · have := (h.has y hy).1.lt
   simp only at e
   omega
theorem progOf_c (l : List I5) (v : Value) (w : World) (h : Slc w v l) (hl : 0 < l.length) (hl2 : l.length <= 64) : Calls Tryz.prog 11 #[v] w fun e w' => ∃ pb cap A, e = .returned (.slice (some ⟨pb, 0, none⟩) l.length cap) /\ At w' pb A 74 /\ progA A iVal l /\ w.heap.size <= pb /\ Below w.heap.size w w' := by
 refine (progOf_any l v w h hl hl2).mono ?_
 rintro e w' ⟨pv, rfl, ho, hb⟩
 rcases ho.2 with ⟨_, h2⟩ | ⟨g, cap, cur, rfl, h4, hh, h5, h6, h7, h8⟩
 · omega
 · refine ⟨g, cap, cur, rfl, hh, fun i hi => ?_, h4, hb⟩
   have h9 : (cur.toList.take (l.length * 1))[i * 1]? = (l.map iVal)[i * 1]? := by rw [h8]
   rw [List.getElem?_take, if_pos (by omega), Nat.mul_one, List.getElem?_map, List.getElem?_eq_getElem hi, Array.getElem?_toList] at h9
   rw [Nat.mul_one, h9, insAt_get hi]
   rfl
theorem fwR_le (mk : Nat -> Bool) (n : Nat) : ∀ (cl : List C2) (last : Int) (i : Nat), i <= fwR mk n cl last i /\ fwR mk n cl last i <= i + cl.length
 | [], _, i => by unfold fwR; simp
 | c :: r, last, i => by
   unfold fwR
   split
   · simp
   · have := fwR_le mk n r c.pl (i + 1)
     simp only [List.length_cons]
     omega
theorem fwR_good {mk : Nat -> Bool} {n : Nat} : ∀ (cl : List C2) (last : Int) (i : Nat), -1 <= last -> fwR mk n cl last i = i + cl.length -> ∀ c, c ∈ cl -> (∃ k : Nat, c.pl = k /\ k < n /\ mk k = true) /\ isStR c.st = true
 | [], _, _, _, _, c, hc => by cases hc
 | d :: r, last, i, hl, h, c, hc => by
   unfold fwR at h
   by_cases hb : badC mk n last d = true
   · rw [if_pos hb] at h; simp at h
   · rw [if_neg hb] at h
     have hb' : badC mk n last d = false := by simpa using hb
     unfold badC at hb'
     simp only [Bool.or_eq_false_iff, decide_eq_false_iff_not, Bool.not_eq_false'] at hb'
     obtain ⟨⟨⟨h1, h2⟩, h3⟩, h4⟩ := hb'
     rcases List.mem_cons.1 hc with rfl | hc
     · exact ⟨⟨c.pl.toNat, by omega, by omega, h3⟩, h4⟩
     · exact fwR_good r d.pl (i + 1) (by omega) (by rw [h]; simp; omega) c hc
theorem clAt_mem {cl : List C2} {i : Nat} (h : i < cl.length) : clAt cl i ∈ cl := by rw [clAt_get h]; exact List.getElem_mem h
theorem layU_ok {cl : List C2} (h : ∀ i, i < cl.length -> St.ok (clAt cl i).st /\ St.in64 (clAt cl i).st) : ∀ (i : Nat), i <= cl.length -> ∀ k, OkO (layU cl i k)
 | 0, _, k => fun s hs => by cases hs
 | i + 1, hi, k => fun s hs => by
   unfold layU updW at hs
   split at hs
   · cases hs; exact h i (by omega)
   · exact layU_ok h i (by omega) k s hs
def checkR (l : List I5) (e : St) (cl : List C2) : Int × Nat :=
 if isStR e then (if fwR (markB l) l.length cl (-1) 0 < cl.length then (4, fwR (markB l) l.length cl (-1) 0) else passC l (layR cl) l.length 0 (some e)) else (3, 0)
structure In64 (l : List I5) (e : St) (cl : List C2) : Prop where
 k : ∀ i, i < l.length -> I64 (insAt l i).k
 e : St.in64 e
 c : ∀ i, i < cl.length -> St.in64 (clAt cl i).st
theorem AllFit.regs {l : List I5} (h : AllFit l) {i : Nat} (hi : i < l.length) : RegsIn (insAt l i) := by
 have := h.fit hi
 unfold RegsIn
 unfold I5.fits fitsB at this
 simp only [Bool.and_eq_true, decide_eq_true_eq] at this
 obtain ⟨⟨⟨⟨⟨h0, h1⟩, ha⟩, hb⟩, hc⟩, hk⟩ := this
 unfold regOk at ha hb hc
 split at ha <;> split at hb <;> split at hc <;> simp only [decide_eq_true_eq, Bool.and_eq_true] at ha hb hc <;> omega
theorem stepC_keeps {l : List I5} (hl : AllFit l) (h64 : ∀ i, i < l.length -> I64 (insAt l i).k) {cl : Nat -> Option St} (hcl : ∀ k, OkO (cl k)) (m : Nat) (come : Option St) (hm : m < l.length) (hco : OkO come) : OkO (stepC l cl m come).2 := by
 intro s hs
 have hh : OkO (if markB l m then cl m else come) := by split; exact hcl m; exact hco
 unfold stepC at hs
 split at hs
 · cases hs
 · cases hx : (if markB l m then cl m else come) with
   | none => rw [hx] at hs; cases hs
   | some t =>
     rw [hx] at hs
     simp only at hs
     split at hs
     · cases hs
     · split at hs
       · cases hs
       · have ht := hh t hx
         exact flowOn_keeps (hl.regs hm) (h64 m hm) ht.1 ht.2 hs
theorem ok_of_st {s : St} (h : isStR s = true) : St.ok s := fun j hj => isStR_at h j hj
theorem check_any (l : List I5) (hl : AllFit l) (e : St) (cl : List C2) (h64 : In64 l e cl) (hcl : cl.length < 4000000000000) (v cv : Value) (w : World) (h : Slc w v l) (hc : SlcC w cv cl) :
 Calls Tryz.prog 25 #[v, .agg (stC e), cv] w fun r w' => r = .returned (.tuple #[.int .i64 (checkR l e cl).1, .int .i64 ((checkR l e cl).2 : Nat)]) /\ Below w.heap.size w w' := by
 have hk := Kn.nil [] w
 have HV := hide h
 have HC := hide hc
 obtain ⟨ca, cc, hcv⟩ : ∃ a c, cv = .slice a cl.length c := by
  rcases hc with ⟨⟨a, cap, rfl⟩, rfl⟩ | ⟨b, off, cap, rfl, _⟩
  · exact ⟨a, cap, rfl⟩
  · exact ⟨_, cap, rfl⟩
 obtain ⟨va, vc, hvv⟩ := h.len
 subst hcv
 subst hvv
 clear h hc
 cases hE : isStR e with
 | false =>
   have R : checkR l e cl = (3, 0) := by unfold checkR; rw [hE]; rfl
   rw [R]
   clear R
   go_enter Tryz.func25, Tryz.ntmps25
   go_wp2_with (first | (first | (go_at_call 58; refine (isState_any _ _).mono ?_; rintro e w1 ⟨rfl, hb⟩; replace hk := hk.call hb; clear hb; rw [hE]) | (go_at_call 11; refine (progOf_c l _ _ (HV.out.below hk.mod.below (Nat.le_refl _)) hl.1 hl.2.1).mono ?_; rintro e w1 ⟨pb, pc, PA, rfl, hat, hpa, hge, hb⟩; replace hk := hk.make hb hat hge; have HPA := hide hpa; clear hb hat hge hpa) | (go_at_call 59; refine (marksOf_any l hl _ _ _ (HPA.out.at (hk.at mm))).mono ?_; rintro e w1 ⟨mb, rfl, hat, hge, hb⟩; replace hk := hk.make hb hat hge; clear hb hat hge) | (go_at_call 60; refine (firstWrong_any (markB l) l.length _ _ cl hcl _ _ (hk.at mm) (HC.out.below hk.mod.below (Nat.le_refl _))).mono ?_; rintro e w1 ⟨rfl, hb⟩; replace hk := hk.call hb; clear hb; rw [hFW]) | (go_at_call 61; refine (layOut_any l.length hl.2.1 cl hcl HG.out _ _ (HC.out.below hk.mod.below (Nat.le_refl _))).mono ?_; rintro e w1 ⟨sb, rfl, hat, hge, hb⟩; replace hk := hk.make hb hat hge; clear hb hat hge) | (go_at_call 62; refine (pass_ck l hl _ _ _ _ (layR cl) e _ (HPA.out.at (hk.at mm)) (hk.at mm) (hk.at mm) HOK.out ⟨ok_of_st hE, h64.e⟩ (stepC_keeps hl h64.k HOK.out)).mono ?_; rintro r w1 ⟨rfl, hb⟩; replace hk := hk.call hb; clear hb; rw [hPS])) | ((with_reducible apply gL); (first | refine wS hk ?_ | (refine wN hk ?_; clear hk; intro w1 hk)); simp only [pw]))
   go_ret2
   exact ⟨rfl, hk.mod.below⟩
 | true =>
   obtain ⟨FW, hFW⟩ : ∃ FW, fwR (markB l) l.length cl (-1) 0 = FW := ⟨_, rfl⟩
   have hle := fwR_le (markB l) l.length cl (-1) 0
   rw [hFW] at hle
   by_cases hlt : FW < cl.length
   · have R : checkR l e cl = (4, FW) := by unfold checkR; rw [hE, hFW, if_pos hlt]; rfl
     rw [R]
     clear R
     go_enter Tryz.func25, Tryz.ntmps25
     go_wp2_with (first | (first | (go_at_call 58; refine (isState_any _ _).mono ?_; rintro e w1 ⟨rfl, hb⟩; replace hk := hk.call hb; clear hb; rw [hE]) | (go_at_call 11; refine (progOf_c l _ _ (HV.out.below hk.mod.below (Nat.le_refl _)) hl.1 hl.2.1).mono ?_; rintro e w1 ⟨pb, pc, PA, rfl, hat, hpa, hge, hb⟩; replace hk := hk.make hb hat hge; have HPA := hide hpa; clear hb hat hge hpa) | (go_at_call 59; refine (marksOf_any l hl _ _ _ (HPA.out.at (hk.at mm))).mono ?_; rintro e w1 ⟨mb, rfl, hat, hge, hb⟩; replace hk := hk.make hb hat hge; clear hb hat hge) | (go_at_call 60; refine (firstWrong_any (markB l) l.length _ _ cl hcl _ _ (hk.at mm) (HC.out.below hk.mod.below (Nat.le_refl _))).mono ?_; rintro e w1 ⟨rfl, hb⟩; replace hk := hk.call hb; clear hb; rw [hFW]) | (go_at_call 61; refine (layOut_any l.length hl.2.1 cl hcl HG.out _ _ (HC.out.below hk.mod.below (Nat.le_refl _))).mono ?_; rintro e w1 ⟨sb, rfl, hat, hge, hb⟩; replace hk := hk.make hb hat hge; clear hb hat hge) | (go_at_call 62; refine (pass_ck l hl _ _ _ _ (layR cl) e _ (HPA.out.at (hk.at mm)) (hk.at mm) (hk.at mm) HOK.out ⟨ok_of_st hE, h64.e⟩ (stepC_keeps hl h64.k HOK.out)).mono ?_; rintro r w1 ⟨rfl, hb⟩; replace hk := hk.call hb; clear hb; rw [hPS])) | ((with_reducible apply gL); (first | refine wS hk ?_ | (refine wN hk ?_; clear hk; intro w1 hk)); simp only [pw]))
     go_ret2
     exact ⟨rfl, hk.mod.below⟩
   · have R : checkR l e cl = passC l (layR cl) l.length 0 (some e) := by unfold checkR; rw [hE, hFW, if_neg hlt]; rfl
     rw [R]
     clear R
     have hgood := fwR_good cl (-1) 0 (by omega) (show fwR (markB l) l.length cl (-1) 0 = 0 + cl.length by rw [hFW]; omega)
     have HG : Hid (∀ i, i < cl.length -> ∃ k : Nat, (clAt cl i).pl = k /\ k < l.length) := hide (fun i hi => by obtain ⟨⟨k, h1, h2, _⟩, _⟩ := hgood _ (clAt_mem hi); exact ⟨k, h1, h2⟩)
     have HOK : Hid (∀ k, OkO (layR cl k)) := hide (layU_ok (fun i hi => ⟨ok_of_st (hgood _ (clAt_mem hi)).2, h64.c i hi⟩) cl.length (Nat.le_refl _))
     clear hgood
     obtain ⟨PE, PN, hPS⟩ : ∃ PE PN, passC l (layR cl) l.length 0 (some e) = (PE, PN) := ⟨_, _, rfl⟩
     rw [hPS]
     go_enter Tryz.func25, Tryz.ntmps25
     go_wp2_with (first | (first | (go_at_call 58; refine (isState_any _ _).mono ?_; rintro e w1 ⟨rfl, hb⟩; replace hk := hk.call hb; clear hb; rw [hE]) | (go_at_call 11; refine (progOf_c l _ _ (HV.out.below hk.mod.below (Nat.le_refl _)) hl.1 hl.2.1).mono ?_; rintro e w1 ⟨pb, pc, PA, rfl, hat, hpa, hge, hb⟩; replace hk := hk.make hb hat hge; have HPA := hide hpa; clear hb hat hge hpa) | (go_at_call 59; refine (marksOf_any l hl _ _ _ (HPA.out.at (hk.at mm))).mono ?_; rintro e w1 ⟨mb, rfl, hat, hge, hb⟩; replace hk := hk.make hb hat hge; clear hb hat hge) | (go_at_call 60; refine (firstWrong_any (markB l) l.length _ _ cl hcl _ _ (hk.at mm) (HC.out.below hk.mod.below (Nat.le_refl _))).mono ?_; rintro e w1 ⟨rfl, hb⟩; replace hk := hk.call hb; clear hb; rw [hFW]) | (go_at_call 61; refine (layOut_any l.length hl.2.1 cl hcl HG.out _ _ (HC.out.below hk.mod.below (Nat.le_refl _))).mono ?_; rintro e w1 ⟨sb, rfl, hat, hge, hb⟩; replace hk := hk.make hb hat hge; clear hb hat hge) | (go_at_call 62; refine (pass_ck l hl _ _ _ _ (layR cl) e _ (HPA.out.at (hk.at mm)) (hk.at mm) (hk.at mm) HOK.out ⟨ok_of_st hE, h64.e⟩ (stepC_keeps hl h64.k HOK.out)).mono ?_; rintro r w1 ⟨rfl, hb⟩; replace hk := hk.call hb; clear hb; rw [hPS])) | ((with_reducible apply gL); (first | refine wS hk ?_ | (refine wN hk ?_; clear hk; intro w1 hk)); simp only [pw]))
     go_ret2
     exact ⟨rfl, hk.mod.below⟩
theorem right_fit {l : List I5} (h : rightR l = (0, 0)) : AllFit l := by
 unfold rightR at h
 by_cases hl : l.length = 0 \/ 64 < l.length
 · rw [if_pos hl] at h; simp at h
 · rw [if_neg hl] at h
   refine ⟨by omega, by omega, fun i hi => ?_⟩
   cases hb : badFrom l l.length with
   | some j => rw [hb] at h; simp at h
   | none =>
     unfold badFrom at hb
     rw [List.findIdx?_eq_none_iff] at hb
     have := hb l[i] (List.getElem_mem hi)
     simpa using this
def scheckR (l : List I5) (e : St) (cl : List C2) : Int × Int := if rightR l = (0, 0) then ((checkR l e cl).1, ((checkR l e cl).2 : Int)) else rightR l
theorem SCheck_any (l : List I5) (e : St) (cl : List C2) (h64 : In64 l e cl) (hcl : cl.length < 4000000000000) (v cv : Value) (w : World) (hs : Shapes w) (h : Slc w v l) (hc : SlcC w cv cl) :
 Calls Tryz.prog 10 #[v, .agg (stC e), cv] w fun r w' => r = .returned (.tuple #[.int .i64 (scheckR l e cl).1, .int .i64 (scheckR l e cl).2]) /\ Below w.heap.size w w' := by
 have hk := Kn.nil [] w
 have HS := hide hs
 have HV := hide h
 have HC := hide hc
 clear hs h hc
 rcases rightR_or l with hr | hr
 · have R : scheckR l e cl = ((checkR l e cl).1, ((checkR l e cl).2 : Int)) := by unfold scheckR; rw [if_pos hr]
   rw [R]
   clear R
   have HAF := hide (right_fit hr)
   obtain ⟨PE, PN, hPS⟩ : ∃ PE PN, checkR l e cl = (PE, PN) := ⟨_, _, rfl⟩
   rw [hPS]
   go_enter Tryz.func10, Tryz.ntmps10
   go_wp2_with (first | (first | (go_at_call 24; refine (codeRight_any l _ _ (HS.out.below hk.mod.below HS.out.1) (HV.out.below hk.mod.below (Nat.le_refl _))).mono ?_; rintro e w1 ⟨rfl, hb⟩; replace hk := hk.call hb; clear hb; rw [hr]) | (go_at_call 25; refine (check_any l HAF.out e cl h64 hcl _ _ _ (HV.out.below hk.mod.below (Nat.le_refl _)) (HC.out.below hk.mod.below (Nat.le_refl _))).mono ?_; rintro r w1 ⟨rfl, hb⟩; replace hk := hk.call hb; clear hb; rw [hPS])) | ((with_reducible apply gL); (first | refine wS hk ?_ | (refine wN hk ?_; clear hk; intro w1 hk)); simp only [pw]))
   go_ret2
   exact ⟨rfl, hk.mod.below⟩
 · have R : scheckR l e cl = rightR l := by unfold scheckR; rw [if_neg (by intro h; rw [h] at hr; simp at hr)]
   rw [R]
   clear R
   obtain ⟨PE, PN, hPS⟩ : ∃ PE PN, rightR l = (PE, PN) := ⟨_, _, rfl⟩
   rw [hPS] at hr
   simp only at hr
   subst hr
   rw [hPS]
   go_enter Tryz.func10, Tryz.ntmps10
   go_wp2_with (first | (go_at_call 24; refine (codeRight_any l _ _ (HS.out.below hk.mod.below HS.out.1) (HV.out.below hk.mod.below (Nat.le_refl _))).mono ?_; rintro e w1 ⟨rfl, hb⟩; replace hk := hk.call hb; clear hb; rw [hPS]) | ((with_reducible apply gL); (first | refine wS hk ?_ | (refine wN hk ?_; clear hk; intro w1 hk)); simp only [pw]))
   go_ret2
   exact ⟨rfl, hk.mod.below⟩
end Go.Proofs.YtamiichlbmllcabGreatDoor
namespace Go.Proofs.YtamiichlbmllcabGreatDoor
open Go.ChangeShapes Go.WideShapes Go.ChangeAt Go.RowKit Go.Deep
theorem cClaim : Tryz.prog.cellsOf 71 = 17 := by kernel_rfl
theorem byInsC : Tryz.prog.bytesOf 35 = 40 := by kernel_rfl
theorem byClaim : Tryz.prog.bytesOf 71 = 136 := by kernel_rfl
def FitsC (t : TypeId) {H : Type} (d : DataW H) : Prop := ∀ n ∈ DataW.weights Tryz.prog t d, n <= reachBytes
section
variable {H : Type} {enc : TypeId × Value -> H} {W : World} {base : Nat} {spare : Nat -> Bool} {held : Bool}
theorem read_cl {n : Nat} {cs : List Value} {x : DataW H × List MemPlace} (h : DataW.trod enc Tryz.prog W base spare held n 71 cs = some x) : ∃ c : C2, cs = (clC c.pl c.st).toList /\ St.in64 c.st := by
 obtain ⟨xs, m, _, _, hl, hlen, hf⟩ := DataW.trod_struct Tryz.underlying71 h
 rw [cClaim] at hl
 replace hlen : xs.length = 2 := hlen
 have g0 : DataW.trod enc Tryz.prog W base spare held m 3 ((cs.drop 0).take (Tryz.prog.cellsOf 3)) = xs[0]? := hf 0 _ rfl
 have g1 : DataW.trod enc Tryz.prog W base spare held m 29 ((cs.drop 1).take (Tryz.prog.cellsOf 29)) = xs[1]? := hf 1 _ rfl
 rw [cInt, List.getElem?_eq_getElem (by omega)] at g0
 rw [cState, List.getElem?_eq_getElem (by omega)] at g1
 obtain ⟨a0, e0, _, _⟩ := DataW.trod_int Tryz.underlying3 g0
 obtain ⟨s, e1, h64⟩ := read_st g1
 refine ⟨⟨a0, s⟩, ?_, h64⟩
 cases cs with
 | nil => simp at hl
 | cons y r =>
   simp at e0 hl
   rw [List.drop_succ_cons, List.drop_zero, List.take_of_length_le (by omega)] at e1
   rw [e1, e0]
   rfl
theorem open_insA {v : Value} {d : DataW H} {ps : List MemPlace} (hv : ∃ a len cap, v = .slice a len cap) (h : DataW.Trod enc Tryz.prog W base spare held 36 v d ps) (hfit : FitsC 36 d) :
 ∃ l : List I5, Arg W v l /\ (∀ i (h : i < l.length), l[i].in64) /\ l.length * 40 <= 140737488351232 := by
 obtain ⟨l, hS, _, h64⟩ := open_ins hv h
 obtain ⟨a0, len0, cap0, rfl⟩ := hv
 obtain ⟨fuel, hf⟩ := h
 rcases open_slice Tryz.underlying36 hf with ⟨hcs, _⟩ | ⟨a, len, cap, m, n, D, Pl, hcs, _, hl, hm, hmm, hd, _⟩
 · simp [Value.cells] at hcs
   obtain ⟨rfl, rfl, rfl⟩ := hcs
   have hlen : l.length = 0 := by
    obtain ⟨a', c', e⟩ := hS.len
    simp at e; exact e.2.1.symm
   exact ⟨l, ⟨hS, fun n c hh => by simp at hh; omega⟩, h64, by rw [hlen]; omega⟩
 · simp [Value.cells] at hcs
   obtain ⟨rfl, rfl, rfl⟩ := hcs
   have hlen : l.length = len0 := by
    obtain ⟨a', c', e⟩ := hS.len
    simp at e; exact e.2.1.symm
   refine ⟨l, ⟨hS, fun n c hh => by simp at hh⟩, h64, ?_⟩
   simp only [Prod.mk.injEq] at hd
   obtain ⟨rfl, _⟩ := hd
   have := hfit _ (by simp only [DataW.weights, Tryz.underlying36]; exact List.mem_cons_self)
   rw [byInsC] at this
   simp only [List.length_map, List.length_range, reachBytes] at this
   omega
theorem open_cls {v : Value} {d : DataW H} {ps : List MemPlace} (hv : ∃ a len cap, v = .slice a len cap) (h : DataW.Trod enc Tryz.prog W base spare held 51 v d ps) (hfit : FitsC 51 d) :
 ∃ cl : List C2, ArgC W v cl /\ (∀ i, i < cl.length -> St.in64 (clAt cl i).st) /\ cl.length * 136 <= 140737488351232 := by
 obtain ⟨a0, len0, cap0, rfl⟩ := hv
 obtain ⟨fuel, hf⟩ := h
 rcases open_slice Tryz.underlying51 hf with ⟨hcs, _⟩ | ⟨a, len, cap, m, n, D, Pl, hcs, _, hl, hm, hmm, hd, hx⟩
 · simp [Value.cells] at hcs
   obtain ⟨rfl, rfl, rfl⟩ := hcs
   exact ⟨[], ⟨Or.inl ⟨⟨_, _, rfl⟩, rfl⟩, fun n c hh => by simp at hh; omega⟩, fun i h => by simp at h, by simp⟩
 · simp [Value.cells] at hcs
   obtain ⟨rfl, rfl, rfl⟩ := hcs
   have hlm : len0 <= m := by rw [hmm]; split <;> omega
   have hsz : len0 * 136 <= 140737488351232 := by
    simp only [Prod.mk.injEq] at hd
    obtain ⟨rfl, _⟩ := hd
    have := hfit _ (by simp only [DataW.weights, Tryz.underlying51]; exact List.mem_cons_self)
    rw [byClaim] at this
    simp only [List.length_map, List.length_range, reachBytes] at this
    omega
   have each : ∀ i, i < len0 -> ∃ x : C2, St.in64 x.st /\ ∀ f, f < 17 -> W.cell? (a.add (i * 17 + f)) = (clC x.pl x.st).toList[f]? := by
    intro i hi
    obtain ⟨cs', h1, h2⟩ := hx i (by omega)
    obtain ⟨x, rfl, hx64⟩ := read_cl h2
    rw [cClaim] at h1
    obtain ⟨_, _, hcell⟩ := World.cells?_some h1
    exact ⟨x, hx64, fun f hf => by rw [<- add_add]; exact hcell f hf⟩
   have : Inhabited C2 := ⟨zeroC⟩
   obtain ⟨q, hq⟩ := choose_lt each
   have hat : ∀ i, i < len0 -> clAt ((List.range len0).map q) i = q i := fun i hi => by rw [clAt_get (by simpa using hi)]; simp
   refine ⟨(List.range len0).map q, ⟨?_, fun n c hh => by simp at hh⟩, fun i hi => by simp at hi; rw [hat i hi]; exact (hq i hi).1, by simpa using hsz⟩
   by_cases h0 : len0 = 0
   · subst h0
     exact Or.inl ⟨⟨_, _, rfl⟩, rfl⟩
   · obtain ⟨b, off, spot⟩ := a
     have hc := (hq 0 (by omega)).2 0 (by omega)
     have hspot : spot = none := by
      have e : (clC (q 0).pl (q 0).st).toList[0]? = some (.int .i64 (q 0).pl) := rfl
      rw [e] at hc
      simpa [Addr.add] using World.cell?_spot hc
     subst hspot
     have hadd : ∀ k, (⟨b, off, none⟩ : Addr).add k = ⟨b, off + k, none⟩ := fun k => add_plain _ _ _
     have hcl : ∀ i (hi : i < len0) f, f < 17 -> W.cell? ⟨b, off + i * 17 + f, none⟩ = (clC (q i).pl (q i).st).toList[f]? := by
      intro i hi f hf
      have := (hq i hi).2 f hf
      rw [hadd, <- Nat.add_assoc] at this
      exact this
     refine Or.inr ⟨b, off, cap0, by simp, ?_, fun i hi => ?_⟩
     · have := hcl 0 (by omega) 0 (by omega)
       exact World.block_lt_of_cell? W ⟨b, _, none⟩ this
     · simp at hi
       rw [hat i hi]
       intro j u hj
       rw [hcl i hi j (by have := (List.getElem?_eq_some_iff.1 hj).1; exact this)]
       exact hj
end
end Go.Proofs.YtamiichlbmllcabGreatDoor
