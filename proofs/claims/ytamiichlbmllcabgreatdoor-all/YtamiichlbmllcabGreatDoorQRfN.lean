import Derived.Test.YtamiichlbmllcabGreatDoorQRfC
import Derived.Test.YtamiichlbmllcabGreatDoorQRefA
import Derived.Test.YtamiichlbmllcabGreatDoorQChF
import Derived.Test.YtamiichlbmllcabGreatDoorQRfL
import Derived.Test.YtamiichlbmllcabGreatDoorQPrB
import Derived.Deep.CutRange
import Derived.Deep.DeepCutAuto
set_option maxRecDepth 100000
set_option maxHeartbeats 32000000
namespace Go.Proofs.YtamiichlbmllcabGreatDoor
open Go.RowKit
theorem rf_first_no (l : List I5) (e : Nat -> R2) (p q : Int) (hr : rightR l = (p, q)) (hp : ¬ p = 0) (v : Value) (w : World) (h : Slc w v l) : Calls Tryz.prog 70 #[v, .agg (stC e)] w fun r w' => r = .returned (.tuple #[.int .i64 p, .int .i64 q]) /\ Below w.heap.size w w' := by
 have hk := Kn.nil [] w
 have HV := hide h
 have HR := hide hr
 clear h hr
 go_enter Tryz.func70, Tryz.ntmps70
 go_wp2_with (first | (go_at_call 36; refine (refRight_any l _ _ (HV.out.below hk.mod.below (Nat.le_refl _))).mono ?_; rintro e w1 ⟨rfl, hb⟩; replace hk := hk.call hb; clear hb; rw [HR.out]) | ((with_reducible apply gL); (first | refine wS hk ?_ | (refine wN hk ?_; clear hk; intro w1 hk)); simp only [pw]))
 go_ret2
 exact ⟨rfl, hk.mod.below⟩
theorem rf_first_st (l : List I5) (e : Nat -> R2) (hr : rightR l = (0, 0)) (B : Bool) (hB : isStR e = B) (v : Value) (w : World) (h : Slc w v l) : Calls Tryz.prog 70 #[v, .agg (stC e)] w fun r w' => r = .returned (.tuple #[.int .i64 (if B then 0 else 3), .int .i64 0]) /\ Below w.heap.size w w' := by
 have hk := Kn.nil [] w
 have HV := hide h
 have HR := hide hr
 have HB := hide hB
 clear h hr hB
 cases B
 all_goals
  go_enter Tryz.func70, Tryz.ntmps70
  go_wp2_with (first | (first | (go_at_call 36; refine (refRight_any l _ _ (HV.out.below hk.mod.below (Nat.le_refl _))).mono ?_; rintro e w1 ⟨rfl, hb⟩; replace hk := hk.call hb; clear hb; rw [HR.out]) | ((go_at_call 72; refine (rf_empty _ _).mono ?_; rintro e w1 ⟨rfl, hb⟩; replace hk := hk.call hb; clear hb); rw [HB.out])) | ((with_reducible apply gL); (first | refine wS hk ?_ | (refine wN hk ?_; clear hk; intro w1 hk)); simp only [pw]))
  go_ret2
  exact ⟨rfl, hk.mod.below⟩
theorem InsAt.range {w : World} {b o : Nat} {i : I5} (h : InsAt w b o i) : w.rangeAt b o (i5C i).toList := fun j v hj => by
 obtain ⟨h0, h1, h2, h3, h4⟩ := h
 match j, hj with
 | 0, hj => cases hj; exact h0
 | 1, hj => cases hj; exact h1
 | 2, hj => cases hj; exact h2
 | 3, hj => cases hj; exact h3
 | 4, hj => cases hj; exact h4
 | j + 5, hj => simp [i5C] at hj
theorem way_lies {s : St} {b : Bool} {t : St} {y : Option St} (h : wayO b t = y) : liesO (some s) y = (b && liesR s t) := by
 subst h; cases b <;> rfl
theorem way_of (y : Option St) : wayO y.isSome (stO y) = y := by cases y <;> rfl
def stepX (p : List I5) (cl : Nat -> Option St) (n : Nat) (x : Option St) : Int × Option St := match x with
 | none => (0, none)
 | some s => if dangR (insAt p n) s ≠ 0 then (dangR (insAt p n) s, none)
   else if decide (9 <= (insAt p n).o) && !liesO (flowFar (insAt p n) s) (cl (insAt p n).k.toNat) then (5, none)
   else (0, flowOn (insAt p n) s)
section
variable {p : List I5} {cl : Nat -> Option St} {n k : Nat} {come x : Option St} {s : St}
theorem step_lies (h1 : markB p n = true) (h2 : liesO come (cl n) = false) : passC p cl (k + 1) n come = (5, n) := by
 have e : stepC p cl n come = (5, none) := by unfold stepC; rw [h1, h2]; rfl
 unfold passC; rw [e]; rfl
theorem stepC_x (h1 : markB p n = true -> liesO come (cl n) = true) (hx : (if markB p n = true then cl n else come) = x) : stepC p cl n come = stepX p cl n x := by
 subst hx
 unfold stepC stepX
 cases hm : markB p n with
 | false => rfl
 | true => rw [h1 hm]; rfl
theorem step_none (h1 : markB p n = true -> liesO come (cl n) = true) (hx : (if markB p n = true then cl n else come) = none) : passC p cl (k + 1) n come = passC p cl k (n + 1) none := by
 rw [passC, stepC_x h1 hx]; rfl
theorem step_dang (h1 : markB p n = true -> liesO come (cl n) = true) (hx : (if markB p n = true then cl n else come) = some s) (hd : dangR (insAt p n) s ≠ 0) : passC p cl (k + 1) n come = (dangR (insAt p n) s, n) := by
 rw [passC, stepC_x h1 hx]; simp [stepX, hd]
theorem step_far (h1 : markB p n = true -> liesO come (cl n) = true) (hx : (if markB p n = true then cl n else come) = some s) (hd : dangR (insAt p n) s = 0) (ho : 9 <= (insAt p n).o) (hf : liesO (flowFar (insAt p n) s) (cl (insAt p n).k.toNat) = false) : passC p cl (k + 1) n come = (5, n) := by
 rw [passC, stepC_x h1 hx]; simp [stepX, hd, ho, hf]
theorem step_on (h1 : markB p n = true -> liesO come (cl n) = true) (hx : (if markB p n = true then cl n else come) = some s) (hd : dangR (insAt p n) s = 0) (hf : 9 <= (insAt p n).o -> liesO (flowFar (insAt p n) s) (cl (insAt p n).k.toNat) = true) : passC p cl (k + 1) n come = passC p cl k (n + 1) (flowOn (insAt p n) s) := by
 rw [passC, stepC_x h1 hx]
 by_cases ho : 9 <= (insAt p n).o
 · simp [stepX, hd, hf ho]
 · simp [stepX, hd, ho]
end
theorem far_none {i : I5} {s : St} (h : ¬ 9 <= i.o) : flowFar i s = none := by
 unfold flowFar
 rw [if_neg (by omega), if_neg (by omega), if_neg (by omega)]
theorem pass_zero {p : List I5} {cl : Nat -> Option St} {n : Nat} {come : Option St} : passC p cl 0 n come = if come.isSome then (8, n) else (0, 0) := rfl
theorem far_find {l : List I5} (hl : AllFit l) {cl : List C2} (h0 : ∀ i, i < cl.length -> 0 <= (clAt cl i).pl) (hp : cl.Pairwise (fun x y => x.pl < y.pl)) {n : Nat} (hn : n < l.length) {s : St} {b1 : Bool} {s1 : St} (hb : wayO b1 s1 = flowFar (insAt l n) s) {yb : Bool} {ys : St} (hy : wayO yb ys = findC cl (insAt l n).k) :
 (9 <= (insAt l n).o -> liesO (flowFar (insAt l n) s) (layR cl (insAt l n).k.toNat) = (if b1 then (yb && liesR s1 ys) else true)) /\ (b1 = true -> 9 <= (insAt l n).o) := by
 constructor
 · intro h9
   have hk := hl.k hn h9
   rw [<- lay_find h0 hp, show (((insAt l n).k.toNat : Nat) : Int) = (insAt l n).k by omega, <- hb]
   cases b1 with
   | false => rfl
   | true => exact way_lies hy
 · intro h1
   by_cases h9 : 9 <= (insAt l n).o
   · exact h9
   · rw [far_none h9, h1] at hb; cases hb
section
variable {l : List Oper} {Q : Exit -> Act -> World -> Prop} {F : Nat -> Bool} {S : World -> Prop} {i : Nat} {r : OT} {a : Act} {w : World} {d : Option Tmp} {x y : Operand} {t tt : TypeId} {pos : String} {aft : Array Edge} {g : Option (Nat × Bool)}
theorem sub_run (ρ : Operand -> Value) (d : Option Tmp) (x y : Operand) (tt t' : TypeId) (pos : String) (aft : Array Edge) (g : Option (Nat × Bool)) (p q : Int) (w : World) (hx : ρ x = .int .i64 p) (hy : ρ y = .int .i64 q) : (execOp ρ ⟨d, .binOp .sub 3 x y t', tt, pos, aft, g⟩).run Tryz.prog w = .ok (.value (.int .i64 (wrap64 (p - q)))) w := by
 unfold execOp; simp only [hx, hy]; simp [go_sem]; exact IntWalk.i64_left _
theorem sSub {p q m : Int} (hk : S w) (h : wpT Tryz.prog l Q F S r (a.put d (.int .i64 m)) w) (ho : nthO i l = some ⟨d, .binOp .sub 3 x y t, tt, pos, aft, g⟩ := by rfl) (hw : Region.wanted ⟨d, .binOp .sub 3 x y t, tt, pos, aft, g⟩ (yielded l.toArray a.tmps) = true := by rfl) (hx : a.eval x = .int .i64 p := by rfl) (hy : a.eval y = .int .i64 q := by rfl) (hm : wrap64 (p - q) = m := by assumption) : wpT Tryz.prog l Q F S (.op i r) a w :=
 tRun ho rfl hw hk (fun wx => (sub_run _ _ _ _ _ _ _ _ _ p q wx hx hy).trans (by rw [hm])) h
end
end Go.Proofs.YtamiichlbmllcabGreatDoor
