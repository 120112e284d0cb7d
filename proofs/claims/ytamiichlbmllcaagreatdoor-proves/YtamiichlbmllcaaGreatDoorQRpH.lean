import Derived.Test.YtamiichlbmllcaaGreatDoorQPrJ
import Derived.Test.YtamiichlbmllcaaGreatDoorQMthB
import Derived.Test.YtamiichlbmllcaaGreatDoorQSetW
/-
  proof.Prove and surety.Prove: what they answer.
-/
namespace Go.Proofs.YtamiichlbmllcaaGreatDoor
open Go.RowKit
theorem own_slcC {w : World} {base n : Nat} {v : Value} {cl : List C2} (h : w.ownsRow base 78 17 v n (cl.flatMap clCells)) (hn : n = cl.length) : SlcC w v cl := by
  subst hn
  rcases h.2 with ⟨rfl, h0⟩ | ⟨g, cap, cur, rfl, _, hg, _, _, _, ht⟩
  · exact Or.inl ⟨⟨_, _, rfl⟩, List.length_eq_zero_iff.1 h0⟩
  · refine Or.inr ⟨g, 0, cap, rfl, lt_of_block hg, fun i hi j u hj => ?_⟩
    have hj17 : j < 17 := (List.getElem?_eq_some_iff.1 hj).1
    have e := flatC_get cl i j hi hj17
    rw [← ht, List.getElem?_take, if_pos (by omega), Array.getElem?_toList] at e
    rw [cell_of_row _ _ _ _ _ _ hg, show 0 + i * 17 + j = i * 17 + j by omega, e, ← Array.getElem?_toList]
    exact hj
theorem clsW_mem {n : Nat} {W : Nat → Option St} {c : C2} (h : c ∈ clsW n W) : ∃ i, i < n ∧ W i = some c.st ∧ c.pl = (i : Int) := by
  unfold clsW at h
  obtain ⟨i, hi, h2⟩ := List.mem_filterMap.1 h
  obtain ⟨s, hs, rfl⟩ := Option.map_eq_some_iff.1 h2
  exact ⟨i, List.mem_range.1 hi, hs, rfl⟩
theorem zero_cb (back : Nat → Bool) : CB back PS.zero := fun _ _ => Or.inl (by unfold PS.zero; simp)
/-- what Prove answers of a right program -/
def ProveP (l : List I5) (e : St) (cl : List C2) (er pl : Int) : Prop :=
  (isStR e = false ∧ cl = [] ∧ er = 3 ∧ pl = 0) ∨ (isStR e = true ∧ ∃ vf, Settles l e PS.zero vf ∧ (((checkR l e (clsW l.length vf.W)).1 ≠ 0 ∧ cl = [] ∧ er = (checkR l e (clsW l.length vf.W)).1 ∧ pl = ((checkR l e (clsW l.length vf.W)).2 : Int)) ∨ ((checkR l e (clsW l.length vf.W)).1 = 0 ∧ cl = clsW l.length vf.W ∧ er = 0 ∧ pl = 0)))
/-- the answer of Prove, wherever its claims lie -/
def ProveV (l : List I5) (e : St) (r : Ending) (w w' : World) : Prop := ∃ cv er pl cl, r = .returned (.tuple #[cv, .int .i64 er, .int .i64 pl]) ∧ ProveP l e cl er pl ∧ w'.ownsRow w.heap.size 78 17 cv cl.length (cl.flatMap clCells) ∧ Below w.heap.size w w'
theorem post_3 {P : Program} {fn : Func} {R : Ending → World → Prop} {a : Act} {w : World} {i j k : Nat} {x y z : Value} (hf : fn.results = #[.tmp i, .tmp j, .tmp k]) (hi : a.tmps.getD i undef = x) (hj : a.tmps.getD j undef = y) (hk : a.tmps.getD k undef = z) (hd : a.defers = []) (hR : R (.returned (.tuple #[x, y, z])) w) : bodyPost P fn R .ret a w := by
  refine bodyPost_ret (v := .tuple #[x, y, z]) ?_ hd hR
  rw [Array.getD_eq_getD_getElem?] at hi hj hk
  simp [results, hf, hi, hj, hk]
set_option maxHeartbeats 4000000 in
set_option maxRecDepth 100000 in
theorem prove_no (l : List I5) (e : St) (hst : isStR e = false) (v : Value) (w : World) (h : Slc w v l) : Calls Tryz.prog 47 #[v, .agg (stC e)] w fun r w' => ProveV l e r w w' := by
  have hk := Kn.nil [] w
  obtain ⟨a, cap, rfl⟩ := h.len
  have HE := hide hst
  clear h hst
  go_enter Tryz.func47, Tryz.ntmps47
  go_wp2_with (first | (go_at_call 62; refine (isState_any _ _).mono ?_; rintro x w1 ⟨rfl, hb⟩; replace hk := hk.call hb; clear hb; rw [HE.out]) | ((with_reducible show wpList _ _ _ _ _ _); (first | (refine wS hk ?_; simp only [Act.put, pw]) | (refine wN hk ?_; clear hk; intro w1 hk; simp only [Act.put, pw]) | (refine wT hk ?_; clear hk; intro w1 hk; simp only [Act.put]))))
  exact post_3 rfl rfl rfl rfl rfl ⟨_, _, _, [], rfl, Or.inl ⟨HE.out, rfl, rfl, rfl⟩, World.ownsRow_nil _ _ _ _, hk.mod.below⟩
set_option maxHeartbeats 8000000 in
set_option maxRecDepth 100000 in
theorem prove_st (l : List I5) (hl : AllFit l) (h64 : ∀ i, i < l.length → I64 (insAt l i).k) (e : St) (he : e.in64) (hst : isStR e = true) (v : Value) (w : World) (h : Slc w v l) : Calls Tryz.prog 47 #[v, .agg (stC e)] w fun r w' => ProveV l e r w w' := by
  have hk := Kn.nil [] w
  have HV := hide h
  obtain ⟨a, cap, rfl⟩ := h.len
  have HE := hide hst
  have HEO : Hid (e.ok ∧ e.in64) := hide ⟨ok_of_st hst, he⟩
  have HL := hide hl
  have H64 := hide h64
  clear h hst hl h64 he
  go_enter Tryz.func47, Tryz.ntmps47
  go_wp2_with (first | (go_at_call 62; refine (isState_any _ _).mono ?_; rintro x w1 ⟨rfl, hb⟩; replace hk := hk.call hb; clear hb; rw [HE.out]) | ((with_reducible show wpList _ _ _ _ _ _); (first | (refine wS hk ?_; simp only [Act.put, pw]) | (refine wN hk ?_; clear hk; intro w1 hk; simp only [Act.put, pw]) | (refine wT hk ?_; clear hk; intro w1 hk; simp only [Act.put]))))
  go_at_call 43
  refine (progOf_c l _ w1 (HV.out.below hk.mod.below (Nat.le_refl _)) HL.out.1 HL.out.2.1).mono ?_
  rintro x w2 ⟨pb, pc, A, rfl, hat, hpr, hge, hb2⟩
  have hb02 := hk.mod.below.trans (hb2.mono hk.mod.below.size)
  have HBOX : Hid (w.heap.size < w2.heap.size) := hide (by have := lt_of_block (hk.at (A := stC e) (by with_reducible repeat (first | exact List.mem_cons_self | apply List.mem_cons_of_mem))); have := hb2.size; omega)
  replace hk := hk.call hb2
  go_wp2_with (first | ((with_reducible show wpList _ _ _ _ _ _); (first | (refine wS hk ?_; simp only [Act.put, pw]) | (refine wN hk ?_; clear hk; intro w1 hk; simp only [Act.put, pw]) | (refine wT hk ?_; clear hk; intro w1 hk; simp only [Act.put]))))
  go_at_call 71
  refine (proverOf_any l HL.out pb pc w2 (hpr.at hat)).mono ?_
  rintro x w3 ⟨V, mb, sb, kb, cb, hb, rfl, hN, hb3⟩
  have hz2 := hb02.size
  have hb03 := hb02.trans (hb3.mono hz2)
  replace hk := hk.call hb3
  have HN := hide hN
  clear hN hat hpr
  go_wp2_with (first | ((with_reducible show wpList _ _ _ _ _ _); (first | (refine wS hk ?_; simp only [Act.put, pw]) | (refine wN hk ?_; clear hk; intro w1 hk; simp only [Act.put, pw]) | (refine wT hk ?_; clear hk; intro w1 hk; simp only [Act.put]))))
  go_at_call 72
  refine (settle_pv l HL.out H64.out V pb pc mb sb kb cb hb PS.zero e HEO.out (zero_inv l) (zero_cb _) (fun _ _ => rfl) w3 HN.out.blk HN.out.states HN.out.passes HN.out.changed).mono ?_
  rintro x w4 ⟨rfl, vf, hset, hm4, hS4⟩
  have hw1 : w.heap.size < w3.heap.size := lt_of_block (hk.at (A := stC e) (by with_reducible repeat (first | exact List.mem_cons_self | apply List.mem_cons_of_mem)))
  have hlw := HBOX.out
  have hlow := HN.out.low
  have hnb : w.heap.size ∉ [sb, cb, hb] := by simp only [List.mem_cons, List.not_mem_nil, or_false, not_or]; omega
  have hbox := (hk.at (A := stC e) (by with_reducible repeat (first | exact List.mem_cons_self | apply List.mem_cons_of_mem))).mod hm4 hnb
  have hself := HN.out.blk.self.mod hm4 HN.out.blk.nV
  have hmod4 : Mod [] w w4 := hk.mod.step hm4 (fun b hb => by simp only [List.mem_cons, List.not_mem_nil, or_false] at hb; rcases hb with rfl | rfl | rfl <;> exact Or.inl (by omega))
  replace hk : Kn [] w w4 [(w.heap.size, stC e, 30), (V, prC pb pc mb sb kb cb hb l.length, 137)] := ⟨hmod4, fun x hx => by
    simp only [List.mem_cons, List.not_mem_nil, or_false] at hx
    rcases hx with rfl | rfl
    · exact ⟨hbox, Or.inl (Nat.le_refl _)⟩
    · exact ⟨hself, Or.inl (by simp only; omega)⟩, by simp; omega⟩
  have HSET := hide hset
  have HPI := hide (hset.inv (HL.out.fitP H64.out) HEO.out (zero_inv l))
  have HS4 := hide hS4
  have HZ4 := hide hmod4.size
  clear hset hm4 hS4 hself hbox hb02 hb03 hz2 hge hb2 hb3 hmod4
  go_wp2_with (first | ((with_reducible show wpList _ _ _ _ _ _); (first | (refine wS hk ?_; simp only [Act.put, pw]) | (refine wN hk ?_; clear hk; intro w1 hk; simp only [Act.put, pw]) | (refine wT hk ?_; clear hk; intro w1 hk; simp only [Act.put]))))
  go_at_call 73
  refine (claimsOf_any l.length HL.out.2.1 vf.W sb l.length w4 HS4.out).mono ?_
  rintro x w5 ⟨cv, rfl, hown, hb5⟩
  obtain ⟨cl, hcl⟩ : ∃ cl, clsW l.length vf.W = cl := ⟨_, rfl⟩
  rw [hcl] at hown
  have hlen : cl.length ≤ 64 := by rw [← hcl]; exact Nat.le_trans (clsW_len _ _) HL.out.2.1
  have HIN : Hid (In64 l e cl) := hide ⟨H64.out, HEO.out.2, fun i hi => by
    obtain ⟨k, _, hk, _⟩ := clsW_mem (n := l.length) (W := vf.W) (c := clAt cl i) (by rw [hcl]; exact clAt_mem hi)
    exact (HPI.out.ok k _ hk).2⟩
  have HCL := hide hcl
  have HOWN := hide hown
  replace hk := hk.call hb5
  clear hcl hown hb5
  go_wp2_with (first | ((with_reducible show wpList _ _ _ _ _ _); (first | (refine wS hk ?_; simp only [Act.put, pw]) | (refine wN hk ?_; clear hk; intro w1 hk; simp only [Act.put, pw]) | (refine wT hk ?_; clear hk; intro w1 hk; simp only [Act.put]))))
  go_at_call 42
  refine (check_any l HL.out e cl HIN.out (by omega) _ cv w5 (HV.out.below hk.mod.below (Nat.le_refl _)) (own_slcC HOWN.out rfl)).mono ?_
  rintro x w6 ⟨rfl, hb6⟩
  replace hk := hk.call hb6
  have HO6 := hide (own_low (own_mod HOWN.out (Mod.ofBelow hb6)) HZ4.out)
  clear hb6
  obtain ⟨PE, PN, hPS⟩ : ∃ PE PN, checkR l e cl = (PE, PN) := ⟨_, _, rfl⟩
  have HPS := hide hPS
  rw [hPS]
  by_cases h0 : PE = 0
  · subst h0
    clear hPS
    go_wp2_with (first | ((with_reducible show wpList _ _ _ _ _ _); (first | (refine wS hk ?_; simp only [Act.put, pw]) | (refine wN hk ?_; clear hk; intro w1 hk; simp only [Act.put, pw]) | (refine wT hk ?_; clear hk; intro w1 hk; simp only [Act.put]))))
    exact post_3 rfl rfl rfl rfl rfl ⟨_, _, _, cl, rfl, Or.inr ⟨HE.out, vf, HSET.out, Or.inr ⟨by rw [HCL.out, HPS.out], HCL.out.symm, rfl, rfl⟩⟩, HO6.out, hk.mod.below⟩
  · have hne : (PE == 0) = false := by rw [beq_eq_false_iff_ne]; exact h0
    clear hPS
    go_wp2_with (first | ((with_reducible show wpList _ _ _ _ _ _); (first | (refine wS hk ?_; simp only [Act.put, pw]) | (refine wN hk ?_; clear hk; intro w1 hk; simp only [Act.put, pw]) | (refine wT hk ?_; clear hk; intro w1 hk; simp only [Act.put]))))
    exact post_3 rfl rfl rfl rfl rfl ⟨_, _, _, [], rfl, Or.inr ⟨HE.out, vf, HSET.out, Or.inl ⟨by rw [HCL.out, HPS.out]; exact h0, rfl, by rw [HCL.out, HPS.out], by rw [HCL.out, HPS.out]⟩⟩, World.ownsRow_nil _ _ _ _, hk.mod.below⟩
theorem prove_any (l : List I5) (hl : AllFit l) (h64 : ∀ i, i < l.length → I64 (insAt l i).k) (e : St) (he : e.in64) (v : Value) (w : World) (h : Slc w v l) : Calls Tryz.prog 47 #[v, .agg (stC e)] w fun r w' => ProveV l e r w w' := by
  cases hst : isStR e with
  | false => exact prove_no l e hst v w h
  | true => exact prove_st l hl h64 e he hst v w h
/-- what surety.Prove answers -/
def SProveP (l : List I5) (e : St) (cl : List C2) (er pl : Int) : Prop := (rightR l ≠ (0, 0) ∧ cl = [] ∧ er = (rightR l).1 ∧ pl = (rightR l).2) ∨ (rightR l = (0, 0) ∧ ProveP l e cl er pl)
def SProveV (l : List I5) (e : St) (r : Ending) (w w' : World) : Prop := ∃ cv er pl cl, r = .returned (.tuple #[cv, .int .i64 er, .int .i64 pl]) ∧ SProveP l e cl er pl ∧ w'.ownsRow w.heap.size 78 17 cv cl.length (cl.flatMap clCells) ∧ Below w.heap.size w w'
set_option maxHeartbeats 4000000 in
set_option maxRecDepth 100000 in
theorem SProve_any (l : List I5) (h64 : ∀ i, i < l.length → I64 (insAt l i).k) (e : St) (he : e.in64) (v : Value) (w : World) (hs : Shapes w) (h : Slc w v l) : Calls Tryz.prog 27 #[v, .agg (stC e)] w fun r w' => SProveV l e r w w' := by
  have hk := Kn.nil [] w
  have HS := hide hs
  have HV := hide h
  have H64 := hide h64
  have HEI := hide he
  obtain ⟨a, cap, rfl⟩ := h.len
  clear hs h h64 he
  rcases rightR_or l with hr | hr
  · have HR := hide hr
    have HAF := hide (right_fit hr)
    go_enter Tryz.func27, Tryz.ntmps27
    go_wp2_with (first | (go_at_call 41; refine (codeRight_any l _ _ (HS.out.below hk.mod.below HS.out.1) (HV.out.below hk.mod.below (Nat.le_refl _))).mono ?_; rintro x w1 ⟨rfl, hb⟩; replace hk := hk.call hb; clear hb; rw [hr]) | (go_at_call 47; refine (prove_any l HAF.out H64.out e HEI.out _ _ (HV.out.below hk.mod.below (Nat.le_refl _))).mono ?_; rintro x w2 ⟨cv, er, pl, cl, rfl, hP, hown, hb⟩; have HO := hide (own_low hown hk.mod.size); replace hk := hk.call hb; clear hb hown) | ((with_reducible show wpList _ _ _ _ _ _); (first | (refine wS hk ?_; simp only [Act.put, pw]) | (refine wN hk ?_; clear hk; intro w1 hk; simp only [Act.put, pw]) | (refine wT hk ?_; clear hk; intro w1 hk; simp only [Act.put]))))
    exact post_3 rfl rfl rfl rfl rfl ⟨_, _, _, cl, rfl, Or.inr ⟨HR.out, hP⟩, HO.out, hk.mod.below⟩
  · obtain ⟨p, q, hpq⟩ : ∃ p q, rightR l = (p, q) := ⟨_, _, rfl⟩
    rw [hpq] at hr
    simp only at hr
    subst hr
    have HR := hide hpq
    go_enter Tryz.func27, Tryz.ntmps27
    go_wp2_with (first | (go_at_call 41; refine (codeRight_any l _ _ (HS.out.below hk.mod.below HS.out.1) (HV.out.below hk.mod.below (Nat.le_refl _))).mono ?_; rintro x w1 ⟨rfl, hb⟩; replace hk := hk.call hb; clear hb; rw [hpq]) | ((with_reducible show wpList _ _ _ _ _ _); (first | (refine wS hk ?_; simp only [Act.put, pw]) | (refine wN hk ?_; clear hk; intro w1 hk; simp only [Act.put, pw]) | (refine wT hk ?_; clear hk; intro w1 hk; simp only [Act.put]))))
    exact post_3 rfl rfl rfl rfl rfl ⟨_, _, _, [], rfl, Or.inl ⟨by rw [HR.out]; simp, rfl, by rw [HR.out], by rw [HR.out]⟩, World.ownsRow_nil _ _ _ _, hk.mod.below⟩
end Go.Proofs.YtamiichlbmllcaaGreatDoor
/-
  suretyref.Prove: three lists and a prover are made, in whatever order.
-/
namespace Go.Proofs.YtamiichlbmllcaaGreatDoor
open Go.RowKit
def rpT (wb cb : Nat) (tv : Value) (bb n : Nat) : Array Value := #[.slice (some ⟨wb, 0, none⟩) n n, .slice (some ⟨cb, 0, none⟩) n n, tv, .slice (some ⟨bb, 0, none⟩) n n]
theorem rpT_is (wb cb tb bb n : Nat) : rpT wb cb (.slice (some ⟨tb, 0, none⟩) n n) bb n = rpC wb cb tb bb n := rfl
def dstR (i : Nat) : Nat := [25, 26, 27, 28, 29, 30, 31, 32, 33, 34, 35, 9].getD i 0
def valR (pb po pc n : Nat) (G : Nat → Nat) (i : Nat) : Value := [.slice (some ⟨pb, po, none⟩) n pc, .int .i64 n, .slice (some ⟨G 2, 0, none⟩) n n, .slice (some ⟨pb, po, none⟩) n pc, .int .i64 n, .slice (some ⟨G 5, 0, none⟩) n n, .slice (some ⟨pb, po, none⟩) n pc, .int .i64 n, .slice (some ⟨G 8, 0, none⟩) n n, .agg (rpT (G 2) (G 5) (.slice none 0 0) (G 8) n), .pointer (some ⟨G 10, 0, none⟩), .pointer (some ⟨G 10, 0, none⟩)].getD i undef
def isR (i : Nat) : Bool := [2, 5, 8, 10].contains i
def rowR (n : Nat) (G : Nat → Nat) (i : Nat) : Array Value × TypeId := if i = 2 then (plsA n (fun _ => none), 110) else if i = 5 then (intA n (fun _ => 0), 3) else if i = 8 then (bosA n (fun _ => false), 4) else (rpT (G 2) (G 5) (.slice none 0 0) (G 8) n, 108)
theorem lt12 {i : Nat} (h : i < 12) : i = 0 ∨ i = 1 ∨ i = 2 ∨ i = 3 ∨ i = 4 ∨ i = 5 ∨ i = 6 ∨ i = 7 ∨ i = 8 ∨ i = 9 ∨ i = 10 ∨ i = 11 := by omega
theorem dstR_inj {i j : Nat} (hi : i < 12) (hj : j < 12) (h : dstR i = dstR j) : i = j := by
  rcases lt12 hi with rfl | rfl | rfl | rfl | rfl | rfl | rfl | rfl | rfl | rfl | rfl | rfl <;> rcases lt12 hj with rfl | rfl | rfl | rfl | rfl | rfl | rfl | rfl | rfl | rfl | rfl | rfl <;> first | rfl | (exact absurd h (by decide))
structure RIr (n pb po pc : Nat) (w0 : World) (y : Nat → Value) (G : Nat → Nat) (ls : Array Bool) (w : World) : Prop where
  sz : ls.size = 12
  mod : Mod [] w0 w
  val : ∀ i, i < 12 → ls.getD i false = true → y (dstR i) = valR pb po pc n G i
  row : ∀ i, isR i = true → ls.getD i false = true → At w (G i) (rowR n G i).1 (rowR n G i).2 ∧ w0.heap.size ≤ G i
  ne : ∀ i j, isR i = true → isR j = true → i ≠ j → ls.getD i false = true → ls.getD j false = true → G i ≠ G j
  d9 : ls.getD 9 false = true → ls.getD 2 false = true ∧ ls.getD 5 false = true ∧ ls.getD 8 false = true
  d10 : ls.getD 10 false = true → ls.getD 9 false = true
  d11 : ls.getD 11 false = true → ls.getD 10 false = true
theorem getD_setN {ls : Array Bool} {i j k : Nat} (hs : ls.size = k) (hi : i < k) : (ls.setIfInBounds i true).getD j false = (decide (i = j) || ls.getD j false) := by
  rw [Array.getD_eq_getD_getElem?, Array.getD_eq_getD_getElem?, Array.getElem?_setIfInBounds]
  by_cases h : i = j
  · subst h; simp [hs, hi]
  · simp [h]
theorem valR_eq {pb po pc n : Nat} {G G' : Nat → Nat} {j : Nat} (hj : j < 12) (h2 : j = 2 ∨ j = 9 → G' 2 = G 2) (h5 : j = 5 ∨ j = 9 → G' 5 = G 5) (h8 : j = 8 ∨ j = 9 → G' 8 = G 8) (h10 : j = 10 ∨ j = 11 → G' 10 = G 10) : valR pb po pc n G' j = valR pb po pc n G j := by
  unfold valR
  rcases lt12 hj with rfl | rfl | rfl | rfl | rfl | rfl | rfl | rfl | rfl | rfl | rfl | rfl
  · rfl
  · rfl
  · simp [h2]
  · rfl
  · rfl
  · simp [h5]
  · rfl
  · rfl
  · simp [h8]
  · simp [h2, h5, h8]
  · simp [h10]
  · simp [h10]
theorem RIr.step {n pb po pc : Nat} {w0 w w' : World} {y : Nat → Value} {G G' : Nat → Nat} {ls : Array Bool} {i : Nat} (h : RIr n pb po pc w0 y G ls w) (hi : i < 12) (hun : ls.getD i true = false) (hG : ∀ j, j ≠ i → G' j = G j) (hm : Mod [] w w') (hnew : isR i = true → At w' (G' i) (rowR n G' i).1 (rowR n G' i).2 ∧ w.heap.size ≤ G' i)
    (e9 : i = 9 → ls.getD 2 false = true ∧ ls.getD 5 false = true ∧ ls.getD 8 false = true) (e10 : i = 10 → ls.getD 9 false = true) (e11 : i = 11 → ls.getD 10 false = true) :
    RIr n pb po pc w0 (updV y (dstR i) (valR pb po pc n G' i)) G' (ls.setIfInBounds i true) w' := by
  have hnd := not_done hun
  have hold : ∀ j, ls.getD j false = true → j ≠ i := fun j hj e => by subst e; rw [hnd] at hj; cases hj
  have hset := fun j => getD_setN (ls := ls) (i := i) (j := j) h.sz hi
  have hd : ∀ j, (ls.setIfInBounds i true).getD j false = true → i = j ∨ ls.getD j false = true := fun j hj => by rw [hset j] at hj; simpa using hj
  have hup : ∀ j, ls.getD j false = true → (ls.setIfInBounds i true).getD j false = true := fun j hj => by rw [hset j, hj]; simp
  have gsame : ∀ k, ls.getD k false = true → G' k = G k := fun k hk => hG k (hold k hk)
  have hrow : ∀ j, isR j = true → ls.getD j false = true → rowR n G' j = rowR n G j := fun j hj hjd => by
    unfold rowR
    by_cases e : j = 10
    · subst e
      have q := h.d9 (h.d10 hjd)
      rw [gsame 2 q.1, gsame 5 q.2.1, gsame 8 q.2.2]
    · have : j = 2 ∨ j = 5 ∨ j = 8 := by unfold isR at hj; simp at hj; omega
      rcases this with rfl | rfl | rfl <;> simp
  refine ⟨by simp [h.sz], h.mod.trans hm, fun j hj hjd => ?_, fun j hj hjd => ?_, fun j k hj hk hjk hjd hkd => ?_, fun h9 => ?_, fun h10 => ?_, fun h11 => ?_⟩
  · rcases hd j hjd with rfl | hjd
    · unfold updV; rw [if_pos rfl]
    · have hne : dstR j ≠ dstR i := fun e => hold j hjd (dstR_inj hj hi e)
      have : updV y (dstR i) (valR pb po pc n G' i) (dstR j) = y (dstR j) := by unfold updV; rw [if_neg hne]
      rw [this, h.val j hj hjd]
      refine (valR_eq hj ?_ ?_ ?_ ?_).symm
      · rintro (rfl | rfl)
        · exact gsame 2 hjd
        · exact gsame 2 (h.d9 hjd).1
      · rintro (rfl | rfl)
        · exact gsame 5 hjd
        · exact gsame 5 (h.d9 hjd).2.1
      · rintro (rfl | rfl)
        · exact gsame 8 hjd
        · exact gsame 8 (h.d9 hjd).2.2
      · rintro (rfl | rfl)
        · exact gsame 10 hjd
        · exact gsame 10 (h.d11 hjd)
  · rcases hd j hjd with rfl | hjd
    · exact ⟨(hnew hj).1, Nat.le_trans h.mod.size (hnew hj).2⟩
    · rw [hrow j hj hjd, gsame j hjd]
      exact ⟨(h.row j hj hjd).1.mod hm (by simp), (h.row j hj hjd).2⟩
  · rcases hd j hjd with rfl | hjd
    · rcases hd k hkd with rfl | hkd
      · exact absurd rfl hjk
      · rw [gsame k hkd]
        have h1 := (hnew hj).2
        have h2 := (h.row k hk hkd).1.ltE
        omega
    · rcases hd k hkd with rfl | hkd
      · rw [gsame j hjd]
        have h1 := (hnew hk).2
        have h2 := (h.row j hj hjd).1.ltE
        omega
      · rw [gsame j hjd, gsame k hkd]; exact h.ne j k hj hk hjk hjd hkd
  · rcases hd 9 h9 with e | h9
    · exact ⟨hup _ (e9 e).1, hup _ (e9 e).2.1, hup _ (e9 e).2.2⟩
    · exact ⟨hup _ (h.d9 h9).1, hup _ (h.d9 h9).2.1, hup _ (h.d9 h9).2.2⟩
  · rcases hd 10 h10 with e | h10
    · exact hup _ (e10 e)
    · exact hup _ (h.d10 h10)
  · rcases hd 11 h11 with e | h11
    · exact hup _ (e11 e)
    · exact hup _ (h.d11 h11)
def actR (p E : Value) (b : Nat) (y : Nat → Value) : Act := ⟨#[p, E, undef, .pointer (some ⟨b, 0, none⟩), .slice none 0 0, .int .i64 0, .int .i64 0, .int .i64 0, .int .i64 0, y 9, undef, undef, undef, undef, undef, .tuple #[.int .i64 0, .int .i64 0], p, E, .tuple #[.int .i64 0, .int .i64 0], .int .i64 0, .int .i64 0, .int .i64 0, .bool false, undef, undef, y 25, y 26, y 27, y 28, y 29, y 30, y 31, y 32, y 33, y 34, y 35, undef, undef, undef, undef, undef, undef, undef, undef, undef, undef, undef, undef, undef, undef, undef, undef, undef, undef, undef, undef, undef, undef, undef, undef, undef, undef, undef, undef, undef, undef, undef, undef, undef, undef, undef, undef, undef, undef, undef, undef, undef, undef, undef, undef, undef, undef, undef, undef, undef, undef, undef, undef, undef, undef, undef, undef, undef, undef, undef, undef, undef, undef, undef, undef, undef, undef, undef, undef, undef, undef, undef, undef, undef, undef, undef, undef, undef, undef, undef, undef, undef, undef, undef, undef, undef, undef, undef, undef, undef, undef, undef, undef, undef, undef, undef, undef], []⟩
set_option maxRecDepth 100000 in
theorem put_actR (p E : Value) (b : Nat) (y : Nat → Value) (v : Value) {i : Nat} (hi : i < 12) : (actR p E b y).put (some (dstR i)) v = actR p E b (updV y (dstR i) v) := by
  rcases lt12 hi with rfl | rfl | rfl | rfl | rfl | rfl | rfl | rfl | rfl | rfl | rfl | rfl <;> rfl
theorem oLenS {a : Act} {w : World} {K : Act → World → Prop} {Q : Exit → Act → World → Prop} {p : Option Addr} {n c : Nat} {d : Option Tmp} {x : Operand} {tt : TypeId} {pos : String} {aft : Array Edge} {g : Option (Nat × Bool)} (hx : a.eval x = .slice p n c) (h : K (a.put d (.int .i64 n)) w) : Oper.wp Tryz.prog ⟨d, .call { callee := .builtin .len, args := #[x], argTypes := #[26] }, tt, pos, aft, g⟩ a w K Q := by
  unfold Oper.wp execOp
  simp only [resolve, invoke, builtin, Sem.run_bind, Sem.run_pure, Result.andThen_ok, List.map_toArray, List.map_cons, List.map_nil, hx]
  simp [Builtin.len_, go_sem]
  exact h
theorem build_rp (a b d : Option Addr) (n1 n2 n4 c1 c2 c4 : Nat) (w : World) : (Instr.build 108 [(0, .slice a n1 c1), (1, .slice b n2 c2), (3, .slice d n4 c4)].toArray).run Tryz.prog w = .ok (.agg #[.slice a n1 c1, .slice b n2 c2, .slice none 0 0, .slice d n4 c4]) w := run_build w _ _ _ (by kernel_rfl)
end Go.Proofs.YtamiichlbmllcaaGreatDoor
