import Derived.Test.YtamiichlbmllcaaGreatDoorTPrJ
import Derived.Test.YtamiichlbmllcaaGreatDoorTRunM
/-
  proof.Prove and surety.Prove: what they answer.
-/
namespace Go.Proofs.YtamiichlbmllcaaGreatDoor
open Go.RowKit
theorem own_slcC {w : World} {base n : Nat} {v : Value} {cl : List C2} (h : w.ownsRow base 78 17 v n (cl.flatMap clCells)) (hn : n = cl.length) : SlcC w v cl := by
  subst hn
  rcases h.2 with ⟨rfl, h0⟩ | ⟨g, cap, cur, rfl, _, hg, _, _, _, ht⟩
  · exact Or.inl ⟨⟨_, _, rfl⟩, List.length_eq_zero_iff.1 h0⟩
  · refine Or.inr ⟨g, 0, cap, rfl, lt_of_block hg, fun i hi j u hj => ?_⟩
    have hj17 : j < 17 := (List.getElem?_eq_some_iff.1 hj).1
    have e := flatC_get cl i j hi hj17
    rw [← ht, List.getElem?_take, if_pos (by omega), Array.getElem?_toList] at e
    rw [cell_of_row _ _ _ _ _ _ hg, show 0 + i * 17 + j = i * 17 + j by omega, e, ← Array.getElem?_toList]
    exact hj
theorem clsW_mem {n : Nat} {W : Nat → Option St} {c : C2} (h : c ∈ clsW n W) : ∃ i, i < n ∧ W i = some c.st ∧ c.pl = (i : Int) := by
  unfold clsW at h
  obtain ⟨i, hi, h2⟩ := List.mem_filterMap.1 h
  obtain ⟨s, hs, rfl⟩ := Option.map_eq_some_iff.1 h2
  exact ⟨i, List.mem_range.1 hi, hs, rfl⟩
theorem zero_cb (back : Nat → Bool) : CB back PS.zero := fun _ _ => Or.inl (by unfold PS.zero; simp)
/-- what Prove answers of a right program -/
def ProveP (l : List I5) (e : St) (cl : List C2) (er pl : Int) : Prop :=
  (isStR e = false ∧ cl = [] ∧ er = 3 ∧ pl = 0) ∨ (isStR e = true ∧ ∃ vf, Settles l e PS.zero vf ∧ (((checkR l e (clsW l.length vf.W)).1 ≠ 0 ∧ cl = [] ∧ er = (checkR l e (clsW l.length vf.W)).1 ∧ pl = ((checkR l e (clsW l.length vf.W)).2 : Int)) ∨ ((checkR l e (clsW l.length vf.W)).1 = 0 ∧ cl = clsW l.length vf.W ∧ er = 0 ∧ pl = 0)))
/-- the answer of Prove, wherever its claims lie -/
def ProveV (l : List I5) (e : St) (r : Ending) (w w' : World) : Prop := ∃ cv er pl cl, r = .returned (.tuple #[cv, .int .i64 er, .int .i64 pl]) ∧ ProveP l e cl er pl ∧ w'.ownsRow w.heap.size 78 17 cv cl.length (cl.flatMap clCells) ∧ Below w.heap.size w w'
theorem post_3 {P : Program} {fn : Func} {R : Ending → World → Prop} {a : Act} {w : World} {i j k : Nat} {x y z : Value} (hf : fn.results = #[.tmp i, .tmp j, .tmp k]) (hi : a.tmps.getD i undef = x) (hj : a.tmps.getD j undef = y) (hk : a.tmps.getD k undef = z) (hd : a.defers = []) (hR : R (.returned (.tuple #[x, y, z])) w) : bodyPost P fn R .ret a w := by
  refine bodyPost_ret (v := .tuple #[x, y, z]) ?_ hd hR
  rw [Array.getD_eq_getD_getElem?] at hi hj hk
  simp [results, hf, hi, hj, hk]
set_option maxHeartbeats 4000000 in
set_option maxRecDepth 100000 in
theorem prove_no (l : List I5) (e : St) (hst : isStR e = false) (v : Value) (w : World) (h : Slc w v l) : Calls Tryz.prog 47 #[v, .agg (stC e)] w fun r w' => ProveV l e r w w' := by
  have hk := Kn.nil [] w
  obtain ⟨a, cap, rfl⟩ := h.len
  have HE := hide hst
  clear h hst
  go_enter Tryz.func47, Tryz.ntmps47
  go_wp2_with (first | (go_at_call 62; refine (isState_any _ _).mono ?_; rintro x w1 ⟨rfl, hb⟩; replace hk := hk.call hb; clear hb; rw [HE.out]) | ((with_reducible show wpList _ _ _ _ _ _); (first | (refine wS hk ?_; simp only [Act.put, pw]) | (refine wN hk ?_; clear hk; intro w1 hk; simp only [Act.put, pw]) | (refine wT hk ?_; clear hk; intro w1 hk; simp only [Act.put]))))
  exact post_3 rfl rfl rfl rfl rfl ⟨_, _, _, [], rfl, Or.inl ⟨HE.out, rfl, rfl, rfl⟩, World.ownsRow_nil _ _ _ _, hk.mod.below⟩
set_option maxHeartbeats 8000000 in
set_option maxRecDepth 100000 in
theorem prove_st (l : List I5) (hl : AllFit l) (h64 : ∀ i, i < l.length → I64 (insAt l i).k) (e : St) (he : e.in64) (hst : isStR e = true) (v : Value) (w : World) (h : Slc w v l) : Calls Tryz.prog 47 #[v, .agg (stC e)] w fun r w' => ProveV l e r w w' := by
  have hk := Kn.nil [] w
  have HV := hide h
  obtain ⟨a, cap, rfl⟩ := h.len
  have HE := hide hst
  have HEO : Hid (e.ok ∧ e.in64) := hide ⟨ok_of_st hst, he⟩
  have HL := hide hl
  have H64 := hide h64
  clear h hst hl h64 he
  go_enter Tryz.func47, Tryz.ntmps47
  go_wp2_with (first | (go_at_call 62; refine (isState_any _ _).mono ?_; rintro x w1 ⟨rfl, hb⟩; replace hk := hk.call hb; clear hb; rw [HE.out]) | ((with_reducible show wpList _ _ _ _ _ _); (first | (refine wS hk ?_; simp only [Act.put, pw]) | (refine wN hk ?_; clear hk; intro w1 hk; simp only [Act.put, pw]) | (refine wT hk ?_; clear hk; intro w1 hk; simp only [Act.put]))))
  go_at_call 43
  refine (progOf_c l _ w1 (HV.out.below hk.mod.below (Nat.le_refl _)) HL.out.1 HL.out.2.1).mono ?_
  rintro x w2 ⟨pb, pc, A, rfl, hat, hpr, hge, hb2⟩
  have hb02 := hk.mod.below.trans (hb2.mono hk.mod.below.size)
  have HBOX : Hid (w.heap.size < w2.heap.size) := hide (by have := lt_of_block (hk.at (A := stC e) (by with_reducible repeat (first | exact List.mem_cons_self | apply List.mem_cons_of_mem))); have := hb2.size; omega)
  replace hk := hk.call hb2
  go_wp2_with (first | ((with_reducible show wpList _ _ _ _ _ _); (first | (refine wS hk ?_; simp only [Act.put, pw]) | (refine wN hk ?_; clear hk; intro w1 hk; simp only [Act.put, pw]) | (refine wT hk ?_; clear hk; intro w1 hk; simp only [Act.put]))))
  go_at_call 71
  refine (proverOf_any l HL.out pb pc w2 (hpr.at hat)).mono ?_
  rintro x w3 ⟨V, mb, sb, kb, cb, hb, rfl, hN, hb3⟩
  have hz2 := hb02.size
  have hb03 := hb02.trans (hb3.mono hz2)
  replace hk := hk.call hb3
  have HN := hide hN
  clear hN hat hpr
  go_wp2_with (first | ((with_reducible show wpList _ _ _ _ _ _); (first | (refine wS hk ?_; simp only [Act.put, pw]) | (refine wN hk ?_; clear hk; intro w1 hk; simp only [Act.put, pw]) | (refine wT hk ?_; clear hk; intro w1 hk; simp only [Act.put]))))
  go_at_call 72
  refine (settle_pv l HL.out H64.out V pb pc mb sb kb cb hb PS.zero e HEO.out (zero_inv l) (zero_cb _) (fun _ _ => rfl) w3 HN.out.blk HN.out.states HN.out.passes HN.out.changed).mono ?_
  rintro x w4 ⟨rfl, vf, hset, hm4, hS4⟩
  have hw1 : w.heap.size < w3.heap.size := lt_of_block (hk.at (A := stC e) (by with_reducible repeat (first | exact List.mem_cons_self | apply List.mem_cons_of_mem)))
  have hlw := HBOX.out
  have hlow := HN.out.low
  have hnb : w.heap.size ∉ [sb, cb, hb] := by simp only [List.mem_cons, List.not_mem_nil, or_false, not_or]; omega
  have hbox := (hk.at (A := stC e) (by with_reducible repeat (first | exact List.mem_cons_self | apply List.mem_cons_of_mem))).mod hm4 hnb
  have hself := HN.out.blk.self.mod hm4 HN.out.blk.nV
  have hmod4 : Mod [] w w4 := hk.mod.step hm4 (fun b hb => by simp only [List.mem_cons, List.not_mem_nil, or_false] at hb; rcases hb with rfl | rfl | rfl <;> exact Or.inl (by omega))
  replace hk : Kn [] w w4 [(w.heap.size, stC e, 30), (V, prC pb pc mb sb kb cb hb l.length, 137)] := ⟨hmod4, fun x hx => by
    simp only [List.mem_cons, List.not_mem_nil, or_false] at hx
    rcases hx with rfl | rfl
    · exact ⟨hbox, Or.inl (Nat.le_refl _)⟩
    · exact ⟨hself, Or.inl (by simp only; omega)⟩, by simp; omega⟩
  have HSET := hide hset
  have HPI := hide (hset.inv (HL.out.fitP H64.out) HEO.out (zero_inv l))
  have HS4 := hide hS4
  have HZ4 := hide hmod4.size
  clear hset hm4 hS4 hself hbox hb02 hb03 hz2 hge hb2 hb3 hmod4
  go_wp2_with (first | ((with_reducible show wpList _ _ _ _ _ _); (first | (refine wS hk ?_; simp only [Act.put, pw]) | (refine wN hk ?_; clear hk; intro w1 hk; simp only [Act.put, pw]) | (refine wT hk ?_; clear hk; intro w1 hk; simp only [Act.put]))))
  go_at_call 73
  refine (claimsOf_any l.length HL.out.2.1 vf.W sb l.length w4 HS4.out).mono ?_
  rintro x w5 ⟨cv, rfl, hown, hb5⟩
  obtain ⟨cl, hcl⟩ : ∃ cl, clsW l.length vf.W = cl := ⟨_, rfl⟩
  rw [hcl] at hown
  have hlen : cl.length ≤ 64 := by rw [← hcl]; exact Nat.le_trans (clsW_len _ _) HL.out.2.1
  have HIN : Hid (In64 l e cl) := hide ⟨H64.out, HEO.out.2, fun i hi => by
    obtain ⟨k, _, hk, _⟩ := clsW_mem (n := l.length) (W := vf.W) (c := clAt cl i) (by rw [hcl]; exact clAt_mem hi)
    exact (HPI.out.ok k _ hk).2⟩
  have HCL := hide hcl
  have HOWN := hide hown
  replace hk := hk.call hb5
  clear hcl hown hb5
  go_wp2_with (first | ((with_reducible show wpList _ _ _ _ _ _); (first | (refine wS hk ?_; simp only [Act.put, pw]) | (refine wN hk ?_; clear hk; intro w1 hk; simp only [Act.put, pw]) | (refine wT hk ?_; clear hk; intro w1 hk; simp only [Act.put]))))
  go_at_call 42
  refine (check_any l HL.out e cl HIN.out (by omega) _ cv w5 (HV.out.below hk.mod.below (Nat.le_refl _)) (own_slcC HOWN.out rfl)).mono ?_
  rintro x w6 ⟨rfl, hb6⟩
  replace hk := hk.call hb6
  have HO6 := hide (own_low (own_mod HOWN.out (Mod.ofBelow hb6)) HZ4.out)
  clear hb6
  obtain ⟨PE, PN, hPS⟩ : ∃ PE PN, checkR l e cl = (PE, PN) := ⟨_, _, rfl⟩
  have HPS := hide hPS
  rw [hPS]
  by_cases h0 : PE = 0
  · subst h0
    clear hPS
    go_wp2_with (first | ((with_reducible show wpList _ _ _ _ _ _); (first | (refine wS hk ?_; simp only [Act.put, pw]) | (refine wN hk ?_; clear hk; intro w1 hk; simp only [Act.put, pw]) | (refine wT hk ?_; clear hk; intro w1 hk; simp only [Act.put]))))
    exact post_3 rfl rfl rfl rfl rfl ⟨_, _, _, cl, rfl, Or.inr ⟨HE.out, vf, HSET.out, Or.inr ⟨by rw [HCL.out, HPS.out], HCL.out.symm, rfl, rfl⟩⟩, HO6.out, hk.mod.below⟩
  · have hne : (PE == 0) = false := by rw [beq_eq_false_iff_ne]; exact h0
    clear hPS
    go_wp2_with (first | ((with_reducible show wpList _ _ _ _ _ _); (first | (refine wS hk ?_; simp only [Act.put, pw]) | (refine wN hk ?_; clear hk; intro w1 hk; simp only [Act.put, pw]) | (refine wT hk ?_; clear hk; intro w1 hk; simp only [Act.put]))))
    exact post_3 rfl rfl rfl rfl rfl ⟨_, _, _, [], rfl, Or.inr ⟨HE.out, vf, HSET.out, Or.inl ⟨by rw [HCL.out, HPS.out]; exact h0, rfl, by rw [HCL.out, HPS.out], by rw [HCL.out, HPS.out]⟩⟩, World.ownsRow_nil _ _ _ _, hk.mod.below⟩
theorem prove_any (l : List I5) (hl : AllFit l) (h64 : ∀ i, i < l.length → I64 (insAt l i).k) (e : St) (he : e.in64) (v : Value) (w : World) (h : Slc w v l) : Calls Tryz.prog 47 #[v, .agg (stC e)] w fun r w' => ProveV l e r w w' := by
  cases hst : isStR e with
  | false => exact prove_no l e hst v w h
  | true => exact prove_st l hl h64 e he hst v w h
/-- what surety.Prove answers -/
def SProveP (l : List I5) (e : St) (cl : List C2) (er pl : Int) : Prop := (rightR l ≠ (0, 0) ∧ cl = [] ∧ er = (rightR l).1 ∧ pl = (rightR l).2) ∨ (rightR l = (0, 0) ∧ ProveP l e cl er pl)
def SProveV (l : List I5) (e : St) (r : Ending) (w w' : World) : Prop := ∃ cv er pl cl, r = .returned (.tuple #[cv, .int .i64 er, .int .i64 pl]) ∧ SProveP l e cl er pl ∧ w'.ownsRow w.heap.size 78 17 cv cl.length (cl.flatMap clCells) ∧ Below w.heap.size w w'
set_option maxHeartbeats 4000000 in
set_option maxRecDepth 100000 in
theorem SProve_any (l : List I5) (h64 : ∀ i, i < l.length → I64 (insAt l i).k) (e : St) (he : e.in64) (v : Value) (w : World) (hs : Shapes w) (h : Slc w v l) : Calls Tryz.prog 27 #[v, .agg (stC e)] w fun r w' => SProveV l e r w w' := by
  have hk := Kn.nil [] w
  have HS := hide hs
  have HV := hide h
  have H64 := hide h64
  have HEI := hide he
  obtain ⟨a, cap, rfl⟩ := h.len
  clear hs h h64 he
  rcases rightR_or l with hr | hr
  · have HR := hide hr
    have HAF := hide (right_fit hr)
    go_enter Tryz.func27, Tryz.ntmps27
    go_wp2_with (first | (go_at_call 41; refine (codeRight_any l _ _ (HS.out.below hk.mod.below HS.out.1) (HV.out.below hk.mod.below (Nat.le_refl _))).mono ?_; rintro x w1 ⟨rfl, hb⟩; replace hk := hk.call hb; clear hb; rw [hr]) | (go_at_call 47; refine (prove_any l HAF.out H64.out e HEI.out _ _ (HV.out.below hk.mod.below (Nat.le_refl _))).mono ?_; rintro x w2 ⟨cv, er, pl, cl, rfl, hP, hown, hb⟩; have HO := hide (own_low hown hk.mod.size); replace hk := hk.call hb; clear hb hown) | ((with_reducible show wpList _ _ _ _ _ _); (first | (refine wS hk ?_; simp only [Act.put, pw]) | (refine wN hk ?_; clear hk; intro w1 hk; simp only [Act.put, pw]) | (refine wT hk ?_; clear hk; intro w1 hk; simp only [Act.put]))))
    exact post_3 rfl rfl rfl rfl rfl ⟨_, _, _, cl, rfl, Or.inr ⟨HR.out, hP⟩, HO.out, hk.mod.below⟩
  · obtain ⟨p, q, hpq⟩ : ∃ p q, rightR l = (p, q) := ⟨_, _, rfl⟩
    rw [hpq] at hr
    simp only at hr
    subst hr
    have HR := hide hpq
    go_enter Tryz.func27, Tryz.ntmps27
    go_wp2_with (first | (go_at_call 41; refine (codeRight_any l _ _ (HS.out.below hk.mod.below HS.out.1) (HV.out.below hk.mod.below (Nat.le_refl _))).mono ?_; rintro x w1 ⟨rfl, hb⟩; replace hk := hk.call hb; clear hb; rw [hpq]) | ((with_reducible show wpList _ _ _ _ _ _); (first | (refine wS hk ?_; simp only [Act.put, pw]) | (refine wN hk ?_; clear hk; intro w1 hk; simp only [Act.put, pw]) | (refine wT hk ?_; clear hk; intro w1 hk; simp only [Act.put]))))
    exact post_3 rfl rfl rfl rfl rfl ⟨_, _, _, [], rfl, Or.inl ⟨by rw [HR.out]; simp, rfl, by rw [HR.out], by rw [HR.out]⟩, World.ownsRow_nil _ _ _ _, hk.mod.below⟩
end Go.Proofs.YtamiichlbmllcaaGreatDoor
/-
  A step of a program that does not look, where nothing goes wrong; sureOf.
-/
namespace Go.Proofs.YtamiichlbmllcaaGreatDoor
open Go.RowKit
/-- an instruction that does not look -/
def sVal (i : I5) : Value :=
  if i.o = 6 then .iface 204 (.agg #[.int .i64 i.a, .int .i64 i.b, .int .i64 i.c])
  else if i.o = 7 then .iface 206 (.agg #[.int .i64 i.a, .int .i64 i.b])
  else if i.o = 8 then .iface 208 (.agg #[.int .i64 i.a, .int .i64 i.b])
  else iVal i
theorem sVal_else {i : I5} (h6 : i.o ≠ 6) (h7 : i.o ≠ 7) (h8 : i.o ≠ 8) : sVal i = iVal i := by unfold sVal; rw [if_neg h6, if_neg h7, if_neg h8]
/-- nothing goes wrong at an instruction -/
def Fine (i : I5) (s : MS) : Prop := (doI i s).1 ≠ 3 ∧ (doI i s).1 ≠ 4
theorem step_sure (i : I5) (g pb cap n : Nat) (s : MS) (F : Int) (o : O4) (w : World) (h : MRow w g (.slice (some ⟨pb, 0, none⟩) n cap) s F o) (hp : s.pc < n) (hn64 : n ≤ 64) (hn : s.n < 1000000)
    (hi : w.cell? ⟨pb, s.pc, none⟩ = some (sVal i)) (hpg : pb ≠ g) (hfit : i.fits n = true) (hfine : Fine i (nxt s)) :
    Calls Tryz.prog 70 #[.pointer (some ⟨g, 0, none⟩)] w fun e w' => e = .returned (.tuple #[]) ∧ MRow w' g (.slice (some ⟨pb, 0, none⟩) n cap) (doI i (nxt s)).2 F (outO (doI i (nxt s)).1 s.pc (doI i (nxt s)).2 o) ∧ But g w w' := by
  by_cases h6 : i.o = 6
  · have hc := fit_cases hfit
    obtain ⟨op, a, b, c, k⟩ := i
    simp only at hc h6
    subst h6
    rcases hc with h | ⟨h, _⟩ | ⟨h, _⟩ | ⟨h, _⟩ | ⟨h, _⟩ | ⟨h, _⟩ | ⟨_, ha, hb, hc⟩ | ⟨h, _⟩ | ⟨h, _⟩ | ⟨h, _⟩ | ⟨h, _⟩ | ⟨h, _⟩
    all_goals try (exact absurd h (by decide))
    obtain ⟨a, ha', rfl⟩ := ha.nat
    obtain ⟨b, hb', rfl⟩ := hb.nat
    obtain ⟨c, hc', rfl⟩ := hc.nat
    have hz : ¬ (nxt s).r c = 0 := fun hz => hfine.1 (by unfold doI; simp [hz])
    have hd : doI ⟨6, a, b, c, k⟩ (nxt s) = (0, { nxt s with r := upd (nxt s).r a (wrap64 (((nxt s).r b).tdiv ((nxt s).r c))) }) := by unfold doI; simp; intro h; exact absurd h hz
    rw [hd]
    exact step_gen 204 206 (.agg #[.int .i64 a, .int .i64 b, .int .i64 c]) 0 _ g pb cap n s F o w h hp hn64 hn hi hpg (fun _ => by kernel_rfl) (fun _ => by kernel_rfl) (hide fun w1 h1 => sdiv_do a b c ha' hb' hc' g _ _ F o w1 h1 (by simpa using hz))
  · by_cases h7 : i.o = 7
    · have hc := fit_cases hfit
      obtain ⟨op, a, b, c, k⟩ := i
      simp only at hc h7
      subst h7
      rcases hc with h | ⟨h, _⟩ | ⟨h, _⟩ | ⟨h, _⟩ | ⟨h, _⟩ | ⟨h, _⟩ | ⟨h, _⟩ | ⟨_, ha, hb⟩ | ⟨h, _⟩ | ⟨h, _⟩ | ⟨h, _⟩ | ⟨h, _⟩
      all_goals try (exact absurd h (by decide))
      obtain ⟨a, ha', rfl⟩ := ha.nat
      obtain ⟨b, hb', rfl⟩ := hb.nat
      have hz : 0 ≤ (nxt s).r b ∧ (nxt s).r b < 16 := Classical.byContradiction fun hz => hfine.2 (by unfold doI; simp only [Int.toNat_natCast]; simp [hz])
      have hd : doI ⟨7, a, b, c, k⟩ (nxt s) = (0, { nxt s with r := upd (nxt s).r a ((nxt s).m ((nxt s).r b).toNat) }) := by unfold doI; simp; exact hz
      rw [hd]
      exact step_gen 206 207 (.agg #[.int .i64 a, .int .i64 b]) 0 _ g pb cap n s F o w h hp hn64 hn hi hpg (fun _ => by kernel_rfl) (fun _ => by kernel_rfl) (hide fun w1 h1 => sload_do a b ((nxt s).r b).toNat ha' hb' (by omega) g _ _ F o w1 h1 (hide (by omega)))
    · by_cases h8 : i.o = 8
      · have hc := fit_cases hfit
        obtain ⟨op, a, b, c, k⟩ := i
        simp only at hc h8
        subst h8
        rcases hc with h | ⟨h, _⟩ | ⟨h, _⟩ | ⟨h, _⟩ | ⟨h, _⟩ | ⟨h, _⟩ | ⟨h, _⟩ | ⟨h, _⟩ | ⟨_, ha, hb⟩ | ⟨h, _⟩ | ⟨h, _⟩ | ⟨h, _⟩
        all_goals try (exact absurd h (by decide))
        obtain ⟨a, ha', rfl⟩ := ha.nat
        obtain ⟨b, hb', rfl⟩ := hb.nat
        have hz : 0 ≤ (nxt s).r a ∧ (nxt s).r a < 16 := Classical.byContradiction fun hz => hfine.2 (by unfold doI; simp only [Int.toNat_natCast]; simp [hz])
        have hd : doI ⟨8, a, b, c, k⟩ (nxt s) = (0, { nxt s with m := upd (nxt s).m ((nxt s).r a).toNat ((nxt s).r b) }) := by unfold doI; simp; exact hz
        rw [hd]
        exact step_gen 208 208 (.agg #[.int .i64 a, .int .i64 b]) 0 _ g pb cap n s F o w h hp hn64 hn hi hpg (fun _ => by kernel_rfl) (fun _ => by kernel_rfl) (hide fun w1 h1 => sstore_do a b ((nxt s).r a).toNat ha' hb' (by omega) g _ _ F o w1 h1 (hide (by omega)))
      · rw [sVal_else h6 h7 h8] at hi
        exact step_any i g pb cap n s F o w h hp hn64 hn hi hpg hfit
/-- a runner of what was taken -/
theorem runner_sure {l : List I5} (hl : AllFit l) {Can : MS → Prop} (hn : ∀ s, Can s → s.pc < l.length → (doAt l s).1 = 0 → Can (doAt l s).2) (hf : ∀ s, Can s → s.pc < l.length → Fine (insAt l s.pc) (nxt s)) : Runner sVal l Can :=
  ⟨hl, hn, fun g pb cap s F w h hpc hsn hc hne hcan => step_sure (insAt l s.pc) g pb cap l.length s F O4.zero w h hpc hl.2.1 hsn hc hne (by rw [insAt_get hpc]; exact hl.2.2 _ hpc) (hf s hcan hpc)⟩
end Go.Proofs.YtamiichlbmllcaaGreatDoor
/-
  What is taken goes on without looking; sureOf and Sure.
-/
namespace Go.Proofs.YtamiichlbmllcaaGreatDoor
open Go.RowKit
/-- a run of what was taken, somewhere on its way -/
def CanT (p : List I5) (cl : Nat → Option St) (e : St) (m : MS) : Prop := m.pc < p.length ∧ (∃ s, hereC p cl e m.pc = some s ∧ inS m.r s) ∧ ∀ j, I64 (m.m j)
theorem Taken.go {p : List I5} {cl : Nat → Option St} {e : St} (h : Taken p cl e) {m : MS} (hc : CanT p cl e m) : (doAt p m).1 = 1 ∨ ((doAt p m).1 = 0 ∧ CanT p cl e (doAt p m).2) := by
  obtain ⟨hpc, ⟨s, hs, hr⟩, hw⟩ := hc
  have hok := h.here_ok (by omega) hs
  have h0 := stepC_ok (h.steps.1 m.pc hpc)
  obtain ⟨hd, hf, ho⟩ := h0.2 s hs
  have hri := h.regs m.pc hpc
  have hsound := doI_sound (i := insAt p m.pc) (s := s) (m := nxt m) hri.1 ⟨hri.2.1, hri.2.2.1⟩ hok.2 hr hw hd
  rcases hsound with ⟨h1, _⟩ | ⟨h1, hw2, hc⟩
  · exact Or.inl h1
  · refine Or.inr ⟨h1, ?_⟩
    have hnext : (doAt p m).2.pc < p.length ∧ ∃ t, hereC p cl e (doAt p m).2.pc = some t ∧ inS (doAt p m).2.r t := by
      rcases hc with ⟨hp, s', hs', hr'⟩ | ⟨h9, hp, s', hs', hr'⟩
      · have hp2 : (doAt p m).2.pc = m.pc + 1 := hp
        rw [hp2]
        refine h.arrive (n := m.pc + 1) (by omega) ?_ hr'
        show (stepC p cl m.pc (comeC p cl e m.pc)).2 = some s'
        rw [ho]; exact hs'
      · have hp2 : (doAt p m).2.pc = (insAt p m.pc).k.toNat := hp
        have hj := h.jump m.pc hpc h9
        rw [hp2]
        refine ⟨hj.2, ?_⟩
        have hl := hf h9
        rw [hs'] at hl
        obtain ⟨t, ht, hlt⟩ := liesO_some hl
        refine ⟨t, ?_, inS_lies hr' hlt⟩
        unfold hereC
        rw [if_pos (markB_of hpc h9 hj.1)]; exact ht
    exact ⟨hnext.1, hnext.2, hw2⟩
theorem runner_taken {l : List I5} (hl : AllFit l) {cl : Nat → Option St} {e : St} (h : Taken l cl e) : Runner sVal l (CanT l cl e) :=
  runner_sure hl (fun s hs hpc h0 => by
    rcases h.go hs with h1 | h1
    · rw [h1] at h0; cases h0
    · exact h1.2) (fun s hs hpc => by
    rcases h.go hs with h1 | h1
    · exact ⟨by show (doAt l s).1 ≠ 3; rw [h1]; decide, by show (doAt l s).1 ≠ 4; rw [h1]; decide⟩
    · exact ⟨by show (doAt l s).1 ≠ 3; rw [h1.1]; decide, by show (doAt l s).1 ≠ 4; rw [h1.1]; decide⟩)
theorem can_start {l : List I5} {cl : Nat → Option St} {e : St} (h : Taken l cl e) {r : Nat → Int} (hr : inS r e) : CanT l cl e (startS r) := by
  obtain ⟨h0, h1⟩ := h.arrive (n := 0) (by omega) (r := r) (s := e) rfl hr
  exact ⟨h0, h1, fun j => by show I64 0; unfold I64; omega⟩
set_option maxHeartbeats 4000000 in
set_option maxRecDepth 100000 in
theorem sureOf_no (T : Nat) (v : Value) (h1 : T ≠ 190) (h2 : T ≠ 191) (h3 : T ≠ 192) (w : World) : Calls Tryz.prog 74 #[.iface T v] w fun e w' => e = .returned (.iface T v) ∧ Below w.heap.size w w' := by
  have hk := Kn.nil [] w
  go_enter Tryz.func74, Tryz.ntmps74
  go_wp2_with (first | ((with_reducible show wpList _ _ _ _ _ _); (first | (refine wS hk ?_; simp only [Act.put, pw]) | (refine wN hk ?_; clear hk; intro w1 hk; simp only [Act.put, pw]) | (refine wT hk ?_; clear hk; intro w1 hk; simp only [Act.put]))))
  go_ret
  exact ⟨rfl, hk.mod.below⟩
theorem build_sd (x y z : Int) (w : World) : (Instr.build 204 [(0, .agg #[.int .i64 x, .int .i64 y, .int .i64 z])].toArray).run Tryz.prog w = .ok (.agg #[.int .i64 x, .int .i64 y, .int .i64 z]) w := run_build w _ _ _ (by kernel_rfl)
theorem build_sl (x y : Int) (w : World) : (Instr.build 206 [(0, .agg #[.int .i64 x, .int .i64 y])].toArray).run Tryz.prog w = .ok (.agg #[.int .i64 x, .int .i64 y]) w := run_build w _ _ _ (by kernel_rfl)
theorem build_ss (x y : Int) (w : World) : (Instr.build 208 [(0, .agg #[.int .i64 x, .int .i64 y])].toArray).run Tryz.prog w = .ok (.agg #[.int .i64 x, .int .i64 y]) w := run_build w _ _ _ (by kernel_rfl)
set_option maxHeartbeats 4000000 in
set_option maxRecDepth 100000 in
theorem sureOf_div (a b c : Int) (w : World) : Calls Tryz.prog 74 #[.iface 190 (.agg #[.int .i64 a, .int .i64 b, .int .i64 c])] w fun e w' => e = .returned (.iface 204 (.agg #[.int .i64 a, .int .i64 b, .int .i64 c])) ∧ Below w.heap.size w w' := by
  have hk := Kn.nil [] w
  go_enter Tryz.func74, Tryz.ntmps74
  go_wp2_with (first | (refine wBuild hk ?_ (hb := build_sd _ _ _ _); simp only [Act.put, pw]) | ((with_reducible show wpList _ _ _ _ _ _); (first | (refine wS hk ?_; simp only [Act.put, pw]) | (refine wN hk ?_; clear hk; intro w1 hk; simp only [Act.put, pw]) | (refine wT hk ?_; clear hk; intro w1 hk; simp only [Act.put]))))
  go_ret
  exact ⟨rfl, hk.mod.below⟩
set_option maxHeartbeats 4000000 in
set_option maxRecDepth 100000 in
theorem sureOf_load (a b : Int) (w : World) : Calls Tryz.prog 74 #[.iface 191 (.agg #[.int .i64 a, .int .i64 b])] w fun e w' => e = .returned (.iface 206 (.agg #[.int .i64 a, .int .i64 b])) ∧ Below w.heap.size w w' := by
  have hk := Kn.nil [] w
  go_enter Tryz.func74, Tryz.ntmps74
  go_wp2_with (first | (refine wBuild hk ?_ (hb := build_sl _ _ _); simp only [Act.put, pw]) | ((with_reducible show wpList _ _ _ _ _ _); (first | (refine wS hk ?_; simp only [Act.put, pw]) | (refine wN hk ?_; clear hk; intro w1 hk; simp only [Act.put, pw]) | (refine wT hk ?_; clear hk; intro w1 hk; simp only [Act.put]))))
  go_ret
  exact ⟨rfl, hk.mod.below⟩
set_option maxHeartbeats 4000000 in
set_option maxRecDepth 100000 in
theorem sureOf_store (a b : Int) (w : World) : Calls Tryz.prog 74 #[.iface 192 (.agg #[.int .i64 a, .int .i64 b])] w fun e w' => e = .returned (.iface 208 (.agg #[.int .i64 a, .int .i64 b])) ∧ Below w.heap.size w w' := by
  have hk := Kn.nil [] w
  go_enter Tryz.func74, Tryz.ntmps74
  go_wp2_with (first | (refine wBuild hk ?_ (hb := build_ss _ _ _); simp only [Act.put, pw]) | ((with_reducible show wpList _ _ _ _ _ _); (first | (refine wS hk ?_; simp only [Act.put, pw]) | (refine wN hk ?_; clear hk; intro w1 hk; simp only [Act.put, pw]) | (refine wT hk ?_; clear hk; intro w1 hk; simp only [Act.put]))))
  go_ret
  exact ⟨rfl, hk.mod.below⟩
end Go.Proofs.YtamiichlbmllcaaGreatDoor
/-
  machine.sureOf of every instruction, and (machine.Program).Sure.
-/
namespace Go.Proofs.YtamiichlbmllcaaGreatDoor
open Go.RowKit
theorem sVal_one (i : I5) : (sVal i).oneCell' = true := by
  unfold sVal
  exact one_ite rfl (one_ite rfl (one_ite rfl (iVal_one i)))
theorem sVal_iface (i : I5) : ∃ t y, sVal i = .iface t y := by
  unfold sVal
  exact iface_ite ⟨_, _, rfl⟩ (iface_ite ⟨_, _, rfl⟩ (iface_ite ⟨_, _, rfl⟩ (iVal_iface i)))
theorem sureOf_any (i : I5) (w : World) : Calls Tryz.prog 74 #[iVal i] w fun e w' => e = .returned (sVal i) ∧ Below w.heap.size w w' := by
  obtain ⟨o, a, b, c, k⟩ := i
  unfold sVal iVal
  simp only
  by_cases h6 : o = 6
  · subst h6; exact sureOf_div a b c w
  · by_cases h7 : o = 7
    · subst h7; exact sureOf_load a b w
    · by_cases h8 : o = 8
      · subst h8; exact sureOf_store a b w
      · simp only [h6, h7, h8, if_false]
        by_cases h1 : o = 1
        · subst h1; exact sureOf_no _ _ (by decide) (by decide) (by decide) w
        · simp only [h1, if_false]
          by_cases h2 : o = 2
          · subst h2; exact sureOf_no _ _ (by decide) (by decide) (by decide) w
          · simp only [h2, if_false]
            by_cases h3 : o = 3
            · subst h3; exact sureOf_no _ _ (by decide) (by decide) (by decide) w
            · simp only [h3, if_false]
              by_cases h4 : o = 4
              · subst h4; exact sureOf_no _ _ (by decide) (by decide) (by decide) w
              · simp only [h4, if_false]
                by_cases h5 : o = 5
                · subst h5; exact sureOf_no _ _ (by decide) (by decide) (by decide) w
                · simp only [h5, if_false]
                  by_cases h9 : o = 9
                  · subst h9; exact sureOf_no _ _ (by decide) (by decide) (by decide) w
                  · simp only [h9, if_false]
                    by_cases hA : o = 10
                    · subst hA; exact sureOf_no _ _ (by decide) (by decide) (by decide) w
                    · simp only [hA, if_false]
                      by_cases hB : o = 11
                      · subst hB; exact sureOf_no _ _ (by decide) (by decide) (by decide) w
                      · simp only [hB, if_false]
                        exact sureOf_no _ _ (by decide) (by decide) (by decide) w
/-- a program that does not look, a row of the call's own -/
def OwnS (w : World) (base : Nat) (v : Value) (l : List I5) : Prop := w.ownsRow base 124 1 v l.length (l.map sVal)
set_option maxHeartbeats 4000000 in
set_option maxRecDepth 100000 in
theorem sure_any (l : List I5) (b cap : Nat) (w : World) (hb : b < w.heap.size) (hl2 : l.length ≤ 64) (hi : ProgC w b iVal l) :
    Calls Tryz.prog 48 #[.slice (some ⟨b, 0, none⟩) l.length cap] w fun e w' => ∃ v, e = .returned v ∧ OwnS w' w.heap.size v l ∧ Below w.heap.size w w' := by
  obtain ⟨i0, hii, hz0, hzs, hz2⟩ := info_three Tryz.infoIn
  have HI := hide hi
  clear hi
  go_enter Tryz.func48, Tryz.ntmps48
  go_wp2_with (at_make; go_must (refine wpList_make_own _ rfl (.const (.int .i64 0)) (.tmp 7) 90 rfl w.heap.size 124 i0 _ 1 Tryz.underlying90 hii hz0 hzs .i64 .i64 l.length l.length rfl rfl rfl ?b2 ?b3 ?b4 ?_))
  case b2 => rw [hz2]; omega
  case b3 => unfold maxLen; omega
  case b4 => simp
  intro w1 hown1 hgrow1
  have hbl1 : Below w.heap.size w w1 := Below.grown (B := w.heap.size) (Below.refl _ _) hgrow1 (by simp) (fun k hk => by cases hk)
  clear hgrow1
  go_wp2_with fail
  go_loopw [3, 11] (fun p j wr => ∃ n : Nat, n ≤ l.length ∧ j = .int .i64 n ∧ OwnS wr w.heap.size p (l.take n) ∧ Below w.heap.size w wr) (fun _ j _ => l.length - (intOf j).toNat)
  case atStart => exact ⟨0, by omega, rfl, by simpa [OwnS] using hown1, hbl1⟩
  case round =>
    clear hown1 hbl1
    obtain ⟨n, hn, rfl, hown, hbl⟩ := hrel
    by_cases hlt : n < l.length
    · obtain ⟨x, hx⟩ : ∃ x, x = insAt l n := ⟨_, rfl⟩
      have c0 : wr.cell? ⟨b, n, none⟩ = some (iVal x) := by
        have := HI.out n hlt
        rw [hx, hbl.cell (p := ⟨b, n, none⟩) hb]
        simpa using this
      have hz := hbl.size
      have HX := hide hx
      clear hx
      obtain ⟨tI, yI, hI⟩ := iVal_iface x
      have HSO : Hid (∀ wx, Calls Tryz.prog 74 #[.iface tI yI] wx fun e w' => e = .returned (sVal x) ∧ Below wx.heap.size wx w') := hide fun wx => by rw [← hI]; exact sureOf_any x wx
      rw [hI] at c0
      clear hI
      obtain ⟨a3, cp3, rfl⟩ : ∃ a c, u3 = .slice a n c := by
        rcases hown.2 with ⟨h1, h2⟩ | ⟨g, cap, cur, h1, _⟩
        · exact ⟨none, 0, by rw [h1]; simp at h2; rcases h2 with h2 | h2; rw [h2]; rw [h2] at hlt; simp at hlt⟩
        · exact ⟨_, _, by rw [h1, List.length_take, Nat.min_eq_left hn]⟩
      go_wp2_with fail
      refine (HSO.out _).mono ?_
      rintro e w2 ⟨rfl, hb2⟩
      have hown2 : OwnS w2 w.heap.size (.slice a3 n cp3) (l.take n) := own_bel hown hb2
      have hbl2 : Below w.heap.size w w2 := hbl.trans (hb2.mono hz)
      have hz2' := hbl2.size
      obtain ⟨tV, yV, hV⟩ := sVal_iface x
      rw [hV]
      have HV := hide hV
      clear hb2 hown hbl c0 hV
      go_wp2_with (at_builtin; go_must (refine wpList_append_own _ rfl (.tmp 15) (.tmp 18) 90 rfl w.heap.size 124 i0 _ 1 16 Tryz.underlying90 hii hz0 hzs hz2 rfl (by decide) (.slice a3 n cp3) (l.take n).length ((l.take n).map sVal) rfl ?o1 ⟨w2.heap.size, 0, none⟩ 1 1 [.iface tV yV] rfl rfl ?n1 ?u1 ?m1 ?b1 ?s1 ?_))
      case o1 => exact World.ownsRow.alloc hown2 _
      case n1 => exact one_new _ _ _ _ rfl
      case u1 => intro u hu; simp at hu; rw [hu, ← HV.out]; exact sVal_one x
      case m1 => unfold maxLen; simp; omega
      case b1 => simp; omega
      case s1 => simp; omega
      intro v4 w4 hown4 hg4 _
      have hbl4 : Below w.heap.size w w4 := (hbl2.alloc hz2' _).grown hg4 (by simp; omega) (fun k hk => (World.ownsRow.lt hown2 k hk).1)
      clear hown2 hbl2 hg4
      go_wp2
      go_roundw
      case rel =>
        refine ⟨n + 1, by omega, by go_num, ?_, hbl4⟩
        have e1 : l.take (n + 1) = l.take n ++ [x] := by rw [HX.out]; exact take_succ_at hlt
        unfold OwnS
        rw [e1, List.map_append, List.length_append, List.map_singleton, HV.out, List.length_take, Nat.min_eq_left hn]
        rw [List.map_take]
        exact hown4
      case measure => simp [intOf]; omega
    · go_wp2
      go_ret
      exact ⟨_, rfl, by rw [List.take_of_length_le (by omega)] at hown; exact hown, hbl⟩
end Go.Proofs.YtamiichlbmllcaaGreatDoor
