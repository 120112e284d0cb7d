import Derived.Test.YtamiichlbmllcaaGreatDoorQMath2
import Derived.Test.YtamiichlbmllcaaGreatDoorQKeep
/-
  The contract of suretykeep.program: a raw program is made right.
-/
namespace Go.Proofs.YtamiichlbmllcaaGreatDoor
open Go.RowKit
set_option maxHeartbeats 1000000 in
set_option maxRecDepth 100000 in
theorem program_nil (a : Option Addr) (cap : Nat) (w : World) :
    Calls Tryz.prog 19 #[.slice a 0 cap] w fun e w' => ∃ v, e = .returned v ∧ OwnI w' w.heap.size v (progL []) ∧ Below w.heap.size w w' := by
  obtain ⟨i0, hi0, hz0, hzs, hz2⟩ := info_parts Tryz.infoIns
  go_enter Tryz.func19, Tryz.ntmps19
  go_wp2_with fail
  refine wp_loop_rounds 1 ?_
  rw [rounds_succ]
  go_wp2_with (at_builtin; go_must (refine wpList_append_own _ rfl (.tmp 93) (.tmp 95) 26 rfl w.heap.size 62 i0 _ 5 40 Tryz.underlying26 hi0 hz0 hzs hz2 rfl (by decide) (.slice none 0 0) 0 [] rfl ?hO ⟨w.heap.size, 0, none⟩ 1 1 I5.zero.cells rfl rfl ?hNw (five_one _) ?h63 ?h64 ?hB ?_))
  case hO => exact World.ownsRow.alloc (World.ownsRow_nil _ _ _ _) _
  case hNw => exact five_new _ _ _ _ rfl
  case h63 => unfold maxLen; omega
  case h64 => omega
  case hB => simp
  intro v4 w4 hown4 hgrow4 _
  have hbl4 := ((Below.refl w.heap.size w).alloc (Nat.le_refl _) _).grown hgrow4 (by simp) (fun k hk => by cases hk)
  have hown4 : OwnI w4 w.heap.size v4 [I5.zero] := hown4
  clear hgrow4
  go_wp2
  go_ret
  exact ⟨_, rfl, hown4, hbl4⟩
theorem program_any (l : List I5) (v : Value) (w : World) (h : Slc w v l) (hlen : l.length < 9223372036854775808) (h64 : ∀ i (h : i < l.length), l[i].in64) :
    Calls Tryz.prog 19 #[v] w fun e w' => ∃ v, e = .returned v ∧ OwnI w' w.heap.size v (progL l) ∧ Below w.heap.size w w' := by
  rcases h with ⟨⟨a, cap, rfl⟩, rfl⟩ | ⟨b, off, cap, rfl, h1, h2⟩
  · exact program_nil a cap w
  · by_cases hl : 63 < l.length
    · exact program_big l b off cap w h1 ⟨hl, hlen⟩ h2 h64
    · exact program_small l b off cap w h1 (by omega) h2 h64
theorem Slc.some {w : World} {v : Value} {l : List I5} (h : Slc w v l) (hl : 0 < l.length) : ∃ b off cap, v = .slice (some ⟨b, off, none⟩) l.length cap ∧ b < w.heap.size ∧ ∀ i (h : i < l.length), InsAt w b (off + i * 5) l[i] := by
  rcases h with ⟨_, rfl⟩ | h
  · simp at hl
  · exact h
theorem encP_len (p : List I5) (h : 0 < p.length) : 2 ≤ (encP p).length := by
  cases p with
  | nil => simp at h
  | cons x r => simp [encP, encI]
end Go.Proofs.YtamiichlbmllcaaGreatDoor
/-
  What a check that takes says; suretykeep.awake, what it reckons.
-/
namespace Go.Proofs.YtamiichlbmllcaaGreatDoor
open Go.RowKit
theorem pass_zero_of {p : List I5} {cl : Nat → Option St} : ∀ {k n : Nat} {come : Option St}, (passC p cl k n come).1 = 0 → passC p cl k n come = (0, 0)
  | 0, n, come, h => by
    unfold passC at h ⊢
    cases hc : come.isSome with
    | true => rw [hc] at h; cases h
    | false => rfl
  | k + 1, n, come, h => by
    unfold passC at h ⊢
    by_cases h1 : (stepC p cl n come).1 ≠ 0
    · rw [if_pos h1] at h; exact absurd h h1
    · rw [if_neg h1] at h ⊢; exact pass_zero_of h
theorem AllFit.taken {l : List I5} (hl : AllFit l) {e : St} {cl : List C2} (h64 : In64 l e cl) (h : (checkR l e cl).1 = 0) : Taken l (layR cl) e ∧ isStR e = true ∧ fwR (markB l) l.length cl (-1) 0 = 0 + cl.length := by
  have hf := hl.fitP h64.k
  unfold checkR at h
  by_cases he : isStR e = true
  · rw [if_pos he] at h
    by_cases hw : fwR (markB l) l.length cl (-1) 0 < cl.length
    · rw [if_pos hw] at h; cases h
    · rw [if_neg hw] at h
      have hfw : fwR (markB l) l.length cl (-1) 0 = 0 + cl.length := by have := (fwR_le (markB l) l.length cl (-1) 0).2; omega
      refine ⟨⟨hf.regs, hf.jump, ?_, fun n s hs => layU_ok (fun i hi => ⟨ok_of_st (fwR_good cl (-1) 0 (by omega) hfw _ (clAt_mem hi)).2, h64.c i hi⟩) cl.length (Nat.le_refl _) n s hs, ok_of_st he, h64.e⟩, he, hfw⟩
      exact pass_zero_of h
  · rw [if_neg he] at h; cases h
def awL : List I5 := [⟨1, 2, 0, 0, 5⟩, ⟨1, 3, 0, 0, 1⟩, ⟨10, 1, 2, 0, 4⟩, ⟨0, 0, 0, 0, 0⟩, ⟨8, 1, 3, 0, 0⟩, ⟨3, 1, 1, 3, 0⟩, ⟨9, 0, 0, 0, 2⟩]
def awN (v : PS) : PS := passP awL 7 0 (some zeroS) v
def aw1 : PS := awN PS.zero
def aw2 : PS := awN (countP aw1)
def aw3 : PS := awN (countP aw2)
def aw4 : PS := awN (countP aw3)
def aw5 : PS := awN (countP aw4)
def aw6 : PS := awN (countP aw5)
def awC : List C2 := clsW 7 aw6.W
theorem aw_set : Settles awL zeroS PS.zero aw6 :=
  .more _ _ (show anyChg awL aw1 = true by decide +kernel) (.more _ _ (show anyChg awL aw2 = true by decide +kernel) (.more _ _ (show anyChg awL aw3 = true by decide +kernel) (.more _ _ (show anyChg awL aw4 = true by decide +kernel) (.more _ _ (show anyChg awL aw5 = true by decide +kernel) (.done _ (show anyChg awL aw6 = false by decide +kernel))))))
theorem aw_right : rightR awL = (0, 0) := by decide +kernel
theorem aw_check : checkR awL zeroS awC = (0, 0) := by decide +kernel
theorem aw_len : awC.length = 2 := by decide +kernel
theorem aw_run : (runO awL (fun _ => 0) 100).kind = 1 := by decide +kernel
theorem aw_div : scheckR [⟨6, 1, 2, 4, 0⟩, ⟨0, 0, 0, 0, 0⟩] (updS zeroS 4 ⟨0, 7⟩) [] = (6, 0) := by decide +kernel
theorem aw_st : isStR zeroS = true := by decide +kernel
theorem aw_prove {cl : List C2} {er pl : Int} (h : SProveP awL zeroS cl er pl) : er = 0 ∧ pl = 0 ∧ cl = awC := by
  rcases h with ⟨h, _⟩ | ⟨_, h⟩
  · exact absurd aw_right h
  · rcases h with ⟨h, _⟩ | ⟨_, vf, hs, h⟩
    · rw [aw_st] at h; cases h
    · have e := hs.det aw_set
      subst e
      have e2 : checkR awL zeroS (clsW awL.length aw6.W) = (0, 0) := aw_check
      rcases h with ⟨h, _⟩ | ⟨_, h1, h2, h3⟩
      · rw [e2] at h; exact absurd rfl h
      · exact ⟨h2, h3, h1⟩
theorem aw_k : ∀ i, i < awL.length → I64 (insAt awL i).k := by
  intro i hi
  have hi' : i < 7 := hi
  have : i = 0 ∨ i = 1 ∨ i = 2 ∨ i = 3 ∨ i = 4 ∨ i = 5 ∨ i = 6 := by omega
  rcases this with rfl | rfl | rfl | rfl | rfl | rfl | rfl <;> (unfold I64; decide +kernel)
theorem zeroS_in64 : St.in64 zeroS := fun j _ => by unfold zeroS R2.in64 I64; simp
theorem aw_fit : AllFit awL := right_fit aw_right
theorem aw_in : In64 awL zeroS awC := ⟨aw_k, zeroS_in64, fun i hi => by
  obtain ⟨k, _, hk, _⟩ := clsW_mem (n := 7) (W := aw6.W) (c := clAt awC i) (clAt_mem hi)
  exact ((aw_set.inv (aw_fit.fitP aw_k) ⟨ok_of_st aw_st, zeroS_in64⟩ (zero_inv awL)).ok k _ hk).2⟩
theorem aw_taken : Taken awL (layR awC) zeroS := (aw_fit.taken aw_in (by rw [aw_check])).1
theorem aw_scheck : scheckR awL zeroS awC = (0, 0) := by unfold scheckR; rw [if_pos aw_right, aw_check]; rfl
end Go.Proofs.YtamiichlbmllcaaGreatDoor
/-
  suretykeep.awake: a loop is proved, compiled and run, and a division by anything is refused.
-/
namespace Go.Proofs.YtamiichlbmllcaaGreatDoor
open Go.RowKit
theorem wKnAlloc {P : Program} {ops : Array Oper} {rest : List Oper} {a : Act} {Q : Exit → Act → World → Prop} {M : List Nat} {w0 w : World} {L : RowL} {A : Array Value} {t : TypeId} (hk : Kn M w0 w L) (h : ∀ w1, Kn M w0 w1 ((w.heap.size, A, t) :: L) → wpList P ops Q rest a w1) : wpList P ops Q rest a (w.alloc (.cells A t)) := h _ (hk.alloc A t)
def awA : Array Value := #[.int .i64 1, .int .i64 2, .int .i64 0, .int .i64 0, .int .i64 5, .int .i64 1, .int .i64 3, .int .i64 0, .int .i64 0, .int .i64 1, .int .i64 10, .int .i64 1, .int .i64 2, .int .i64 0, .int .i64 4, .int .i64 0, .int .i64 0, .int .i64 0, .int .i64 0, .int .i64 0, .int .i64 8, .int .i64 1, .int .i64 3, .int .i64 0, .int .i64 0, .int .i64 3, .int .i64 1, .int .i64 1, .int .i64 3, .int .i64 0, .int .i64 9, .int .i64 0, .int .i64 0, .int .i64 0, .int .i64 2]
theorem aw_slc {w : World} {g : Nat} (h : At w g awA 62) : Slc w (.slice (some ⟨g, 0, none⟩) 7 7) awL := by
  refine Or.inr ⟨g, 0, 7, rfl, lt_of_block h, fun i hi => ?_⟩
  have hi' : i < 7 := hi
  have : i = 0 ∨ i = 1 ∨ i = 2 ∨ i = 3 ∨ i = 4 ∨ i = 5 ∨ i = 6 := by omega
  rcases this with rfl | rfl | rfl | rfl | rfl | rfl | rfl <;> (refine ⟨?_, ?_, ?_, ?_, ?_⟩ <;> rw [cell_of_row _ _ _ _ _ _ h] <;> rfl)
def dvA : Array Value := #[.int .i64 6, .int .i64 1, .int .i64 2, .int .i64 4, .int .i64 0, .int .i64 0, .int .i64 0, .int .i64 0, .int .i64 0, .int .i64 0]
def dvL : List I5 := [⟨6, 1, 2, 4, 0⟩, ⟨0, 0, 0, 0, 0⟩]
theorem dv_slc {w : World} {g : Nat} (h : At w g dvA 62) : Slc w (.slice (some ⟨g, 0, none⟩) 2 2) dvL := by
  refine Or.inr ⟨g, 0, 2, rfl, lt_of_block h, fun i hi => ?_⟩
  have hi' : i < 2 := hi
  have : i = 0 ∨ i = 1 := by omega
  rcases this with rfl | rfl <;> (refine ⟨?_, ?_, ?_, ?_, ?_⟩ <;> rw [cell_of_row _ _ _ _ _ _ h] <;> rfl)
theorem dv_in : In64 dvL (updS zeroS 4 ⟨0, 7⟩) [] := ⟨fun i hi => by
    have hi' : i < 2 := hi
    have : i = 0 ∨ i = 1 := by omega
    rcases this with rfl | rfl <;> (unfold I64; decide +kernel), upd_in64 zeroS_in64 (by unfold R2.in64 I64; simp), fun i hi => by simp at hi⟩
theorem build_r0 (w : World) : (Instr.build 42 [].toArray).run Tryz.prog w = .ok (.agg (rgsC (fun _ => 0))) w := run_build w _ _ _ (by kernel_rfl)
theorem aw_are : areR (fun _ => 0) zeroS = true := by decide +kernel
theorem aw_ins : inS (fun _ => 0) zeroS := fun j _ => by unfold zeroS R2.mem; simp
set_option maxHeartbeats 4000000 in
set_option maxRecDepth 100000 in
theorem awake_any (w : World) (hs : Shapes w) : Calls Tryz.prog 18 #[] w fun x w' => x = .returned (.bool true) ∧ Below w.heap.size w w' := by
  have hk := Kn.nil [] w
  have HS := hide hs
  have h48 : 4 < 8 := by omega
  clear hs
  go_enter Tryz.func18, Tryz.ntmps18
  go_wp2_with (first | (refine wKnAlloc hk ?_; clear hk; intro wq hk) | ((with_reducible show wpList _ _ _ _ _ _); (first | ((with_reducible show wpList _ _ _ (⟨_, _, _, _, _, some _⟩ :: _) _ _); refine wpList_skip (by rfl) ?_; simp only [Act.put, List.setIfInBounds_toArray, List.set_cons_succ, List.set_cons_zero]) | ((first | refine wBuild hk ?_ | refine wFieldZ hk ?_ | refine wField0 hk ?_ | refine wField hk ?_ | refine wIndexA0 hk ?_ | refine wIndexS0 hk ?_ | refine wIndexA hk ?_ | refine wIndexS hk ?_ | refine wLoadR hk ?_ | refine wLoad1 hk ?_ | refine wOldR hk ?_ | refine wOld1 hk ?_ | refine wOldC hk ?_ | refine wOldG hk ?_ | refine wAssertY hk ?_ | refine wAssertN hk ?_); simp only [Act.put, List.setIfInBounds_toArray, List.set_cons_succ, List.set_cons_zero]) | ((first | refine wBox hk ?_ | refine wBox1I hk ?_ | refine wBox1B hk ?_ | refine wBox1S hk ?_ | refine wBox1P hk ?_ | refine wBox1F hk ?_ | refine wAllocR hk ?_ | refine wAlloc1 hk ?_ | refine wMake hk ?_); clear hk; intro w1 hk; simp only [Act.put, List.setIfInBounds_toArray, List.set_cons_succ, List.set_cons_zero]) | ((first | refine wStoreR hk ?_ | refine wStore1I hk ?_ | refine wStore1B hk ?_ | refine wStore1S hk ?_ | refine wStore1P hk ?_ | refine wStore1F hk ?_); clear hk; intro w1 hk; simp only [Act.put]))))
  replace hk : Kn [] w w1 [(wq.heap.size, stC zeroS, 30), (w.heap.size, awA, 62)] := hk
  go_at_call 27
  refine (SProve_any awL aw_k zeroS zeroS_in64 _ _ (HS.out.below hk.mod.below HS.out.1) (aw_slc (hk.at (by with_reducible repeat (first | exact List.mem_cons_self | apply List.mem_cons_of_mem))))).mono ?_
  rintro x w2 ⟨cv, er, pl, cl, rfl, hP, hown, hb⟩
  obtain ⟨rfl, rfl, rfl⟩ := aw_prove hP
  clear hP
  rw [aw_len] at hown
  obtain ⟨cb, cc, rfl, hcb, _⟩ := own_shape hown (by omega)
  have HSC := hide (own_slcC hown aw_len.symm)
  replace hk := hk.call hb
  clear hown hb hcb
  go_wp2_with (first | ((with_reducible show wpList _ _ _ _ _ _); (first | ((with_reducible show wpList _ _ _ (⟨_, _, _, _, _, some _⟩ :: _) _ _); refine wpList_skip (by rfl) ?_; simp only [Act.put, List.setIfInBounds_toArray, List.set_cons_succ, List.set_cons_zero]) | ((first | refine wBuild hk ?_ | refine wFieldZ hk ?_ | refine wField0 hk ?_ | refine wField hk ?_ | refine wIndexA0 hk ?_ | refine wIndexS0 hk ?_ | refine wIndexA hk ?_ | refine wIndexS hk ?_ | refine wLoadR hk ?_ | refine wLoad1 hk ?_ | refine wOldR hk ?_ | refine wOld1 hk ?_ | refine wOldC hk ?_ | refine wOldG hk ?_ | refine wAssertY hk ?_ | refine wAssertN hk ?_); simp only [Act.put, List.setIfInBounds_toArray, List.set_cons_succ, List.set_cons_zero]) | ((first | refine wBox hk ?_ | refine wBox1I hk ?_ | refine wBox1B hk ?_ | refine wBox1S hk ?_ | refine wBox1P hk ?_ | refine wBox1F hk ?_ | refine wAllocR hk ?_ | refine wAlloc1 hk ?_ | refine wMake hk ?_); clear hk; intro w1 hk; simp only [Act.put, List.setIfInBounds_toArray, List.set_cons_succ, List.set_cons_zero]) | ((first | refine wStoreR hk ?_ | refine wStore1I hk ?_ | refine wStore1B hk ?_ | refine wStore1S hk ?_ | refine wStore1P hk ?_ | refine wStore1F hk ?_); clear hk; intro w1 hk; simp only [Act.put]))))
  go_at_call 28
  refine (compile_ok awL zeroS awC aw_in (by rw [aw_len]; omega) _ _ w2 (HS.out.below hk.mod.below HS.out.1) (aw_slc (hk.at (by with_reducible repeat (first | exact List.mem_cons_self | apply List.mem_cons_of_mem)))) HSC.out aw_scheck aw_fit).mono ?_
  rintro x w3 ⟨t, rfl, hT, hb⟩
  replace hk := hk.call hb
  clear hb
  obtain ⟨⟨tb, tc, hT1, hT2, _, _⟩, htl⟩ := hT
  have HT1 := hide hT1
  have HT2 := hide hT2
  clear hT1 hT2 HSC
  go_wp2_with (first | (refine wBuild hk ?_ (hb := build_r0 _); simp only [Act.put, List.setIfInBounds_toArray, List.set_cons_succ, List.set_cons_zero]) | ((with_reducible show wpList _ _ _ _ _ _); (first | ((with_reducible show wpList _ _ _ (⟨_, _, _, _, _, some _⟩ :: _) _ _); refine wpList_skip (by rfl) ?_; simp only [Act.put, List.setIfInBounds_toArray, List.set_cons_succ, List.set_cons_zero]) | ((first | refine wBuild hk ?_ | refine wFieldZ hk ?_ | refine wField0 hk ?_ | refine wField hk ?_ | refine wIndexA0 hk ?_ | refine wIndexS0 hk ?_ | refine wIndexA hk ?_ | refine wIndexS hk ?_ | refine wLoadR hk ?_ | refine wLoad1 hk ?_ | refine wOldR hk ?_ | refine wOld1 hk ?_ | refine wOldC hk ?_ | refine wOldG hk ?_ | refine wAssertY hk ?_ | refine wAssertN hk ?_); simp only [Act.put, List.setIfInBounds_toArray, List.set_cons_succ, List.set_cons_zero]) | ((first | refine wBox hk ?_ | refine wBox1I hk ?_ | refine wBox1B hk ?_ | refine wBox1S hk ?_ | refine wBox1P hk ?_ | refine wBox1F hk ?_ | refine wAllocR hk ?_ | refine wAlloc1 hk ?_ | refine wMake hk ?_); clear hk; intro w1 hk; simp only [Act.put, List.setIfInBounds_toArray, List.set_cons_succ, List.set_cons_zero]) | ((first | refine wStoreR hk ?_ | refine wStore1I hk ?_ | refine wStore1B hk ?_ | refine wStore1S hk ?_ | refine wStore1P hk ?_ | refine wStore1F hk ?_); clear hk; intro w1 hk; simp only [Act.put]))))
  go_at_call 29
  refine (thread_ok t tb tc awL aw_fit zeroS (layR awC) aw_taken (fun _ => 0) 100 w3 HT1.out HT2.out aw_are aw_ins).mono ?_
  rintro x w4 ⟨rfl, hb⟩
  replace hk := hk.call hb
  clear hb
  obtain ⟨O, hO⟩ : ∃ O, runO awL (fun _ => 0) 100 = O := ⟨_, rfl⟩
  have hOk : O.kind = 1 := by rw [← hO]; exact aw_run
  rw [hO]
  clear hO
  unfold O4.val
  rw [hOk]
  go_wp2_with (first | (refine wKnAlloc hk ?_; clear hk; intro wq hk) | ((with_reducible show wpList _ _ _ _ _ _); (first | ((with_reducible show wpList _ _ _ (⟨_, _, _, _, _, some _⟩ :: _) _ _); refine wpList_skip (by rfl) ?_; simp only [Act.put, List.setIfInBounds_toArray, List.set_cons_succ, List.set_cons_zero]) | ((first | refine wBuild hk ?_ | refine wFieldZ hk ?_ | refine wField0 hk ?_ | refine wField hk ?_ | refine wIndexA0 hk ?_ | refine wIndexS0 hk ?_ | refine wIndexA hk ?_ | refine wIndexS hk ?_ | refine wLoadR hk ?_ | refine wLoad1 hk ?_ | refine wOldR hk ?_ | refine wOld1 hk ?_ | refine wOldC hk ?_ | refine wOldG hk ?_ | refine wAssertY hk ?_ | refine wAssertN hk ?_); simp only [Act.put, List.setIfInBounds_toArray, List.set_cons_succ, List.set_cons_zero]) | ((first | refine wBox hk ?_ | refine wBox1I hk ?_ | refine wBox1B hk ?_ | refine wBox1S hk ?_ | refine wBox1P hk ?_ | refine wBox1F hk ?_ | refine wAllocR hk ?_ | refine wAlloc1 hk ?_ | refine wMake hk ?_); clear hk; intro w1 hk; simp only [Act.put, List.setIfInBounds_toArray, List.set_cons_succ, List.set_cons_zero]) | ((first | refine wStoreR hk ?_ | refine wStore1I hk ?_ | refine wStore1B hk ?_ | refine wStore1S hk ?_ | refine wStore1P hk ?_ | refine wStore1F hk ?_); clear hk; intro w1 hk; simp only [Act.put]))))
  have hd : At wq w1.heap.size dvA 62 := hk.at List.mem_cons_self
  refine (SCheck_any dvL (updS zeroS 4 ⟨0, 7⟩) [] dv_in (by decide) _ _ wq (HS.out.below hk.mod.below HS.out.1) (dv_slc hd) (Or.inl ⟨⟨_, _, rfl⟩, rfl⟩)).mono ?_
  rintro x w5 ⟨rfl, hb⟩
  replace hk := hk.call hb
  clear hb hd
  rw [show scheckR dvL (updS zeroS 4 ⟨0, 7⟩) [] = (6, 0) from aw_div]
  go_wp2_with (first | ((with_reducible show wpList _ _ _ _ _ _); (first | ((with_reducible show wpList _ _ _ (⟨_, _, _, _, _, some _⟩ :: _) _ _); refine wpList_skip (by rfl) ?_; simp only [Act.put, List.setIfInBounds_toArray, List.set_cons_succ, List.set_cons_zero]) | ((first | refine wBuild hk ?_ | refine wFieldZ hk ?_ | refine wField0 hk ?_ | refine wField hk ?_ | refine wIndexA0 hk ?_ | refine wIndexS0 hk ?_ | refine wIndexA hk ?_ | refine wIndexS hk ?_ | refine wLoadR hk ?_ | refine wLoad1 hk ?_ | refine wOldR hk ?_ | refine wOld1 hk ?_ | refine wOldC hk ?_ | refine wOldG hk ?_ | refine wAssertY hk ?_ | refine wAssertN hk ?_); simp only [Act.put, List.setIfInBounds_toArray, List.set_cons_succ, List.set_cons_zero]) | ((first | refine wBox hk ?_ | refine wBox1I hk ?_ | refine wBox1B hk ?_ | refine wBox1S hk ?_ | refine wBox1P hk ?_ | refine wBox1F hk ?_ | refine wAllocR hk ?_ | refine wAlloc1 hk ?_ | refine wMake hk ?_); clear hk; intro w1 hk; simp only [Act.put, List.setIfInBounds_toArray, List.set_cons_succ, List.set_cons_zero]) | ((first | refine wStoreR hk ?_ | refine wStore1I hk ?_ | refine wStore1B hk ?_ | refine wStore1S hk ?_ | refine wStore1P hk ?_ | refine wStore1F hk ?_); clear hk; intro w1 hk; simp only [Act.put]))))
  go_ret
  exact ⟨rfl, hk.mod.below⟩
end Go.Proofs.YtamiichlbmllcaaGreatDoor
/-
  What Prove finds is checked as far as its pass; suretykeep.Accepted.
-/
namespace Go.Proofs.YtamiichlbmllcaaGreatDoor
open Go.RowKit
theorem isSt_iffK {s : St} : isStR s = true ↔ St.ok s := by
  unfold isStR St.ok
  rw [List.all_eq_true]
  simp
theorem fwR_all {mk : Nat → Bool} {n : Nat} : ∀ (cl : List C2) (last : Int) (i : Nat), (∀ c, c ∈ cl → last < c.pl ∧ c.pl < n ∧ mk c.pl.toNat = true ∧ isStR c.st = true) → cl.Pairwise (fun x y => x.pl < y.pl) → fwR mk n cl last i = i + cl.length
  | [], _, _, _, _ => rfl
  | d :: r, last, i, h, hp => by
    have hd := h d List.mem_cons_self
    have hp' := List.pairwise_cons.1 hp
    have hb : badC mk n last d = false := by
      unfold badC
      rw [hd.2.2.1, hd.2.2.2]
      simp
      omega
    unfold fwR
    rw [if_neg (by rw [hb]; simp), fwR_all r d.pl (i + 1) (fun c hc => ⟨hp'.1 c hc, (h c (List.mem_cons_of_mem _ hc)).2⟩) hp'.2]
    simp; omega
theorem clsW_rise (W : Nat → Option St) : ∀ n, (clsW n W).Pairwise (fun x y => x.pl < y.pl)
  | 0 => List.Pairwise.nil
  | n + 1 => by
    cases h : W n with
    | none => rw [clsW_none h]; exact clsW_rise W n
    | some s =>
      rw [clsW_some h, List.pairwise_append]
      refine ⟨clsW_rise W n, List.pairwise_singleton _ _, fun x hx y hy => ?_⟩
      obtain ⟨i, hi, _, hpl⟩ := clsW_mem hx
      simp only [List.mem_singleton] at hy
      rw [hy, hpl]
      simp only
      omega
theorem PInv.fw {l : List I5} {v : PS} (h : PInv l v) : fwR (markB l) l.length (clsW l.length v.W) (-1) 0 = 0 + (clsW l.length v.W).length := by
  refine fwR_all _ _ _ (fun c hc => ?_) (clsW_rise _ _)
  obtain ⟨i, hi, hs, hpl⟩ := clsW_mem hc
  refine ⟨by omega, by omega, ?_, isSt_iffK.2 (h.ok i _ hs).1⟩
  rw [hpl, Int.toNat_natCast]
  exact h.mark i _ hs
theorem dang_is (i : I5) (s : St) : dangR i s = 0 ∨ dangR i s = 6 ∨ dangR i s = 7 := by
  unfold dangR
  repeat' split
  all_goals simp
theorem step_is (p : List I5) (cl : Nat → Option St) (n : Nat) (come : Option St) : (stepC p cl n come).1 = 0 ∨ (stepC p cl n come).1 = 5 ∨ (stepC p cl n come).1 = 6 ∨ (stepC p cl n come).1 = 7 := by
  unfold stepC
  split
  · simp
  · split
    · simp
    · rename_i s _
      split
      · rcases dang_is (insAt p n) s with h | h | h <;> simp [h]
      · split <;> simp
theorem pass_is (p : List I5) (cl : Nat → Option St) : ∀ (k n : Nat) (come : Option St), ((passC p cl k n come).1 = 0 ∨ (passC p cl k n come).1 = 5 ∨ (passC p cl k n come).1 = 6 ∨ (passC p cl k n come).1 = 7 ∨ (passC p cl k n come).1 = 8) ∧ (passC p cl k n come).2 ≤ n + k
  | 0, n, come => by
    unfold passC
    split <;> simp
  | k + 1, n, come => by
    unfold passC
    split
    · have := step_is p cl n come
      simp only
      exact ⟨by omega, by omega⟩
    · have := pass_is p cl k (n + 1) (stepC p cl n come).2
      exact ⟨this.1, by omega⟩
/-- Prove of a right program and a state: an error of the pass, or claims that are taken -/
theorem prove_is {l : List I5} (hl : AllFit l) (h64 : ∀ i, i < l.length → I64 (insAt l i).k) {e : St} (he : isStR e = true) (he64 : e.in64) (hr : rightR l = (0, 0)) {cl : List C2} {er pl : Int} (h : SProveP l e cl er pl) :
    (er ≠ 0 ∧ cl = [] ∧ (er = 5 ∨ er = 6 ∨ er = 7 ∨ er = 8) ∧ 0 ≤ pl ∧ pl ≤ l.length) ∨ (er = 0 ∧ pl = 0 ∧ scheckR l e cl = (0, 0) ∧ In64 l e cl ∧ cl.length ≤ 64) := by
  rcases h with ⟨h, _⟩ | ⟨_, h⟩
  · exact absurd hr h
  · rcases h with ⟨h, _⟩ | ⟨_, vf, hs, h⟩
    · rw [he] at h; cases h
    · have hI := hs.inv (hl.fitP h64) ⟨ok_of_st he, he64⟩ (zero_inv l)
      have hc : checkR l e (clsW l.length vf.W) = passC l (layR (clsW l.length vf.W)) l.length 0 (some e) := by
        unfold checkR
        rw [if_pos he, if_neg (by rw [hI.fw]; omega)]
      have hp := pass_is l (layR (clsW l.length vf.W)) l.length 0 (some e)
      rcases h with ⟨h1, h2, h3, h4⟩ | ⟨h1, h2, h3, h4⟩
      · rw [hc] at h1 h3 h4
        exact Or.inl ⟨by rw [h3]; exact h1, h2, by rw [h3]; omega, by rw [h4]; omega, by rw [h4]; omega⟩
      · refine Or.inr ⟨h3, h4, ?_, ⟨h64, he64, fun i hi => ?_⟩, ?_⟩
        · rw [h2]
          unfold scheckR
          rw [if_pos hr]
          have : checkR l e (clsW l.length vf.W) = (0, 0) := by rw [hc] at h1 ⊢; exact pass_zero_of h1
          rw [this]; rfl
        · rw [h2] at hi ⊢
          obtain ⟨k, _, hk, _⟩ := clsW_mem (clAt_mem hi)
          exact (hI.ok k _ hk).2
        · rw [h2]; exact Nat.le_trans (clsW_len _ _) hl.2.1
end Go.Proofs.YtamiichlbmllcaaGreatDoor
