/-
  The contracts of suretylaw.little and runs, of (*suretylaw.world).step for the kinds Run and Trace, of plays and Runs.
-/
import Derived.Test.YtamiichlbmllcaaGreatDoorTraced
import Derived.Test.YtamiichlbmllcaaGreatDoorCodes
namespace Go.Proofs.YtamiichlbmllcaaGreatDoor
open Go.RowKit
def littleL : List I5 := [⟨1, 1, 0, 0, 0⟩, ⟨1, 2, 0, 0, 10⟩, ⟨1, 3, 0, 0, 1⟩, ⟨10, 1, 2, 0, 5⟩, ⟨0, 0, 0, 0, 0⟩, ⟨3, 0, 0, 1, 0⟩, ⟨3, 1, 1, 3, 0⟩, ⟨9, 0, 0, 0, 3⟩]
theorem insAt_of {w : World} {N : Nat} {A : Array Value} {T : TypeId} (h : w.heap[N]? = some (.cells A T (0, 0))) (off : Nat) (x : I5) (h0 : A[off]? = some (.int .i64 x.o)) (h1 : A[off + 1]? = some (.int .i64 x.a)) (h2 : A[off + 2]? = some (.int .i64 x.b)) (h3 : A[off + 3]? = some (.int .i64 x.c)) (h4 : A[off + 4]? = some (.int .i64 x.k)) : InsAt w N off x := by
  refine ⟨?_, ?_, ?_, ?_, ?_⟩ <;> rw [cell_of_row _ _ _ _ _ _ h] <;> assumption
theorem little_slc (w : World) (N : Nat) (h : w.heap[N]? = some (.cells #[.int .i64 1, .int .i64 1, .int .i64 0, .int .i64 0, .int .i64 0, .int .i64 1, .int .i64 2, .int .i64 0, .int .i64 0, .int .i64 10, .int .i64 1, .int .i64 3, .int .i64 0, .int .i64 0, .int .i64 1, .int .i64 10, .int .i64 1, .int .i64 2, .int .i64 0, .int .i64 5, .int .i64 0, .int .i64 0, .int .i64 0, .int .i64 0, .int .i64 0, .int .i64 3, .int .i64 0, .int .i64 0, .int .i64 1, .int .i64 0, .int .i64 3, .int .i64 1, .int .i64 1, .int .i64 3, .int .i64 0, .int .i64 9, .int .i64 0, .int .i64 0, .int .i64 0, .int .i64 3] 62 (0, 0))) : Slc w (.slice (some ⟨N, 0, none⟩) 8 8) littleL := by
  refine Or.inr ⟨N, 0, 8, rfl, lt_of_block h, fun i hi => ?_⟩
  match i, hi with
  | 0, _ => exact insAt_of h _ _ rfl rfl rfl rfl rfl
  | 1, _ => exact insAt_of h _ _ rfl rfl rfl rfl rfl
  | 2, _ => exact insAt_of h _ _ rfl rfl rfl rfl rfl
  | 3, _ => exact insAt_of h _ _ rfl rfl rfl rfl rfl
  | 4, _ => exact insAt_of h _ _ rfl rfl rfl rfl rfl
  | 5, _ => exact insAt_of h _ _ rfl rfl rfl rfl rfl
  | 6, _ => exact insAt_of h _ _ rfl rfl rfl rfl rfl
  | 7, _ => exact insAt_of h _ _ rfl rfl rfl rfl rfl
  | j + 8, hj => exfalso; have : littleL.length = 8 := rfl; omega
set_option maxHeartbeats 1000000 in
set_option maxRecDepth 100000 in
theorem little_any (w : World) : Calls Tryz.prog 33 #[] w fun e w' => e = .returned (.slice (some ⟨w.heap.size, 0, none⟩) 8 8) ∧ Slc w' (.slice (some ⟨w.heap.size, 0, none⟩) 8 8) littleL ∧ Below w.heap.size w w' := by
  have H := little_slc (w.alloc (.cells #[.int .i64 1, .int .i64 1, .int .i64 0, .int .i64 0, .int .i64 0, .int .i64 1, .int .i64 2, .int .i64 0, .int .i64 0, .int .i64 10, .int .i64 1, .int .i64 3, .int .i64 0, .int .i64 0, .int .i64 1, .int .i64 10, .int .i64 1, .int .i64 2, .int .i64 0, .int .i64 5, .int .i64 0, .int .i64 0, .int .i64 0, .int .i64 0, .int .i64 0, .int .i64 3, .int .i64 0, .int .i64 0, .int .i64 1, .int .i64 0, .int .i64 3, .int .i64 1, .int .i64 1, .int .i64 3, .int .i64 0, .int .i64 9, .int .i64 0, .int .i64 0, .int .i64 0, .int .i64 3] 62)) w.heap.size (heap_alloc_new _ _)
  go_enter Tryz.func33, Tryz.ntmps33
  go_wp2
  go_ret
  exact ⟨rfl, H, belA _ _⟩
theorem little_right : rightR littleL = (0, 0) := by decide +kernel
theorem little_run : runO littleL (fun _ => 0) 100 = ⟨1, 4, 45, 45⟩ := by kernel_rfl
set_option maxHeartbeats 1000000 in
set_option maxRecDepth 100000 in
theorem lawRuns_any (w : World) (hs : Shapes w) : Calls Tryz.prog 14 #[] w fun e w' => e = .returned (.bool true) ∧ Below w.heap.size w w' := by
  have HRV : Hid (regsV (fun _ => 0) = .agg #[.int .i64 0, .int .i64 0, .int .i64 0, .int .i64 0, .int .i64 0, .int .i64 0, .int .i64 0, .int .i64 0]) := hide rfl
  have HRO : Hid (runOE littleL (fun _ => 0) 100 = ⟨1, 4, 45, 45⟩) := hide (by unfold runOE; rw [if_pos little_right]; exact little_run)
  have HRR := hide little_right
  go_enter Tryz.func14, Tryz.ntmps14
  go_wp2_with fail
  refine (little_any w).mono ?_
  rintro x w2 ⟨rfl, hS2, hb2⟩
  have hs2 := hs.below hb2 hs.1
  go_wp2_with fail
  rw [← HRV.out]
  refine (Run_any littleL _ (fun _ => 0) 100 w2 hs2 hS2).mono ?_
  rintro x w3 ⟨rfl, hb3⟩
  rw [HRO.out, HRR.out]
  unfold O4.val
  have HB3 := hide (hb2.trans (hb3.mono hb2.size))
  clear hb2 hb3 hS2
  go_wp2
  go_ret
  exact ⟨rfl, HB3.out.alloc HB3.out.size _⟩
/-- a step that bears a fuel and registers -/
def OpD.okR (w : World) (o : OpD) : Prop := o.ok w ∧ (∃ f, o.fu = .int .i64 f) ∧ ∃ rg : Nat → Int, ∀ j, j < 8 → o.r j = .int .i64 (rg j)
theorem OpD.okR.below {w w' : World} {o : OpD} {B : Nat} (h : o.okR w) (hb : Below B w w') (hB : w.heap.size ≤ B) : o.okR w' := ⟨h.1.below hb hB, h.2⟩
theorem opCells_r {k on fu pv sv cv : Value} {e r r' : Nat → Value} (h : ∀ j, j < 8 → r j = r' j) : opCells k on fu pv sv e cv r = opCells k on fu pv sv e cv r' := by
  unfold opCells
  rw [h 0 (by omega), h 1 (by omega), h 2 (by omega), h 3 (by omega), h 4 (by omega), h 5 (by omega), h 6 (by omega), h 7 (by omega)]
set_option maxHeartbeats 1000000 in
set_option maxRecDepth 100000 in
theorem step_run (o : OpD) (wb n : Nat) (w : World) (hs : Shapes w) (hi : VInv w wb n) (ho : o.okR w) (_hn : n < 5000000000000) (hk : o.k = 3) :
    Calls Tryz.prog 31 #[.pointer (some ⟨wb, 0, none⟩), .agg o.cells] w fun e w' => e = .returned (.bool true) ∧ (∃ n', n ≤ n' ∧ n' ≤ n + 4 ∧ VInv w' wb n') ∧ Below wb w w' := by
  obtain ⟨k, on, fu, pv, p, s, e, cv, r⟩ := o
  simp only at hk
  subst hk
  obtain ⟨ho, ⟨f, hf⟩, rg, hr⟩ := ho
  simp only at hf hr
  have HEQ : Hid (opCells (.int .i64 3) on fu pv (.string s) e cv r = opCells (.int .i64 3) on (.int .i64 f) pv (.string s) e cv (fun j => .int .i64 (rg j))) := hide (by rw [hf]; exact opCells_r hr)
  have hw0 : wb < w.heap.size := by obtain ⟨_, _, _, h, _⟩ := hi; exact lt_of_block h
  have hb1 := (Below.refl w.heap.size w).alloc (Nat.le_refl _) (.cells (opCells (.int .i64 3) on fu pv (.string s) e cv r) 44)
  have hs1 := hs.below hb1 hs.1
  have hcall := ran_any p (.int .i64 3) on pv (.string s) cv f e rg _ hs1 (ho.1.below hb1 (Nat.le_refl _)) ho.2
  rw [← HEQ.out] at hcall
  have HB1 := hide hb1
  have HI1 := hide (hi.below hb1)
  unfold OpD.cells
  simp only
  unfold opCells at hcall HB1 HI1 ⊢
  have HC := hide hcall
  clear hcall hb1 hs1 hi hf hr HEQ ho hs
  have HBX : Hid ((w.alloc (.cells #[.int .i64 3, on, fu, pv, .string s, e 0, e 1, e 2, e 3, e 4, e 5, e 6, e 7, e 8, e 9, e 10, e 11, e 12, e 13, e 14, e 15, cv, r 0, r 1, r 2, r 3, r 4, r 5, r 6, r 7] 44)).heap[w.heap.size]? = some (.cells #[.int .i64 3, on, fu, pv, .string s, e 0, e 1, e 2, e 3, e 4, e 5, e 6, e 7, e 8, e 9, e 10, e 11, e 12, e 13, e 14, e 15, cv, r 0, r 1, r 2, r 3, r 4, r 5, r 6, r 7] 44 (0, 0))) := hide (heap_alloc_new _ _)
  go_enter Tryz.func31, Tryz.ntmps31
  go_wp2_with (refine wpList_load_row rfl 44 (.tmp 3) rfl w.heap.size rfl 44 #[.int .i64 3, on, fu, pv, .string s, e 0, e 1, e 2, e 3, e 4, e 5, e 6, e 7, e 8, e 9, e 10, e 11, e 12, e 13, e 14, e 15, cv, r 0, r 1, r 2, r 3, r 4, r 5, r 6, r 7] (0, 0) _ HBX.out Tryz.underlying44 rfl (by kernel_rfl) ?_)
  refine HC.out.mono ?_
  rintro x w2 ⟨rfl, hb2⟩
  have HV2 : Hid (∃ n', n ≤ n' ∧ n' ≤ n + 4 ∧ VInv w2 wb n') := hide ⟨n, by omega, by omega, HI1.out.below hb2⟩
  have HBL : Hid (Below wb w w2) := hide ((HB1.out.mono (by omega)).trans (hb2.mono (by simp; omega)))
  clear hb2 HC
  go_wp2
  go_ret
  exact ⟨rfl, HV2.out, HBL.out⟩
set_option maxHeartbeats 1000000 in
set_option maxRecDepth 100000 in
theorem step_trace (o : OpD) (wb n : Nat) (w : World) (hs : Shapes w) (hi : VInv w wb n) (ho : o.okR w) (hn : n < 5000000000000) (hk : o.k = 4) :
    Calls Tryz.prog 31 #[.pointer (some ⟨wb, 0, none⟩), .agg o.cells] w fun e w' => e = .returned (.bool true) ∧ (∃ n', n ≤ n' ∧ n' ≤ n + 4 ∧ VInv w' wb n') ∧ Below wb w w' := by
  obtain ⟨k, on, fu, pv, p, s, e, cv, r⟩ := o
  simp only at hk
  subst hk
  obtain ⟨ho, ⟨f, hf⟩, rg, hr⟩ := ho
  simp only at hf hr
  have HEQ : Hid (opCells (.int .i64 4) on fu pv (.string s) e cv r = opCells (.int .i64 4) on (.int .i64 f) pv (.string s) e cv (fun j => .int .i64 (rg j))) := hide (by rw [hf]; exact opCells_r hr)
  have hw0 : wb < w.heap.size := by obtain ⟨_, _, _, h, _⟩ := hi; exact lt_of_block h
  have hb1 := (Below.refl w.heap.size w).alloc (Nat.le_refl _) (.cells (opCells (.int .i64 4) on fu pv (.string s) e cv r) 44)
  have hs1 := hs.below hb1 hs.1
  have hcall := traced_any p wb n (.int .i64 4) on pv (.string s) cv f e rg _ hs1 (ho.1.below hb1 (Nat.le_refl _)) ho.2 (hi.below hb1) hn
  rw [← HEQ.out] at hcall
  have HB1 := hide hb1
  have HI1 := hide (hi.below hb1)
  unfold OpD.cells
  simp only
  unfold opCells at hcall HB1 HI1 ⊢
  have HC := hide hcall
  clear hcall hb1 hs1 hi hf hr HEQ ho hs
  have HBX : Hid ((w.alloc (.cells #[.int .i64 4, on, fu, pv, .string s, e 0, e 1, e 2, e 3, e 4, e 5, e 6, e 7, e 8, e 9, e 10, e 11, e 12, e 13, e 14, e 15, cv, r 0, r 1, r 2, r 3, r 4, r 5, r 6, r 7] 44)).heap[w.heap.size]? = some (.cells #[.int .i64 4, on, fu, pv, .string s, e 0, e 1, e 2, e 3, e 4, e 5, e 6, e 7, e 8, e 9, e 10, e 11, e 12, e 13, e 14, e 15, cv, r 0, r 1, r 2, r 3, r 4, r 5, r 6, r 7] 44 (0, 0))) := hide (heap_alloc_new _ _)
  go_enter Tryz.func31, Tryz.ntmps31
  go_wp2_with (refine wpList_load_row rfl 44 (.tmp 3) rfl w.heap.size rfl 44 #[.int .i64 4, on, fu, pv, .string s, e 0, e 1, e 2, e 3, e 4, e 5, e 6, e 7, e 8, e 9, e 10, e 11, e 12, e 13, e 14, e 15, cv, r 0, r 1, r 2, r 3, r 4, r 5, r 6, r 7] (0, 0) _ HBX.out Tryz.underlying44 rfl (by kernel_rfl) ?_)
  refine HC.out.mono ?_
  rintro x w2 ⟨rfl, hi2, hb2⟩
  have HV2 : Hid (∃ n', n ≤ n' ∧ n' ≤ n + 4 ∧ VInv w2 wb n') := hide ⟨n + 4, by omega, by omega, hi2⟩
  have HBL : Hid (Below wb w w2) := hide ((HB1.out.mono (by omega)).trans hb2)
  clear hb2 hi2 HC
  go_wp2
  go_ret
  exact ⟨rfl, HV2.out, HBL.out⟩
/-- a script that came in, whose steps bear a fuel and registers -/
def ScrR (w : World) (v : Value) (l : List OpD) : Prop :=
  ((∃ a cap, v = .slice a 0 cap) ∧ l = []) ∨ ∃ b off cap, v = .slice (some ⟨b, off, none⟩) l.length cap ∧ b < w.heap.size ∧ ∀ i (h : i < l.length), (∀ f u, l[i].cells.toList[f]? = some u → w.cell? ⟨b, off + i * 30 + f, none⟩ = some u) ∧ l[i].okR w
theorem ScrR.below {w w' : World} {v : Value} {l : List OpD} (h : ScrR w v l) (hb : Below w.heap.size w w') : ScrR w' v l := by
  rcases h with h | ⟨b, off, cap, h1, h2, h3⟩
  · exact Or.inl h
  · refine Or.inr ⟨b, off, cap, h1, by have := hb.size; omega, fun i hi => ⟨fun f u hf => ?_, (h3 i hi).2.below hb (Nat.le_refl _)⟩⟩
    rw [hb.cell (p := ⟨b, _, none⟩) h2]
    exact (h3 i hi).1 f u hf
set_option maxHeartbeats 1000000 in
set_option maxRecDepth 100000 in
theorem plays_runs (l : List OpD) (b off cap : Nat) (w : World) (hs : Shapes w) (hb : b < w.heap.size) (hl : l.length < 600000000000)
    (hi : ∀ i (h : i < l.length), (∀ f u, l[i].cells.toList[f]? = some u → w.cell? ⟨b, off + i * 30 + f, none⟩ = some u) ∧ l[i].okR w) :
    Calls Tryz.prog 13 #[.slice (some ⟨b, off, none⟩) l.length cap, .int .i64 3, .int .i64 4] w fun e w' => e = .returned (.bool true) ∧ Below w.heap.size w w' := by
  have HI := hide hi
  clear hi
  go_enter Tryz.func13, Tryz.ntmps13
  go_wp2_with fail
  go_loopw [8] (fun j wr => ∃ n m : Nat, n ≤ l.length ∧ m ≤ 4 * n ∧ j = .int .i64 n ∧ VInv wr w.heap.size m ∧ Below w.heap.size w wr) (fun j _ => l.length - (intOf j).toNat)
  case atStart =>
    refine ⟨0, 0, by omega, by omega, rfl, ⟨.slice none 0 0, [], rfl, heap_alloc_new _ _, World.ownsRow_nil _ _ _ _, rfl, fun k h => by simp at h⟩, (Below.refl _ _).alloc (Nat.le_refl _) _⟩
  case round =>
    obtain ⟨n, m, hn, hm, rfl, hinv, hbl⟩ := hrel
    have hsr := hs.below hbl hs.1
    by_cases hlt : n < l.length
    · obtain ⟨hc, hok⟩ := HI.out n hlt
      obtain ⟨o, ho⟩ : ∃ o, o = l[n] := ⟨_, rfl⟩
      rw [← ho] at hc hok
      have hc' : wr.rangeAt b (off + n * 30) o.cells.toList := fun f u hf => by rw [hbl.cell (p := ⟨b, _, none⟩) hb]; exact hc f u hf
      have HC := hide hc'
      have hokr := hok.below hbl (Nat.le_refl _)
      have q0 : wr.cell? ⟨b, off + n * 30, none⟩ = some (.int .i64 o.k) := hc' 0 _ o.kind
      clear hc hok ho hc'
      have hstep : (o.k = 3 ∨ o.k = 4) → Calls Tryz.prog 31 #[.pointer (some ⟨w.heap.size, 0, none⟩), .agg o.cells] wr fun e w' => e = .returned (.bool true) ∧ (∃ n', m ≤ n' ∧ n' ≤ m + 4 ∧ VInv w' w.heap.size n') ∧ Below w.heap.size wr w' := by
        rintro (h | h)
        · exact step_run o w.heap.size m wr hsr hinv hokr (by omega) h
        · exact step_trace o w.heap.size m wr hsr hinv hokr (by omega) h
      have HST := hide hstep
      clear hstep
      by_cases h12 : o.k = 3 ∨ o.k = 4
      · have HK := hide h12
        have hk1 : ¬ o.k < 3 := by omega
        have hk2 : ¬ 4 < o.k := by omega
        clear h12
        go_wp2_with (refine wpList_load_mid rfl 44 (.tmp 38) rfl b (off + n * 30) rfl o.cells.toList _ HC.out Tryz.underlying44 rfl infoOp ?_)
        refine (HST.out HK.out).mono ?_
        rintro x w2 ⟨rfl, ⟨m2, hm1, hm2, hinv2⟩, hb2⟩
        obtain ⟨vd, xs, hxl, hw2, hd2⟩ := hinv2
        have hbl2 := hbl.trans hb2
        clear q0 hinv hb2 hbl
        go_wp2_with fail
        refine (looks_vis w.heap.size w.heap.size _ vd xs w2 hw2 hd2 (by omega)).mono ?_
        rintro x w3 ⟨rfl, hb3⟩
        have hinv3 : VInv w3 w.heap.size m2 := VInv.below ⟨vd, xs, hxl, hw2, hd2⟩ hb3
        have hbl3 := hbl2.trans (hb3.mono hbl2.size)
        clear hb3 hw2 hd2 hbl2
        go_wp2
        exact ⟨⟨n + 1, m2, by omega, by omega, by go_num, hinv3, hbl3⟩, by simp [intOf]; omega⟩
      · by_cases h1 : o.k < 3
        · clear h12
          go_wp2
          exact ⟨⟨n + 1, m, by omega, by omega, by go_num, hinv, hbl⟩, by simp [intOf]; omega⟩
        · have h2 : 4 < o.k := by omega
          clear h12
          go_wp2
          exact ⟨⟨n + 1, m, by omega, by omega, by go_num, hinv, hbl⟩, by simp [intOf]; omega⟩
    · go_wp2
      go_ret
      exact ⟨rfl, hbl⟩
set_option maxHeartbeats 400000 in
theorem runs_any (l : List OpD) (v : Value) (w : World) (hs : Shapes w) (h : ScrR w v l) (hl : l.length < 600000000000) :
    Calls Tryz.prog 4 #[v] w fun e w' => e = .returned (.bool true) ∧ Below w.heap.size w w' := by
  have hp : ∀ wx, Below w.heap.size w wx → Calls Tryz.prog 13 #[v, .int .i64 3, .int .i64 4] wx fun e w' => e = .returned (.bool true) ∧ Below wx.heap.size wx w' := by
    intro wx hb
    rcases h.below hb with ⟨⟨a, cap, rfl⟩, rfl⟩ | ⟨b, off, cap, rfl, hb', hi⟩
    · exact plays_nil a cap 3 4 wx
    · exact plays_runs l b off cap wx (hs.below hb hs.1) hb' hl hi
  have HP := hide hp
  clear hp
  go_enter Tryz.func4, Tryz.ntmps4
  go_wp2_with fail
  refine (lawRuns_any w hs).mono ?_
  rintro x w1 ⟨rfl, hb1⟩
  have HB1 := hide hb1
  clear hb1
  go_wp2_with (go_at_call 13; refine (HP.out w1 HB1.out).mono ?_; rintro x w2 ⟨rfl, hb2⟩; have HB2 := hide hb2; clear hb2)
  go_ret
  exact ⟨rfl, HB1.out.trans (HB2.out.mono HB1.out.size)⟩
end Go.Proofs.YtamiichlbmllcaaGreatDoor
