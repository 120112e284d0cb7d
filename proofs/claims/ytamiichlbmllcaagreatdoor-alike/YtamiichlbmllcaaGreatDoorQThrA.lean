import Derived.Test.YtamiichlbmllcaaGreatDoorQStepA
import Derived.Test.YtamiichlbmllcaaGreatDoorQRunM
import Derived.Test.YtamiichlbmllcaaGreatDoorQPrK
/-
  A step of a program that does not look, where nothing goes wrong; sureOf.
-/
namespace Go.Proofs.YtamiichlbmllcaaGreatDoor
open Go.RowKit
/-- an instruction that does not look -/
def sVal (i : I5) : Value :=
  if i.o = 6 then .iface 204 (.agg #[.int .i64 i.a, .int .i64 i.b, .int .i64 i.c])
  else if i.o = 7 then .iface 206 (.agg #[.int .i64 i.a, .int .i64 i.b])
  else if i.o = 8 then .iface 208 (.agg #[.int .i64 i.a, .int .i64 i.b])
  else iVal i
theorem sVal_else {i : I5} (h6 : i.o ≠ 6) (h7 : i.o ≠ 7) (h8 : i.o ≠ 8) : sVal i = iVal i := by unfold sVal; rw [if_neg h6, if_neg h7, if_neg h8]
/-- nothing goes wrong at an instruction -/
def Fine (i : I5) (s : MS) : Prop := (doI i s).1 ≠ 3 ∧ (doI i s).1 ≠ 4
theorem step_sure (i : I5) (g pb cap n : Nat) (s : MS) (F : Int) (o : O4) (w : World) (h : MRow w g (.slice (some ⟨pb, 0, none⟩) n cap) s F o) (hp : s.pc < n) (hn64 : n ≤ 64) (hn : s.n < 1000000)
    (hi : w.cell? ⟨pb, s.pc, none⟩ = some (sVal i)) (hpg : pb ≠ g) (hfit : i.fits n = true) (hfine : Fine i (nxt s)) :
    Calls Tryz.prog 70 #[.pointer (some ⟨g, 0, none⟩)] w fun e w' => e = .returned (.tuple #[]) ∧ MRow w' g (.slice (some ⟨pb, 0, none⟩) n cap) (doI i (nxt s)).2 F (outO (doI i (nxt s)).1 s.pc (doI i (nxt s)).2 o) ∧ But g w w' := by
  by_cases h6 : i.o = 6
  · have hc := fit_cases hfit
    obtain ⟨op, a, b, c, k⟩ := i
    simp only at hc h6
    subst h6
    rcases hc with h | ⟨h, _⟩ | ⟨h, _⟩ | ⟨h, _⟩ | ⟨h, _⟩ | ⟨h, _⟩ | ⟨_, ha, hb, hc⟩ | ⟨h, _⟩ | ⟨h, _⟩ | ⟨h, _⟩ | ⟨h, _⟩ | ⟨h, _⟩
    all_goals try (exact absurd h (by decide))
    obtain ⟨a, ha', rfl⟩ := ha.nat
    obtain ⟨b, hb', rfl⟩ := hb.nat
    obtain ⟨c, hc', rfl⟩ := hc.nat
    have hz : ¬ (nxt s).r c = 0 := fun hz => hfine.1 (by unfold doI; simp [hz])
    have hd : doI ⟨6, a, b, c, k⟩ (nxt s) = (0, { nxt s with r := upd (nxt s).r a (wrap64 (((nxt s).r b).tdiv ((nxt s).r c))) }) := by unfold doI; simp; intro h; exact absurd h hz
    rw [hd]
    exact step_gen 204 206 (.agg #[.int .i64 a, .int .i64 b, .int .i64 c]) 0 _ g pb cap n s F o w h hp hn64 hn hi hpg (fun _ => by kernel_rfl) (fun _ => by kernel_rfl) (hide fun w1 h1 => sdiv_do a b c ha' hb' hc' g _ _ F o w1 h1 (by simpa using hz))
  · by_cases h7 : i.o = 7
    · have hc := fit_cases hfit
      obtain ⟨op, a, b, c, k⟩ := i
      simp only at hc h7
      subst h7
      rcases hc with h | ⟨h, _⟩ | ⟨h, _⟩ | ⟨h, _⟩ | ⟨h, _⟩ | ⟨h, _⟩ | ⟨h, _⟩ | ⟨_, ha, hb⟩ | ⟨h, _⟩ | ⟨h, _⟩ | ⟨h, _⟩ | ⟨h, _⟩
      all_goals try (exact absurd h (by decide))
      obtain ⟨a, ha', rfl⟩ := ha.nat
      obtain ⟨b, hb', rfl⟩ := hb.nat
      have hz : 0 ≤ (nxt s).r b ∧ (nxt s).r b < 16 := Classical.byContradiction fun hz => hfine.2 (by unfold doI; simp only [Int.toNat_natCast]; simp [hz])
      have hd : doI ⟨7, a, b, c, k⟩ (nxt s) = (0, { nxt s with r := upd (nxt s).r a ((nxt s).m ((nxt s).r b).toNat) }) := by unfold doI; simp; exact hz
      rw [hd]
      exact step_gen 206 207 (.agg #[.int .i64 a, .int .i64 b]) 0 _ g pb cap n s F o w h hp hn64 hn hi hpg (fun _ => by kernel_rfl) (fun _ => by kernel_rfl) (hide fun w1 h1 => sload_do a b ((nxt s).r b).toNat ha' hb' (by omega) g _ _ F o w1 h1 (hide (by omega)))
    · by_cases h8 : i.o = 8
      · have hc := fit_cases hfit
        obtain ⟨op, a, b, c, k⟩ := i
        simp only at hc h8
        subst h8
        rcases hc with h | ⟨h, _⟩ | ⟨h, _⟩ | ⟨h, _⟩ | ⟨h, _⟩ | ⟨h, _⟩ | ⟨h, _⟩ | ⟨h, _⟩ | ⟨_, ha, hb⟩ | ⟨h, _⟩ | ⟨h, _⟩ | ⟨h, _⟩
        all_goals try (exact absurd h (by decide))
        obtain ⟨a, ha', rfl⟩ := ha.nat
        obtain ⟨b, hb', rfl⟩ := hb.nat
        have hz : 0 ≤ (nxt s).r a ∧ (nxt s).r a < 16 := Classical.byContradiction fun hz => hfine.2 (by unfold doI; simp only [Int.toNat_natCast]; simp [hz])
        have hd : doI ⟨8, a, b, c, k⟩ (nxt s) = (0, { nxt s with m := upd (nxt s).m ((nxt s).r a).toNat ((nxt s).r b) }) := by unfold doI; simp; exact hz
        rw [hd]
        exact step_gen 208 208 (.agg #[.int .i64 a, .int .i64 b]) 0 _ g pb cap n s F o w h hp hn64 hn hi hpg (fun _ => by kernel_rfl) (fun _ => by kernel_rfl) (hide fun w1 h1 => sstore_do a b ((nxt s).r a).toNat ha' hb' (by omega) g _ _ F o w1 h1 (hide (by omega)))
      · rw [sVal_else h6 h7 h8] at hi
        exact step_any i g pb cap n s F o w h hp hn64 hn hi hpg hfit
/-- a runner of what was taken -/
theorem runner_sure {l : List I5} (hl : AllFit l) {Can : MS → Prop} (hn : ∀ s, Can s → s.pc < l.length → (doAt l s).1 = 0 → Can (doAt l s).2) (hf : ∀ s, Can s → s.pc < l.length → Fine (insAt l s.pc) (nxt s)) : Runner sVal l Can :=
  ⟨hl, hn, fun g pb cap s F w h hpc hsn hc hne hcan => step_sure (insAt l s.pc) g pb cap l.length s F O4.zero w h hpc hl.2.1 hsn hc hne (by rw [insAt_get hpc]; exact hl.2.2 _ hpc) (hf s hcan hpc)⟩
end Go.Proofs.YtamiichlbmllcaaGreatDoor
/-
  What is taken goes on without looking; sureOf and Sure.
-/
namespace Go.Proofs.YtamiichlbmllcaaGreatDoor
open Go.RowKit
/-- a run of what was taken, somewhere on its way -/
def CanT (p : List I5) (cl : Nat → Option St) (e : St) (m : MS) : Prop := m.pc < p.length ∧ (∃ s, hereC p cl e m.pc = some s ∧ inS m.r s) ∧ ∀ j, I64 (m.m j)
theorem Taken.go {p : List I5} {cl : Nat → Option St} {e : St} (h : Taken p cl e) {m : MS} (hc : CanT p cl e m) : (doAt p m).1 = 1 ∨ ((doAt p m).1 = 0 ∧ CanT p cl e (doAt p m).2) := by
  obtain ⟨hpc, ⟨s, hs, hr⟩, hw⟩ := hc
  have hok := h.here_ok (by omega) hs
  have h0 := stepC_ok (h.steps.1 m.pc hpc)
  obtain ⟨hd, hf, ho⟩ := h0.2 s hs
  have hri := h.regs m.pc hpc
  have hsound := doI_sound (i := insAt p m.pc) (s := s) (m := nxt m) hri.1 ⟨hri.2.1, hri.2.2.1⟩ hok.2 hr hw hd
  rcases hsound with ⟨h1, _⟩ | ⟨h1, hw2, hc⟩
  · exact Or.inl h1
  · refine Or.inr ⟨h1, ?_⟩
    have hnext : (doAt p m).2.pc < p.length ∧ ∃ t, hereC p cl e (doAt p m).2.pc = some t ∧ inS (doAt p m).2.r t := by
      rcases hc with ⟨hp, s', hs', hr'⟩ | ⟨h9, hp, s', hs', hr'⟩
      · have hp2 : (doAt p m).2.pc = m.pc + 1 := hp
        rw [hp2]
        refine h.arrive (n := m.pc + 1) (by omega) ?_ hr'
        show (stepC p cl m.pc (comeC p cl e m.pc)).2 = some s'
        rw [ho]; exact hs'
      · have hp2 : (doAt p m).2.pc = (insAt p m.pc).k.toNat := hp
        have hj := h.jump m.pc hpc h9
        rw [hp2]
        refine ⟨hj.2, ?_⟩
        have hl := hf h9
        rw [hs'] at hl
        obtain ⟨t, ht, hlt⟩ := liesO_some hl
        refine ⟨t, ?_, inS_lies hr' hlt⟩
        unfold hereC
        rw [if_pos (markB_of hpc h9 hj.1)]; exact ht
    exact ⟨hnext.1, hnext.2, hw2⟩
theorem runner_taken {l : List I5} (hl : AllFit l) {cl : Nat → Option St} {e : St} (h : Taken l cl e) : Runner sVal l (CanT l cl e) :=
  runner_sure hl (fun s hs hpc h0 => by
    rcases h.go hs with h1 | h1
    · rw [h1] at h0; cases h0
    · exact h1.2) (fun s hs hpc => by
    rcases h.go hs with h1 | h1
    · exact ⟨by show (doAt l s).1 ≠ 3; rw [h1]; decide, by show (doAt l s).1 ≠ 4; rw [h1]; decide⟩
    · exact ⟨by show (doAt l s).1 ≠ 3; rw [h1.1]; decide, by show (doAt l s).1 ≠ 4; rw [h1.1]; decide⟩)
theorem can_start {l : List I5} {cl : Nat → Option St} {e : St} (h : Taken l cl e) {r : Nat → Int} (hr : inS r e) : CanT l cl e (startS r) := by
  obtain ⟨h0, h1⟩ := h.arrive (n := 0) (by omega) (r := r) (s := e) rfl hr
  exact ⟨h0, h1, fun j => by show I64 0; unfold I64; omega⟩
set_option maxHeartbeats 1000000 in
set_option maxRecDepth 100000 in
theorem sureOf_no (T : Nat) (v : Value) (h1 : T ≠ 190) (h2 : T ≠ 191) (h3 : T ≠ 192) (w : World) : Calls Tryz.prog 74 #[.iface T v] w fun e w' => e = .returned (.iface T v) ∧ Below w.heap.size w w' := by
  have hk := Kn.nil [] w
  go_enter Tryz.func74, Tryz.ntmps74
  go_wp2_with (first | ((with_reducible show wpList _ _ _ _ _ _); (first | ((with_reducible show wpList _ _ _ (⟨_, _, _, _, _, some _⟩ :: _) _ _); refine wpList_skip (by rfl) ?_; simp only [Act.put, List.setIfInBounds_toArray, List.set_cons_succ, List.set_cons_zero]) | ((first | refine wBuild hk ?_ | refine wFieldZ hk ?_ | refine wField0 hk ?_ | refine wField hk ?_ | refine wIndexA0 hk ?_ | refine wIndexS0 hk ?_ | refine wIndexA hk ?_ | refine wIndexS hk ?_ | refine wLoadR hk ?_ | refine wLoad1 hk ?_ | refine wOldR hk ?_ | refine wOld1 hk ?_ | refine wOldC hk ?_ | refine wOldG hk ?_ | refine wAssertY hk ?_ | refine wAssertN hk ?_); simp only [Act.put, List.setIfInBounds_toArray, List.set_cons_succ, List.set_cons_zero]) | ((first | refine wBox hk ?_ | refine wBox1I hk ?_ | refine wBox1B hk ?_ | refine wBox1S hk ?_ | refine wBox1P hk ?_ | refine wBox1F hk ?_ | refine wAllocR hk ?_ | refine wAlloc1 hk ?_ | refine wMake hk ?_); clear hk; intro w1 hk; simp only [Act.put, List.setIfInBounds_toArray, List.set_cons_succ, List.set_cons_zero]) | ((first | refine wStoreR hk ?_ | refine wStore1I hk ?_ | refine wStore1B hk ?_ | refine wStore1S hk ?_ | refine wStore1P hk ?_ | refine wStore1F hk ?_); clear hk; intro w1 hk; simp only [Act.put]))))
  go_ret
  exact ⟨rfl, hk.mod.below⟩
theorem build_sd (x y z : Int) (w : World) : (Instr.build 204 [(0, .agg #[.int .i64 x, .int .i64 y, .int .i64 z])].toArray).run Tryz.prog w = .ok (.agg #[.int .i64 x, .int .i64 y, .int .i64 z]) w := run_build w _ _ _ (by kernel_rfl)
theorem build_sl (x y : Int) (w : World) : (Instr.build 206 [(0, .agg #[.int .i64 x, .int .i64 y])].toArray).run Tryz.prog w = .ok (.agg #[.int .i64 x, .int .i64 y]) w := run_build w _ _ _ (by kernel_rfl)
theorem build_ss (x y : Int) (w : World) : (Instr.build 208 [(0, .agg #[.int .i64 x, .int .i64 y])].toArray).run Tryz.prog w = .ok (.agg #[.int .i64 x, .int .i64 y]) w := run_build w _ _ _ (by kernel_rfl)
set_option maxHeartbeats 1000000 in
set_option maxRecDepth 100000 in
theorem sureOf_div (a b c : Int) (w : World) : Calls Tryz.prog 74 #[.iface 190 (.agg #[.int .i64 a, .int .i64 b, .int .i64 c])] w fun e w' => e = .returned (.iface 204 (.agg #[.int .i64 a, .int .i64 b, .int .i64 c])) ∧ Below w.heap.size w w' := by
  have hk := Kn.nil [] w
  go_enter Tryz.func74, Tryz.ntmps74
  go_wp2_with (first | (refine wBuild hk ?_ (hb := build_sd _ _ _ _); simp only [Act.put, List.setIfInBounds_toArray, List.set_cons_succ, List.set_cons_zero]) | ((with_reducible show wpList _ _ _ _ _ _); (first | ((with_reducible show wpList _ _ _ (⟨_, _, _, _, _, some _⟩ :: _) _ _); refine wpList_skip (by rfl) ?_; simp only [Act.put, List.setIfInBounds_toArray, List.set_cons_succ, List.set_cons_zero]) | ((first | refine wBuild hk ?_ | refine wFieldZ hk ?_ | refine wField0 hk ?_ | refine wField hk ?_ | refine wIndexA0 hk ?_ | refine wIndexS0 hk ?_ | refine wIndexA hk ?_ | refine wIndexS hk ?_ | refine wLoadR hk ?_ | refine wLoad1 hk ?_ | refine wOldR hk ?_ | refine wOld1 hk ?_ | refine wOldC hk ?_ | refine wOldG hk ?_ | refine wAssertY hk ?_ | refine wAssertN hk ?_); simp only [Act.put, List.setIfInBounds_toArray, List.set_cons_succ, List.set_cons_zero]) | ((first | refine wBox hk ?_ | refine wBox1I hk ?_ | refine wBox1B hk ?_ | refine wBox1S hk ?_ | refine wBox1P hk ?_ | refine wBox1F hk ?_ | refine wAllocR hk ?_ | refine wAlloc1 hk ?_ | refine wMake hk ?_); clear hk; intro w1 hk; simp only [Act.put, List.setIfInBounds_toArray, List.set_cons_succ, List.set_cons_zero]) | ((first | refine wStoreR hk ?_ | refine wStore1I hk ?_ | refine wStore1B hk ?_ | refine wStore1S hk ?_ | refine wStore1P hk ?_ | refine wStore1F hk ?_); clear hk; intro w1 hk; simp only [Act.put]))))
  go_ret
  exact ⟨rfl, hk.mod.below⟩
set_option maxHeartbeats 1000000 in
set_option maxRecDepth 100000 in
theorem sureOf_load (a b : Int) (w : World) : Calls Tryz.prog 74 #[.iface 191 (.agg #[.int .i64 a, .int .i64 b])] w fun e w' => e = .returned (.iface 206 (.agg #[.int .i64 a, .int .i64 b])) ∧ Below w.heap.size w w' := by
  have hk := Kn.nil [] w
  go_enter Tryz.func74, Tryz.ntmps74
  go_wp2_with (first | (refine wBuild hk ?_ (hb := build_sl _ _ _); simp only [Act.put, List.setIfInBounds_toArray, List.set_cons_succ, List.set_cons_zero]) | ((with_reducible show wpList _ _ _ _ _ _); (first | ((with_reducible show wpList _ _ _ (⟨_, _, _, _, _, some _⟩ :: _) _ _); refine wpList_skip (by rfl) ?_; simp only [Act.put, List.setIfInBounds_toArray, List.set_cons_succ, List.set_cons_zero]) | ((first | refine wBuild hk ?_ | refine wFieldZ hk ?_ | refine wField0 hk ?_ | refine wField hk ?_ | refine wIndexA0 hk ?_ | refine wIndexS0 hk ?_ | refine wIndexA hk ?_ | refine wIndexS hk ?_ | refine wLoadR hk ?_ | refine wLoad1 hk ?_ | refine wOldR hk ?_ | refine wOld1 hk ?_ | refine wOldC hk ?_ | refine wOldG hk ?_ | refine wAssertY hk ?_ | refine wAssertN hk ?_); simp only [Act.put, List.setIfInBounds_toArray, List.set_cons_succ, List.set_cons_zero]) | ((first | refine wBox hk ?_ | refine wBox1I hk ?_ | refine wBox1B hk ?_ | refine wBox1S hk ?_ | refine wBox1P hk ?_ | refine wBox1F hk ?_ | refine wAllocR hk ?_ | refine wAlloc1 hk ?_ | refine wMake hk ?_); clear hk; intro w1 hk; simp only [Act.put, List.setIfInBounds_toArray, List.set_cons_succ, List.set_cons_zero]) | ((first | refine wStoreR hk ?_ | refine wStore1I hk ?_ | refine wStore1B hk ?_ | refine wStore1S hk ?_ | refine wStore1P hk ?_ | refine wStore1F hk ?_); clear hk; intro w1 hk; simp only [Act.put]))))
  go_ret
  exact ⟨rfl, hk.mod.below⟩
set_option maxHeartbeats 1000000 in
set_option maxRecDepth 100000 in
theorem sureOf_store (a b : Int) (w : World) : Calls Tryz.prog 74 #[.iface 192 (.agg #[.int .i64 a, .int .i64 b])] w fun e w' => e = .returned (.iface 208 (.agg #[.int .i64 a, .int .i64 b])) ∧ Below w.heap.size w w' := by
  have hk := Kn.nil [] w
  go_enter Tryz.func74, Tryz.ntmps74
  go_wp2_with (first | (refine wBuild hk ?_ (hb := build_ss _ _ _); simp only [Act.put, List.setIfInBounds_toArray, List.set_cons_succ, List.set_cons_zero]) | ((with_reducible show wpList _ _ _ _ _ _); (first | ((with_reducible show wpList _ _ _ (⟨_, _, _, _, _, some _⟩ :: _) _ _); refine wpList_skip (by rfl) ?_; simp only [Act.put, List.setIfInBounds_toArray, List.set_cons_succ, List.set_cons_zero]) | ((first | refine wBuild hk ?_ | refine wFieldZ hk ?_ | refine wField0 hk ?_ | refine wField hk ?_ | refine wIndexA0 hk ?_ | refine wIndexS0 hk ?_ | refine wIndexA hk ?_ | refine wIndexS hk ?_ | refine wLoadR hk ?_ | refine wLoad1 hk ?_ | refine wOldR hk ?_ | refine wOld1 hk ?_ | refine wOldC hk ?_ | refine wOldG hk ?_ | refine wAssertY hk ?_ | refine wAssertN hk ?_); simp only [Act.put, List.setIfInBounds_toArray, List.set_cons_succ, List.set_cons_zero]) | ((first | refine wBox hk ?_ | refine wBox1I hk ?_ | refine wBox1B hk ?_ | refine wBox1S hk ?_ | refine wBox1P hk ?_ | refine wBox1F hk ?_ | refine wAllocR hk ?_ | refine wAlloc1 hk ?_ | refine wMake hk ?_); clear hk; intro w1 hk; simp only [Act.put, List.setIfInBounds_toArray, List.set_cons_succ, List.set_cons_zero]) | ((first | refine wStoreR hk ?_ | refine wStore1I hk ?_ | refine wStore1B hk ?_ | refine wStore1S hk ?_ | refine wStore1P hk ?_ | refine wStore1F hk ?_); clear hk; intro w1 hk; simp only [Act.put]))))
  go_ret
  exact ⟨rfl, hk.mod.below⟩
end Go.Proofs.YtamiichlbmllcaaGreatDoor
