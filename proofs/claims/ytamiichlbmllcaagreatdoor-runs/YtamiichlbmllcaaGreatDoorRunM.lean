/-
  How a program runs, whose instructions do what they should.
-/
import Derived.Test.YtamiichlbmllcaaGreatDoorRunS
import Derived.Deep.LoopGhost
namespace Go.Proofs.YtamiichlbmllcaaGreatDoor
open Go.RowKit
/-- instructions, as vf has them, do what they should wherever the machine can be -/
structure Runner (vf : I5 → Value) (l : List I5) (Can : MS → Prop) : Prop where
  fit : AllFit l
  next : ∀ s, Can s → s.pc < l.length → (doAt l s).1 = 0 → Can (doAt l s).2
  step : ∀ (g pb cap : Nat) (s : MS) (F : Int) (w : World), MRow w g (.slice (some ⟨pb, 0, none⟩) l.length cap) s F O4.zero → s.pc < l.length → s.n < 1000000 → w.cell? ⟨pb, s.pc, none⟩ = some (vf (insAt l s.pc)) → pb ≠ g → Can s →
    Calls Tryz.prog 70 #[.pointer (some ⟨g, 0, none⟩)] w fun e w' => e = .returned (.tuple #[]) ∧ MRow w' g (.slice (some ⟨pb, 0, none⟩) l.length cap) (doI (insAt l s.pc) (nxt s)).2 F (outO (doI (insAt l s.pc) (nxt s)).1 s.pc (doI (insAt l s.pc) (nxt s)).2 O4.zero) ∧ But g w w'
theorem runner_plain {l : List I5} (hl : AllFit l) : Runner iVal l (fun _ => True) :=
  ⟨hl, fun _ _ _ _ => trivial, fun g pb cap s F w h hpc hn hc hne _ => step_any (insAt l s.pc) g pb cap l.length s F O4.zero w h hpc hl.2.1 hn hc hne (by rw [insAt_get hpc]; exact hl.2.2 _ hpc)⟩
/-- a machine that runs: so much fuel is left, and this is what will come of it -/
structure Live (vf : I5 → Value) (Can : MS → Prop) (W wr : World) (g pb cap : Nat) (l : List I5) (F : Nat) (res : List V9 × O4) (k : Nat) (s : MS) : Prop where
  row : MRow wr g (.slice (some ⟨pb, 0, none⟩) l.length cap) s F O4.zero
  prog : ProgAt wr pb vf l
  can : Can s
  bel : Below W.heap.size W wr
  hpc : s.pc ≤ l.length
  hk : s.n + k = F
  hres : runR l k s = res
/-- one that has ended -/
structure Over (W wr : World) (g pb cap : Nat) (l : List I5) (F : Nat) (o : O4) : Prop where
  row : ∃ s, MRow wr g (.slice (some ⟨pb, 0, none⟩) l.length cap) s F o
  bel : Below W.heap.size W wr
  hk : o.kind ≠ 0
theorem endO_kind (k p : Int) (s : MS) : (endO k p s).kind = k := rfl
theorem Live.ready {vf : I5 → Value} {Can : MS → Prop} {W wr : World} {g pb cap : Nat} {l : List I5} {F : Nat} {res : List V9 × O4} {k : Nat} {s : MS} (h : Live vf Can W wr g pb cap l F res k s) (hg : W.heap.size ≤ g) :
    (∃ k', k = k' + 1 ∧ s.pc < l.length ∧ Calls Tryz.prog 69 #[.pointer (some ⟨g, 0, none⟩)] wr fun e w' => e = .returned (.bool true) ∧ Live vf Can W w' g pb cap l F res k s ∧ But g wr w') ∨
    (res.1 = [] ∧ Calls Tryz.prog 69 #[.pointer (some ⟨g, 0, none⟩)] wr fun e w' => e = .returned (.bool false) ∧ Over W w' g pb cap l F res.2 ∧ But g wr w') := by
  have hk0 : (O4.zero.kind != 0) = false := rfl
  have hsz := h.bel.size
  by_cases hp : s.pc = l.length
  · right
    have hr := h.hres
    rw [runR_end hp] at hr
    refine ⟨by rw [← hr], (ready_end g _ _ _ s _ _ wr h.row hk0 (by simp; omega)).mono ?_⟩
    rintro e w' ⟨he, h2, b2⟩
    rw [← hr]
    exact ⟨he, ⟨⟨_, h2⟩, h.bel.trans (b2.below hg hsz), by rw [endO_kind]; omega⟩, b2⟩
  · have hpb : ((s.pc : Int) == (l.length : Int)) = false := by rw [beq_eq_false_iff_ne]; omega
    match k, h with
    | 0, h =>
      right
      have hr := h.hres
      rw [runR_fuel hp] at hr
      have hk := h.hk
      refine ⟨by rw [← hr], (ready_fuel g _ _ _ s _ _ wr h.row hk0 hpb (by simp; omega)).mono ?_⟩
      rintro e w' ⟨he, h2, b2⟩
      rw [← hr]
      exact ⟨he, ⟨⟨_, h2⟩, h.bel.trans (b2.below hg hsz), by rw [endO_kind]; omega⟩, b2⟩
    | k + 1, h =>
      left
      have hk := h.hk
      have hpc := h.hpc
      refine ⟨k, rfl, by omega, (ready_go g _ _ _ s _ _ wr h.row hk0 hpb (by rw [beq_eq_false_iff_ne]; omega)).mono ?_⟩
      rintro e w' ⟨he, b2⟩
      exact ⟨he, ⟨h.row.bel b2, h.prog.bel b2 h.prog.1, h.can, h.bel.trans (b2.mono hsz), h.hpc, h.hk, h.hres⟩, But.ofBelow b2⟩
/-- behind a step: it runs on, or it has ended; what was come to -/
def Stepped (vf : I5 → Value) (Can : MS → Prop) (W w' : World) (g pb cap : Nat) (l : List I5) (F : Nat) (res : List V9 × O4) (k : Nat) (s : MS) : Prop :=
  (∃ s' vs, res = (⟨s.pc, s.r⟩ :: vs, res.2) ∧ Live vf Can W w' g pb cap l F (vs, res.2) k s') ∨ (res.1 = [⟨s.pc, s.r⟩] ∧ Over W w' g pb cap l F res.2)
theorem Live.step {vf : I5 → Value} {Can : MS → Prop} {W wr : World} {g pb cap : Nat} {l : List I5} {F : Nat} {res : List V9 × O4} {k : Nat} {s : MS} (h : Live vf Can W wr g pb cap l F res (k + 1) s) (hg : W.heap.size ≤ g) (hne : pb ≠ g) (hN : Runner vf l Can) (hF : F ≤ 10000) (hpc : s.pc < l.length) :
    Calls Tryz.prog 70 #[.pointer (some ⟨g, 0, none⟩)] wr fun e w' => e = .returned (.tuple #[]) ∧ Stepped vf Can W w' g pb cap l F res k s ∧ But g wr w' := by
  have hk := h.hk
  have hsz := h.bel.size
  have hl := hN.fit
  refine (hN.step g pb cap s F wr h.row hpc (by omega) (h.prog.2 s.pc hpc) hne h.can).mono ?_
  rintro e w' ⟨he, h2, b2⟩
  refine ⟨he, ?_, b2⟩
  have hr := h.hres
  by_cases hd : (doAt l s).1 = 0
  · left
    rw [runR_go (by omega) hd] at hr
    refine ⟨(doAt l s).2, (runR l k (doAt l s).2).1, by rw [← hr], ?_, h.prog.but b2 hne, hN.next s h.can hpc hd, h.bel.trans (b2.below hg hsz), doAt_pc hl hpc, by rw [doAt_n]; omega, by rw [← hr]⟩
    have : outO (doI (insAt l s.pc) (nxt s)).1 s.pc (doI (insAt l s.pc) (nxt s)).2 O4.zero = O4.zero := by
      unfold outO; exact if_pos hd
    rw [this] at h2
    exact h2
  · right
    rw [runR_stop (by omega) hd] at hr
    have : outO (doI (insAt l s.pc) (nxt s)).1 s.pc (doI (insAt l s.pc) (nxt s)).2 O4.zero = res.2 := by
      unfold outO; rw [← hr]; exact if_neg hd
    rw [this] at h2
    exact ⟨by rw [← hr], ⟨_, h2⟩, h.bel.trans (b2.below hg hsz), by rw [← hr]; exact hd⟩
theorem Over.ready {W wr : World} {g pb cap : Nat} {l : List I5} {F : Nat} {o : O4} (h : Over W wr g pb cap l F o) :
    Calls Tryz.prog 69 #[.pointer (some ⟨g, 0, none⟩)] wr fun e w' => e = .returned (.bool false) ∧ Over W w' g pb cap l F o ∧ But g wr w' := by
  obtain ⟨⟨s, hr⟩, hb, hk⟩ := h
  refine (ready_over g _ s _ o wr hr (by simpa using hk)).mono ?_
  rintro e w' ⟨he, rfl⟩
  exact ⟨he, ⟨⟨s, hr⟩, hb, hk⟩, But.refl _ _⟩
theorem start_live {vf : I5 → Value} {Can : MS → Prop} {w : World} {l : List I5} {pb cap : Nat} {r : Nat → Int} {f : Int} {e : Ending} {w' : World} (h : StartP w pb cap l.length r f e w') (hp : ProgAt w pb vf l) (hc : Can (startS r)) :
    ∃ g, e = .returned (.pointer (some ⟨g, 0, none⟩)) ∧ w.heap.size ≤ g ∧ pb ≠ g ∧ Live vf Can w w' g pb cap l (fuelI f).toNat (runR l (fuelI f).toNat (startS r)) (fuelI f).toNat (startS r) := by
  obtain ⟨g, he, hr, hg, hb⟩ := h
  have := hp.1
  refine ⟨g, he, hg, by omega, ?_, hp.bel hb hp.1, hc, hb, Nat.zero_le _, Nat.zero_add _, rfl⟩
  rw [Int.toNat_of_nonneg (fuelI_bd f).1]
  exact hr
theorem Live.keep {vf : I5 → Value} {Can : MS → Prop} {W wr w' : World} {g pb cap : Nat} {l : List I5} {F : Nat} {res : List V9 × O4} {k B : Nat} {s : MS} (h : Live vf Can W wr g pb cap l F res k s) (hb : Below B wr w') (hg : g < B) (hp : pb < B) (hW : W.heap.size ≤ B) : Live vf Can W w' g pb cap l F res k s :=
  ⟨RowF.block h.row (hb.block g hg), h.prog.bel hb hp, h.can, h.bel.trans (hb.mono hW), h.hpc, h.hk, h.hres⟩
end Go.Proofs.YtamiichlbmllcaaGreatDoor
