/-
  The contract of machine.Run, for every right program.
-/
import Derived.Test.YtkihfcdmdofjhaaGreatDoorRunS
import Derived.Deep.LoopGhost
namespace Go.Proofs.YtkihfcdmdofjhaaGreatDoor
open Go.RowKit
/-- a machine that runs: so much fuel is left, and this is what will come of it -/
structure Live (W wr : World) (g pb cap : Nat) (l : List I5) (F : Nat) (res : List V9 × O4) (k : Nat) (s : MS) : Prop where
  row : MRow wr g (.slice (some ⟨pb, 0, none⟩) l.length cap) s F O4.zero
  own : OwnP wr W.heap.size (.slice (some ⟨pb, 0, none⟩) l.length cap) l
  bel : Below W.heap.size W wr
  hpc : s.pc ≤ l.length
  hk : s.n + k = F
  hres : runR l k s = res
/-- one that has ended -/
structure Over (W wr : World) (g pb cap : Nat) (l : List I5) (F : Nat) (o : O4) : Prop where
  row : ∃ s, MRow wr g (.slice (some ⟨pb, 0, none⟩) l.length cap) s F o
  bel : Below W.heap.size W wr
  hk : o.kind ≠ 0
theorem endO_kind (k p : Int) (s : MS) : (endO k p s).kind = k := rfl
theorem Live.ready {W wr : World} {g pb cap : Nat} {l : List I5} {F : Nat} {res : List V9 × O4} {k : Nat} {s : MS} (h : Live W wr g pb cap l F res k s) (hg : W.heap.size ≤ g) :
    (∃ k', k = k' + 1 ∧ s.pc < l.length ∧ Calls Tryz.prog 51 #[.pointer (some ⟨g, 0, none⟩)] wr fun e w' => e = .returned (.bool true) ∧ Live W w' g pb cap l F res k s ∧ But g wr w') ∨
    (res.1 = [] ∧ Calls Tryz.prog 51 #[.pointer (some ⟨g, 0, none⟩)] wr fun e w' => e = .returned (.bool false) ∧ Over W w' g pb cap l F res.2 ∧ But g wr w') := by
  have hk0 : (O4.zero.kind != 0) = false := rfl
  have hsz := h.bel.size
  by_cases hp : s.pc = l.length
  · right
    have hr := h.hres
    rw [runR_end hp] at hr
    refine ⟨by rw [← hr], (ready_end g _ _ _ s _ _ wr h.row hk0 (by simp; omega)).mono ?_⟩
    rintro e w' ⟨he, h2, b2⟩
    rw [← hr]
    exact ⟨he, ⟨⟨_, h2⟩, h.bel.trans (b2.below hg hsz), by rw [endO_kind]; omega⟩, b2⟩
  · have hpb : ((s.pc : Int) == (l.length : Int)) = false := by rw [beq_eq_false_iff_ne]; omega
    match k, h with
    | 0, h =>
      right
      have hr := h.hres
      rw [runR_fuel hp] at hr
      have hk := h.hk
      refine ⟨by rw [← hr], (ready_fuel g _ _ _ s _ _ wr h.row hk0 hpb (by simp; omega)).mono ?_⟩
      rintro e w' ⟨he, h2, b2⟩
      rw [← hr]
      exact ⟨he, ⟨⟨_, h2⟩, h.bel.trans (b2.below hg hsz), by rw [endO_kind]; omega⟩, b2⟩
    | k + 1, h =>
      left
      have hk := h.hk
      have hpc := h.hpc
      refine ⟨k, rfl, by omega, (ready_go g _ _ _ s _ _ wr h.row hk0 hpb (by rw [beq_eq_false_iff_ne]; omega)).mono ?_⟩
      rintro e w' ⟨he, b2⟩
      exact ⟨he, ⟨h.row.bel b2, own_bel h.own b2, h.bel.trans (b2.mono hsz), h.hpc, h.hk, h.hres⟩, But.ofBelow b2⟩
/-- behind a step: it runs on, or it has ended; what was come to -/
def Stepped (W w' : World) (g pb cap : Nat) (l : List I5) (F : Nat) (res : List V9 × O4) (k : Nat) (s : MS) : Prop :=
  (∃ s' vs, res = (⟨s.pc, s.r⟩ :: vs, res.2) ∧ Live W w' g pb cap l F (vs, res.2) k s') ∨ (res.1 = [⟨s.pc, s.r⟩] ∧ Over W w' g pb cap l F res.2)
theorem Live.step {W wr : World} {g pb cap : Nat} {l : List I5} {F : Nat} {res : List V9 × O4} {k : Nat} {s : MS} (h : Live W wr g pb cap l F res (k + 1) s) (hg : W.heap.size ≤ g) (hne : pb ≠ g) (hl : AllFit l) (hF : F ≤ 10000) (hpc : s.pc < l.length) :
    Calls Tryz.prog 52 #[.pointer (some ⟨g, 0, none⟩)] wr fun e w' => e = .returned (.tuple #[]) ∧ Stepped W w' g pb cap l F res k s ∧ But g wr w' := by
  have hk := h.hk
  have hsz := h.bel.size
  refine (step_any (insAt l s.pc) g pb cap l.length s F O4.zero wr h.row hpc hl.2.1 (by omega) (h.own.cell s.pc hpc) hne (by rw [insAt_get hpc]; exact hl.2.2 _ hpc)).mono ?_
  rintro e w' ⟨he, h2, b2⟩
  refine ⟨he, ?_, b2⟩
  have hr := h.hres
  by_cases hd : (doAt l s).1 = 0
  · left
    rw [runR_go (by omega) hd] at hr
    refine ⟨(doAt l s).2, (runR l k (doAt l s).2).1, by rw [← hr], ?_, h.own.but b2 hne, h.bel.trans (b2.below hg hsz), doAt_pc hl hpc, by rw [doAt_n]; omega, by rw [← hr]⟩
    have : outO (doI (insAt l s.pc) (nxt s)).1 s.pc (doI (insAt l s.pc) (nxt s)).2 O4.zero = O4.zero := by
      unfold outO; exact if_pos hd
    rw [this] at h2
    exact h2
  · right
    rw [runR_stop (by omega) hd] at hr
    have : outO (doI (insAt l s.pc) (nxt s)).1 s.pc (doI (insAt l s.pc) (nxt s)).2 O4.zero = res.2 := by
      unfold outO; rw [← hr]; exact if_neg hd
    rw [this] at h2
    exact ⟨by rw [← hr], ⟨_, h2⟩, h.bel.trans (b2.below hg hsz), by rw [← hr]; exact hd⟩
theorem Over.ready {W wr : World} {g pb cap : Nat} {l : List I5} {F : Nat} {o : O4} (h : Over W wr g pb cap l F o) :
    Calls Tryz.prog 51 #[.pointer (some ⟨g, 0, none⟩)] wr fun e w' => e = .returned (.bool false) ∧ Over W w' g pb cap l F o ∧ But g wr w' := by
  obtain ⟨⟨s, hr⟩, hb, hk⟩ := h
  refine (ready_over g _ s _ o wr hr (by simpa using hk)).mono ?_
  rintro e w' ⟨he, rfl⟩
  exact ⟨he, ⟨⟨s, hr⟩, hb, hk⟩, But.refl _ _⟩
theorem start_live {w : World} {l : List I5} {r : Nat → Int} {f : Int} {e : Ending} {w' : World} (h : StartP w l r f e w') (hl : AllFit l) :
    ∃ g pb cap, e = .returned (.pointer (some ⟨g, 0, none⟩)) ∧ w.heap.size ≤ g ∧ pb ≠ g ∧ Live w w' g pb cap l (fuelI f).toNat (runR l (fuelI f).toNat (startS r)) (fuelI f).toNat (startS r) := by
  obtain ⟨g, pv, he, hr, ho, hg, hne, hb⟩ := h
  obtain ⟨pb, cap, rfl, _, _⟩ := own_shape ho hl.1
  refine ⟨g, pb, cap, he, hg, fun e => hne (by rw [e]; rfl), ?_, ho, hb, Nat.zero_le _, Nat.zero_add _, rfl⟩
  rw [Int.toNat_of_nonneg (fuelI_bd f).1]
  exact hr
theorem Live.keep {W wr w' : World} {g pb cap : Nat} {l : List I5} {F : Nat} {res : List V9 × O4} {k B : Nat} {s : MS} (h : Live W wr g pb cap l F res k s) (hb : Below B wr w') (hg : g < B) (hp : pb < B) (hW : W.heap.size ≤ B) : Live W w' g pb cap l F res k s := by
  refine ⟨RowF.block h.row (hb.block g hg), ?_, h.bel.trans (hb.mono hW), h.hpc, h.hk, h.hres⟩
  refine ⟨h.own.1, ?_⟩
  rcases h.own.2 with h2 | ⟨g2, cap2, cur, h3, h4, hh, r⟩
  · exact Or.inl h2
  · simp only [Value.slice.injEq, Option.some.injEq, Addr.mk.injEq, and_true] at h3
    obtain ⟨rfl, _, rfl⟩ := h3
    exact Or.inr ⟨pb, cap, cur, rfl, h4, by rw [hb.block pb hp]; exact hh, r⟩
end Go.Proofs.YtkihfcdmdofjhaaGreatDoor
