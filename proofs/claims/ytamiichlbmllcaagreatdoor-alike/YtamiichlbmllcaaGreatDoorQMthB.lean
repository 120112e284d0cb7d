/-
  What a taken certificate says of runs: every state that the pass has holds the registers that the run has there.
-/
import Derived.Test.YtamiichlbmllcaaGreatDoorQChL
import Derived.Test.YtamiichlbmllcaaGreatDoorQRunM
namespace Go.Proofs.YtamiichlbmllcaaGreatDoor
open Go.RowKit
/-- registers lie in a state -/
def inS (r : Nat → Int) (s : St) : Prop := ∀ j, j < 8 → (s j).mem (r j)
theorem inS_lies {r : Nat → Int} {s t : St} (h : inS r s) (k : liesR s t = true) : inS r t := fun j hj => (lies_iff.1 k j hj).mem (h j hj)
theorem inS_upd {r : Nat → Int} {s : St} {a : Nat} {v : Int} {x : R2} (h : inS r s) (hv : x.mem v) : inS (upd r a v) (updS s a x) := fun j hj => by
  unfold upd updS
  by_cases e : j = a
  · rw [if_pos e, if_pos e]; exact hv
  · rw [if_neg e, if_neg e]; exact h j hj
theorem inS_narr {r : Nat → Int} {s : St} {a b : Nat} {x y : R2} (h : inS r s) (hx : x.mem (r a)) (hy : y.mem (r b)) : ∃ s', narrR s a x b y = some s' ∧ inS r s' := by
  unfold narrR
  rw [if_neg (by simp only [Bool.or_eq_true, not_or, emptyR, decide_eq_true_eq]; unfold R2.mem at *; omega)]
  refine ⟨_, rfl, fun j hj => ?_⟩
  by_cases e : j = b
  · subst e; rw [upd_same]; exact hy
  · rw [upd_other e]
    by_cases e2 : j = a
    · subst e2; rw [upd_same]; exact hx
    · rw [upd_other e2]; exact h j hj
/-- what an instruction does lies in what becomes of the state -/
theorem doI_sound {i : I5} {s : St} {m : MS} (hi : RegsIn i) (ho : 0 ≤ i.o ∧ i.o < 12) (h64 : s.in64) (hm : inS m.r s) (hw : ∀ j, I64 (m.m j)) (hd : dangR i s = 0) :
    ((doI i m).1 = 1 ∧ i.o = 0) ∨ ((doI i m).1 = 0 ∧ (∀ j, I64 ((doI i m).2.m j)) ∧
      (((doI i m).2.pc = m.pc ∧ ∃ s', flowOn i s = some s' ∧ inS (doI i m).2.r s') ∨ (9 ≤ i.o ∧ (doI i m).2.pc = i.k.toNat ∧ ∃ s', flowFar i s = some s' ∧ inS (doI i m).2.r s'))) := by
  obtain ⟨a0, b0, _, ha, hb, hc⟩ := hi
  have ma := hm _ ha
  have mb := hm _ hb
  have mc := hm _ hc
  have ia := h64 _ ha
  have ib := h64 _ hb
  unfold doI flowOn flowFar
  unfold dangR at hd
  by_cases h1 : i.o = 1
  · simp only [if_pos h1]; exact Or.inr ⟨trivial, hw, Or.inl ⟨trivial, _, rfl, inS_upd hm (by unfold R2.mem; simp)⟩⟩
  simp only [if_neg h1]
  by_cases h1 : i.o = 2
  · simp only [if_pos h1]; exact Or.inr ⟨trivial, hw, Or.inl ⟨trivial, _, rfl, inS_upd hm mb⟩⟩
  simp only [if_neg h1]
  by_cases h1 : i.o = 3
  · simp only [if_pos h1]; exact Or.inr ⟨trivial, hw, Or.inl ⟨trivial, _, rfl, inS_upd hm (sum_mem mb mc)⟩⟩
  simp only [if_neg h1]
  by_cases h1 : i.o = 4
  · simp only [if_pos h1]; exact Or.inr ⟨trivial, hw, Or.inl ⟨trivial, _, rfl, inS_upd hm (dif_mem mb mc)⟩⟩
  simp only [if_neg h1]
  by_cases h1 : i.o = 5
  · simp only [if_pos h1]; exact Or.inr ⟨trivial, hw, Or.inl ⟨trivial, _, rfl, inS_upd hm (prod_mem mb mc)⟩⟩
  simp only [if_neg h1]
  by_cases h1 : i.o = 6
  · rw [if_pos h1] at hd
    have hz : ¬ (m.r i.c.toNat = 0) := by
      intro e
      rw [if_pos (has_iff.2 (by rw [e] at mc; exact mc))] at hd
      cases hd
    simp only [if_pos h1, if_neg hz]
    exact Or.inr ⟨trivial, hw, Or.inl ⟨trivial, _, rfl, inS_upd hm (quo_mem ib mb mc)⟩⟩
  simp only [if_neg h1]
  rw [if_neg h1] at hd
  by_cases h1 : i.o = 7
  · rw [if_pos h1] at hd
    by_cases h2 : inRg (s i.b.toNat) ⟨0, 15⟩ = true
    · rw [inRg_iff] at h2
      unfold R2.mem at mb
      simp only at h2
      simp only [if_pos h1, if_pos (show 0 ≤ m.r i.b.toNat ∧ m.r i.b.toNat < 16 by omega)]
      exact Or.inr ⟨trivial, hw, Or.inl ⟨trivial, _, rfl, inS_upd hm (all_mem (hw _))⟩⟩
    · rw [if_neg h2] at hd; cases hd
  simp only [if_neg h1]
  rw [if_neg h1] at hd
  by_cases h1 : i.o = 8
  · rw [if_pos h1] at hd
    by_cases h2 : inRg (s i.a.toNat) ⟨0, 15⟩ = true
    · rw [inRg_iff] at h2
      unfold R2.mem at ma
      simp only at h2
      simp only [if_pos h1, if_pos (show 0 ≤ m.r i.a.toNat ∧ m.r i.a.toNat < 16 by omega)]
      refine Or.inr ⟨trivial, fun j => ?_, Or.inl ⟨trivial, _, rfl, hm⟩⟩
      unfold upd
      by_cases e : j = (m.r i.a.toNat).toNat
      · rw [if_pos e]; unfold R2.mem at mb; unfold R2.in64 I64 at *; omega
      · rw [if_neg e]; exact hw j
    · rw [if_neg h2] at hd; cases hd
  simp only [if_neg h1]
  by_cases h1 : i.o = 9
  · simp only [if_pos h1]; exact Or.inr ⟨trivial, hw, Or.inr ⟨by omega, trivial, _, rfl, hm⟩⟩
  simp only [if_neg h1]
  by_cases h1 : i.o = 10
  · simp only [if_pos h1]
    by_cases h2 : m.r i.a.toNat < m.r i.b.toNat
    · have hne : ¬ (i.a = i.b) := by intro e; rw [e] at h2; omega
      simp only [if_pos h2, if_neg hne]
      unfold R2.mem at ma mb
      unfold R2.in64 I64 at ia ib
      rw [if_neg (by omega)]
      obtain ⟨s', e1, e2⟩ := inS_narr (a := i.a.toNat) (b := i.b.toNat) (x := ⟨(s i.a.toNat).lo, min (s i.a.toNat).hi ((s i.b.toNat).hi - 1)⟩) (y := ⟨max (s i.b.toNat).lo ((s i.a.toNat).lo + 1), (s i.b.toNat).hi⟩) hm (by unfold R2.mem; simp only; omega) (by unfold R2.mem; simp only; omega)
      exact Or.inr ⟨trivial, hw, Or.inr ⟨by omega, trivial, s', e1, e2⟩⟩
    · simp only [if_neg h2]
      by_cases hne : i.a = i.b
      · simp only [if_pos hne]; exact Or.inr ⟨trivial, hw, Or.inl ⟨trivial, _, rfl, hm⟩⟩
      · simp only [if_neg hne]
        unfold R2.mem at ma mb
        obtain ⟨s', e1, e2⟩ := inS_narr (a := i.a.toNat) (b := i.b.toNat) (x := ⟨max (s i.a.toNat).lo (s i.b.toNat).lo, (s i.a.toNat).hi⟩) (y := ⟨(s i.b.toNat).lo, min (s i.b.toNat).hi (s i.a.toNat).hi⟩) hm (by unfold R2.mem; simp only; omega) (by unfold R2.mem; simp only; omega)
        exact Or.inr ⟨trivial, hw, Or.inl ⟨trivial, s', e1, e2⟩⟩
  simp only [if_neg h1]
  by_cases h1 : i.o = 11
  · simp only [if_pos h1]
    by_cases h2 : m.r i.a.toNat = m.r i.b.toNat
    · simp only [if_pos h2]
      by_cases hne : i.a = i.b
      · simp only [if_pos hne]; exact Or.inr ⟨trivial, hw, Or.inr ⟨by omega, trivial, _, rfl, hm⟩⟩
      · simp only [if_neg hne]
        unfold R2.mem at ma mb
        obtain ⟨s', e1, e2⟩ := inS_narr (a := i.a.toNat) (b := i.b.toNat) (x := comR (s i.a.toNat) (s i.b.toNat)) (y := comR (s i.a.toNat) (s i.b.toNat)) hm (by unfold R2.mem comR; simp only; omega) (by unfold R2.mem comR; simp only; omega)
        exact Or.inr ⟨trivial, hw, Or.inr ⟨by omega, trivial, s', e1, e2⟩⟩
    · have hne : ¬ (i.a = i.b) := by intro e; rw [e] at h2; exact h2 rfl
      simp only [if_neg h2, if_neg hne]
      unfold R2.mem at ma mb
      rw [if_neg (by unfold oneR; simp only [decide_eq_true_eq]; omega)]
      exact Or.inr ⟨trivial, hw, Or.inl ⟨trivial, _, rfl, hm⟩⟩
  simp only [if_neg h1]
  exact Or.inl ⟨trivial, by omega⟩
/-- what comes to an instruction from the one before it -/
def comeC (p : List I5) (cl : Nat → Option St) (e : St) : Nat → Option St
  | 0 => some e
  | n + 1 => (stepC p cl n (comeC p cl e n)).2
/-- the state ahead of an instruction -/
def hereC (p : List I5) (cl : Nat → Option St) (e : St) (n : Nat) : Option St := if markB p n then cl n else comeC p cl e n
theorem passC_spec {p : List I5} {cl : Nat → Option St} {e : St} : ∀ (k n : Nat), passC p cl k n (comeC p cl e n) = (0, 0) → (∀ j, j < k → (stepC p cl (n + j) (comeC p cl e (n + j))).1 = 0) ∧ comeC p cl e (n + k) = none
  | 0, n, h => by
    refine ⟨fun j hj => by omega, ?_⟩
    unfold passC at h
    rw [Nat.add_zero]
    cases hc : comeC p cl e n with
    | none => rfl
    | some s => rw [hc] at h; simp at h
  | k + 1, n, h => by
    unfold passC at h
    by_cases h0 : (stepC p cl n (comeC p cl e n)).1 = 0
    · rw [if_neg (by simp [h0])] at h
      have ih := passC_spec k (n + 1) h
      refine ⟨fun j hj => ?_, by rw [show n + (k + 1) = n + 1 + k by omega]; exact ih.2⟩
      cases j with
      | zero => exact h0
      | succ j => rw [show n + (j + 1) = n + 1 + j by omega]; exact ih.1 j (by omega)
    · rw [if_pos h0] at h
      simp only [Prod.mk.injEq] at h
      exact absurd h.1 h0
/-- what a step that goes on says -/
theorem stepC_ok {p : List I5} {cl : Nat → Option St} {n : Nat} {come : Option St} (h : (stepC p cl n come).1 = 0) :
    (markB p n = true → liesO come (cl n) = true) ∧ ∀ s, (if markB p n then cl n else come) = some s →
      dangR (insAt p n) s = 0 ∧ (9 ≤ (insAt p n).o → liesO (flowFar (insAt p n) s) (cl (insAt p n).k.toNat) = true) ∧ (stepC p cl n come).2 = flowOn (insAt p n) s := by
  unfold stepC at h ⊢
  by_cases h1 : (markB p n && !liesO come (cl n)) = true
  · rw [if_pos h1] at h; simp at h
  · rw [if_neg h1] at h ⊢
    refine ⟨fun hm => by simpa [hm] using h1, fun s hs => ?_⟩
    rw [hs] at h ⊢
    simp only at h ⊢
    by_cases h2 : dangR (insAt p n) s = 0
    · rw [if_neg (by simp [h2])] at h ⊢
      by_cases h3 : (decide (9 ≤ (insAt p n).o) && !liesO (flowFar (insAt p n) s) (cl (insAt p n).k.toNat)) = true
      · rw [if_pos h3] at h; simp at h
      · rw [if_neg h3]
        exact ⟨h2, fun h9 => by simpa [h9] using h3, rfl⟩
    · rw [if_pos h2] at h; exact absurd h h2
theorem stepC_none {p : List I5} {cl : Nat → Option St} {n : Nat} {come : Option St} (h : (if markB p n then cl n else come) = none) : (stepC p cl n come).2 = none := by
  unfold stepC
  split
  · rfl
  · rw [h]
/-- a certificate that is taken -/
structure Taken (p : List I5) (cl : Nat → Option St) (e : St) : Prop where
  regs : ∀ n, n < p.length → RegsIn (insAt p n) ∧ 0 ≤ (insAt p n).o ∧ (insAt p n).o < 12 ∧ I64 (insAt p n).k
  jump : ∀ n, n < p.length → 9 ≤ (insAt p n).o → 0 ≤ (insAt p n).k ∧ (insAt p n).k.toNat < p.length
  pass : passC p cl p.length 0 (some e) = (0, 0)
  clok : ∀ n s, cl n = some s → s.ok ∧ s.in64
  eok : e.ok ∧ e.in64
theorem liesO_some {s : St} {y : Option St} (h : liesO (some s) y = true) : ∃ t, y = some t ∧ liesR s t = true := by
  cases y with
  | none => cases h
  | some t => exact ⟨t, rfl, h⟩
theorem Taken.steps {p : List I5} {cl : Nat → Option St} {e : St} (h : Taken p cl e) : (∀ n, n < p.length → (stepC p cl n (comeC p cl e n)).1 = 0) ∧ comeC p cl e p.length = none := by
  have := passC_spec p.length 0 h.pass
  simpa using this
theorem Taken.come_ok {p : List I5} {cl : Nat → Option St} {e : St} (h : Taken p cl e) : ∀ n, n ≤ p.length → ∀ s, comeC p cl e n = some s → s.ok ∧ s.in64
  | 0, _, s, hs => by
    unfold comeC at hs
    simp only [Option.some.injEq] at hs
    rw [← hs]; exact h.eok
  | n + 1, hn, s, hs => by
    have ih := h.come_ok n (by omega)
    unfold comeC at hs
    have h0 := stepC_ok (h.steps.1 n (by omega))
    cases hh : (if markB p n then cl n else comeC p cl e n) with
    | none => rw [stepC_none hh] at hs; cases hs
    | some t =>
      have ht : t.ok ∧ t.in64 := by
        split at hh
        · exact h.clok n t hh
        · exact ih t hh
      obtain ⟨_, _, h3⟩ := h0.2 t hh
      rw [h3] at hs
      have hr := h.regs n (by omega)
      exact flowOn_keeps hr.1 hr.2.2.2 ht.1 ht.2 hs
theorem Taken.here_ok {p : List I5} {cl : Nat → Option St} {e : St} (h : Taken p cl e) {n : Nat} (hn : n ≤ p.length) {s : St} (hs : hereC p cl e n = some s) : s.ok ∧ s.in64 := by
  unfold hereC at hs
  split at hs
  · exact h.clok n s hs
  · exact h.come_ok n hn s hs
theorem markB_of {p : List I5} {n : Nat} (hn : n < p.length) (h9 : 9 ≤ (insAt p n).o) (hk : 0 ≤ (insAt p n).k) : markB p (insAt p n).k.toNat = true := by
  unfold markB
  rw [List.any_eq_true]
  refine ⟨insAt p n, ?_, ?_⟩
  · unfold insAt; rw [List.getElem?_eq_getElem hn]; exact List.getElem_mem hn
  · simp [h9]; omega
/-- registers that come to n with what comes there lie in the state there -/
theorem Taken.arrive {p : List I5} {cl : Nat → Option St} {e : St} (h : Taken p cl e) {n : Nat} (hn : n ≤ p.length) {r : Nat → Int} {s : St} (hs : comeC p cl e n = some s) (hr : inS r s) : n < p.length ∧ ∃ t, hereC p cl e n = some t ∧ inS r t := by
  have hlt : n < p.length := by
    rcases Nat.lt_or_eq_of_le hn with h1 | h1
    · exact h1
    · rw [h1, h.steps.2] at hs; cases hs
  refine ⟨hlt, ?_⟩
  unfold hereC
  by_cases hm : markB p n = true
  · rw [if_pos hm]
    have h1 := (stepC_ok (h.steps.1 n hlt)).1 hm
    rw [hs] at h1
    obtain ⟨t, ht, hl⟩ := liesO_some h1
    exact ⟨t, ht, inS_lies hr hl⟩
  · rw [if_neg hm]; exact ⟨s, hs, hr⟩
/-- a run of what is taken -/
theorem Taken.run {p : List I5} {cl : Nat → Option St} {e : St} (h : Taken p cl e) : ∀ (k : Nat) (m : MS), m.pc < p.length → (∃ s, hereC p cl e m.pc = some s ∧ inS m.r s) → (∀ j, I64 (m.m j)) →
    ((runR p k m).2.kind = 1 ∨ (runR p k m).2.kind = 2) ∧ ∀ v, v ∈ (runR p k m).1 → ∃ s, hereC p cl e v.pc = some s ∧ inS v.r s
  | 0, m, hpc, _, _ => by
    rw [runR_fuel (by omega)]
    exact ⟨Or.inr rfl, fun v hv => by cases hv⟩
  | k + 1, m, hpc, hg, hw => by
    obtain ⟨s, hs, hr⟩ := hg
    have hok := h.here_ok (by omega) hs
    have h0 := stepC_ok (h.steps.1 m.pc hpc)
    obtain ⟨hd, hf, ho⟩ := h0.2 s hs
    have hri := h.regs m.pc hpc
    have hsound := doI_sound (i := insAt p m.pc) (s := s) (m := nxt m) hri.1 ⟨hri.2.1, hri.2.2.1⟩ hok.2 hr hw hd
    rcases hsound with ⟨h1, _⟩ | ⟨h1, hw2, hc⟩
    · have e1 : (doAt p m).1 ≠ 0 := by show (doI (insAt p m.pc) (nxt m)).1 ≠ 0; rw [h1]; omega
      rw [runR_stop (by omega) e1]
      refine ⟨Or.inl ?_, fun v hv => ?_⟩
      · exact h1
      · simp only [List.mem_singleton] at hv
        rw [hv]; exact ⟨s, hs, hr⟩
    · have e1 : (doAt p m).1 = 0 := h1
      rw [runR_go (by omega) e1]
      have hnext : (doAt p m).2.pc < p.length ∧ ∃ t, hereC p cl e (doAt p m).2.pc = some t ∧ inS (doAt p m).2.r t := by
        rcases hc with ⟨hp, s', hs', hr'⟩ | ⟨h9, hp, s', hs', hr'⟩
        · have hp2 : (doAt p m).2.pc = m.pc + 1 := hp
          rw [hp2]
          refine h.arrive (n := m.pc + 1) (by omega) ?_ hr'
          show (stepC p cl m.pc (comeC p cl e m.pc)).2 = some s'
          rw [ho]; exact hs'
        · have hp2 : (doAt p m).2.pc = (insAt p m.pc).k.toNat := hp
          have hj := h.jump m.pc hpc h9
          rw [hp2]
          refine ⟨hj.2, ?_⟩
          have hl := hf h9
          rw [hs'] at hl
          obtain ⟨t, ht, hlt⟩ := liesO_some hl
          refine ⟨t, ?_, inS_lies hr' hlt⟩
          unfold hereC
          rw [if_pos (markB_of hpc h9 hj.1)]; exact ht
      have ih := h.run k (doAt p m).2 hnext.1 hnext.2 hw2
      refine ⟨ih.1, fun v hv => ?_⟩
      rcases List.mem_cons.1 hv with hv | hv
      · rw [hv]; exact ⟨s, hs, hr⟩
      · exact ih.2 v hv
/-- a run within the entry -/
theorem Taken.safe {p : List I5} {cl : Nat → Option St} {e : St} (h : Taken p cl e) (r : Nat → Int) (hr : inS r e) (k : Nat) :
    ((runR p k (startS r)).2.kind = 1 ∨ (runR p k (startS r)).2.kind = 2) ∧ ∀ v, v ∈ (runR p k (startS r)).1 → markB p v.pc = true → ∃ s, cl v.pc = some s ∧ inS v.r s := by
  obtain ⟨h0, h1⟩ := h.arrive (n := 0) (by omega) (r := r) (s := e) rfl hr
  have := h.run k (startS r) h0 h1 (fun j => by show I64 0; unfold I64; omega)
  refine ⟨this.1, fun v hv hm => ?_⟩
  obtain ⟨s, hs, hi⟩ := this.2 v hv
  unfold hereC at hs
  rw [if_pos hm] at hs
  exact ⟨s, hs, hi⟩
theorem liesO_trans {x y z : Option St} (h : liesO x y = true) (k : liesO y z = true) : liesO x z = true := by
  cases x with
  | none => rfl
  | some s =>
    obtain ⟨t, rfl, h⟩ := liesO_some h
    obtain ⟨u, rfl, k⟩ := liesO_some k
    exact lies_trans h k
theorem liesO_refl (x : Option St) : liesO x x = true := by
  cases x with
  | none => rfl
  | some s => exact lies_refl s
theorem liesO_far {i : I5} {s t : St} (hi : RegsIn i) (h64 : s.in64) (h : liesR s t = true) : liesO (flowFar i s) (flowFar i t) = true := by
  cases hf : flowFar i s with
  | none => rfl
  | some u => obtain ⟨v, hv, hl⟩ := flowFar_mono hi h64 h hf; rw [hv]; exact hl
theorem liesO_on {i : I5} {s t : St} (hi : RegsIn i) (hok : s.ok) (h64 : t.in64) (h : liesR s t = true) : liesO (flowOn i s) (flowOn i t) = true := by
  cases hf : flowOn i s with
  | none => rfl
  | some u => obtain ⟨v, hv, hl⟩ := flowOn_mono hi hok h64 h hf; rw [hv]; exact hl
/-- a step with less: no error, and less goes on -/
theorem stepC_mono {p : List I5} {cl : Nat → Option St} {n : Nat} {x y : Option St} (hi : RegsIn (insAt p n)) (hx : ∀ s, x = some s → s.ok ∧ s.in64) (hy : ∀ s, y = some s → s.in64) (h : liesO x y = true) (h0 : (stepC p cl n y).1 = 0) :
    (stepC p cl n x).1 = 0 ∧ liesO (stepC p cl n x).2 (stepC p cl n y).2 = true := by
  have hs := stepC_ok h0
  by_cases hm : markB p n = true
  · have hl := liesO_trans h (hs.1 hm)
    have e : stepC p cl n x = stepC p cl n y := by
      unfold stepC
      simp only [hm, if_true, hl, hs.1 hm]
    rw [e]; exact ⟨h0, liesO_refl _⟩
  · have hm' : markB p n = false := by simpa using hm
    cases x with
    | none =>
      have e : stepC p cl n none = (0, none) := by unfold stepC; simp [hm']
      rw [e]; exact ⟨rfl, rfl⟩
    | some s =>
      obtain ⟨t, rfl, hl⟩ := liesO_some h
      obtain ⟨h1, h2, h3⟩ := hs.2 t (by rw [hm']; rfl)
      have hso := hx s rfl
      have hd := dang_mono hi hl h1
      have hf : 9 ≤ (insAt p n).o → liesO (flowFar (insAt p n) s) (cl (insAt p n).k.toNat) = true := fun h9 => liesO_trans (liesO_far hi hso.2 hl) (h2 h9)
      have e : stepC p cl n (some s) = (0, flowOn (insAt p n) s) := by
        unfold stepC
        simp only [hm', Bool.false_and, Bool.false_eq_true, if_false]
        rw [if_neg (by simp [hd])]
        rw [if_neg]
        simp only [Bool.and_eq_true, decide_eq_true_eq, Bool.not_eq_true', not_and, Bool.not_eq_false]
        exact hf
      rw [e, h3]
      exact ⟨rfl, liesO_on hi hso.1 (hy t rfl) hl⟩
theorem passC_of {p : List I5} {cl : Nat → Option St} {e : St} : ∀ (k n : Nat), (∀ j, j < k → (stepC p cl (n + j) (comeC p cl e (n + j))).1 = 0) → comeC p cl e (n + k) = none → passC p cl k n (comeC p cl e n) = (0, 0)
  | 0, n, _, hn => by unfold passC; rw [Nat.add_zero] at hn; rw [hn]; rfl
  | k + 1, n, h, hn => by
    unfold passC
    have h0 := h 0 (by omega)
    rw [Nat.add_zero] at h0
    rw [if_neg (by simp [h0])]
    exact passC_of k (n + 1) (fun j hj => by have := h (j + 1) (by omega); rwa [show n + (j + 1) = n + 1 + j by omega] at this) (by rw [show n + 1 + k = n + (k + 1) by omega]; exact hn)
theorem Taken.narrow {p : List I5} {cl : Nat → Option St} {e e' : St} (h : Taken p cl e) (hok : e'.ok ∧ e'.in64) (hl : liesR e' e = true) : Taken p cl e' := by
  have key : ∀ n, n ≤ p.length → liesO (comeC p cl e' n) (comeC p cl e n) = true ∧ (∀ s, comeC p cl e' n = some s → s.ok ∧ s.in64) ∧ (∀ j, j < n → (stepC p cl j (comeC p cl e' j)).1 = 0) := by
    intro n
    induction n with
    | zero => intro _; exact ⟨hl, fun s hs => by unfold comeC at hs; simp only [Option.some.injEq] at hs; rw [← hs]; exact hok, fun j hj => by omega⟩
    | succ n ih =>
      intro hn
      obtain ⟨h1, h2, h3⟩ := ih (by omega)
      have hr := h.regs n (by omega)
      have hm := stepC_mono (p := p) (cl := cl) (n := n) hr.1 h2 (fun s hs => (h.come_ok n (by omega) s hs).2) h1 (h.steps.1 n (by omega))
      refine ⟨hm.2, fun s hs => ?_, fun j hj => ?_⟩
      · have h0 := stepC_ok hm.1
        have hs' : (stepC p cl n (comeC p cl e' n)).2 = some s := hs
        cases hh : (if markB p n then cl n else comeC p cl e' n) with
        | none => rw [stepC_none hh] at hs'; cases hs'
        | some t =>
          have ht : t.ok ∧ t.in64 := by
            split at hh
            · exact h.clok n t hh
            · exact h2 t hh
          obtain ⟨_, _, h5⟩ := h0.2 t hh
          rw [h5] at hs'
          exact flowOn_keeps hr.1 hr.2.2.2 ht.1 ht.2 hs'
      · rcases Nat.lt_succ_iff_lt_or_eq.1 hj with h4 | h4
        · exact h3 j h4
        · rw [h4]; exact hm.1
  obtain ⟨k1, _, k3⟩ := key p.length (Nat.le_refl _)
  refine ⟨h.regs, h.jump, passC_of p.length 0 (fun j hj => by rw [Nat.zero_add]; exact k3 j hj) ?_, h.clok, hok⟩
  rw [Nat.zero_add]
  rw [h.steps.2] at k1
  cases hc : comeC p cl e' p.length with
  | none => rfl
  | some s => rw [hc] at k1; cases k1
end Go.Proofs.YtamiichlbmllcaaGreatDoor
