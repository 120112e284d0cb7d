import Derived.Test.YtamiichlbmllcaaGreatDoorTOpenC
import Derived.Test.YtamiichlbmllcaaGreatDoorTRunM
/-
  What a taken certificate says of runs: every state that the pass has holds the registers that the run has there.
-/
namespace Go.Proofs.YtamiichlbmllcaaGreatDoor
open Go.RowKit
/-- registers lie in a state -/
def inS (r : Nat → Int) (s : St) : Prop := ∀ j, j < 8 → (s j).mem (r j)
theorem inS_lies {r : Nat → Int} {s t : St} (h : inS r s) (k : liesR s t = true) : inS r t := fun j hj => (lies_iff.1 k j hj).mem (h j hj)
theorem inS_upd {r : Nat → Int} {s : St} {a : Nat} {v : Int} {x : R2} (h : inS r s) (hv : x.mem v) : inS (upd r a v) (updS s a x) := fun j hj => by
  unfold upd updS
  by_cases e : j = a
  · rw [if_pos e, if_pos e]; exact hv
  · rw [if_neg e, if_neg e]; exact h j hj
theorem inS_narr {r : Nat → Int} {s : St} {a b : Nat} {x y : R2} (h : inS r s) (hx : x.mem (r a)) (hy : y.mem (r b)) : ∃ s', narrR s a x b y = some s' ∧ inS r s' := by
  unfold narrR
  rw [if_neg (by simp only [Bool.or_eq_true, not_or, emptyR, decide_eq_true_eq]; unfold R2.mem at *; omega)]
  refine ⟨_, rfl, fun j hj => ?_⟩
  by_cases e : j = b
  · subst e; rw [upd_same]; exact hy
  · rw [upd_other e]
    by_cases e2 : j = a
    · subst e2; rw [upd_same]; exact hx
    · rw [upd_other e2]; exact h j hj
/-- what an instruction does lies in what becomes of the state -/
theorem doI_sound {i : I5} {s : St} {m : MS} (hi : RegsIn i) (ho : 0 ≤ i.o ∧ i.o < 12) (h64 : s.in64) (hm : inS m.r s) (hw : ∀ j, I64 (m.m j)) (hd : dangR i s = 0) :
    ((doI i m).1 = 1 ∧ i.o = 0) ∨ ((doI i m).1 = 0 ∧ (∀ j, I64 ((doI i m).2.m j)) ∧
      (((doI i m).2.pc = m.pc ∧ ∃ s', flowOn i s = some s' ∧ inS (doI i m).2.r s') ∨ (9 ≤ i.o ∧ (doI i m).2.pc = i.k.toNat ∧ ∃ s', flowFar i s = some s' ∧ inS (doI i m).2.r s'))) := by
  obtain ⟨a0, b0, _, ha, hb, hc⟩ := hi
  have ma := hm _ ha
  have mb := hm _ hb
  have mc := hm _ hc
  have ia := h64 _ ha
  have ib := h64 _ hb
  unfold doI flowOn flowFar
  unfold dangR at hd
  by_cases h1 : i.o = 1
  · simp only [if_pos h1]; exact Or.inr ⟨trivial, hw, Or.inl ⟨trivial, _, rfl, inS_upd hm (by unfold R2.mem; simp)⟩⟩
  simp only [if_neg h1]
  by_cases h1 : i.o = 2
  · simp only [if_pos h1]; exact Or.inr ⟨trivial, hw, Or.inl ⟨trivial, _, rfl, inS_upd hm mb⟩⟩
  simp only [if_neg h1]
  by_cases h1 : i.o = 3
  · simp only [if_pos h1]; exact Or.inr ⟨trivial, hw, Or.inl ⟨trivial, _, rfl, inS_upd hm (sum_mem mb mc)⟩⟩
  simp only [if_neg h1]
  by_cases h1 : i.o = 4
  · simp only [if_pos h1]; exact Or.inr ⟨trivial, hw, Or.inl ⟨trivial, _, rfl, inS_upd hm (dif_mem mb mc)⟩⟩
  simp only [if_neg h1]
  by_cases h1 : i.o = 5
  · simp only [if_pos h1]; exact Or.inr ⟨trivial, hw, Or.inl ⟨trivial, _, rfl, inS_upd hm (prod_mem mb mc)⟩⟩
  simp only [if_neg h1]
  by_cases h1 : i.o = 6
  · rw [if_pos h1] at hd
    have hz : ¬ (m.r i.c.toNat = 0) := by
      intro e
      rw [if_pos (has_iff.2 (by rw [e] at mc; exact mc))] at hd
      cases hd
    simp only [if_pos h1, if_neg hz]
    exact Or.inr ⟨trivial, hw, Or.inl ⟨trivial, _, rfl, inS_upd hm (quo_mem ib mb mc)⟩⟩
  simp only [if_neg h1]
  rw [if_neg h1] at hd
  by_cases h1 : i.o = 7
  · rw [if_pos h1] at hd
    by_cases h2 : inRg (s i.b.toNat) ⟨0, 15⟩ = true
    · rw [inRg_iff] at h2
      unfold R2.mem at mb
      simp only at h2
      simp only [if_pos h1, if_pos (show 0 ≤ m.r i.b.toNat ∧ m.r i.b.toNat < 16 by omega)]
      exact Or.inr ⟨trivial, hw, Or.inl ⟨trivial, _, rfl, inS_upd hm (all_mem (hw _))⟩⟩
    · rw [if_neg h2] at hd; cases hd
  simp only [if_neg h1]
  rw [if_neg h1] at hd
  by_cases h1 : i.o = 8
  · rw [if_pos h1] at hd
    by_cases h2 : inRg (s i.a.toNat) ⟨0, 15⟩ = true
    · rw [inRg_iff] at h2
      unfold R2.mem at ma
      simp only at h2
      simp only [if_pos h1, if_pos (show 0 ≤ m.r i.a.toNat ∧ m.r i.a.toNat < 16 by omega)]
      refine Or.inr ⟨trivial, fun j => ?_, Or.inl ⟨trivial, _, rfl, hm⟩⟩
      unfold upd
      by_cases e : j = (m.r i.a.toNat).toNat
      · rw [if_pos e]; unfold R2.mem at mb; unfold R2.in64 I64 at *; omega
      · rw [if_neg e]; exact hw j
    · rw [if_neg h2] at hd; cases hd
  simp only [if_neg h1]
  by_cases h1 : i.o = 9
  · simp only [if_pos h1]; exact Or.inr ⟨trivial, hw, Or.inr ⟨by omega, trivial, _, rfl, hm⟩⟩
  simp only [if_neg h1]
  by_cases h1 : i.o = 10
  · simp only [if_pos h1]
    by_cases h2 : m.r i.a.toNat < m.r i.b.toNat
    · have hne : ¬ (i.a = i.b) := by intro e; rw [e] at h2; omega
      simp only [if_pos h2, if_neg hne]
      unfold R2.mem at ma mb
      unfold R2.in64 I64 at ia ib
      rw [if_neg (by omega)]
      obtain ⟨s', e1, e2⟩ := inS_narr (a := i.a.toNat) (b := i.b.toNat) (x := ⟨(s i.a.toNat).lo, min (s i.a.toNat).hi ((s i.b.toNat).hi - 1)⟩) (y := ⟨max (s i.b.toNat).lo ((s i.a.toNat).lo + 1), (s i.b.toNat).hi⟩) hm (by unfold R2.mem; simp only; omega) (by unfold R2.mem; simp only; omega)
      exact Or.inr ⟨trivial, hw, Or.inr ⟨by omega, trivial, s', e1, e2⟩⟩
    · simp only [if_neg h2]
      by_cases hne : i.a = i.b
      · simp only [if_pos hne]; exact Or.inr ⟨trivial, hw, Or.inl ⟨trivial, _, rfl, hm⟩⟩
      · simp only [if_neg hne]
        unfold R2.mem at ma mb
        obtain ⟨s', e1, e2⟩ := inS_narr (a := i.a.toNat) (b := i.b.toNat) (x := ⟨max (s i.a.toNat).lo (s i.b.toNat).lo, (s i.a.toNat).hi⟩) (y := ⟨(s i.b.toNat).lo, min (s i.b.toNat).hi (s i.a.toNat).hi⟩) hm (by unfold R2.mem; simp only; omega) (by unfold R2.mem; simp only; omega)
        exact Or.inr ⟨trivial, hw, Or.inl ⟨trivial, s', e1, e2⟩⟩
  simp only [if_neg h1]
  by_cases h1 : i.o = 11
  · simp only [if_pos h1]
    by_cases h2 : m.r i.a.toNat = m.r i.b.toNat
    · simp only [if_pos h2]
      by_cases hne : i.a = i.b
      · simp only [if_pos hne]; exact Or.inr ⟨trivial, hw, Or.inr ⟨by omega, trivial, _, rfl, hm⟩⟩
      · simp only [if_neg hne]
        unfold R2.mem at ma mb
        obtain ⟨s', e1, e2⟩ := inS_narr (a := i.a.toNat) (b := i.b.toNat) (x := comR (s i.a.toNat) (s i.b.toNat)) (y := comR (s i.a.toNat) (s i.b.toNat)) hm (by unfold R2.mem comR; simp only; omega) (by unfold R2.mem comR; simp only; omega)
        exact Or.inr ⟨trivial, hw, Or.inr ⟨by omega, trivial, s', e1, e2⟩⟩
    · have hne : ¬ (i.a = i.b) := by intro e; rw [e] at h2; exact h2 rfl
      simp only [if_neg h2, if_neg hne]
      unfold R2.mem at ma mb
      rw [if_neg (by unfold oneR; simp only [decide_eq_true_eq]; omega)]
      exact Or.inr ⟨trivial, hw, Or.inl ⟨trivial, _, rfl, hm⟩⟩
  simp only [if_neg h1]
  exact Or.inl ⟨trivial, by omega⟩
/-- what comes to an instruction from the one before it -/
def comeC (p : List I5) (cl : Nat → Option St) (e : St) : Nat → Option St
  | 0 => some e
  | n + 1 => (stepC p cl n (comeC p cl e n)).2
/-- the state ahead of an instruction -/
def hereC (p : List I5) (cl : Nat → Option St) (e : St) (n : Nat) : Option St := if markB p n then cl n else comeC p cl e n
theorem passC_spec {p : List I5} {cl : Nat → Option St} {e : St} : ∀ (k n : Nat), passC p cl k n (comeC p cl e n) = (0, 0) → (∀ j, j < k → (stepC p cl (n + j) (comeC p cl e (n + j))).1 = 0) ∧ comeC p cl e (n + k) = none
  | 0, n, h => by
    refine ⟨fun j hj => by omega, ?_⟩
    unfold passC at h
    rw [Nat.add_zero]
    cases hc : comeC p cl e n with
    | none => rfl
    | some s => rw [hc] at h; simp at h
  | k + 1, n, h => by
    unfold passC at h
    by_cases h0 : (stepC p cl n (comeC p cl e n)).1 = 0
    · rw [if_neg (by simp [h0])] at h
      have ih := passC_spec k (n + 1) h
      refine ⟨fun j hj => ?_, by rw [show n + (k + 1) = n + 1 + k by omega]; exact ih.2⟩
      cases j with
      | zero => exact h0
      | succ j => rw [show n + (j + 1) = n + 1 + j by omega]; exact ih.1 j (by omega)
    · rw [if_pos h0] at h
      simp only [Prod.mk.injEq] at h
      exact absurd h.1 h0
/-- what a step that goes on says -/
theorem stepC_ok {p : List I5} {cl : Nat → Option St} {n : Nat} {come : Option St} (h : (stepC p cl n come).1 = 0) :
    (markB p n = true → liesO come (cl n) = true) ∧ ∀ s, (if markB p n then cl n else come) = some s →
      dangR (insAt p n) s = 0 ∧ (9 ≤ (insAt p n).o → liesO (flowFar (insAt p n) s) (cl (insAt p n).k.toNat) = true) ∧ (stepC p cl n come).2 = flowOn (insAt p n) s := by
  unfold stepC at h ⊢
  by_cases h1 : (markB p n && !liesO come (cl n)) = true
  · rw [if_pos h1] at h; simp at h
  · rw [if_neg h1] at h ⊢
    refine ⟨fun hm => by simpa [hm] using h1, fun s hs => ?_⟩
    rw [hs] at h ⊢
    simp only at h ⊢
    by_cases h2 : dangR (insAt p n) s = 0
    · rw [if_neg (by simp [h2])] at h ⊢
      by_cases h3 : (decide (9 ≤ (insAt p n).o) && !liesO (flowFar (insAt p n) s) (cl (insAt p n).k.toNat)) = true
      · rw [if_pos h3] at h; simp at h
      · rw [if_neg h3]
        exact ⟨h2, fun h9 => by simpa [h9] using h3, rfl⟩
    · rw [if_pos h2] at h; exact absurd h h2
theorem stepC_none {p : List I5} {cl : Nat → Option St} {n : Nat} {come : Option St} (h : (if markB p n then cl n else come) = none) : (stepC p cl n come).2 = none := by
  unfold stepC
  split
  · rfl
  · rw [h]
/-- a certificate that is taken -/
structure Taken (p : List I5) (cl : Nat → Option St) (e : St) : Prop where
  regs : ∀ n, n < p.length → RegsIn (insAt p n) ∧ 0 ≤ (insAt p n).o ∧ (insAt p n).o < 12 ∧ I64 (insAt p n).k
  jump : ∀ n, n < p.length → 9 ≤ (insAt p n).o → 0 ≤ (insAt p n).k ∧ (insAt p n).k.toNat < p.length
  pass : passC p cl p.length 0 (some e) = (0, 0)
  clok : ∀ n s, cl n = some s → s.ok ∧ s.in64
  eok : e.ok ∧ e.in64
theorem liesO_some {s : St} {y : Option St} (h : liesO (some s) y = true) : ∃ t, y = some t ∧ liesR s t = true := by
  cases y with
  | none => cases h
  | some t => exact ⟨t, rfl, h⟩
theorem Taken.steps {p : List I5} {cl : Nat → Option St} {e : St} (h : Taken p cl e) : (∀ n, n < p.length → (stepC p cl n (comeC p cl e n)).1 = 0) ∧ comeC p cl e p.length = none := by
  have := passC_spec p.length 0 h.pass
  simpa using this
theorem Taken.come_ok {p : List I5} {cl : Nat → Option St} {e : St} (h : Taken p cl e) : ∀ n, n ≤ p.length → ∀ s, comeC p cl e n = some s → s.ok ∧ s.in64
  | 0, _, s, hs => by
    unfold comeC at hs
    simp only [Option.some.injEq] at hs
    rw [← hs]; exact h.eok
  | n + 1, hn, s, hs => by
    have ih := h.come_ok n (by omega)
    unfold comeC at hs
    have h0 := stepC_ok (h.steps.1 n (by omega))
    cases hh : (if markB p n then cl n else comeC p cl e n) with
    | none => rw [stepC_none hh] at hs; cases hs
    | some t =>
      have ht : t.ok ∧ t.in64 := by
        split at hh
        · exact h.clok n t hh
        · exact ih t hh
      obtain ⟨_, _, h3⟩ := h0.2 t hh
      rw [h3] at hs
      have hr := h.regs n (by omega)
      exact flowOn_keeps hr.1 hr.2.2.2 ht.1 ht.2 hs
theorem Taken.here_ok {p : List I5} {cl : Nat → Option St} {e : St} (h : Taken p cl e) {n : Nat} (hn : n ≤ p.length) {s : St} (hs : hereC p cl e n = some s) : s.ok ∧ s.in64 := by
  unfold hereC at hs
  split at hs
  · exact h.clok n s hs
  · exact h.come_ok n hn s hs
theorem markB_of {p : List I5} {n : Nat} (hn : n < p.length) (h9 : 9 ≤ (insAt p n).o) (hk : 0 ≤ (insAt p n).k) : markB p (insAt p n).k.toNat = true := by
  unfold markB
  rw [List.any_eq_true]
  refine ⟨insAt p n, ?_, ?_⟩
  · unfold insAt; rw [List.getElem?_eq_getElem hn]; exact List.getElem_mem hn
  · simp [h9]; omega
/-- registers that come to n with what comes there lie in the state there -/
theorem Taken.arrive {p : List I5} {cl : Nat → Option St} {e : St} (h : Taken p cl e) {n : Nat} (hn : n ≤ p.length) {r : Nat → Int} {s : St} (hs : comeC p cl e n = some s) (hr : inS r s) : n < p.length ∧ ∃ t, hereC p cl e n = some t ∧ inS r t := by
  have hlt : n < p.length := by
    rcases Nat.lt_or_eq_of_le hn with h1 | h1
    · exact h1
    · rw [h1, h.steps.2] at hs; cases hs
  refine ⟨hlt, ?_⟩
  unfold hereC
  by_cases hm : markB p n = true
  · rw [if_pos hm]
    have h1 := (stepC_ok (h.steps.1 n hlt)).1 hm
    rw [hs] at h1
    obtain ⟨t, ht, hl⟩ := liesO_some h1
    exact ⟨t, ht, inS_lies hr hl⟩
  · rw [if_neg hm]; exact ⟨s, hs, hr⟩
/-- a run of what is taken -/
theorem Taken.run {p : List I5} {cl : Nat → Option St} {e : St} (h : Taken p cl e) : ∀ (k : Nat) (m : MS), m.pc < p.length → (∃ s, hereC p cl e m.pc = some s ∧ inS m.r s) → (∀ j, I64 (m.m j)) →
    ((runR p k m).2.kind = 1 ∨ (runR p k m).2.kind = 2) ∧ ∀ v, v ∈ (runR p k m).1 → ∃ s, hereC p cl e v.pc = some s ∧ inS v.r s
  | 0, m, hpc, _, _ => by
    rw [runR_fuel (by omega)]
    exact ⟨Or.inr rfl, fun v hv => by cases hv⟩
  | k + 1, m, hpc, hg, hw => by
    obtain ⟨s, hs, hr⟩ := hg
    have hok := h.here_ok (by omega) hs
    have h0 := stepC_ok (h.steps.1 m.pc hpc)
    obtain ⟨hd, hf, ho⟩ := h0.2 s hs
    have hri := h.regs m.pc hpc
    have hsound := doI_sound (i := insAt p m.pc) (s := s) (m := nxt m) hri.1 ⟨hri.2.1, hri.2.2.1⟩ hok.2 hr hw hd
    rcases hsound with ⟨h1, _⟩ | ⟨h1, hw2, hc⟩
    · have e1 : (doAt p m).1 ≠ 0 := by show (doI (insAt p m.pc) (nxt m)).1 ≠ 0; rw [h1]; omega
      rw [runR_stop (by omega) e1]
      refine ⟨Or.inl ?_, fun v hv => ?_⟩
      · exact h1
      · simp only [List.mem_singleton] at hv
        rw [hv]; exact ⟨s, hs, hr⟩
    · have e1 : (doAt p m).1 = 0 := h1
      rw [runR_go (by omega) e1]
      have hnext : (doAt p m).2.pc < p.length ∧ ∃ t, hereC p cl e (doAt p m).2.pc = some t ∧ inS (doAt p m).2.r t := by
        rcases hc with ⟨hp, s', hs', hr'⟩ | ⟨h9, hp, s', hs', hr'⟩
        · have hp2 : (doAt p m).2.pc = m.pc + 1 := hp
          rw [hp2]
          refine h.arrive (n := m.pc + 1) (by omega) ?_ hr'
          show (stepC p cl m.pc (comeC p cl e m.pc)).2 = some s'
          rw [ho]; exact hs'
        · have hp2 : (doAt p m).2.pc = (insAt p m.pc).k.toNat := hp
          have hj := h.jump m.pc hpc h9
          rw [hp2]
          refine ⟨hj.2, ?_⟩
          have hl := hf h9
          rw [hs'] at hl
          obtain ⟨t, ht, hlt⟩ := liesO_some hl
          refine ⟨t, ?_, inS_lies hr' hlt⟩
          unfold hereC
          rw [if_pos (markB_of hpc h9 hj.1)]; exact ht
      have ih := h.run k (doAt p m).2 hnext.1 hnext.2 hw2
      refine ⟨ih.1, fun v hv => ?_⟩
      rcases List.mem_cons.1 hv with hv | hv
      · rw [hv]; exact ⟨s, hs, hr⟩
      · exact ih.2 v hv
/-- a run within the entry -/
theorem Taken.safe {p : List I5} {cl : Nat → Option St} {e : St} (h : Taken p cl e) (r : Nat → Int) (hr : inS r e) (k : Nat) :
    ((runR p k (startS r)).2.kind = 1 ∨ (runR p k (startS r)).2.kind = 2) ∧ ∀ v, v ∈ (runR p k (startS r)).1 → markB p v.pc = true → ∃ s, cl v.pc = some s ∧ inS v.r s := by
  obtain ⟨h0, h1⟩ := h.arrive (n := 0) (by omega) (r := r) (s := e) rfl hr
  have := h.run k (startS r) h0 h1 (fun j => by show I64 0; unfold I64; omega)
  refine ⟨this.1, fun v hv hm => ?_⟩
  obtain ⟨s, hs, hi⟩ := this.2 v hv
  unfold hereC at hs
  rw [if_pos hm] at hs
  exact ⟨s, hs, hi⟩
theorem liesO_trans {x y z : Option St} (h : liesO x y = true) (k : liesO y z = true) : liesO x z = true := by
  cases x with
  | none => rfl
  | some s =>
    obtain ⟨t, rfl, h⟩ := liesO_some h
    obtain ⟨u, rfl, k⟩ := liesO_some k
    exact lies_trans h k
theorem liesO_refl (x : Option St) : liesO x x = true := by
  cases x with
  | none => rfl
  | some s => exact lies_refl s
theorem liesO_far {i : I5} {s t : St} (hi : RegsIn i) (h64 : s.in64) (h : liesR s t = true) : liesO (flowFar i s) (flowFar i t) = true := by
  cases hf : flowFar i s with
  | none => rfl
  | some u => obtain ⟨v, hv, hl⟩ := flowFar_mono hi h64 h hf; rw [hv]; exact hl
theorem liesO_on {i : I5} {s t : St} (hi : RegsIn i) (hok : s.ok) (h64 : t.in64) (h : liesR s t = true) : liesO (flowOn i s) (flowOn i t) = true := by
  cases hf : flowOn i s with
  | none => rfl
  | some u => obtain ⟨v, hv, hl⟩ := flowOn_mono hi hok h64 h hf; rw [hv]; exact hl
/-- a step with less: no error, and less goes on -/
theorem stepC_mono {p : List I5} {cl : Nat → Option St} {n : Nat} {x y : Option St} (hi : RegsIn (insAt p n)) (hx : ∀ s, x = some s → s.ok ∧ s.in64) (hy : ∀ s, y = some s → s.in64) (h : liesO x y = true) (h0 : (stepC p cl n y).1 = 0) :
    (stepC p cl n x).1 = 0 ∧ liesO (stepC p cl n x).2 (stepC p cl n y).2 = true := by
  have hs := stepC_ok h0
  by_cases hm : markB p n = true
  · have hl := liesO_trans h (hs.1 hm)
    have e : stepC p cl n x = stepC p cl n y := by
      unfold stepC
      simp only [hm, if_true, hl, hs.1 hm]
    rw [e]; exact ⟨h0, liesO_refl _⟩
  · have hm' : markB p n = false := by simpa using hm
    cases x with
    | none =>
      have e : stepC p cl n none = (0, none) := by unfold stepC; simp [hm']
      rw [e]; exact ⟨rfl, rfl⟩
    | some s =>
      obtain ⟨t, rfl, hl⟩ := liesO_some h
      obtain ⟨h1, h2, h3⟩ := hs.2 t (by rw [hm']; rfl)
      have hso := hx s rfl
      have hd := dang_mono hi hl h1
      have hf : 9 ≤ (insAt p n).o → liesO (flowFar (insAt p n) s) (cl (insAt p n).k.toNat) = true := fun h9 => liesO_trans (liesO_far hi hso.2 hl) (h2 h9)
      have e : stepC p cl n (some s) = (0, flowOn (insAt p n) s) := by
        unfold stepC
        simp only [hm', Bool.false_and, Bool.false_eq_true, if_false]
        rw [if_neg (by simp [hd])]
        rw [if_neg]
        simp only [Bool.and_eq_true, decide_eq_true_eq, Bool.not_eq_true', not_and, Bool.not_eq_false]
        exact hf
      rw [e, h3]
      exact ⟨rfl, liesO_on hi hso.1 (hy t rfl) hl⟩
theorem passC_of {p : List I5} {cl : Nat → Option St} {e : St} : ∀ (k n : Nat), (∀ j, j < k → (stepC p cl (n + j) (comeC p cl e (n + j))).1 = 0) → comeC p cl e (n + k) = none → passC p cl k n (comeC p cl e n) = (0, 0)
  | 0, n, _, hn => by unfold passC; rw [Nat.add_zero] at hn; rw [hn]; rfl
  | k + 1, n, h, hn => by
    unfold passC
    have h0 := h 0 (by omega)
    rw [Nat.add_zero] at h0
    rw [if_neg (by simp [h0])]
    exact passC_of k (n + 1) (fun j hj => by have := h (j + 1) (by omega); rwa [show n + (j + 1) = n + 1 + j by omega] at this) (by rw [show n + 1 + k = n + (k + 1) by omega]; exact hn)
theorem Taken.narrow {p : List I5} {cl : Nat → Option St} {e e' : St} (h : Taken p cl e) (hok : e'.ok ∧ e'.in64) (hl : liesR e' e = true) : Taken p cl e' := by
  have key : ∀ n, n ≤ p.length → liesO (comeC p cl e' n) (comeC p cl e n) = true ∧ (∀ s, comeC p cl e' n = some s → s.ok ∧ s.in64) ∧ (∀ j, j < n → (stepC p cl j (comeC p cl e' j)).1 = 0) := by
    intro n
    induction n with
    | zero => intro _; exact ⟨hl, fun s hs => by unfold comeC at hs; simp only [Option.some.injEq] at hs; rw [← hs]; exact hok, fun j hj => by omega⟩
    | succ n ih =>
      intro hn
      obtain ⟨h1, h2, h3⟩ := ih (by omega)
      have hr := h.regs n (by omega)
      have hm := stepC_mono (p := p) (cl := cl) (n := n) hr.1 h2 (fun s hs => (h.come_ok n (by omega) s hs).2) h1 (h.steps.1 n (by omega))
      refine ⟨hm.2, fun s hs => ?_, fun j hj => ?_⟩
      · have h0 := stepC_ok hm.1
        have hs' : (stepC p cl n (comeC p cl e' n)).2 = some s := hs
        cases hh : (if markB p n then cl n else comeC p cl e' n) with
        | none => rw [stepC_none hh] at hs'; cases hs'
        | some t =>
          have ht : t.ok ∧ t.in64 := by
            split at hh
            · exact h.clok n t hh
            · exact h2 t hh
          obtain ⟨_, _, h5⟩ := h0.2 t hh
          rw [h5] at hs'
          exact flowOn_keeps hr.1 hr.2.2.2 ht.1 ht.2 hs'
      · rcases Nat.lt_succ_iff_lt_or_eq.1 hj with h4 | h4
        · exact h3 j h4
        · rw [h4]; exact hm.1
  obtain ⟨k1, _, k3⟩ := key p.length (Nat.le_refl _)
  refine ⟨h.regs, h.jump, passC_of p.length 0 (fun j hj => by rw [Nat.zero_add]; exact k3 j hj) ?_, h.clok, hok⟩
  rw [Nat.zero_add]
  rw [h.steps.2] at k1
  cases hc : comeC p cl e' p.length with
  | none => rfl
  | some s => rw [hc] at k1; cases k1
end Go.Proofs.YtamiichlbmllcaaGreatDoor
/-
  The mathematics of Prove: passes that widen the states of marks, till one changes nothing.
-/
namespace Go.Proofs.YtamiichlbmllcaaGreatDoor
open Go.RowKit
def joinR (r o : R2) : R2 := ⟨min r.lo o.lo, max r.hi o.hi⟩
def stretchR (r o : R2) : R2 := ⟨if min r.lo o.lo = r.lo then r.lo else -9223372036854775808, if max r.hi o.hi = r.hi then r.hi else 9223372036854775807⟩
def joinO (f : R2 → R2 → R2) (x y : Option St) : Option St := match x, y with
  | none, y => y
  | some s, none => some s
  | some s, some t => some fun j => f (s j) (t j)
def backB (p : List I5) (m : Nat) : Bool := (List.range p.length).any fun n => decide (9 ≤ (insAt p n).o) && decide ((insAt p n).k = m) && decide (m ≤ n)
/-- of each mark: its state, how many passes ahead changed it, whether this one did -/
structure PS where
  W : Nat → Option St
  cnt : Nat → Nat
  chg : Nat → Bool
def PS.zero : PS := ⟨fun _ => none, fun _ => 0, fun _ => false⟩
def widerP (back : Nat → Bool) (v : PS) (m : Nat) (come : Option St) : Option St := if back m && decide (3 ≤ v.cnt m) then joinO stretchR (v.W m) come else joinO joinR (v.W m) come
def takesP (back : Nat → Bool) (v : PS) (m : Nat) (come : Option St) : PS :=
  if liesO come (v.W m) then v else ⟨fun j => if j = m then widerP back v m come else v.W j, v.cnt, fun j => if j = m then true else v.chg j⟩
def stepP (p : List I5) (n : Nat) (come : Option St) (v : PS) : PS × Option St :=
  match (if markB p n then (takesP (backB p) v n come).W n else come) with
  | none => (if markB p n then takesP (backB p) v n come else v, none)
  | some s => (if 9 ≤ (insAt p n).o then takesP (backB p) (if markB p n then takesP (backB p) v n come else v) (insAt p n).k.toNat (flowFar (insAt p n) s) else (if markB p n then takesP (backB p) v n come else v), flowOn (insAt p n) s)
def passP (p : List I5) : Nat → Nat → Option St → PS → PS
  | 0, _, _, v => v
  | k + 1, n, come, v => passP p k (n + 1) (stepP p n come v).2 (stepP p n come v).1
def anyChg (p : List I5) (v : PS) : Bool := (List.range p.length).any v.chg
def countP (v : PS) : PS := ⟨v.W, fun m => if v.chg m then v.cnt m + 1 else v.cnt m, fun _ => false⟩
/-- passes till one changes nothing -/
inductive Settles (p : List I5) (e : St) : PS → PS → Prop
  | done (v : PS) : anyChg p (passP p p.length 0 (some e) v) = false → Settles p e v (passP p p.length 0 (some e) v)
  | more (v v' : PS) : anyChg p (passP p p.length 0 (some e) v) = true → Settles p e (countP (passP p p.length 0 (some e) v)) v' → Settles p e v v'
theorem Settles.det {p : List I5} {e : St} {v a b : PS} (h : Settles p e v a) (k : Settles p e v b) : a = b := by
  induction h with
  | done v h1 =>
    cases k with
    | done _ _ => rfl
    | more _ _ h2 _ => rw [h1] at h2; cases h2
  | more v v' h1 _ ih =>
    cases k with
    | done _ h2 => rw [h1] at h2; cases h2
    | more _ _ _ h3 => exact ih h3
/-- the claims: the marks that have a state -/
def claimsP (p : List I5) (W : Nat → Option St) : List (Int × St) := (List.range p.length).filterMap fun n => (W n).map fun s => ((n : Int), s)
theorem join_sub {r o q : R2} (h : r.sub q) (k : o.sub q) : (joinR r o).sub q := by unfold R2.sub joinR at *; simp only; omega
theorem sub_join (r o : R2) : r.sub (joinR r o) ∧ o.sub (joinR r o) := by unfold R2.sub joinR; simp only; omega
theorem sub_stretch {r o : R2} (hr : r.in64) (ho : o.in64) : r.sub (stretchR r o) ∧ o.sub (stretchR r o) := by
  unfold R2.sub stretchR; unfold R2.in64 I64 at *
  refine ⟨⟨?_, ?_⟩, ?_, ?_⟩ <;> simp only <;> split <;> omega
theorem joinO_up {f : R2 → R2 → R2} {x y : Option St} (hf : ∀ s t, x = some s → y = some t → ∀ j, j < 8 → (s j).sub (f (s j) (t j)) ∧ (t j).sub (f (s j) (t j))) : liesO x (joinO f x y) = true ∧ liesO y (joinO f x y) = true := by
  cases x with
  | none => exact ⟨rfl, liesO_refl y⟩
  | some s =>
    cases y with
    | none => exact ⟨liesO_refl _, rfl⟩
    | some t => exact ⟨lies_iff.2 fun j hj => (hf s t rfl rfl j hj).1, lies_iff.2 fun j hj => (hf s t rfl rfl j hj).2⟩
theorem joinO_least {x y z : Option St} (h : liesO x z = true) (k : liesO y z = true) : liesO (joinO joinR x y) z = true := by
  cases x with
  | none => exact k
  | some s =>
    cases y with
    | none => exact h
    | some t =>
      obtain ⟨u, rfl, h⟩ := liesO_some h
      exact lies_iff.2 fun j hj => join_sub (lies_iff.1 h j hj) (lies_iff.1 k j hj)
theorem joinO_ok {x y : Option St} (hx : OkO x) (hy : OkO y) : OkO (joinO joinR x y) := by
  cases x with
  | none => exact hy
  | some s =>
    cases y with
    | none => exact hx
    | some t =>
      obtain ⟨o1, i1⟩ := hx s rfl
      obtain ⟨o2, i2⟩ := hy t rfl
      intro u hu
      simp only [joinO, Option.some.injEq] at hu
      rw [← hu]
      refine ⟨fun j hj => ?_, fun j hj => ?_⟩
      · have := o1 j hj; show (joinR (s j) (t j)).lo ≤ (joinR (s j) (t j)).hi; unfold joinR; simp only; omega
      · have := i1 j hj; have := i2 j hj; show (joinR (s j) (t j)).in64; unfold joinR; unfold R2.in64 I64 at *; simp only; omega
theorem stretchO_ok {x y : Option St} (hx : OkO x) (hy : OkO y) : OkO (joinO stretchR x y) := by
  cases x with
  | none => exact hy
  | some s =>
    cases y with
    | none => exact hx
    | some t =>
      obtain ⟨o1, i1⟩ := hx s rfl
      intro u hu
      simp only [joinO, Option.some.injEq] at hu
      rw [← hu]
      refine ⟨fun j hj => ?_, fun j hj => ?_⟩
      · have := o1 j hj; have := i1 j hj; show (stretchR (s j) (t j)).lo ≤ (stretchR (s j) (t j)).hi; unfold stretchR; unfold R2.in64 I64 at *; simp only; split <;> split <;> omega
      · have := i1 j hj; show (stretchR (s j) (t j)).in64; unfold stretchR; unfold R2.in64 I64 at *; simp only; constructor <;> split <;> omega
theorem wider_ok {back : Nat → Bool} {v : PS} {m : Nat} {come : Option St} (hv : OkO (v.W m)) (hc : OkO come) : OkO (widerP back v m come) := by
  unfold widerP; split
  · exact stretchO_ok hv hc
  · exact joinO_ok hv hc
theorem wider_up {back : Nat → Bool} {v : PS} {m : Nat} {come : Option St} (hv : OkO (v.W m)) (hc : OkO come) : liesO (v.W m) (widerP back v m come) = true ∧ liesO come (widerP back v m come) = true := by
  unfold widerP; split
  · exact joinO_up fun s t hs ht j hj => sub_stretch ((hv s hs).2 j hj) ((hc t ht).2 j hj)
  · exact joinO_up fun s t _ _ j _ => sub_join _ _
/-- a prover's marks: they are marks, their states are states -/
structure PInv (p : List I5) (v : PS) : Prop where
  mark : ∀ m s, v.W m = some s → markB p m = true
  ok : ∀ m, OkO (v.W m)
theorem takes_inv {p : List I5} {back : Nat → Bool} {v : PS} {m : Nat} {come : Option St} (hv : PInv p v) (hm : markB p m = true) (hc : OkO come) : PInv p (takesP back v m come) := by
  unfold takesP
  split
  · exact hv
  · refine ⟨fun j s hs => ?_, fun j => ?_⟩
    · by_cases e : j = m
      · rw [e]; exact hm
      · simp only [if_neg e] at hs; exact hv.mark j s hs
    · by_cases e : j = m
      · simp only [if_pos e]; exact wider_ok (hv.ok m) hc
      · simp only [if_neg e]; exact hv.ok j
/-- instructions that may stand in the program -/
structure Fit (p : List I5) : Prop where
  regs : ∀ n, n < p.length → RegsIn (insAt p n) ∧ 0 ≤ (insAt p n).o ∧ (insAt p n).o < 12 ∧ I64 (insAt p n).k
  jump : ∀ n, n < p.length → 9 ≤ (insAt p n).o → 0 ≤ (insAt p n).k ∧ (insAt p n).k.toNat < p.length
theorem stepP_inv {p : List I5} (hp : Fit p) {n : Nat} (hn : n < p.length) {come : Option St} {v : PS} (hv : PInv p v) (hc : OkO come) : PInv p (stepP p n come v).1 ∧ OkO (stepP p n come v).2 := by
  have hr := hp.regs n hn
  have h1 : PInv p (if markB p n then takesP (backB p) v n come else v) := by
    split
    · rename_i hm; exact takes_inv hv hm hc
    · exact hv
  have hh : OkO (if markB p n then (takesP (backB p) v n come).W n else come) := by
    split
    · rename_i hm; exact (takes_inv hv hm hc).ok n
    · exact hc
  unfold stepP
  cases hs : (if markB p n then (takesP (backB p) v n come).W n else come) with
  | none => exact ⟨h1, fun s h => by cases h⟩
  | some s =>
    have hso := hh s hs
    refine ⟨?_, fun t ht => flowOn_keeps hr.1 hr.2.2.2 hso.1 hso.2 ht⟩
    simp only
    split
    · rename_i h9
      exact takes_inv h1 (markB_of hn h9 (hp.jump n hn h9).1) (fun t ht => flowFar_keeps hr.1 hso.1 hso.2 ht)
    · exact h1
theorem passP_inv {p : List I5} (hp : Fit p) : ∀ (k n : Nat) (come : Option St) (v : PS), n + k = p.length → PInv p v → OkO come → PInv p (passP p k n come v)
  | 0, _, _, _, _, hv, _ => hv
  | k + 1, n, come, v, hn, hv, hc => by
    have := stepP_inv hp (n := n) (by omega) hv hc
    exact passP_inv hp k (n + 1) _ _ (by omega) this.1 this.2
theorem count_inv {p : List I5} {v : PS} (hv : PInv p v) : PInv p (countP v) := ⟨hv.mark, hv.ok⟩
theorem zero_inv (p : List I5) : PInv p PS.zero := ⟨fun _ _ h => (by cases h), fun _ _ h => (by cases h)⟩
theorem Settles.inv {p : List I5} {e : St} (hp : Fit p) (he : e.ok ∧ e.in64) {v v' : PS} (h : Settles p e v v') (hv : PInv p v) : PInv p v' := by
  have ho : OkO (some e) := fun s hs => by simp only [Option.some.injEq] at hs; rw [← hs]; exact he
  induction h with
  | done v _ => exact passP_inv hp _ _ _ _ (by omega) hv ho
  | more v v' _ _ ih => exact ih (count_inv (passP_inv hp _ _ _ _ (by omega) hv ho))
theorem takes_at {back : Nat → Bool} {v : PS} {m : Nat} {come : Option St} (h : liesO come (v.W m) = false) : takesP back v m come = ⟨fun j => if j = m then widerP back v m come else v.W j, v.cnt, fun j => if j = m then true else v.chg j⟩ := by
  unfold takesP; rw [if_neg (by simp [h])]
theorem takes_no {back : Nat → Bool} {v : PS} {m : Nat} {come : Option St} (h : liesO come (v.W m) = true) : takesP back v m come = v := by
  unfold takesP; rw [if_pos h]
theorem takes_chg {back : Nat → Bool} {v : PS} {m j : Nat} {come : Option St} (h : (takesP back v m come).chg j = false) : v.chg j = false := by
  cases hl : liesO come (v.W m) with
  | true => rwa [takes_no hl] at h
  | false =>
    rw [takes_at hl] at h
    simp only at h
    split at h
    · cases h
    · exact h
theorem takes_quiet {back : Nat → Bool} {v : PS} {m : Nat} {come : Option St} (h : (takesP back v m come).chg m = false) : liesO come (v.W m) = true ∧ takesP back v m come = v := by
  cases hl : liesO come (v.W m) with
  | true => exact ⟨rfl, takes_no hl⟩
  | false => rw [takes_at hl] at h; simp at h
theorem stepP_chg {p : List I5} {n j : Nat} {come : Option St} {v : PS} (h : (stepP p n come v).1.chg j = false) : v.chg j = false := by
  unfold stepP at h
  split at h
  · simp only at h
    split at h
    · exact takes_chg h
    · exact h
  · simp only at h
    split at h
    · have := takes_chg h
      split at this
      · exact takes_chg this
      · exact this
    · split at h
      · exact takes_chg h
      · exact h
theorem passP_chg {p : List I5} {j : Nat} : ∀ (k n : Nat) (come : Option St) (v : PS), (passP p k n come v).chg j = false → v.chg j = false
  | 0, _, _, _, h => h
  | k + 1, n, _, _, h => stepP_chg (passP_chg k (n + 1) _ _ h)
/-- a step that changes nothing: the same as Check's, but for dangers -/
theorem stepP_quiet {p : List I5} (hp : Fit p) {n : Nat} (hn : n < p.length) {come : Option St} {v : PS} (h : ∀ j, j < p.length → (stepP p n come v).1.chg j = false) :
    (stepP p n come v).1 = v ∧ (markB p n = true → liesO come (v.W n) = true) ∧ (∀ s, (if markB p n then v.W n else come) = some s → (9 ≤ (insAt p n).o → liesO (flowFar (insAt p n) s) (v.W (insAt p n).k.toNat) = true) ∧ (stepP p n come v).2 = flowOn (insAt p n) s) ∧ ((if markB p n then v.W n else come) = none → (stepP p n come v).2 = none) := by
  have hq : markB p n = true → liesO come (v.W n) = true ∧ takesP (backB p) v n come = v := by
    intro hm
    refine takes_quiet ?_
    have h1 := h n hn
    unfold stepP at h1
    rw [hm] at h1
    simp only [if_true] at h1
    split at h1
    · exact h1
    · simp only at h1
      split at h1
      · exact takes_chg h1
      · exact h1
  have hv1 : (if markB p n then takesP (backB p) v n come else v) = v := by
    split
    · rename_i hm; exact (hq hm).2
    · rfl
  have hh : (if markB p n then (takesP (backB p) v n come).W n else come) = (if markB p n then v.W n else come) := by
    split
    · rename_i hm; rw [(hq hm).2]
    · rfl
  have he : stepP p n come v = match (if markB p n then v.W n else come) with
    | none => (v, none)
    | some s => (if 9 ≤ (insAt p n).o then takesP (backB p) v (insAt p n).k.toNat (flowFar (insAt p n) s) else v, flowOn (insAt p n) s) := by
    unfold stepP; rw [hv1, hh]
  rw [he] at h ⊢
  cases hs : (if markB p n then v.W n else come) with
  | none => exact ⟨rfl, fun hm => (hq hm).1, fun s h0 => (by cases h0), fun _ => rfl⟩
  | some s =>
    rw [hs] at h
    simp only at h ⊢
    by_cases h9 : 9 ≤ (insAt p n).o
    · rw [if_pos h9] at h ⊢
      have h2 := takes_quiet (h _ (hp.jump n hn h9).2)
      refine ⟨h2.2, fun hm => (hq hm).1, fun t ht => ?_, fun h0 => (by cases h0)⟩
      simp only [Option.some.injEq] at ht
      rw [← ht]; exact ⟨fun _ => h2.1, rfl⟩
    · rw [if_neg h9]
      refine ⟨rfl, fun hm => (hq hm).1, fun t ht => ?_, fun h0 => (by cases h0)⟩
      simp only [Option.some.injEq] at ht
      rw [← ht]; exact ⟨fun h => absurd h h9, rfl⟩
theorem passP_quiet {p : List I5} (hp : Fit p) : ∀ (k n : Nat) (come : Option St) (v : PS), n + k = p.length → (∀ j, j < p.length → (passP p k n come v).chg j = false) → passP p k n come v = v
  | 0, _, _, _, _, _ => rfl
  | k + 1, n, come, v, hn, h => by
    have h1 := stepP_quiet hp (n := n) (by omega) (come := come) (v := v) (fun j hj => passP_chg k (n + 1) _ _ (h j hj))
    unfold passP at h ⊢
    rw [h1.1] at h ⊢
    exact passP_quiet hp k (n + 1) _ v (by omega) h
theorem anyChg_no {p : List I5} {v : PS} (h : anyChg p v = false) : ∀ j, j < p.length → v.chg j = false := by
  intro j hj
  unfold anyChg at h
  rw [List.any_eq_false] at h
  simpa using h j (List.mem_range.2 hj)
/-- where nothing changes any more Check finds nothing but dangers: here, none of these either -/
theorem quiet_pass {p : List I5} (hp : Fit p) {cl : Nat → Option St} {e : St} (ht : Taken p cl e) {v : PS} (hv : PInv p v) (hle : ∀ m, liesO (v.W m) (cl m) = true) :
    ∀ (k n : Nat) (come : Option St), n + k = p.length → (∀ j, j < p.length → (passP p k n come v).chg j = false) → OkO come → liesO come (comeC p cl e n) = true → passC p v.W k n come = (0, 0)
  | 0, n, come, hn, _, _, hc => by
    have : n = p.length := by omega
    rw [this, ht.steps.2] at hc
    unfold passC
    cases come with
    | none => rfl
    | some s => cases hc
  | k + 1, n, come, hn, h, hok, hc => by
    have hn' : n < p.length := by omega
    have hr := hp.regs n hn'
    obtain ⟨q1, q2, q3, q4⟩ := stepP_quiet hp (n := n) hn' (come := come) (v := v) (fun j hj => passP_chg k (n + 1) _ _ (h j hj))
    have hs0 := stepC_ok (ht.steps.1 n hn')
    have hhere : liesO (if markB p n then v.W n else come) (if markB p n then cl n else comeC p cl e n) = true := by
      split
      · exact hle n
      · exact hc
    have hhok : OkO (if markB p n then v.W n else come) := by
      split
      · exact hv.ok n
      · exact hok
    have hno : (markB p n && !liesO come (v.W n)) = false := by
      cases hm : markB p n with
      | false => rfl
      | true => rw [q2 hm]; rfl
    have hstep : (stepC p v.W n come).1 = 0 ∧ (stepC p v.W n come).2 = (stepP p n come v).2 ∧ liesO (stepP p n come v).2 (comeC p cl e (n + 1)) = true := by
      unfold stepC
      rw [if_neg (by simp [hno])]
      cases hh : (if markB p n then v.W n else come) with
      | none => rw [q4 hh]; exact ⟨rfl, rfl, rfl⟩
      | some s =>
        rw [hh] at hhere
        obtain ⟨t, ht2, hl⟩ := liesO_some hhere
        obtain ⟨d1, d2, d3⟩ := hs0.2 t ht2
        obtain ⟨f1, f2⟩ := q3 s hh
        have hso := hhok s hh
        simp only
        rw [if_neg (by simp [dang_mono hr.1 hl d1]), if_neg (by simp only [Bool.and_eq_true, decide_eq_true_eq, Bool.not_eq_true', not_and, Bool.not_eq_false]; exact f1), f2]
        refine ⟨rfl, rfl, ?_⟩
        show liesO _ (stepC p cl n (comeC p cl e n)).2 = true
        rw [d3]
        have ht64 : t.in64 := (ht.here_ok (n := n) (by omega) (s := t) ht2).2
        exact liesO_on hr.1 hso.1 ht64 hl
    unfold passC
    rw [if_neg (by simp [hstep.1]), hstep.2.1]
    have hinv := stepP_inv hp hn' hv hok
    unfold passP at h
    rw [q1] at h
    exact quiet_pass hp ht hv hle k (n + 1) _ (by omega) h hinv.2 hstep.2.2
/-- no jump goes back: every mark's state lies in what is claimed -/
theorem takes_le {back : Nat → Bool} {v : PS} {m : Nat} {come : Option St} {cl : Nat → Option St} (hb : back m = false) (hle : ∀ j, liesO (v.W j) (cl j) = true) (hc : liesO come (cl m) = true) : ∀ j, liesO ((takesP back v m come).W j) (cl j) = true := by
  intro j
  cases hl : liesO come (v.W m) with
  | true => rw [takes_no hl]; exact hle j
  | false =>
    rw [takes_at hl]
    simp only
    split
    · rename_i e
      rw [e]; unfold widerP; rw [if_neg (by simp [hb])]
      exact joinO_least (hle m) hc
    · exact hle j
theorem stepP_le {p : List I5} (hp : Fit p) {cl : Nat → Option St} {e : St} (ht : Taken p cl e) (hb : ∀ m, backB p m = false) {n : Nat} (hn : n < p.length) {come : Option St} {v : PS} (hv : PInv p v) (hok : OkO come) (hle : ∀ j, liesO (v.W j) (cl j) = true) (hc : liesO come (comeC p cl e n) = true) :
    (∀ j, liesO ((stepP p n come v).1.W j) (cl j) = true) ∧ liesO (stepP p n come v).2 (comeC p cl e (n + 1)) = true := by
  have hr := hp.regs n hn
  have hs0 := stepC_ok (ht.steps.1 n hn)
  have h1 : ∀ j, liesO ((if markB p n then takesP (backB p) v n come else v).W j) (cl j) = true := by
    cases hm : markB p n with
    | true => simp only [if_true]; exact takes_le (hb n) hle (liesO_trans hc (hs0.1 hm))
    | false => simpa using hle
  have hi1 : OkO (if markB p n then (takesP (backB p) v n come).W n else come) := by
    split
    · rename_i hm; exact (takes_inv hv hm hok).ok n
    · exact hok
  have hhere : liesO (if markB p n then (takesP (backB p) v n come).W n else come) (if markB p n then cl n else comeC p cl e n) = true := by
    cases hm : markB p n with
    | true => have := h1 n; rw [hm] at this; simpa using this
    | false => simpa using hc
  unfold stepP
  cases hh : (if markB p n then (takesP (backB p) v n come).W n else come) with
  | none => exact ⟨h1, rfl⟩
  | some s =>
    rw [hh] at hhere
    obtain ⟨t, ht2, hl⟩ := liesO_some hhere
    obtain ⟨_, d2, d3⟩ := hs0.2 t ht2
    have hso := hi1 s hh
    have ht64 : t.in64 := (ht.here_ok (n := n) (by omega) (s := t) ht2).2
    refine ⟨?_, ?_⟩
    · simp only
      split
      · rename_i h9
        exact takes_le (hb _) h1 (liesO_trans (liesO_far hr.1 hso.2 hl) (d2 h9))
      · exact h1
    · show liesO _ (stepC p cl n (comeC p cl e n)).2 = true
      rw [d3]
      exact liesO_on hr.1 hso.1 ht64 hl
theorem passP_le {p : List I5} (hp : Fit p) {cl : Nat → Option St} {e : St} (ht : Taken p cl e) (hb : ∀ m, backB p m = false) : ∀ (k n : Nat) (come : Option St) (v : PS), n + k = p.length → PInv p v → OkO come → (∀ j, liesO (v.W j) (cl j) = true) → liesO come (comeC p cl e n) = true → ∀ j, liesO ((passP p k n come v).W j) (cl j) = true
  | 0, _, _, _, _, _, _, hle, _ => hle
  | k + 1, n, come, v, hn, hv, hok, hle, hc => by
    have h1 := stepP_le hp ht hb (n := n) (by omega) hv hok hle hc
    have h2 := stepP_inv hp (n := n) (by omega) hv hok
    exact passP_le hp ht hb k (n + 1) _ _ (by omega) h2.1 h2.2 h1.1 h1.2
theorem Settles.found {p : List I5} (hp : Fit p) {cl : Nat → Option St} {e : St} (ht : Taken p cl e) (hb : ∀ m, backB p m = false) {v v' : PS} (h : Settles p e v v') (hv : PInv p v) (hle : ∀ j, liesO (v.W j) (cl j) = true) :
    (∀ j, liesO (v'.W j) (cl j) = true) ∧ passC p v'.W p.length 0 (some e) = (0, 0) := by
  have ho : OkO (some e) := fun s hs => by simp only [Option.some.injEq] at hs; rw [← hs]; exact ht.eok
  have hc0 : liesO (some e) (comeC p cl e 0) = true := lies_refl e
  induction h with
  | done v h1 =>
    have hq := anyChg_no h1
    rw [passP_quiet hp _ _ _ _ (by omega) hq]
    exact ⟨hle, quiet_pass hp ht hv hle p.length 0 (some e) (by omega) hq ho hc0⟩
  | more v v' _ _ ih =>
    exact ih (count_inv (passP_inv hp _ _ _ _ (by omega) hv ho)) (passP_le hp ht hb _ _ _ _ (by omega) hv ho hle hc0)
def gapR (r : R2) : Nat := (18446744073709551615 - (r.hi - r.lo)).toNat
def sum8 (f : Nat → Nat) : Nat := f 0 + f 1 + f 2 + f 3 + f 4 + f 5 + f 6 + f 7
def muO (x : Option St) : Nat := match x with
  | none => 147573952589676412928
  | some s => sum8 fun j => gapR (s j)
theorem gap_le {r q : R2} (h : r.sub q) : gapR q ≤ gapR r := by unfold gapR; unfold R2.sub at h; omega
theorem gap_lt {r q : R2} (h : r.sub q) (hq : q.in64) (hne : ¬ q.sub r) : gapR q < gapR r := by
  unfold gapR; unfold R2.sub R2.in64 I64 at *; omega
theorem mu_some_lt {s : St} (hok : s.ok) : muO (some s) < 147573952589676412928 := by
  have h : ∀ j, j < 8 → gapR (s j) ≤ 18446744073709551615 := fun j hj => by have := hok j hj; unfold gapR; omega
  have h0 := h 0 (by omega); have h1 := h 1 (by omega); have h2 := h 2 (by omega); have h3 := h 3 (by omega); have h4 := h 4 (by omega); have h5 := h 5 (by omega); have h6 := h 6 (by omega); have h7 := h 7 (by omega)
  unfold muO sum8; simp only; omega
theorem mu_lt {x y : Option St} (hy : OkO y) (h : liesO x y = true) (hne : liesO y x = false) : muO y < muO x := by
  cases y with
  | none => cases hne
  | some t =>
    cases x with
    | none => exact mu_some_lt (hy t rfl).1
    | some s =>
      have hl := lies_iff.1 (show liesR s t = true from h)
      have hn : ¬ ∀ j, j < 8 → (t j).sub (s j) := fun hh => by
        have : liesR t s = true := lies_iff.2 hh
        rw [show liesO (some t) (some s) = liesR t s from rfl, this] at hne; cases hne
      have hle : ∀ j, j < 8 → gapR (t j) ≤ gapR (s j) := fun j hj => gap_le (hl j hj)
      have hex : ∃ j, j < 8 ∧ gapR (t j) < gapR (s j) := by
        refine Classical.byContradiction fun hno => hn fun j hj => ?_
        refine Classical.byContradiction fun hs => hno ⟨j, hj, gap_lt (hl j hj) ((hy t rfl).2 j hj) hs⟩
      obtain ⟨j, hj, hlt⟩ := hex
      have h0 := hle 0 (by omega); have h1 := hle 1 (by omega); have h2 := hle 2 (by omega); have h3 := hle 3 (by omega); have h4 := hle 4 (by omega); have h5 := hle 5 (by omega); have h6 := hle 6 (by omega); have h7 := hle 7 (by omega)
      unfold muO sum8; simp only
      rcases (by omega : j = 0 ∨ j = 1 ∨ j = 2 ∨ j = 3 ∨ j = 4 ∨ j = 5 ∨ j = 6 ∨ j = 7) with rfl | rfl | rfl | rfl | rfl | rfl | rfl | rfl <;> omega
def muP (n : Nat) (v : PS) : Nat := match n with
  | 0 => 0
  | n + 1 => muP n v + muO (v.W n)
theorem muP_le {v v' : PS} (h : ∀ j, muO (v'.W j) ≤ muO (v.W j)) : ∀ n, muP n v' ≤ muP n v
  | 0 => Nat.le_refl _
  | n + 1 => Nat.add_le_add (muP_le h n) (h n)
theorem muP_lt {v v' : PS} (h : ∀ j, muO (v'.W j) ≤ muO (v.W j)) {m : Nat} (hm : muO (v'.W m) < muO (v.W m)) : ∀ n, m < n → muP n v' < muP n v
  | 0, h0 => by omega
  | n + 1, h1 => by
    rcases Nat.lt_succ_iff_lt_or_eq.1 h1 with h2 | h2
    · exact Nat.add_lt_add_of_lt_of_le (muP_lt h hm n h2) (h n)
    · rw [← h2]; exact Nat.add_lt_add_of_le_of_lt (muP_le h m) hm
/-- every change makes it less -/
theorem takes_mu {back : Nat → Bool} {v : PS} {m : Nat} {come : Option St} (hv : OkO (v.W m)) (hc : OkO come) : (∀ j, muO ((takesP back v m come).W j) ≤ muO (v.W j)) ∧ (liesO come (v.W m) = false → muO ((takesP back v m come).W m) < muO (v.W m)) := by
  cases hl : liesO come (v.W m) with
  | true => rw [takes_no hl]; exact ⟨fun _ => Nat.le_refl _, fun h => by cases h⟩
  | false =>
    have hu := wider_up (back := back) hv hc
    have hlt : muO (widerP back v m come) < muO (v.W m) := by
      refine mu_lt (wider_ok hv hc) hu.1 ?_
      cases hx : liesO (widerP back v m come) (v.W m) with
      | false => rfl
      | true => have := liesO_trans hu.2 hx; rw [hl] at this; cases this
    rw [takes_at hl]
    refine ⟨fun j => ?_, fun _ => ?_⟩
    · simp only
      split
      · rename_i e; rw [e]; omega
      · exact Nat.le_refl _
    · simp only [if_true]; exact hlt
/-- less, or nothing was changed -/
def Dec (p : List I5) (v v' : PS) : Prop := (∀ j, muO (v'.W j) ≤ muO (v.W j)) ∧ ((∀ j, j < p.length → v'.chg j = v.chg j) ∨ ∃ m, m < p.length ∧ muO (v'.W m) < muO (v.W m))
theorem Dec.refl (p : List I5) (v : PS) : Dec p v v := ⟨fun _ => Nat.le_refl _, Or.inl fun _ _ => rfl⟩
theorem Dec.trans {p : List I5} {a b c : PS} (h : Dec p a b) (k : Dec p b c) : Dec p a c := by
  refine ⟨fun j => Nat.le_trans (k.1 j) (h.1 j), ?_⟩
  rcases h.2 with h2 | ⟨m, hm, h2⟩
  · rcases k.2 with k2 | ⟨m, hm, k2⟩
    · exact Or.inl fun j hj => (k2 j hj).trans (h2 j hj)
    · exact Or.inr ⟨m, hm, Nat.lt_of_lt_of_le k2 (h.1 m)⟩
  · exact Or.inr ⟨m, hm, Nat.lt_of_le_of_lt (k.1 m) h2⟩
theorem takes_dec {p : List I5} {back : Nat → Bool} {v : PS} {m : Nat} {come : Option St} (hm : m < p.length) (hv : OkO (v.W m)) (hc : OkO come) : Dec p v (takesP back v m come) := by
  have h := takes_mu (back := back) hv hc
  refine ⟨h.1, ?_⟩
  cases hl : liesO come (v.W m) with
  | true => rw [takes_no hl]; exact Or.inl fun _ _ => rfl
  | false => exact Or.inr ⟨m, hm, h.2 hl⟩
theorem stepP_dec {p : List I5} (hp : Fit p) {n : Nat} (hn : n < p.length) {come : Option St} {v : PS} (hv : PInv p v) (hc : OkO come) : Dec p v (stepP p n come v).1 := by
  have hr := hp.regs n hn
  have h1 : Dec p v (if markB p n then takesP (backB p) v n come else v) := by
    split
    · exact takes_dec hn (hv.ok n) hc
    · exact Dec.refl p v
  have hi : PInv p (if markB p n then takesP (backB p) v n come else v) := by
    split
    · rename_i hm; exact takes_inv hv hm hc
    · exact hv
  have hh : OkO (if markB p n then (takesP (backB p) v n come).W n else come) := by
    split
    · rename_i hm; exact (takes_inv hv hm hc).ok n
    · exact hc
  unfold stepP
  cases hs : (if markB p n then (takesP (backB p) v n come).W n else come) with
  | none => exact h1
  | some s =>
    have hso := hh s hs
    simp only
    split
    · rename_i h9
      exact h1.trans (takes_dec (hp.jump n hn h9).2 (hi.ok _) (fun t ht => flowFar_keeps hr.1 hso.1 hso.2 ht))
    · exact h1
theorem passP_dec {p : List I5} (hp : Fit p) : ∀ (k n : Nat) (come : Option St) (v : PS), n + k = p.length → PInv p v → OkO come → Dec p v (passP p k n come v)
  | 0, _, _, v, _, _, _ => Dec.refl p v
  | k + 1, n, come, v, hn, hv, hc => by
    have h2 := stepP_inv hp (n := n) (by omega) hv hc
    exact (stepP_dec hp (n := n) (by omega) hv hc).trans (passP_dec hp k (n + 1) _ _ (by omega) h2.1 h2.2)
/-- a pass that changes something makes it less -/
theorem pass_mu {p : List I5} (hp : Fit p) {e : St} (he : e.ok ∧ e.in64) {v : PS} (hv : PInv p v) (h0 : ∀ j, j < p.length → v.chg j = false) (h : anyChg p (passP p p.length 0 (some e) v) = true) : muP p.length (countP (passP p p.length 0 (some e) v)) < muP p.length v := by
  have ho : OkO (some e) := fun s hs => by simp only [Option.some.injEq] at hs; rw [← hs]; exact he
  have hd := passP_dec hp p.length 0 (some e) v (by omega) hv ho
  have hc : muP p.length (countP (passP p p.length 0 (some e) v)) = muP p.length (passP p p.length 0 (some e) v) := by
    generalize p.length = n
    generalize passP p _ 0 (some e) v = u
    induction n with
    | zero => rfl
    | succ n ih => unfold muP; rw [ih]; rfl
  rw [hc]
  rcases hd.2 with h2 | ⟨m, hm, h2⟩
  · exfalso
    unfold anyChg at h
    rw [List.any_eq_true] at h
    obtain ⟨j, hj, hx⟩ := h
    have hj := List.mem_range.1 hj
    rw [h2 j hj, h0 j hj] at hx
    cases hx
  · exact muP_lt hd.1 h2 _ hm
end Go.Proofs.YtamiichlbmllcaaGreatDoor
