/-
  suretyref.Check: what surety.Check answers.
-/
import Derived.Test.YtamiichlbmllcaaDoorRfO
namespace Go.Proofs.YtamiichlbmllcaaDoor
open Go.RowKit
set_option maxHeartbeats 1000000 in
set_option maxRecDepth 100000 in
theorem rf_Check_err (l : List I5) (e : St) (p q : Int) (hp : (p == 0) = false) (v cv : Value) (w : World) (H : ∀ w1, Below w.heap.size w w1 → Calls Tryd.prog 26 #[v, .agg (stC e)] w1 fun r w' => r = .returned (.tuple #[.int .i64 p, .int .i64 q]) ∧ Below w1.heap.size w1 w') (hv : ∃ a cap, v = .slice a l.length cap) :
    Calls Tryd.prog 20 #[v, .agg (stC e), cv] w fun r w' => r = .returned (.tuple #[.int .i64 p, .int .i64 q]) ∧ Below w.heap.size w w' := by
  have hk := Kn.nil [] w
  obtain ⟨a, cap, rfl⟩ := hv
  have HH := hide H
  clear H
  go_enter Tryd.func20, Tryd.ntmps20
  go_wp2_with (first | (go_at_call 26; refine (HH.out _ hk.mod.below).mono ?_; rintro e w1 ⟨rfl, hb⟩; replace hk := hk.call hb; clear hb) | ((with_reducible show wpList _ _ _ _ _ _); (first | ((with_reducible show wpList _ _ _ (⟨_, _, _, _, _, some _⟩ :: _) _ _); refine wpList_skip (by rfl) ?_; simp only [Act.put, List.setIfInBounds_toArray, List.set_cons_succ, List.set_cons_zero]) | ((first | refine wBuild hk ?_ | refine wFieldZ hk ?_ | refine wField0 hk ?_ | refine wField hk ?_ | refine wIndexA0 hk ?_ | refine wIndexS0 hk ?_ | refine wIndexA hk ?_ | refine wIndexS hk ?_ | refine wLoadR hk ?_ | refine wLoad1 hk ?_ | refine wOldR hk ?_ | refine wOld1 hk ?_ | refine wOldC hk ?_ | refine wOldG hk ?_ | refine wAssertY hk ?_ | refine wAssertN hk ?_); simp only [Act.put, List.setIfInBounds_toArray, List.set_cons_succ, List.set_cons_zero]) | ((first | refine wBox hk ?_ | refine wBox1I hk ?_ | refine wBox1B hk ?_ | refine wBox1S hk ?_ | refine wBox1P hk ?_ | refine wBox1F hk ?_ | refine wAllocR hk ?_ | refine wAlloc1 hk ?_ | refine wMake hk ?_); clear hk; intro w1 hk; simp only [Act.put, List.setIfInBounds_toArray, List.set_cons_succ, List.set_cons_zero]) | ((first | refine wStoreR hk ?_ | refine wStore1I hk ?_ | refine wStore1B hk ?_ | refine wStore1S hk ?_ | refine wStore1P hk ?_ | refine wStore1F hk ?_); clear hk; intro w1 hk; simp only [Act.put]))))
  go_ret2
  exact ⟨rfl, hk.mod.below⟩
theorem rf_Check (l : List I5) (e : St) (cl : List C2) (h64 : In64 l e cl) (hcl : cl.length < 4000000000000) (v cv : Value) (w : World) (h : Slc w v l) (hc : SlcC w cv cl) :
    Calls Tryd.prog 20 #[v, .agg (stC e), cv] w fun r w' => r = .returned (.tuple #[.int .i64 (scheckR l e cl).1, .int .i64 (scheckR l e cl).2]) ∧ Below w.heap.size w w' := by
  rcases rightR_or l with hr | hr
  · have R : scheckR l e cl = ((checkR l e cl).1, ((checkR l e cl).2 : Int)) := by unfold scheckR; rw [if_pos hr]
    rw [R]
    cases hst : isStR e with
    | true =>
      have hne := (right_fit hr).1
      obtain ⟨pb, poff, pcap, rfl, hpb, hI⟩ : ∃ b off cap, v = .slice (some ⟨b, off, none⟩) l.length cap ∧ b < w.heap.size ∧ ∀ i (h : i < l.length), InsAt w b (off + i * 5) l[i] := by
        rcases h with ⟨_, rfl⟩ | h
        · simp at hne
        · exact h
      have hcv : ∃ a cap, cv = .slice a cl.length cap := by
        rcases hc with ⟨⟨a, cap, h⟩, rfl⟩ | ⟨b, off, cap, h, _, _⟩
        · exact ⟨a, cap, h⟩
        · exact ⟨_, cap, h⟩
      obtain ⟨a, cap, rfl⟩ := hcv
      exact rf_Check_ok l hr e hst cl h64 hcl pb poff pcap a cap w hpb hI hc
    | false =>
      have R2 : checkR l e cl = (3, 0) := by unfold checkR; rw [hst]; rfl
      rw [R2]
      exact rf_Check_err l e 3 0 rfl v cv w (fun w1 hb => rf_first_st l e hr false hst v w1 (h.below hb (Nat.le_refl _))) h.len
  · have R : scheckR l e cl = rightR l := by unfold scheckR; rw [if_neg (by intro h; rw [h] at hr; simp at hr)]
    rw [R]
    obtain ⟨p, q, hpq⟩ : ∃ p q, rightR l = (p, q) := ⟨_, _, rfl⟩
    rw [hpq] at hr ⊢
    simp only at hr
    subst hr
    exact rf_Check_err l e 1 q rfl v cv w (fun w1 hb => rf_first_no l e 1 q hpq (by decide) v w1 (h.below hb (Nat.le_refl _))) h.len
end Go.Proofs.YtamiichlbmllcaaDoor
