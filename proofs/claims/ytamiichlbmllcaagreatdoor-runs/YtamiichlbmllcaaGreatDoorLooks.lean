/-
  The contract of (*suretylaw.drawer).looks: all lists that came out read as their owner left them.
-/
import Derived.Test.YtamiichlbmllcaaGreatDoorDraw
namespace Go.Proofs.YtamiichlbmllcaaGreatDoor
open Go.RowKit
theorem mark_q (n : Nat) (w : World) (h : n < 1000000000000000) :
    Calls Tryz.prog 57 #[.int .i64 n] w fun e w' => e = .returned (.int .i64 (markI n)) ∧ w' = w :=
  (mark_any n w h).mono fun _ _ ⟨h1, h2⟩ => ⟨h1, h2.symm⟩
theorem DList.below {w w' : World} {B st et size : Nat} {X : Nat → List Value} {v : Value} {xs : List Value} (h : DList w B st et size X v xs) (hb : Below w.heap.size w w') : DList w' B st et size X v xs := by
  obtain ⟨h1, h2, h3⟩ := h
  refine ⟨own_block h1 (fun k hk _ => hb.block k (World.ownsRow.lt h1 k hk).2), h2, fun k hk => ?_⟩
  obtain ⟨m, hm, ho⟩ := h3 k hk
  exact ⟨m, hm, own_block ho (fun b hb' _ => hb.block b (World.ownsRow.lt ho b hb').2)⟩
theorem rep_get (Y : List Value) (size m i f : Nat) (hY : Y.length = size) (hi : i < m) (hf : f < Y.length) : ((List.replicate m Y).flatten)[i * size + f]? = Y[f]? := by
  induction m generalizing i with
  | zero => omega
  | succ m ih =>
    rw [List.replicate_succ, List.flatten_cons]
    match i with
    | 0 => rw [Nat.zero_mul, Nat.zero_add, List.getElem?_append_left hf]
    | i + 1 =>
      rw [List.getElem?_append_right (by rw [hY, Nat.add_mul]; omega), show (i + 1) * size + f - Y.length = i * size + f by rw [hY, Nat.add_mul]; omega]
      exact ih i (by omega)
/-- what is read of a list of lists -/
theorem DList.len {w : World} {B st et size : Nat} {X : Nat → List Value} {v : Value} {xs : List Value} (h : DList w B st et size X v xs) : ∃ a c, v = .slice a xs.length c := own_len h.1
theorem DList.at {w : World} {B st et size : Nat} {X : Nat → List Value} {v : Value} {xs : List Value} (h : DList w B st et size X v xs) (k : Nat) (hk : k < xs.length) :
    ∃ g c a m c2, v = .slice (some ⟨g, 0, none⟩) xs.length c ∧ w.cell? ⟨g, k, none⟩ = some (.slice a m c2) ∧ m ≤ 1000 ∧ ∀ i, i < m → ∃ g2, a = some ⟨g2, 0, none⟩ ∧ ∀ f u, (X k)[f]? = some u → (X k).length = size → w.cell? ⟨g2, i * size + f, none⟩ = some u := by
  obtain ⟨h1, h2, h3⟩ := h
  obtain ⟨m, hm, ho⟩ := h3 k hk
  obtain ⟨a, c2, he⟩ := own_len ho
  have h1' := h1
  rcases h1.2 with ⟨_, hz⟩ | ⟨g, cap, cur, rfl, _⟩
  · omega
  · refine ⟨g, cap, a, m, c2, rfl, ?_, hm, fun i hi => ?_⟩
    · have := World.ownsRow.cells h1' rfl k (xs[k]) (List.getElem?_eq_getElem hk)
      rw [addr_add, Nat.zero_add] at this
      rw [this, he]
    · have ho' := ho
      rcases ho.2 with ⟨_, hz⟩ | ⟨g2, cap2, cur2, he2, _⟩
      · omega
      · rw [he] at he2
        simp only [Value.slice.injEq] at he2
        refine ⟨g2, he2.1, fun f u hf hX => ?_⟩
        have hfl := (List.getElem?_eq_some_iff.1 hf).1
        have hown : (xs[k]).ownBlock = some g2 := by rw [he, he2.1]; rfl
        have hflat : ((List.replicate m (X k)).flatten)[i * size + f]? = some u := by rw [rep_get (X k) size m i f hX hi hfl]; exact hf
        have := World.ownsRow.cells ho' hown (i * size + f) u hflat
        rw [addr_add, Nat.zero_add] at this
        exact this
set_option maxHeartbeats 4000000 in
set_option maxRecDepth 100000 in
theorem looks_ins (wb B : Nat) (lv vd : Value) (xs : List Value) (w : World) (hw : w.heap[wb]? = some (.cells #[lv, vd, .slice none 0 0, .slice none 0 0] 39 (0, 0)))
    (hd : DList w B 26 62 5 markC vd xs) (hx : xs.length < 5000000000000) :
    Calls Tryz.prog 32 #[.pointer (some ⟨wb, 1, none⟩)] w fun e w' => e = .returned (.bool true) ∧ Below w.heap.size w w' := by
  have hwl := lt_of_block hw
  obtain ⟨ad, cd, hed⟩ := hd.len
  have q1 : w.cell? ⟨wb, 1, none⟩ = some (.slice ad xs.length cd) := by rw [cell_of_row _ _ _ _ _ _ hw, ← hed]; rfl
  have q2 : w.cell? ⟨wb, 2, none⟩ = some (.slice none 0 0) := by rw [cell_of_row _ _ _ _ _ _ hw]; rfl
  have q3 : w.cell? ⟨wb, 3, none⟩ = some (.slice none 0 0) := by rw [cell_of_row _ _ _ _ _ _ hw]; rfl
  have HW : Hid (∀ wx, Below w.heap.size w wx → wx.cell? ⟨wb, 1, none⟩ = some (.slice ad xs.length cd) ∧ wx.cell? ⟨wb, 2, none⟩ = some (.slice none 0 0) ∧ wx.cell? ⟨wb, 3, none⟩ = some (.slice none 0 0)) := hide (fun wx hb => ⟨by rw [hb.cell (p := ⟨wb, 1, none⟩) hwl]; exact q1, by rw [hb.cell (p := ⟨wb, 2, none⟩) hwl]; exact q2, by rw [hb.cell (p := ⟨wb, 3, none⟩) hwl]; exact q3⟩)
  have HED := hide hed
  clear hed q1 q2 q3
  go_enter Tryz.func32, Tryz.ntmps32
  go_wp2_with fail
  go_loopw [3] (fun j wr => ∃ n : Nat, n ≤ xs.length ∧ j = .int .i64 n ∧ Below w.heap.size w wr) (fun j _ => xs.length - (intOf j).toNat)
  case atStart => exact ⟨0, by omega, rfl, Below.refl _ _⟩
  case round =>
    obtain ⟨n0, hn0, rfl, hbl0⟩ := hrel
    obtain ⟨q1, q2, q3⟩ := HW.out wr hbl0
    by_cases hlt0 : n0 < xs.length
    · obtain ⟨g, c, a, m, c2, he, hcell, hm, hel⟩ := hd.at n0 hlt0
      obtain ⟨ea, _, ec⟩ : ad = some ⟨g, 0, none⟩ ∧ True ∧ cd = c := by rw [HED.out] at he; simpa using he
      subst ea
      subst ec
      have hgl := World.block_lt_of_cell? w _ hcell
      have HEL := hide hel
      have HCE := hide hcell
      clear hel hcell he
      go_wp2_with fail
      clear q1 q2 q3
      go_loopw [4] (fun j wr => ∃ p : Nat, p ≤ m ∧ j = .int .i64 p ∧ Below w.heap.size w wr) (fun j _ => m - (intOf j).toNat)
      case atStart => exact ⟨0, by omega, rfl, hbl0⟩
      case round =>
        obtain ⟨p, hp, rfl, hbp⟩ := hrel
        obtain ⟨q1, q2, q3⟩ := HW.out wr hbp
        have hce : wr.cell? ⟨g, n0, none⟩ = some (.slice a m c2) := by rw [hbp.cell (p := ⟨g, n0, none⟩) hgl]; exact HCE.out
        by_cases hlt2 : p < m
        · obtain ⟨g2, rfl, hcells⟩ := HEL.out p hlt2
          have hcx : ∀ f u, (markC n0)[f]? = some u → wr.cell? ⟨g2, p * 5 + f, none⟩ = some u := fun f u hf => by
            have h2 := hcells f u hf rfl
            rw [hbp.cell (p := ⟨g2, _, none⟩) (World.block_lt_of_cell? w _ h2)]; exact h2
          have z0 : wr.cell? ⟨g2, p * 5, none⟩ = some (.int .i64 (markI n0)) := hcx 0 _ rfl
          have z1 : wr.cell? ⟨g2, p * 5 + 1, none⟩ = some (.int .i64 0) := hcx 1 _ rfl
          have z2 : wr.cell? ⟨g2, p * 5 + 2, none⟩ = some (.int .i64 0) := hcx 2 _ rfl
          have z3 : wr.cell? ⟨g2, p * 5 + 3, none⟩ = some (.int .i64 0) := hcx 3 _ rfl
          have z4 : wr.cell? ⟨g2, p * 5 + 4, none⟩ = some (.int .i64 0) := hcx 4 _ rfl
          clear hcx hcells
          go_wp2_with fail
          go_quiet ((go_at_call 57; exact Calls.quiet_of_same (mark_q _ _ (by omega))))
          go_wp2
          exact ⟨⟨p + 1, by omega, by go_num, below_drewN hbp _⟩, by simp [intOf]; omega⟩
        · go_wp2
          exact ⟨⟨n0 + 1, by omega, by go_num, hbp⟩, by simp [intOf]; omega⟩
    · go_wp2_with fail
      refine wp_loop_rounds 1 ?_
      rw [rounds_succ]
      go_wp2_with fail
      refine wp_loop_rounds 1 ?_
      rw [rounds_succ]
      go_wp2
      go_ret
      exact ⟨rfl, hbl0⟩
end Go.Proofs.YtamiichlbmllcaaGreatDoor
