/-
  The contract of (*suretylaw.drawer).looks, where only lists of visits have come out.
-/
import Derived.Test.YtamiichlbmllcaaGreatDoorLooks
import Derived.Test.YtamiichlbmllcaaGreatDoorSeen
import Derived.Test.YtamiichlbmllcaaGreatDoorSameV
namespace Go.Proofs.YtamiichlbmllcaaGreatDoor
open Go.RowKit
set_option maxHeartbeats 4000000 in
set_option maxRecDepth 100000 in
theorem looks_vis (wb B : Nat) (lv vd : Value) (xs : List Value) (w : World) (hw : w.heap[wb]? = some (.cells #[lv, .slice none 0 0, vd, .slice none 0 0] 39 (0, 0)))
    (hd : DList w B 58 64 9 markV vd xs) (hx : xs.length < 5000000000000) :
    Calls Tryz.prog 32 #[.pointer (some ⟨wb, 1, none⟩)] w fun e w' => e = .returned (.bool true) ∧ Below w.heap.size w w' := by
  have hwl := lt_of_block hw
  obtain ⟨ad, cd, hed⟩ := hd.len
  have q1 : w.cell? ⟨wb, 1, none⟩ = some (.slice none 0 0) := by rw [cell_of_row _ _ _ _ _ _ hw]; rfl
  have q2 : w.cell? ⟨wb, 2, none⟩ = some (.slice ad xs.length cd) := by rw [cell_of_row _ _ _ _ _ _ hw, ← hed]; rfl
  have q3 : w.cell? ⟨wb, 3, none⟩ = some (.slice none 0 0) := by rw [cell_of_row _ _ _ _ _ _ hw]; rfl
  have HW : Hid (∀ wx, Below w.heap.size w wx → wx.cell? ⟨wb, 1, none⟩ = some (.slice none 0 0) ∧ wx.cell? ⟨wb, 2, none⟩ = some (.slice ad xs.length cd) ∧ wx.cell? ⟨wb, 3, none⟩ = some (.slice none 0 0)) := hide (fun wx hb => ⟨by rw [hb.cell (p := ⟨wb, 1, none⟩) hwl]; exact q1, by rw [hb.cell (p := ⟨wb, 2, none⟩) hwl]; exact q2, by rw [hb.cell (p := ⟨wb, 3, none⟩) hwl]; exact q3⟩)
  have HED := hide hed
  clear hed q2
  have eqA := eq_arr8 0 0 0 0 0 0 0 0
  go_enter Tryz.func32, Tryz.ntmps32
  go_wp2_with fail
  refine wp_loop_rounds 1 ?_
  rw [rounds_succ]
  go_wp2_with fail
  clear q1 q3
  go_loopw [5] (fun j wr => ∃ n : Nat, n ≤ xs.length ∧ j = .int .i64 n ∧ Below w.heap.size w wr) (fun j _ => xs.length - (intOf j).toNat)
  case atStart => exact ⟨0, by omega, rfl, Below.refl _ _⟩
  case round =>
    obtain ⟨n0, hn0, rfl, hbl0⟩ := hrel
    obtain ⟨q1, q2, q3⟩ := HW.out wr hbl0
    by_cases hlt0 : n0 < xs.length
    · obtain ⟨g, c, a, m, c2, he, hcell, hm, hel⟩ := hd.at n0 hlt0
      obtain ⟨ea, _, ec⟩ : ad = some ⟨g, 0, none⟩ ∧ True ∧ cd = c := by rw [HED.out] at he; simpa using he
      subst ea
      subst ec
      have hgl := World.block_lt_of_cell? w _ hcell
      have HEL := hide hel
      have HCE := hide hcell
      clear hel hcell he
      go_wp2_with fail
      clear q1 q2 q3
      go_loopw [6] (fun j wr => ∃ p : Nat, p ≤ m ∧ j = .int .i64 p ∧ Below w.heap.size w wr) (fun j _ => m - (intOf j).toNat)
      case atStart => exact ⟨0, by omega, rfl, hbl0⟩
      case round =>
        obtain ⟨p, hp, rfl, hbp⟩ := hrel
        obtain ⟨q1, q2, q3⟩ := HW.out wr hbp
        have hce : wr.cell? ⟨g, n0, none⟩ = some (.slice a m c2) := by rw [hbp.cell (p := ⟨g, n0, none⟩) hgl]; exact HCE.out
        by_cases hlt2 : p < m
        · obtain ⟨g2, rfl, hcells⟩ := HEL.out p hlt2
          have hcx : ∀ f u, (markV n0)[f]? = some u → wr.cell? ⟨g2, p * 9 + f, none⟩ = some u := fun f u hf => by
            have h2 := hcells f u hf rfl
            rw [hbp.cell (p := ⟨g2, _, none⟩) (World.block_lt_of_cell? w _ h2)]; exact h2
          have z0 : wr.cell? ⟨g2, p * 9, none⟩ = some (.int .i64 (markI n0)) := hcx 0 _ rfl
          have z1 : wr.cell? ⟨g2, p * 9 + 1, none⟩ = some (.int .i64 0) := hcx 1 _ rfl
          have z2 : wr.cell? ⟨g2, p * 9 + 2, none⟩ = some (.int .i64 0) := hcx 2 _ rfl
          have z3 : wr.cell? ⟨g2, p * 9 + 3, none⟩ = some (.int .i64 0) := hcx 3 _ rfl
          have z4 : wr.cell? ⟨g2, p * 9 + 4, none⟩ = some (.int .i64 0) := hcx 4 _ rfl
          have z5 : wr.cell? ⟨g2, p * 9 + 5, none⟩ = some (.int .i64 0) := hcx 5 _ rfl
          have z6 : wr.cell? ⟨g2, p * 9 + 6, none⟩ = some (.int .i64 0) := hcx 6 _ rfl
          have z7 : wr.cell? ⟨g2, p * 9 + 7, none⟩ = some (.int .i64 0) := hcx 7 _ rfl
          have z8 : wr.cell? ⟨g2, p * 9 + 8, none⟩ = some (.int .i64 0) := hcx 8 _ rfl
          clear hcx hcells
          go_wp2_with fail
          go_quiet ((go_at_call 57; exact Calls.quiet_of_same (mark_q _ _ (by omega))))
          go_wp2
          exact ⟨⟨p + 1, by omega, by go_num, below_drewN hbp _⟩, by simp [intOf]; omega⟩
        · go_wp2
          exact ⟨⟨n0 + 1, by omega, by go_num, hbp⟩, by simp [intOf]; omega⟩
    · go_wp2_with fail
      refine wp_loop_rounds 1 ?_
      rw [rounds_succ]
      go_wp2
      go_ret
      exact ⟨rfl, hbl0⟩
end Go.Proofs.YtamiichlbmllcaaGreatDoor
