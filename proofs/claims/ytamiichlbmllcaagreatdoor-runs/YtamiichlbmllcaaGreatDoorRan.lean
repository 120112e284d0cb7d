/-
  The contracts of suretylaw.ran and (*suretylaw.world).traced.
-/
import Derived.Test.YtamiichlbmllcaaGreatDoorRefRunX
import Derived.Test.YtamiichlbmllcaaGreatDoorRighted
import Derived.Test.YtamiichlbmllcaaGreatDoorLooksV
namespace Go.Proofs.YtamiichlbmllcaaGreatDoor
open Go.RowKit
/-- what of a step's box is read -/
theorem op_reads {w : World} {N : Nat} {k on pv sv cv : Value} {f : Int} {e : Nat → Value} {r : Nat → Int} (h : w.heap[N]? = some (.cells #[k, on, .int .i64 f, pv, sv, e 0, e 1, e 2, e 3, e 4, e 5, e 6, e 7, e 8, e 9, e 10, e 11, e 12, e 13, e 14, e 15, cv, .int .i64 (r 0), .int .i64 (r 1), .int .i64 (r 2), .int .i64 (r 3), .int .i64 (r 4), .int .i64 (r 5), .int .i64 (r 6), .int .i64 (r 7)] 44 (0, 0))) :
    w.cell? ⟨N, 2, none⟩ = some (.int .i64 f) ∧ w.cell? ⟨N, 3, none⟩ = some pv ∧ w.cell? ⟨N, 22, none⟩ = some (.int .i64 (r 0)) ∧ w.cell? ⟨N, 23, none⟩ = some (.int .i64 (r 1)) ∧ w.cell? ⟨N, 24, none⟩ = some (.int .i64 (r 2)) ∧ w.cell? ⟨N, 25, none⟩ = some (.int .i64 (r 3)) ∧ w.cell? ⟨N, 26, none⟩ = some (.int .i64 (r 4)) ∧ w.cell? ⟨N, 27, none⟩ = some (.int .i64 (r 5)) ∧ w.cell? ⟨N, 28, none⟩ = some (.int .i64 (r 6)) ∧ w.cell? ⟨N, 29, none⟩ = some (.int .i64 (r 7)) := by
  refine ⟨?_, ?_, ?_, ?_, ?_, ?_, ?_, ?_, ?_, ?_⟩ <;> rw [cell_of_row _ _ _ _ _ _ h] <;> rfl
set_option maxHeartbeats 2000000 in
set_option maxRecDepth 100000 in
theorem ran_any (l : List I5) (k on pv sv cv : Value) (f : Int) (e : Nat → Value) (r : Nat → Int) (w : World) (hs : Shapes w) (hp : Arg w pv l) (hlen : l.length * 40 ≤ 140737488351232) :
    Calls Tryz.prog 52 #[.agg (opCells k on (.int .i64 f) pv sv e cv (fun j => .int .i64 (r j)))] w fun e w' => e = .returned (.bool true) ∧ Below w.heap.size w w' := by
  unfold opCells
  have hz := hs.1
  have HRV : Hid (regsV r = .agg #[.int .i64 (r 0), .int .i64 (r 1), .int .i64 (r 2), .int .i64 (r 3), .int .i64 (r 4), .int .i64 (r 5), .int .i64 (r 6), .int .i64 (r 7)]) := hide rfl
  go_enter Tryz.func52, Tryz.ntmps52
  go_wp2_with fail
  generalize hW : w.alloc (.cells #[k, on, .int .i64 f, pv, sv, e 0, e 1, e 2, e 3, e 4, e 5, e 6, e 7, e 8, e 9, e 10, e 11, e 12, e 13, e 14, e 15, cv, .int .i64 (r 0), .int .i64 (r 1), .int .i64 (r 2), .int .i64 (r 3), .int .i64 (r 4), .int .i64 (r 5), .int .i64 (r 6), .int .i64 (r 7)] 44) = w1
  have hb1 : Below w.heap.size w w1 := by rw [← hW]; exact (Below.refl _ _).alloc (Nat.le_refl _) _
  have hc1 : w1.heap[w.heap.size]? = some (.cells #[k, on, .int .i64 f, pv, sv, e 0, e 1, e 2, e 3, e 4, e 5, e 6, e 7, e 8, e 9, e 10, e 11, e 12, e 13, e 14, e 15, cv, .int .i64 (r 0), .int .i64 (r 1), .int .i64 (r 2), .int .i64 (r 3), .int .i64 (r 4), .int .i64 (r 5), .int .i64 (r 6), .int .i64 (r 7)] 44 (0, 0)) := by rw [← hW]; exact heap_alloc_new _ _
  have hlt1 := lt_of_block hc1
  have HOP : Hid (∀ wx, Below w1.heap.size w1 wx → wx.heap[w.heap.size]? = some (.cells #[k, on, .int .i64 f, pv, sv, e 0, e 1, e 2, e 3, e 4, e 5, e 6, e 7, e 8, e 9, e 10, e 11, e 12, e 13, e 14, e 15, cv, .int .i64 (r 0), .int .i64 (r 1), .int .i64 (r 2), .int .i64 (r 3), .int .i64 (r 4), .int .i64 (r 5), .int .i64 (r 6), .int .i64 (r 7)] 44 (0, 0))) := hide (fun wx hb => (hb.block _ hlt1).trans hc1)
  clear hW hc1
  have hs1 := hs.below hb1 hz
  have hp1 := hp.below hb1 (Nat.le_refl _)
  refine (lent_any l pv w1 hp1 hlen).mono ?_
  rintro x w2 ⟨hv, rfl, hL2, hb2⟩
  have hs2 := hs1.below hb2 hs1.1
  have HLT := hide hL2.lt
  obtain ⟨q2, q3, r0, r1, r2, r3, r4, r5, r6, r7⟩ := op_reads (HOP.out w2 hb2)
  go_wp2_with fail
  rw [← HRV.out]
  refine (Run_any l hv r f w2 hs2 hL2.slc).mono ?_
  rintro x w3 ⟨rfl, hb3⟩
  generalize hO : runOE l r f = O
  have HO := hide hO
  clear hO
  have hL3 := hL2.below hb3
  have hb13 : Below w1.heap.size w1 w3 := hb2.trans (hb3.mono hb2.size)
  clear hL2 q2 q3 r0 r1 r2 r3 r4 r5 r6 r7
  obtain ⟨q2, q3, r0, r1, r2, r3, r4, r5, r6, r7⟩ := op_reads (HOP.out w3 hb13)
  unfold O4.val
  have hn3 : w.heap.size < w3.heap.size := by have := hb13.size; omega
  go_wp2_with fail
  generalize hW4 : w3.alloc (.cells #[.int .i64 O.kind, .int .i64 O.place, .int .i64 O.value, .int .i64 O.steps] 53) = w4
  have hb34 : Below w3.heap.size w3 w4 := by rw [← hW4]; exact belA _ _
  have hx4 : w4.heap[w3.heap.size]? = some (.cells #[.int .i64 O.kind, .int .i64 O.place, .int .i64 O.value, .int .i64 O.steps] 53 (0, 0)) := by rw [← hW4]; exact heap_alloc_new _ _
  have hL4 := hL3.below hb34
  have hb14 : Below w1.heap.size w1 w4 := hb13.trans (hb34.mono hb13.size)
  have hlt4 := lt_of_block hx4
  have HX4 := hide hx4
  clear hL3 hW4 q2 q3 r0 r1 r2 r3 r4 r5 r6 r7 hx4
  have HLT2 : Hid (∀ k, hv.ownBlock = some k → k < w3.heap.size) := hide (fun k hk => Nat.lt_of_lt_of_le (HLT.out k hk) hb3.size)
  refine (lawBack2 l pv hv w1.heap.size w1 w4 hL4 hp1 (Nat.le_refl _) hb14 hlen).mono ?_
  rintro x w5 ⟨rfl, hb5, hk5⟩
  have hb15 : Below w1.heap.size w1 w5 := hb14.trans hb5
  have hx5 := (hk5 _ hlt4 (fun e => by have := HLT2.out _ e.symm; omega)).trans HX4.out
  have hlt5 := lt_of_block hx5
  have HX5 := hide hx5
  obtain ⟨q2, q3, r0, r1, r2, r3, r4, r5, r6, r7⟩ := op_reads (HOP.out w5 hb15)
  have hp5 := hide (hp1.1.below hb15 (Nat.le_refl _))
  clear hL4 hx5 hk5 hb5 hb3 hb2
  go_wp2_with fail
  rw [← HRV.out]
  refine (refRun_any l pv r f w5 hp5.out).mono ?_
  rintro x w6 ⟨u, rfl, hou, hb6⟩
  rw [HO.out]
  obtain ⟨ua, uc, rfl⟩ := own_any_len hou
  unfold O4.val
  obtain ⟨z0, z1, z2, z3, f0, f1, f2, f3⟩ := four_of ((hb6.block _ hlt5).trans HX5.out)
  have hlt6 : w3.heap.size < w6.heap.size := Nat.lt_of_lt_of_le hlt5 hb6.size
  have HB6 := hide (hb1.trans ((hb15.trans (hb6.mono hb15.size)).mono hb1.size))
  generalize hR1 : (rightR l).1 = R1
  clear hou q2 q3 r0 r1 r2 r3 r4 r5 r6 r7 hb6 hb15 hb14 hb13 hb34
  go_wp2_with (go_at_call 39; refine (num_any _ _).mono ?_; rintro x w' ⟨rfl, rfl⟩)
  go_ret
  exact ⟨rfl, HB6.out.alloc HB6.out.size _⟩
end Go.Proofs.YtamiichlbmllcaaGreatDoor
