/-
  The contract of (*suretylaw.world).traced.
-/
import Derived.Test.YtamiichlbmllcaaGreatDoorRan
namespace Go.Proofs.YtamiichlbmllcaaGreatDoor
open Go.RowKit
/-- the caller's world: no thread, no programs, no claims; the visits that came out -/
def VInv (w : World) (wb n : Nat) : Prop := ∃ vd xs, xs.length = n ∧ w.heap[wb]? = some (.cells #[.slice none 0 0, .slice none 0 0, vd, .slice none 0 0] 39 (0, 0)) ∧ DList w wb 58 64 9 markV vd xs
theorem VInv.below {w w' : World} {wb n : Nat} (h : VInv w wb n) (hb : Below w.heap.size w w') : VInv w' wb n := by
  obtain ⟨vd, xs, h1, h2, h3⟩ := h
  exact ⟨vd, xs, h1, by rw [hb.block wb (lt_of_block h2)]; exact h2, h3.below hb⟩
theorem runVE_len (l : List I5) (r : Nat → Int) (f : Int) : (runVE l r f).length ≤ 100 := by
  unfold runVE
  split
  · unfold runV; rw [List.length_take]; omega
  · simp
theorem OwnV.bel {w w' : World} {base : Nat} {v : Value} {l : List V9} (h : OwnV w base v l) (hb : Below w.heap.size w w') : OwnV w' base v l := own_bel h hb
set_option maxHeartbeats 2000000 in
set_option maxRecDepth 100000 in
theorem traced_any (l : List I5) (wb n : Nat) (k on pv sv cv : Value) (f : Int) (e : Nat → Value) (r : Nat → Int) (w : World) (hs : Shapes w) (hp : Arg w pv l) (hlen : l.length * 40 ≤ 140737488351232) (hi : VInv w wb n) (hn : n < 5000000000000) :
    Calls Tryz.prog 53 #[.pointer (some ⟨wb, 0, none⟩), .agg (opCells k on (.int .i64 f) pv sv e cv (fun j => .int .i64 (r j)))] w fun e w' => e = .returned (.bool true) ∧ VInv w' wb (n + 4) ∧ Below wb w w' := by
  unfold opCells
  have hz := hs.1
  have hw0 : wb < w.heap.size := by obtain ⟨_, _, _, h, _⟩ := hi; exact lt_of_block h
  have HRV : Hid (regsV r = .agg #[.int .i64 (r 0), .int .i64 (r 1), .int .i64 (r 2), .int .i64 (r 3), .int .i64 (r 4), .int .i64 (r 5), .int .i64 (r 6), .int .i64 (r 7)]) := hide rfl
  have hvl := runVE_len l r f
  go_enter Tryz.func53, Tryz.ntmps53
  go_wp2_with fail
  generalize hW : w.alloc (.cells #[k, on, .int .i64 f, pv, sv, e 0, e 1, e 2, e 3, e 4, e 5, e 6, e 7, e 8, e 9, e 10, e 11, e 12, e 13, e 14, e 15, cv, .int .i64 (r 0), .int .i64 (r 1), .int .i64 (r 2), .int .i64 (r 3), .int .i64 (r 4), .int .i64 (r 5), .int .i64 (r 6), .int .i64 (r 7)] 44) = w1
  have hb1 : Below w.heap.size w w1 := by rw [← hW]; exact (Below.refl _ _).alloc (Nat.le_refl _) _
  have hc1 : w1.heap[w.heap.size]? = some (.cells #[k, on, .int .i64 f, pv, sv, e 0, e 1, e 2, e 3, e 4, e 5, e 6, e 7, e 8, e 9, e 10, e 11, e 12, e 13, e 14, e 15, cv, .int .i64 (r 0), .int .i64 (r 1), .int .i64 (r 2), .int .i64 (r 3), .int .i64 (r 4), .int .i64 (r 5), .int .i64 (r 6), .int .i64 (r 7)] 44 (0, 0)) := by rw [← hW]; exact heap_alloc_new _ _
  have hlt1 := lt_of_block hc1
  have HOP : Hid (∀ wx, Below w1.heap.size w1 wx → wx.heap[w.heap.size]? = some (.cells #[k, on, .int .i64 f, pv, sv, e 0, e 1, e 2, e 3, e 4, e 5, e 6, e 7, e 8, e 9, e 10, e 11, e 12, e 13, e 14, e 15, cv, .int .i64 (r 0), .int .i64 (r 1), .int .i64 (r 2), .int .i64 (r 3), .int .i64 (r 4), .int .i64 (r 5), .int .i64 (r 6), .int .i64 (r 7)] 44 (0, 0))) := hide (fun wx hb => (hb.block _ hlt1).trans hc1)
  clear hW hc1
  have hs1 := hs.below hb1 hz
  have hp1 := hp.below hb1 (Nat.le_refl _)
  have hi1 := hi.below hb1
  obtain ⟨vd, xs, hxn, hw1, hd1⟩ := hi1
  have hwl := lt_of_block hw1
  refine (lent_any l pv w1 hp1 hlen).mono ?_
  rintro x w2 ⟨hv, rfl, hL2, hb2⟩
  have hs2 := hs1.below hb2 hs1.1
  have HLT := hide hL2.lt
  obtain ⟨q2, q3, r0, r1, r2, r3, r4, r5, r6, r7⟩ := op_reads (HOP.out w2 hb2)
  go_wp2_with fail
  rw [← HRV.out]
  refine (Trace_any l hv r f w2 hs2 hL2.slc).mono ?_
  rintro x w3 ⟨u, rfl, hou, hb3⟩
  generalize hV : runVE l r f = V at hvl hou
  have HV := hide hV
  clear hV
  obtain ⟨ua, uc, rfl⟩ := own_any_len hou
  have hL3 := hL2.below hb3
  have hb13 : Below w1.heap.size w1 w3 := hb2.trans (hb3.mono hb2.size)
  have hsz2 := hb2.size
  have hsz3 := hb3.size
  clear hL2 q2 q3 r0 r1 r2 r3 r4 r5 r6 r7
  obtain ⟨q2, q3, r0, r1, r2, r3, r4, r5, r6, r7⟩ := op_reads (HOP.out w3 hb13)
  generalize hR1 : (rightR l).1 = R1
  have HR1 := hide hR1
  clear hR1
  go_wp2_with fail
  refine (lawBack2 l pv hv w1.heap.size w1 w3 hL3 hp1 (Nat.le_refl _) hb13 hlen).mono ?_
  rintro x w5 ⟨rfl, hb5, hk5⟩
  have hb15 : Below w1.heap.size w1 w5 := hb13.trans hb5
  have hou5 : OwnV w5 w2.heap.size (.slice ua V.length uc) V := by
    refine ⟨hou.1, ?_⟩
    rcases hou.2 with h2 | ⟨g2, cap, cur, h3, h4, hh, rr⟩
    · exact Or.inl h2
    · exact Or.inr ⟨g2, cap, cur, h3, h4, by rw [hk5 g2 (lt_of_block hh) (fun e => by have := HLT.out _ e.symm; omega)]; exact hh, rr⟩
  have HOU := hide hou5
  clear q2 q3 r0 r1 r2 r3 r4 r5 r6 r7 hou hou5 hk5
  obtain ⟨q2, q3, r0, r1, r2, r3, r4, r5, r6, r7⟩ := op_reads (HOP.out w5 hb15)
  have hp5 := hide (hp1.1.below hb15 (Nat.le_refl _))
  go_wp2_with fail
  rw [← HRV.out]
  refine (refRun_any l pv r f w5 hp5.out).mono ?_
  rintro x w6 ⟨m, rfl, hom, hb6⟩
  rw [HV.out] at hom
  rw [HR1.out]
  obtain ⟨ma, mc, rfl⟩ := own_any_len hom
  unfold O4.val
  generalize (runOE l r f) = O
  have hou6 := HOU.out.bel hb6
  have hb16 : Below w1.heap.size w1 w6 := hb15.trans (hb6.mono hb15.size)
  clear q2 q3 r0 r1 r2 r3 r4 r5 r6 r7
  go_wp2_with fail
  generalize hW7 : w6.alloc (.cells #[.int .i64 O.kind, .int .i64 O.place, .int .i64 O.value, .int .i64 O.steps] 53) = w7
  have hb67 : Below w6.heap.size w6 w7 := by rw [← hW7]; exact belA _ _
  clear hW7
  have hou7 := hou6.bel hb67
  have hom7 := hom.bel hb67
  have hb17 : Below w1.heap.size w1 w7 := hb16.trans (hb67.mono hb16.size)
  refine (sameV_any V _ _ _ _ w7 hou7 hom7 hvl).mono ?_
  rintro x w8 ⟨rfl, hb8⟩
  have hou8 := hou7.bel hb8
  have hb18 : Below w1.heap.size w1 w8 := hb17.trans (hb8.mono hb17.size)
  have hw8 : w8.heap[wb]? = some (.cells #[.slice none 0 0, .slice none 0 0, vd, .slice none 0 0] 39 (0, 0)) := by rw [hb18.block wb hwl]; exact hw1
  have hd8 := hd1.below hb18
  have HVD : Hid (∀ k, vd.ownBlock = some k → k < w1.heap.size) := hide (fun k hk => (World.ownsRow.lt hd1.1 k hk).2)
  have HOL : Hid (∀ k (h : k < xs.length) b, xs[k].ownBlock = some b → b < w1.heap.size) := hide (fun k h b hb => by
    obtain ⟨m, _, ho⟩ := hd1.2.2 k h
    exact (World.ownsRow.lt ho b hb).2)
  have HVB : Hid (∀ k, vd.ownBlock = some k → wb ≤ k) := hide (fun k hk => (World.ownsRow.lt hd1.1 k hk).1)
  clear hd1 hb2 hb3 hb5 hb6 hb67 hb8 hi hL3 hou6 hou7 hom7 hom HOU
  go_wp2_with fail
  refine (seen_any wb wb w1.heap.size vd _ _ _ _ xs V.length (V.flatMap V9.cells) w8 hw8 hd8 (by omega) (own_low hou8 hsz2) (by omega) hb18.size hwl HVD.out HOL.out (by omega)).mono ?_
  rintro x w9 ⟨rfl, vd9, xs9, hx9, hw9, hd9, hf9⟩
  have hinv : VInv w9 wb (n + 4) := ⟨vd9, xs9, by omega, hw9, hd9⟩
  have hbel : Below wb w w9 := ((hb1.mono (by omega)).trans (hb18.mono (by omega))).trans ⟨hf9.os, hf9.tape, hf9.output, hf9.size, fun i hi' => hf9.block i (by omega) (by omega) (fun e => by have := HVB.out i e.symm; omega)⟩
  clear hf9 hd9 hw9 hd8 hw8 hou8
  go_wp2_with (go_at_call 39; refine (num_any _ _).mono ?_; rintro x w' ⟨rfl, rfl⟩)
  go_ret
  exact ⟨rfl, hinv, hbel⟩
end Go.Proofs.YtamiichlbmllcaaGreatDoor
