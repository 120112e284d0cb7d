/-
  The contracts of (*suretylaw.world).decoded, step and plays, for the kinds Right and Decode.
-/
import Derived.Test.YtamiichlbmllcaaGreatDoorLooks
import Derived.Test.YtamiichlbmllcaaGreatDoorRighted
namespace Go.Proofs.YtamiichlbmllcaaGreatDoor
open Go.RowKit
/-- the caller's world: no thread, no visits, no claims; the lists that came out -/
def CInv (w : World) (wb n : Nat) : Prop := ∃ vd xs, xs.length = n ∧ w.heap[wb]? = some (.cells #[.slice none 0 0, vd, .slice none 0 0, .slice none 0 0] 39 (0, 0)) ∧ DList w wb 26 62 5 markC vd xs
theorem CInv.below {w w' : World} {wb n : Nat} (h : CInv w wb n) (hb : Below w.heap.size w w') : CInv w' wb n := by
  obtain ⟨vd, xs, h1, h2, h3⟩ := h
  exact ⟨vd, xs, h1, by rw [hb.block wb (lt_of_block h2)]; exact h2, h3.below hb⟩
theorem decL_len (l : List UInt8) : (decL l).length ≤ 64 := by
  unfold decL
  cases h : decP l with
  | none => simp
  | some p => have := right_fits (decP_enc h).2; simp; omega
set_option maxHeartbeats 1000000 in
set_option maxRecDepth 100000 in
theorem decoded_any (s : ByteArray) (wb n : Nat) (k on fu pv cv : Value) (e r : Nat → Value) (w : World) (hs : Shapes w) (hi : CInv w wb n) (hn : n < 5000000000000) :
    Calls Tryz.prog 51 #[.pointer (some ⟨wb, 0, none⟩), .agg (opCells k on fu pv (.string s) e cv r)] w fun e w' => e = .returned (.bool true) ∧ CInv w' wb (n + 4) ∧ Below wb w w' := by
  unfold opCells
  have hz := hs.1
  have hw0 : wb < w.heap.size := by obtain ⟨_, _, _, h, _⟩ := hi; exact lt_of_block h
  go_enter Tryz.func51, Tryz.ntmps51
  go_wp2_with fail
  generalize hW : w.alloc (.cells #[k, on, fu, pv, .string s, e 0, e 1, e 2, e 3, e 4, e 5, e 6, e 7, e 8, e 9, e 10, e 11, e 12, e 13, e 14, e 15, cv, r 0, r 1, r 2, r 3, r 4, r 5, r 6, r 7] 44) = w1
  have hb1 : Below w.heap.size w w1 := by rw [← hW]; exact (Below.refl _ _).alloc (Nat.le_refl _) _
  have hc1 : w1.heap[w.heap.size]? = some (.cells #[k, on, fu, pv, .string s, e 0, e 1, e 2, e 3, e 4, e 5, e 6, e 7, e 8, e 9, e 10, e 11, e 12, e 13, e 14, e 15, cv, r 0, r 1, r 2, r 3, r 4, r 5, r 6, r 7] 44 (0, 0)) := by rw [← hW]; exact heap_alloc_new _ _
  have hlt1 := lt_of_block hc1
  clear hW
  have hs1 := hs.below hb1 hz
  have hi1 := hi.below hb1
  obtain ⟨vd, xs, hxn, hw1, hd1⟩ := hi1
  have hwl := lt_of_block hw1
  refine (Decode_any s w1 hs1).mono ?_
  rintro x w2 ⟨vl, rfl, hl2, hb2⟩
  have q2 : w2.cell? ⟨w.heap.size, 4, none⟩ = some (.string s) := by
    rw [hb2.cell (p := ⟨w.heap.size, 4, none⟩) hlt1, cell_of_row _ _ _ _ _ _ hc1]; rfl
  go_wp2_with fail
  refine (refRead_some s w2).mono ?_
  rintro x w3 ⟨vm, rfl, hm3, hb3⟩
  have hl3 := hl2.below hb3
  have hdl := decL_len s.data.toList
  generalize decL s.data.toList = L at *
  generalize decE s.data.toList = E at *
  clear q2
  go_wp2_with fail
  refine (sameProgram_eq L vl vm w3 hl3.slc hm3.slc (by omega)).mono ?_
  rintro x w4 ⟨rfl, hb4⟩
  have hl4 := hl3.below hb4
  have hb14 : Below w1.heap.size w1 w4 := (hb2.trans (hb3.mono hb2.size)).trans (hb4.mono (by have := hb2.size; have := hb3.size; omega))
  have hw4 : w4.heap[wb]? = some (.cells #[.slice none 0 0, vd, .slice none 0 0, .slice none 0 0] 39 (0, 0)) := by rw [hb14.block wb hwl]; exact hw1
  have hd4 := hd1.below hb14
  have HVD : Hid (∀ k, vd.ownBlock = some k → k < w1.heap.size) := hide (fun k hk => (World.ownsRow.lt hd1.1 k hk).2)
  have HOL : Hid (∀ k (h : k < xs.length) b, xs[k].ownBlock = some b → b < w1.heap.size) := hide (fun k h b hb => by
    obtain ⟨m, _, ho⟩ := hd1.2.2 k h
    exact (World.ownsRow.lt ho b hb).2)
  have HVB : Hid (∀ k, vd.ownBlock = some k → wb ≤ k) := hide (fun k hk => (World.ownsRow.lt hd1.1 k hk).1)
  clear hl2 hl3 hm3 hd1 hb2 hb3 hb4 hi
  go_wp2_with fail
  refine (prog_any wb wb w1.heap.size _ vd _ _ vl xs L w4 hw4 hd4 (by omega) hl4 (by omega) hb14.size hwl HVD.out HOL.out (by omega)).mono ?_
  rintro x w5 ⟨rfl, vd5, xs5, hx5, hw5, hd5, hf5⟩
  have hinv : CInv w5 wb (n + 4) := ⟨vd5, xs5, by omega, hw5, hd5⟩
  have hbel : Below wb w w5 := ((hb1.mono (by omega)).trans (hb14.mono (by omega))).trans ⟨hf5.os, hf5.tape, hf5.output, hf5.size, fun i hi' => hf5.block i (by omega) (by omega) (fun e => by have := HVB.out i e.symm; omega)⟩
  clear hf5 hd5 hw5 hd4 hw4 hl4
  go_wp2_with (go_at_call 39; refine (num_any _ _).mono ?_; rintro x w' ⟨rfl, rfl⟩)
  go_ret
  exact ⟨rfl, hinv, hbel⟩
/-- one step of the kinds Right and Decode -/
structure OpD where
  k : Int
  on : Value
  fu : Value
  pv : Value
  p : List I5
  s : ByteArray
  e : Nat → Value
  cv : Value
  r : Nat → Value
def OpD.cells (o : OpD) : Array Value := opCells (.int .i64 o.k) o.on o.fu o.pv (.string o.s) o.e o.cv o.r
def OpD.ok (w : World) (o : OpD) : Prop := Arg w o.pv o.p ∧ o.p.length * 40 ≤ 140737488351232
set_option maxHeartbeats 1000000 in
set_option maxRecDepth 100000 in
theorem step_right (o : OpD) (wb n : Nat) (w : World) (hs : Shapes w) (hi : CInv w wb n) (ho : o.ok w) (hk : o.k = 1) :
    Calls Tryz.prog 31 #[.pointer (some ⟨wb, 0, none⟩), .agg o.cells] w fun e w' => e = .returned (.bool true) ∧ (∃ n', n ≤ n' ∧ n' ≤ n + 4 ∧ CInv w' wb n') ∧ Below wb w w' := by
  obtain ⟨k, on, fu, pv, p, s, e, cv, r⟩ := o
  simp only at hk
  subst hk
  have hw0 : wb < w.heap.size := by obtain ⟨_, _, _, h, _⟩ := hi; exact lt_of_block h
  unfold OpD.cells opCells
  simp only
  have HBX : Hid ((w.alloc (.cells #[.int .i64 1, on, fu, pv, .string s, e 0, e 1, e 2, e 3, e 4, e 5, e 6, e 7, e 8, e 9, e 10, e 11, e 12, e 13, e 14, e 15, cv, r 0, r 1, r 2, r 3, r 4, r 5, r 6, r 7] 44)).heap[w.heap.size]? = some (.cells #[.int .i64 1, on, fu, pv, .string s, e 0, e 1, e 2, e 3, e 4, e 5, e 6, e 7, e 8, e 9, e 10, e 11, e 12, e 13, e 14, e 15, cv, r 0, r 1, r 2, r 3, r 4, r 5, r 6, r 7] 44 (0, 0))) := hide (heap_alloc_new _ _)
  go_enter Tryz.func31, Tryz.ntmps31
  go_wp2_with (refine wpList_load_row rfl 44 (.tmp 3) rfl w.heap.size rfl 44 #[.int .i64 1, on, fu, pv, .string s, e 0, e 1, e 2, e 3, e 4, e 5, e 6, e 7, e 8, e 9, e 10, e 11, e 12, e 13, e 14, e 15, cv, r 0, r 1, r 2, r 3, r 4, r 5, r 6, r 7] (0, 0) _ HBX.out Tryz.underlying44 rfl (by kernel_rfl) ?_)
  have hb1 := (Below.refl w.heap.size w).alloc (Nat.le_refl _) (.cells #[.int .i64 1, on, fu, pv, .string s, e 0, e 1, e 2, e 3, e 4, e 5, e 6, e 7, e 8, e 9, e 10, e 11, e 12, e 13, e 14, e 15, cv, r 0, r 1, r 2, r 3, r 4, r 5, r 6, r 7] 44)
  have hs1 := hs.below hb1 hs.1
  have hcall := righted_any p (.int .i64 1) on fu pv (.string s) cv e r _ hs1 (ho.1.below hb1 (Nat.le_refl _)) ho.2
  unfold opCells at hcall
  refine hcall.mono ?_
  clear hcall
  rintro x w2 ⟨rfl, hb2⟩
  have hi2 := (hi.below hb1).below hb2
  have hbl : Below wb w w2 := (hb1.mono (by omega)).trans (hb2.mono (by simp; omega))
  clear hb2 hb1 hs1 hi
  go_wp2
  go_ret
  exact ⟨rfl, ⟨n, by omega, by omega, hi2⟩, hbl⟩
set_option maxHeartbeats 1000000 in
set_option maxRecDepth 100000 in
theorem step_decode (o : OpD) (wb n : Nat) (w : World) (hs : Shapes w) (hi : CInv w wb n) (hn : n < 5000000000000) (hk : o.k = 2) :
    Calls Tryz.prog 31 #[.pointer (some ⟨wb, 0, none⟩), .agg o.cells] w fun e w' => e = .returned (.bool true) ∧ (∃ n', n ≤ n' ∧ n' ≤ n + 4 ∧ CInv w' wb n') ∧ Below wb w w' := by
  obtain ⟨k, on, fu, pv, p, s, e, cv, r⟩ := o
  simp only at hk
  subst hk
  have hw0 : wb < w.heap.size := by obtain ⟨_, _, _, h, _⟩ := hi; exact lt_of_block h
  unfold OpD.cells opCells
  simp only
  have HBX : Hid ((w.alloc (.cells #[.int .i64 2, on, fu, pv, .string s, e 0, e 1, e 2, e 3, e 4, e 5, e 6, e 7, e 8, e 9, e 10, e 11, e 12, e 13, e 14, e 15, cv, r 0, r 1, r 2, r 3, r 4, r 5, r 6, r 7] 44)).heap[w.heap.size]? = some (.cells #[.int .i64 2, on, fu, pv, .string s, e 0, e 1, e 2, e 3, e 4, e 5, e 6, e 7, e 8, e 9, e 10, e 11, e 12, e 13, e 14, e 15, cv, r 0, r 1, r 2, r 3, r 4, r 5, r 6, r 7] 44 (0, 0))) := hide (heap_alloc_new _ _)
  go_enter Tryz.func31, Tryz.ntmps31
  go_wp2_with (refine wpList_load_row rfl 44 (.tmp 3) rfl w.heap.size rfl 44 #[.int .i64 2, on, fu, pv, .string s, e 0, e 1, e 2, e 3, e 4, e 5, e 6, e 7, e 8, e 9, e 10, e 11, e 12, e 13, e 14, e 15, cv, r 0, r 1, r 2, r 3, r 4, r 5, r 6, r 7] (0, 0) _ HBX.out Tryz.underlying44 rfl (by kernel_rfl) ?_)
  have hb1 := (Below.refl w.heap.size w).alloc (Nat.le_refl _) (.cells #[.int .i64 2, on, fu, pv, .string s, e 0, e 1, e 2, e 3, e 4, e 5, e 6, e 7, e 8, e 9, e 10, e 11, e 12, e 13, e 14, e 15, cv, r 0, r 1, r 2, r 3, r 4, r 5, r 6, r 7] 44)
  have hs1 := hs.below hb1 hs.1
  have hcall := decoded_any s wb n (.int .i64 2) on fu pv cv e r _ hs1 (hi.below hb1) hn
  unfold opCells at hcall
  refine hcall.mono ?_
  clear hcall
  rintro x w2 ⟨rfl, hi2, hb2⟩
  have hbl : Below wb w w2 := (hb1.mono (by omega)).trans hb2
  clear hb2 hb1 hs1 hi
  go_wp2
  go_ret
  exact ⟨rfl, ⟨n + 4, by omega, by omega, hi2⟩, hbl⟩
end Go.Proofs.YtamiichlbmllcaaGreatDoor
