/-
  The contract of suretylaw.righted: Right and Encode answer as the document's answer does, and the list that was handed in is as it was.
-/
import Derived.Test.YtamiichlbmllcaaGreatDoorLent
import Derived.Test.YtamiichlbmllcaaGreatDoorLawA
import Derived.Test.YtamiichlbmllcaaGreatDoorRefD
namespace Go.Proofs.YtamiichlbmllcaaGreatDoor
open Go.RowKit
/-- a step's thirty cells -/
def opCells (k on fu pv sv : Value) (e : Nat → Value) (cv : Value) (r : Nat → Value) : Array Value :=
  #[k, on, fu, pv, sv, e 0, e 1, e 2, e 3, e 4, e 5, e 6, e 7, e 8, e 9, e 10, e 11, e 12, e 13, e 14, e 15, cv, r 0, r 1, r 2, r 3, r 4, r 5, r 6, r 7]
theorem box_cell {w w' : World} {A : Array Value} {t : TypeId} (hb : Below (w.alloc (.cells A t)).heap.size (w.alloc (.cells A t)) w') (j : Nat) : w'.cell? ⟨w.heap.size, j, none⟩ = A[j]? := by
  rw [hb.cell (p := ⟨w.heap.size, j, none⟩) (by simp), cell_of_row _ _ _ _ _ _ (heap_alloc_new w _)]
set_option maxHeartbeats 1000000 in
set_option maxRecDepth 100000 in
theorem righted_any (l : List I5) (k on fu pv sv cv : Value) (e r : Nat → Value) (w : World) (hs : Shapes w) (hp : Arg w pv l) (hlen : l.length * 40 ≤ 140737488351232) :
    Calls Tryz.prog 50 #[.agg (opCells k on fu pv sv e cv r)] w fun e w' => e = .returned (.bool true) ∧ Below w.heap.size w w' := by
  unfold opCells
  have hz := hs.1
  go_enter Tryz.func50, Tryz.ntmps50
  go_wp2_with fail
  generalize hW : w.alloc (.cells #[k, on, fu, pv, sv, e 0, e 1, e 2, e 3, e 4, e 5, e 6, e 7, e 8, e 9, e 10, e 11, e 12, e 13, e 14, e 15, cv, r 0, r 1, r 2, r 3, r 4, r 5, r 6, r 7] 44) = w1
  have hb1 : Below w.heap.size w w1 := by rw [← hW]; exact (Below.refl _ _).alloc (Nat.le_refl _) _
  have hc1 : w1.heap[w.heap.size]? = some (.cells #[k, on, fu, pv, sv, e 0, e 1, e 2, e 3, e 4, e 5, e 6, e 7, e 8, e 9, e 10, e 11, e 12, e 13, e 14, e 15, cv, r 0, r 1, r 2, r 3, r 4, r 5, r 6, r 7] 44 (0, 0)) := by rw [← hW]; exact heap_alloc_new _ _
  have hlt1 := lt_of_block hc1
  clear hW
  have hs1 := hs.below hb1 hz
  have hp1 := hp.below hb1 (Nat.le_refl _)
  refine (lent_any l pv w1 hp1 hlen).mono ?_
  rintro x w2 ⟨hv, rfl, hL2, hb2⟩
  have hs2 := hs1.below hb2 hs1.1
  go_wp2_with fail
  refine (Right_any l hv w2 hs2 hL2.slc).mono ?_
  rintro x w3 ⟨rfl, hb3⟩
  have hs3 := hs2.below hb3 hs2.1
  have hL3 := hL2.below hb3
  have hb13 : Below w1.heap.size w1 w3 := hb2.trans (hb3.mono hb2.size)
  clear hL2
  go_wp2_with fail
  obtain ⟨T, E, hEnc⟩ : ∃ (T : ByteArray) (E : Int), Calls Tryz.prog 77 #[hv] w3 (fun e w' => e = .returned (.tuple #[.string T, .int .i64 E]) ∧ Below w3.heap.size w3 w') ∧ ∀ wx, Slc wx pv l → Calls Tryz.prog 79 #[pv] wx (fun e w' => e = .returned (.tuple #[.string T, .int .i64 E]) ∧ Below wx.heap.size wx w') := by
    rcases rightR_or l with hr | hr
    · exact ⟨_, _, Encode_yes l hv w3 hs3 hL3.slc hr, fun wx hx => refEncode_yes l pv wx hx hr⟩
    · exact ⟨_, _, Encode_no l hv w3 hs3 hL3.slc hr, fun wx hx => refEncode_no l pv wx hx hr⟩
  have HE := hide hEnc
  clear hEnc
  refine HE.out.1.mono ?_
  rintro x w4 ⟨rfl, hb4⟩
  have hL4 := hL3.below hb4
  have hb14 : Below w1.heap.size w1 w4 := hb13.trans (hb4.mono hb13.size)
  have q4 : w4.cell? ⟨w.heap.size, 3, none⟩ = some pv := by
    rw [hb14.cell (p := ⟨w.heap.size, 3, none⟩) hlt1, cell_of_row _ _ _ _ _ _ hc1]; rfl
  clear hL3 hb13
  go_wp2_with fail
  refine (lawBack_any l pv hv w1.heap.size w1 w4 hL4 hp1 (Nat.le_refl _) hb14 hlen).mono ?_
  rintro x w5 ⟨rfl, hb5⟩
  have hb15 : Below w1.heap.size w1 w5 := hb14.trans hb5
  have q5 : w5.cell? ⟨w.heap.size, 3, none⟩ = some pv := by
    rw [hb15.cell (p := ⟨w.heap.size, 3, none⟩) hlt1, cell_of_row _ _ _ _ _ _ hc1]; rfl
  clear q4 hb14
  go_wp2_with fail
  refine (refRight_any l pv w5 (hp1.1.below hb15 (Nat.le_refl _))).mono ?_
  rintro x w6 ⟨rfl, hb6⟩
  have hb16 : Below w1.heap.size w1 w6 := hb15.trans (hb6.mono hb15.size)
  have q6 : w6.cell? ⟨w.heap.size, 3, none⟩ = some pv := by
    rw [hb16.cell (p := ⟨w.heap.size, 3, none⟩) hlt1, cell_of_row _ _ _ _ _ _ hc1]; rfl
  clear q5 hb15
  go_wp2_with fail
  refine (HE.out.2 w6 (hp1.1.below hb16 (Nat.le_refl _))).mono ?_
  rintro x w7 ⟨rfl, hb7⟩
  have hb17 : Below w1.heap.size w1 w7 := hb16.trans (hb7.mono hb16.size)
  clear q6 hb16 hb7 hb6 hb5 hb4 hb3 hb2
  generalize (rightR l).1 = R1
  generalize (rightR l).2 = R2
  go_wp2_with (go_at_call 39; refine (num_any _ _).mono ?_; rintro x w' ⟨rfl, rfl⟩)
  go_ret
  exact ⟨rfl, hb1.trans (hb17.mono hb1.size)⟩
end Go.Proofs.YtamiichlbmllcaaGreatDoor
