/-
  The contract of machine.start.
-/
import Derived.Test.YtkihfcdmdofjhaaGreatDoorStepA
import Derived.Deep.RegionHeld3
namespace Go.Proofs.YtkihfcdmdofjhaaGreatDoor
open Go.RowKit
def regsV (r : Nat → Int) : Value := .agg #[.int .i64 (r 0), .int .i64 (r 1), .int .i64 (r 2), .int .i64 (r 3), .int .i64 (r 4), .int .i64 (r 5), .int .i64 (r 6), .int .i64 (r 7)]
def fuelI (f : Int) : Int := min (max f 0) 10000
def zeroW : Nat → Int := fun _ => 0
def startS (r : Nat → Int) : MS := ⟨r, zeroW, 0, 0⟩
def StartP (w : World) (l : List I5) (r : Nat → Int) (f : Int) (e : Ending) (w' : World) : Prop :=
  ∃ g pv, e = .returned (.pointer (some ⟨g, 0, none⟩)) ∧ MRow w' g pv (startS r) (fuelI f) O4.zero ∧ OwnP w' w.heap.size pv l ∧ w.heap.size ≤ g ∧ pv.ownBlock ≠ some g ∧ Below w.heap.size w w'
theorem own_low {w : World} {B B' e size n : Nat} {v : Value} {xs : List Value} (h : w.ownsRow B e size v n xs) (hB : B' ≤ B) : w.ownsRow B' e size v n xs := by
  refine ⟨h.1, ?_⟩
  rcases h.2 with h2 | ⟨g, cap, cur, h3, h4, h5⟩
  · exact Or.inl h2
  · exact Or.inr ⟨g, cap, cur, h3, by omega, h5⟩
theorem own_shape {w : World} {B e size n : Nat} {v : Value} {xs : List Value} (h : w.ownsRow B e size v n xs) (hn : 0 < n) : ∃ b c, v = .slice (some ⟨b, 0, none⟩) n c ∧ B ≤ b ∧ b < w.heap.size := by
  rcases h.2 with ⟨_, h2⟩ | ⟨g, cap, cur, h1, h2, h3, _⟩
  · omega
  · exact ⟨_, _, h1, h2, lt_of_block h3⟩
theorem rbox {w1 : World} {N : Nat} {r : Nat → Int} {T : TypeId} (hH : w1.heap[N]? = some (.cells #[.int .i64 (r 0), .int .i64 (r 1), .int .i64 (r 2), .int .i64 (r 3), .int .i64 (r 4), .int .i64 (r 5), .int .i64 (r 6), .int .i64 (r 7)] T (0, 0))) :
    w1.cell? ⟨N, 0, none⟩ = some (.int .i64 (r 0)) ∧ w1.cell? ⟨N, 1, none⟩ = some (.int .i64 (r 1)) ∧ w1.cell? ⟨N, 2, none⟩ = some (.int .i64 (r 2)) ∧ w1.cell? ⟨N, 3, none⟩ = some (.int .i64 (r 3)) ∧ w1.cell? ⟨N, 4, none⟩ = some (.int .i64 (r 4)) ∧ w1.cell? ⟨N, 5, none⟩ = some (.int .i64 (r 5)) ∧ w1.cell? ⟨N, 6, none⟩ = some (.int .i64 (r 6)) ∧ w1.cell? ⟨N, 7, none⟩ = some (.int .i64 (r 7)) := by
  refine ⟨?_, ?_, ?_, ?_, ?_, ?_, ?_, ?_⟩ <;> rw [cell_of_row _ _ _ _ _ _ hH] <;> rfl
theorem mrow_new (w : World) (pv : Value) (r : Nat → Int) (F : Int) : MRow (w.alloc (.cells #[pv, .int .i64 (r 0), .int .i64 (r 1), .int .i64 (r 2), .int .i64 (r 3), .int .i64 (r 4), .int .i64 (r 5), .int .i64 (r 6), .int .i64 (r 7), .int .i64 0, .int .i64 0, .int .i64 0, .int .i64 0, .int .i64 0, .int .i64 0, .int .i64 0, .int .i64 0, .int .i64 0, .int .i64 0, .int .i64 0, .int .i64 0, .int .i64 0, .int .i64 0, .int .i64 0, .int .i64 0, .int .i64 0, .int .i64 0, .int .i64 F, .int .i64 0, .int .i64 0, .int .i64 0, .int .i64 0] 107)) w.heap.size pv (startS r) F O4.zero := by
  refine ⟨_, heap_alloc_new _ _, rfl, fun j hj => ?_⟩
  match j, hj with
  | 0, _ => rfl
  | 1, _ => rfl
  | 2, _ => rfl
  | 3, _ => rfl
  | 4, _ => rfl
  | 5, _ => rfl
  | 6, _ => rfl
  | 7, _ => rfl
  | 8, _ => rfl
  | 9, _ => rfl
  | 10, _ => rfl
  | 11, _ => rfl
  | 12, _ => rfl
  | 13, _ => rfl
  | 14, _ => rfl
  | 15, _ => rfl
  | 16, _ => rfl
  | 17, _ => rfl
  | 18, _ => rfl
  | 19, _ => rfl
  | 20, _ => rfl
  | 21, _ => rfl
  | 22, _ => rfl
  | 23, _ => rfl
  | 24, _ => rfl
  | 25, _ => rfl
  | 26, _ => rfl
  | 27, _ => rfl
  | 28, _ => rfl
  | 29, _ => rfl
  | 30, _ => rfl
  | 31, _ => rfl
  | j + 32, h => omega
theorem start_fin {w w2 : World} {l : List I5} {pb pc : Nat} (r : Nat → Int) {F f : Int} (HP : Hid (OwnP w2 w.heap.size (.slice (some ⟨pb, 0, none⟩) l.length pc) l)) (HB : Hid (Below w.heap.size w w2)) (R : Hid (fuelI f = F)) :
    MRow (w2.alloc (.cells #[.slice (some ⟨pb, 0, none⟩) l.length pc, .int .i64 (r 0), .int .i64 (r 1), .int .i64 (r 2), .int .i64 (r 3), .int .i64 (r 4), .int .i64 (r 5), .int .i64 (r 6), .int .i64 (r 7), .int .i64 0, .int .i64 0, .int .i64 0, .int .i64 0, .int .i64 0, .int .i64 0, .int .i64 0, .int .i64 0, .int .i64 0, .int .i64 0, .int .i64 0, .int .i64 0, .int .i64 0, .int .i64 0, .int .i64 0, .int .i64 0, .int .i64 0, .int .i64 0, .int .i64 F, .int .i64 0, .int .i64 0, .int .i64 0, .int .i64 0] 107)) w2.heap.size (.slice (some ⟨pb, 0, none⟩) l.length pc) (startS r) (fuelI f) O4.zero ∧ OwnP (w2.alloc (.cells #[.slice (some ⟨pb, 0, none⟩) l.length pc, .int .i64 (r 0), .int .i64 (r 1), .int .i64 (r 2), .int .i64 (r 3), .int .i64 (r 4), .int .i64 (r 5), .int .i64 (r 6), .int .i64 (r 7), .int .i64 0, .int .i64 0, .int .i64 0, .int .i64 0, .int .i64 0, .int .i64 0, .int .i64 0, .int .i64 0, .int .i64 0, .int .i64 0, .int .i64 0, .int .i64 0, .int .i64 0, .int .i64 0, .int .i64 0, .int .i64 0, .int .i64 0, .int .i64 0, .int .i64 F, .int .i64 0, .int .i64 0, .int .i64 0, .int .i64 0] 107)) w.heap.size (.slice (some ⟨pb, 0, none⟩) l.length pc) l ∧ w.heap.size ≤ w2.heap.size ∧ (Value.slice (some ⟨pb, 0, none⟩) l.length pc).ownBlock ≠ some w2.heap.size ∧ Below w.heap.size w (w2.alloc (.cells #[.slice (some ⟨pb, 0, none⟩) l.length pc, .int .i64 (r 0), .int .i64 (r 1), .int .i64 (r 2), .int .i64 (r 3), .int .i64 (r 4), .int .i64 (r 5), .int .i64 (r 6), .int .i64 (r 7), .int .i64 0, .int .i64 0, .int .i64 0, .int .i64 0, .int .i64 0, .int .i64 0, .int .i64 0, .int .i64 0, .int .i64 0, .int .i64 0, .int .i64 0, .int .i64 0, .int .i64 0, .int .i64 0, .int .i64 0, .int .i64 0, .int .i64 0, .int .i64 0, .int .i64 F, .int .i64 0, .int .i64 0, .int .i64 0, .int .i64 0] 107)) := by
  have hlt := (World.ownsRow.lt HP.out pb rfl).2
  refine ⟨by rw [R.out]; exact mrow_new w2 _ r F, World.ownsRow.alloc HP.out _, HB.out.size, ?_, HB.out.alloc HB.out.size _⟩
  simp [Value.ownBlock]
  omega
set_option maxHeartbeats 1000000 in
set_option maxRecDepth 100000 in
theorem start_any (l : List I5) (v : Value) (r : Nat → Int) (f : Int) (w : World) (h : Slc w v l) (hl : 0 < l.length) (hl2 : l.length ≤ 64) :
    Calls Tryz.prog 50 #[v, regsV r, .int .i64 f] w fun e w' => StartP w l r f e w' := by
  unfold regsV
  have hb1 := belAD w (.cells #[.int .i64 (r 0), .int .i64 (r 1), .int .i64 (r 2), .int .i64 (r 3), .int .i64 (r 4), .int .i64 (r 5), .int .i64 (r 6), .int .i64 (r 7)] 41)
  have h1 := hide (h.below hb1 (Nat.le_refl _))
  have HX : Hid (∀ w2, Below (w.alloc (.cells #[.int .i64 (r 0), .int .i64 (r 1), .int .i64 (r 2), .int .i64 (r 3), .int .i64 (r 4), .int .i64 (r 5), .int .i64 (r 6), .int .i64 (r 7)] 41)).drew.heap.size (w.alloc (.cells #[.int .i64 (r 0), .int .i64 (r 1), .int .i64 (r 2), .int .i64 (r 3), .int .i64 (r 4), .int .i64 (r 5), .int .i64 (r 6), .int .i64 (r 7)] 41)).drew w2 → w2.heap[w.heap.size]? = some (.cells #[.int .i64 (r 0), .int .i64 (r 1), .int .i64 (r 2), .int .i64 (r 3), .int .i64 (r 4), .int .i64 (r 5), .int .i64 (r 6), .int .i64 (r 7)] 41 (0, 0)) ∧ Below w.heap.size w w2) :=
    hide (fun w2 hb2 => ⟨(hb2.block _ (lt_of_block (w := (w.alloc _).drew) (heap_alloc_new w _))).trans (heap_alloc_new w _), hb1.trans (hb2.mono hb1.size)⟩)
  clear hb1
  have hcase : f < 0 ∨ (0 ≤ f ∧ f ≤ 10000) ∨ 10000 < f := by omega
  rcases hcase with hf | ⟨hf, hf2⟩ | hf
  · have R : Hid (fuelI f = 0) := hide (by unfold fuelI; omega)
    go_enter Tryz.func50, Tryz.ntmps50
    go_wp2_with fail
    go_region_held3 (fun w' => w'.cell? ⟨w.heap.size, 0, none⟩ = some (.int .i64 (r 0)) ∧ w'.cell? ⟨w.heap.size, 1, none⟩ = some (.int .i64 (r 1)) ∧ w'.cell? ⟨w.heap.size, 2, none⟩ = some (.int .i64 (r 2)) ∧ w'.cell? ⟨w.heap.size, 3, none⟩ = some (.int .i64 (r 3)) ∧ w'.cell? ⟨w.heap.size, 4, none⟩ = some (.int .i64 (r 4)) ∧ w'.cell? ⟨w.heap.size, 5, none⟩ = some (.int .i64 (r 5)) ∧ w'.cell? ⟨w.heap.size, 6, none⟩ = some (.int .i64 (r 6)) ∧ w'.cell? ⟨w.heap.size, 7, none⟩ = some (.int .i64 (r 7))) (go_keep) (first
      | (go_at_call 70; refine (progOf_any l _ _ h1.out hl hl2).mono ?_; rintro e w2 ⟨pv, rfl, hp2, hb2⟩; obtain ⟨hx, bw2⟩ := HX.out w2 hb2; obtain ⟨z0, z1, z2, z3, z4, z5, z6, z7⟩ := rbox hx; obtain ⟨pb, pc, rfl, hpb, hpl⟩ := own_shape hp2 hl; have HP : Hid (OwnP w2 w.heap.size (.slice (some ⟨pb, 0, none⟩) l.length pc) l) := hide (own_low hp2 (by simp)); have HB := hide bw2; clear hb2 hp2 bw2 hx))
    all_goals go_wp2
    all_goals go_ret
    all_goals exact ⟨_, _, rfl, start_fin r HP HB R⟩
  · have R : Hid (fuelI f = f) := hide (by unfold fuelI; omega)
    go_enter Tryz.func50, Tryz.ntmps50
    go_wp2_with fail
    go_region_held3 (fun w' => w'.cell? ⟨w.heap.size, 0, none⟩ = some (.int .i64 (r 0)) ∧ w'.cell? ⟨w.heap.size, 1, none⟩ = some (.int .i64 (r 1)) ∧ w'.cell? ⟨w.heap.size, 2, none⟩ = some (.int .i64 (r 2)) ∧ w'.cell? ⟨w.heap.size, 3, none⟩ = some (.int .i64 (r 3)) ∧ w'.cell? ⟨w.heap.size, 4, none⟩ = some (.int .i64 (r 4)) ∧ w'.cell? ⟨w.heap.size, 5, none⟩ = some (.int .i64 (r 5)) ∧ w'.cell? ⟨w.heap.size, 6, none⟩ = some (.int .i64 (r 6)) ∧ w'.cell? ⟨w.heap.size, 7, none⟩ = some (.int .i64 (r 7))) (go_keep) (first
      | (go_at_call 70; refine (progOf_any l _ _ h1.out hl hl2).mono ?_; rintro e w2 ⟨pv, rfl, hp2, hb2⟩; obtain ⟨hx, bw2⟩ := HX.out w2 hb2; obtain ⟨z0, z1, z2, z3, z4, z5, z6, z7⟩ := rbox hx; obtain ⟨pb, pc, rfl, hpb, hpl⟩ := own_shape hp2 hl; have HP : Hid (OwnP w2 w.heap.size (.slice (some ⟨pb, 0, none⟩) l.length pc) l) := hide (own_low hp2 (by simp)); have HB := hide bw2; clear hb2 hp2 bw2 hx))
    all_goals go_wp2
    all_goals go_ret
    all_goals exact ⟨_, _, rfl, start_fin r HP HB R⟩
  · have R : Hid (fuelI f = 10000) := hide (by unfold fuelI; omega)
    go_enter Tryz.func50, Tryz.ntmps50
    go_wp2_with fail
    go_region_held3 (fun w' => w'.cell? ⟨w.heap.size, 0, none⟩ = some (.int .i64 (r 0)) ∧ w'.cell? ⟨w.heap.size, 1, none⟩ = some (.int .i64 (r 1)) ∧ w'.cell? ⟨w.heap.size, 2, none⟩ = some (.int .i64 (r 2)) ∧ w'.cell? ⟨w.heap.size, 3, none⟩ = some (.int .i64 (r 3)) ∧ w'.cell? ⟨w.heap.size, 4, none⟩ = some (.int .i64 (r 4)) ∧ w'.cell? ⟨w.heap.size, 5, none⟩ = some (.int .i64 (r 5)) ∧ w'.cell? ⟨w.heap.size, 6, none⟩ = some (.int .i64 (r 6)) ∧ w'.cell? ⟨w.heap.size, 7, none⟩ = some (.int .i64 (r 7))) (go_keep) (first
      | (go_at_call 70; refine (progOf_any l _ _ h1.out hl hl2).mono ?_; rintro e w2 ⟨pv, rfl, hp2, hb2⟩; obtain ⟨hx, bw2⟩ := HX.out w2 hb2; obtain ⟨z0, z1, z2, z3, z4, z5, z6, z7⟩ := rbox hx; obtain ⟨pb, pc, rfl, hpb, hpl⟩ := own_shape hp2 hl; have HP : Hid (OwnP w2 w.heap.size (.slice (some ⟨pb, 0, none⟩) l.length pc) l) := hide (own_low hp2 (by simp)); have HB := hide bw2; clear hb2 hp2 bw2 hx))
    all_goals go_wp2
    all_goals go_ret
    all_goals exact ⟨_, _, rfl, start_fin r HP HB R⟩
end Go.Proofs.YtkihfcdmdofjhaaGreatDoor
