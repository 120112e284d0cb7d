/-
  The contract of machine.start.
-/
import Derived.Test.YtamiichlbmllcaaGreatDoorStepA
import Derived.Test.YtamiichlbmllcaaGreatDoorFit
import Derived.Deep.RegionHeld3
namespace Go.Proofs.YtamiichlbmllcaaGreatDoor
open Go.RowKit
def regsV (r : Nat → Int) : Value := .agg #[.int .i64 (r 0), .int .i64 (r 1), .int .i64 (r 2), .int .i64 (r 3), .int .i64 (r 4), .int .i64 (r 5), .int .i64 (r 6), .int .i64 (r 7)]
def fuelI (f : Int) : Int := min (max f 0) 10000
def zeroW : Nat → Int := fun _ => 0
def startS (r : Nat → Int) : MS := ⟨r, zeroW, 0, 0⟩
def StartP (w : World) (pb cap : Nat) (n : Nat) (r : Nat → Int) (f : Int) (e : Ending) (w' : World) : Prop :=
  ∃ g, e = .returned (.pointer (some ⟨g, 0, none⟩)) ∧ MRow w' g (.slice (some ⟨pb, 0, none⟩) n cap) (startS r) (fuelI f) O4.zero ∧ w.heap.size ≤ g ∧ Below w.heap.size w w'
theorem own_low {w : World} {B B' e size n : Nat} {v : Value} {xs : List Value} (h : w.ownsRow B e size v n xs) (hB : B' ≤ B) : w.ownsRow B' e size v n xs := by
  refine ⟨h.1, ?_⟩
  rcases h.2 with h2 | ⟨g, cap, cur, h3, h4, h5⟩
  · exact Or.inl h2
  · exact Or.inr ⟨g, cap, cur, h3, by omega, h5⟩
theorem own_shape {w : World} {B e size n : Nat} {v : Value} {xs : List Value} (h : w.ownsRow B e size v n xs) (hn : 0 < n) : ∃ b c, v = .slice (some ⟨b, 0, none⟩) n c ∧ B ≤ b ∧ b < w.heap.size := by
  rcases h.2 with ⟨_, h2⟩ | ⟨g, cap, cur, h1, h2, h3, _⟩
  · omega
  · exact ⟨_, _, h1, h2, lt_of_block h3⟩
theorem rbox {w1 : World} {N : Nat} {r : Nat → Int} {T : TypeId} (hH : w1.heap[N]? = some (.cells #[.int .i64 (r 0), .int .i64 (r 1), .int .i64 (r 2), .int .i64 (r 3), .int .i64 (r 4), .int .i64 (r 5), .int .i64 (r 6), .int .i64 (r 7)] T (0, 0))) :
    w1.cell? ⟨N, 0, none⟩ = some (.int .i64 (r 0)) ∧ w1.cell? ⟨N, 1, none⟩ = some (.int .i64 (r 1)) ∧ w1.cell? ⟨N, 2, none⟩ = some (.int .i64 (r 2)) ∧ w1.cell? ⟨N, 3, none⟩ = some (.int .i64 (r 3)) ∧ w1.cell? ⟨N, 4, none⟩ = some (.int .i64 (r 4)) ∧ w1.cell? ⟨N, 5, none⟩ = some (.int .i64 (r 5)) ∧ w1.cell? ⟨N, 6, none⟩ = some (.int .i64 (r 6)) ∧ w1.cell? ⟨N, 7, none⟩ = some (.int .i64 (r 7)) := by
  refine ⟨?_, ?_, ?_, ?_, ?_, ?_, ?_, ?_⟩ <;> rw [cell_of_row _ _ _ _ _ _ hH] <;> rfl
theorem mrow_new (w : World) (pv : Value) (r : Nat → Int) (F : Int) : MRow (w.alloc (.cells #[pv, .int .i64 (r 0), .int .i64 (r 1), .int .i64 (r 2), .int .i64 (r 3), .int .i64 (r 4), .int .i64 (r 5), .int .i64 (r 6), .int .i64 (r 7), .int .i64 0, .int .i64 0, .int .i64 0, .int .i64 0, .int .i64 0, .int .i64 0, .int .i64 0, .int .i64 0, .int .i64 0, .int .i64 0, .int .i64 0, .int .i64 0, .int .i64 0, .int .i64 0, .int .i64 0, .int .i64 0, .int .i64 0, .int .i64 0, .int .i64 F, .int .i64 0, .int .i64 0, .int .i64 0, .int .i64 0] 130)) w.heap.size pv (startS r) F O4.zero := by
  refine ⟨_, heap_alloc_new _ _, rfl, fun j hj => ?_⟩
  match j, hj with
  | 0, _ => rfl
  | 1, _ => rfl
  | 2, _ => rfl
  | 3, _ => rfl
  | 4, _ => rfl
  | 5, _ => rfl
  | 6, _ => rfl
  | 7, _ => rfl
  | 8, _ => rfl
  | 9, _ => rfl
  | 10, _ => rfl
  | 11, _ => rfl
  | 12, _ => rfl
  | 13, _ => rfl
  | 14, _ => rfl
  | 15, _ => rfl
  | 16, _ => rfl
  | 17, _ => rfl
  | 18, _ => rfl
  | 19, _ => rfl
  | 20, _ => rfl
  | 21, _ => rfl
  | 22, _ => rfl
  | 23, _ => rfl
  | 24, _ => rfl
  | 25, _ => rfl
  | 26, _ => rfl
  | 27, _ => rfl
  | 28, _ => rfl
  | 29, _ => rfl
  | 30, _ => rfl
  | 31, _ => rfl
  | j + 32, h => omega
theorem mrow_new2 {w : World} {g : Nat} (hg : g = w.heap.size) (pv : Value) (r : Nat → Int) (F : Int) : MRow (w.alloc (.cells #[pv, .int .i64 (r 0), .int .i64 (r 1), .int .i64 (r 2), .int .i64 (r 3), .int .i64 (r 4), .int .i64 (r 5), .int .i64 (r 6), .int .i64 (r 7), .int .i64 0, .int .i64 0, .int .i64 0, .int .i64 0, .int .i64 0, .int .i64 0, .int .i64 0, .int .i64 0, .int .i64 0, .int .i64 0, .int .i64 0, .int .i64 0, .int .i64 0, .int .i64 0, .int .i64 0, .int .i64 0, .int .i64 0, .int .i64 0, .int .i64 F, .int .i64 0, .int .i64 0, .int .i64 0, .int .i64 0] 130)) g pv (startS r) F O4.zero := by subst hg; exact mrow_new w pv r F
set_option maxHeartbeats 1000000 in
set_option maxRecDepth 100000 in
theorem start_any (n pb cap : Nat) (r : Nat → Int) (f : Int) (w : World) :
    Calls Tryz.prog 68 #[.slice (some ⟨pb, 0, none⟩) n cap, regsV r, .int .i64 f] w fun e w' => StartP w pb cap n r f e w' := by
  unfold regsV
  have hcase : f < 0 ∨ (0 ≤ f ∧ f ≤ 10000) ∨ 10000 < f := by omega
  rcases hcase with hf | ⟨hf, hf2⟩ | hf
  · have R : Hid (fuelI f = 0) := hide (by unfold fuelI; omega)
    go_enter Tryz.func68, Tryz.ntmps68
    go_wp2
    go_ret
    exact ⟨_, rfl, by rw [R.out]; exact mrow_new2 (by simp) _ r 0, by simp, (belA _ _).alloc (by simp) _⟩
  · have R : Hid (fuelI f = f) := hide (by unfold fuelI; omega)
    go_enter Tryz.func68, Tryz.ntmps68
    go_wp2
    go_ret
    exact ⟨_, rfl, by rw [R.out]; exact mrow_new2 (by simp) _ r f, by simp, (belA _ _).alloc (by simp) _⟩
  · have R : Hid (fuelI f = 10000) := hide (by unfold fuelI; omega)
    go_enter Tryz.func68, Tryz.ntmps68
    go_wp2
    go_ret
    exact ⟨_, rfl, by rw [R.out]; exact mrow_new2 (by simp) _ r 10000, by simp, (belA _ _).alloc (by simp) _⟩
end Go.Proofs.YtamiichlbmllcaaGreatDoor
