/-
  The contracts of (*machine.machine).end and isReady.
-/
import Derived.Test.YtamiichlbmllcaaGreatDoorDo2
namespace Go.Proofs.YtamiichlbmllcaaGreatDoor
open Go.RowKit
/-- how a run ends -/
def endO (kd place : Int) (s : MS) : O4 := ⟨kd, place, if kd = 1 then s.r 0 else 0, s.n⟩
theorem MRow.setO {w : World} {g : Nat} {pv : Value} {s : MS} {F : Int} {o : O4} (h : MRow w g pv s F o) (a b c d : Int) : MRow ((((w.setCell ⟨g, 28, none⟩ (.int .i64 a)).setCell ⟨g, 29, none⟩ (.int .i64 b)).setCell ⟨g, 30, none⟩ (.int .i64 c)).setCell ⟨g, 31, none⟩ (.int .i64 d)) g pv s F ⟨a, b, c, d⟩ :=
  (((h.setKind a).setPlace b).setValue c).setSteps d
theorem But.set4 (g : Nat) (w : World) (a b c d : Value) (i j k l : Nat) : But g w ((((w.setCell ⟨g, i, none⟩ a).setCell ⟨g, j, none⟩ b).setCell ⟨g, k, none⟩ c).setCell ⟨g, l, none⟩ d) :=
  (((But.set g w i a).trans (But.set g _ j b)).trans (But.set g _ k c)).trans (But.set g _ l d)
set_option maxHeartbeats 1000000 in
theorem end_any (kd place : Int) (g : Nat) (pv : Value) (s : MS) (F : Int) (o : O4) (w : World) (h : MRow w g pv s F o) :
    Calls Tryz.prog 104 #[.pointer (some ⟨g, 0, none⟩), .int .i64 kd, .int .i64 place] w fun e w' => e = .returned (.tuple #[]) ∧ MRow w' g pv s F (endO kd place s) ∧ But g w w' := by
  obtain ⟨_, _, c26, _, c28, c29, c30, c31⟩ := h.fields
  have f28 := h.free 28
  have f29 := h.free 29
  have f30 := h.free 30
  have f31 := h.free 31
  obtain ⟨r0, _⟩ := h.reg 0 (by omega)
  have hg := RowF.lt h
  by_cases hk : kd = 1
  · have R : Hid (endO kd place s = ⟨kd, place, s.r 0, s.n⟩) := hide (by simp [endO, hk])
    have hq : (kd == 1) = true := by simpa using hk
    clear hk
    go_enter Tryz.func104, Tryz.ntmps104
    go_wp2
    go_end0
    exact ⟨rfl, by rw [R.out]; exact (h.setO kd place 0 s.n).setValue (s.r 0), (But.set4 _ _ _ _ _ _ _ _ _ _).trans (But.set _ _ _ _)⟩
  · have R : Hid (endO kd place s = ⟨kd, place, 0, s.n⟩) := hide (by simp [endO, hk])
    have hq : (kd == 1) = false := by simpa using hk
    clear hk
    go_enter Tryz.func104, Tryz.ntmps104
    go_wp2
    go_end0
    exact ⟨rfl, by rw [R.out]; exact h.setO kd place 0 s.n, But.set4 _ _ _ _ _ _ _ _ _ _⟩
set_option maxHeartbeats 400000 in
theorem ready_over (g : Nat) (pv : Value) (s : MS) (F : Int) (o : O4) (w : World) (h : MRow w g pv s F o) (hk : (o.kind != 0) = true) :
    Calls Tryz.prog 69 #[.pointer (some ⟨g, 0, none⟩)] w fun e w' => e = .returned (.bool false) ∧ w = w' := by
  obtain ⟨_, _, _, _, c28, _⟩ := h.fields
  go_enter Tryz.func69, Tryz.ntmps69
  go_wp2
  go_ret
  exact ⟨rfl, rfl⟩
set_option maxHeartbeats 400000 in
theorem ready_end (g : Nat) (a : Option Addr) (n cap : Nat) (s : MS) (F : Int) (o : O4) (w : World) (h : MRow w g (.slice a n cap) s F o) (hk : (o.kind != 0) = false) (hp : ((s.pc : Int) == (n : Int)) = true) :
    Calls Tryz.prog 69 #[.pointer (some ⟨g, 0, none⟩)] w fun e w' => e = .returned (.bool false) ∧ MRow w' g (.slice a n cap) s F (endO 5 s.pc s) ∧ But g w w' := by
  obtain ⟨c0, c25, _, _, c28, _⟩ := h.fields
  have H1 : Hid (MRow w.drew g (.slice a n cap) s F o) := hide h
  go_enter Tryz.func69, Tryz.ntmps69
  go_wp2_with fail
  go_region
  go_wp2_with (go_at_call 104; refine (end_any _ _ g _ s F o _ H1.out).mono ?_; rintro e w2 ⟨rfl, h2, b2⟩)
  go_ret
  exact ⟨rfl, h2, (But.ofBelow ((Below.refl _ _).drew)).trans b2⟩
set_option maxHeartbeats 400000 in
theorem ready_fuel (g : Nat) (a : Option Addr) (n cap : Nat) (s : MS) (F : Int) (o : O4) (w : World) (h : MRow w g (.slice a n cap) s F o) (hk : (o.kind != 0) = false) (hp : ((s.pc : Int) == (n : Int)) = false) (hf : ((s.n : Int) == F) = true) :
    Calls Tryz.prog 69 #[.pointer (some ⟨g, 0, none⟩)] w fun e w' => e = .returned (.bool false) ∧ MRow w' g (.slice a n cap) s F (endO 2 s.pc s) ∧ But g w w' := by
  obtain ⟨c0, c25, c26, c27, c28, _⟩ := h.fields
  have H1 : Hid (MRow w.drew.drew g (.slice a n cap) s F o) := hide h
  go_enter Tryz.func69, Tryz.ntmps69
  go_wp2_with fail
  go_region
  go_wp2_with fail
  go_region
  go_wp2_with (go_at_call 104; refine (end_any _ _ g _ s F o _ H1.out).mono ?_; rintro e w2 ⟨rfl, h2, b2⟩)
  go_ret
  exact ⟨rfl, h2, (But.ofBelow ((Below.refl _ _).drew.drew)).trans b2⟩
set_option maxHeartbeats 400000 in
theorem ready_go (g : Nat) (a : Option Addr) (n cap : Nat) (s : MS) (F : Int) (o : O4) (w : World) (h : MRow w g (.slice a n cap) s F o) (hk : (o.kind != 0) = false) (hp : ((s.pc : Int) == (n : Int)) = false) (hf : ((s.n : Int) == F) = false) :
    Calls Tryz.prog 69 #[.pointer (some ⟨g, 0, none⟩)] w fun e w' => e = .returned (.bool true) ∧ Below w.heap.size w w' := by
  obtain ⟨c0, c25, c26, c27, c28, _⟩ := h.fields
  go_enter Tryz.func69, Tryz.ntmps69
  go_wp2_with fail
  go_region
  go_wp2_with fail
  go_region
  go_wp2
  go_ret
  exact ⟨rfl, ((Below.refl _ _).drew.drew)⟩
end Go.Proofs.YtamiichlbmllcaaGreatDoor
