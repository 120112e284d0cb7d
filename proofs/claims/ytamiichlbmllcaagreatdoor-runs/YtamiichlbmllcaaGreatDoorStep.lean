/-
  The contract of (*machine.machine).step: one instruction of a right program.
-/
import Derived.Test.YtamiichlbmllcaaGreatDoorEnd
namespace Go.Proofs.YtamiichlbmllcaaGreatDoor
open Go.RowKit
/-- behind an instruction -/
def nxt (s : MS) : MS := { s with pc := s.pc + 1, n := s.n + 1 }
def outO (kd : Int) (pc : Nat) (s : MS) (o : O4) : O4 := if kd = 0 then o else endO kd pc s
theorem outO_on (pc : Nat) (s : MS) (o : O4) : outO 0 pc s o = o := rfl
theorem MRow.nxt {w : World} {g : Nat} {pv : Value} {s : MS} {F : Int} {o : O4} (h : MRow w g pv s F o) : MRow ((w.setCell ⟨g, 25, none⟩ (.int .i64 ((s.pc : Int) + 1))).setCell ⟨g, 26, none⟩ (.int .i64 ((s.n : Int) + 1))) g pv (nxt s) F o := by
  have := (h.setPc (s.pc + 1)).setN (s.n + 1)
  simpa [Go.Proofs.YtamiichlbmllcaaGreatDoor.nxt] using this
set_option maxHeartbeats 1000000 in
set_option maxRecDepth 100000 in
theorem step_gen (T f : Nat) (v : Value) (kd : Int) (s' : MS) (g pb cap n : Nat) (s : MS) (F : Int) (o : O4) (w : World) (h : MRow w g (.slice (some ⟨pb, 0, none⟩) n cap) s F o) (hp : s.pc < n) (hn64 : n ≤ 64) (hn : s.n < 1000000)
    (hi : w.cell? ⟨pb, s.pc, none⟩ = some (.iface T v)) (hpg : pb ≠ g)
    (hm : ∀ w, (method 367 T v "surety/machine.do").run Tryz.prog w = .ok (f, v) w)
    (hcf : ∀ w, (callFunc f #[v, .pointer (some ⟨g, 0, none⟩)]).run Tryz.prog w = .ok (.enter f #[v, .pointer (some ⟨g, 0, none⟩)]) w)
    (hcall : Hid (∀ w1, MRow w1 g (.slice (some ⟨pb, 0, none⟩) n cap) (nxt s) F o → Calls Tryz.prog f #[v, .pointer (some ⟨g, 0, none⟩)] w1 fun e w' => e = .returned (.int .i64 kd) ∧ MRow w' g (.slice (some ⟨pb, 0, none⟩) n cap) s' F o ∧ But g w1 w')) :
    Calls Tryz.prog 70 #[.pointer (some ⟨g, 0, none⟩)] w fun e w' => e = .returned (.tuple #[]) ∧ MRow w' g (.slice (some ⟨pb, 0, none⟩) n cap) s' F (outO kd s.pc s' o) ∧ But g w w' := by
  obtain ⟨c0, c25, c26, _⟩ := h.fields
  have f25 := h.free 25
  have f26 := h.free 26
  have hg := RowF.lt h
  have H1 := hide h.nxt
  have hp64 : s.pc < 64 := by omega
  go_enter Tryz.func70, Tryz.ntmps70
  go_wp2_with (fail)
  refine (hcall.out _ H1.out).mono ?_
  rintro e w2 ⟨rfl, h2, b2⟩
  have B2 := hide (((But.set g w 25 (.int .i64 ((s.pc : Int) + 1))).trans (But.set g _ 26 (.int .i64 ((s.n : Int) + 1)))).trans b2)
  have H2 := hide h2
  clear b2 h2 c0 c25 c26 f25 f26
  by_cases hk : kd = 0
  · have R : Hid (outO kd s.pc s' o = o) := hide (by unfold outO; rw [if_pos hk])
    have hq : (kd != 0) = false := by simpa using hk
    clear hk
    go_wp2_with (fail)
    go_end0
    exact ⟨rfl, by rw [R.out]; exact H2.out, B2.out⟩
  · have R : Hid (outO kd s.pc s' o = endO kd s.pc s') := hide (by unfold outO; rw [if_neg hk])
    have hq : (kd != 0) = true := by simpa using hk
    clear hk
    go_wp2_with (go_at_call 104; refine (end_any _ _ g _ s' F o _ H2.out).mono ?_; rintro e w3 ⟨rfl, h3, b3⟩; have H3 := hide h3; have B3 := hide b3; clear h3 b3)
    go_end0
    exact ⟨rfl, by rw [R.out]; exact H3.out, B2.out.trans B3.out⟩
end Go.Proofs.YtamiichlbmllcaaGreatDoor
