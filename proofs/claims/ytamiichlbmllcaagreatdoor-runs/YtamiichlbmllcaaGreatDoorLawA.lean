import Derived.Test.YtamiichlbmllcaaGreatDoorNum
import Derived.Test.YtamiichlbmllcaaGreatDoorKeepD
import Derived.Test.YtamiichlbmllcaaGreatDoorEye
import Derived.Laws.CopyOwn
/-
  The contract of suretylaw.num.
-/
namespace Go.Proofs.YtamiichlbmllcaaGreatDoor
open Go.RowKit
set_option maxHeartbeats 400000 in
theorem num_any (n : Int) (w : World) :
    Calls Tryz.prog 39 #[.int .i64 n] w fun e w' => e = .returned (.int .i64 n) ∧ w = w' := by
  go_enter Tryz.func39, Tryz.ntmps39
  go_wp2
  go_ret
  exact ⟨rfl, rfl⟩
end Go.Proofs.YtamiichlbmllcaaGreatDoor
/-
  The statements' own helpers: contracts of num, mark, sameProgram, lent, back (package suretylaw).
-/
namespace Go.Proofs.YtamiichlbmllcaaGreatDoor
open Go.RowKit
def markI (n : Nat) : Int := -1000 - ((n / 4 : Nat) : Int)
set_option maxHeartbeats 400000 in
theorem mark_any (n : Nat) (w : World) (h : n < 1000000000000000) :
    Calls Tryz.prog 57 #[.int .i64 n] w fun e w' => e = .returned (.int .i64 (markI n)) ∧ w = w' := by
  go_enter Tryz.func57, Tryz.ntmps57
  go_wp2
  go_ret
  exact ⟨rfl, rfl⟩
theorem Slc.pos {w : World} {v : Value} {l : List I5} (h : Slc w v l) (hl : 0 < l.length) : ∃ b off cap, v = .slice (some ⟨b, off, none⟩) l.length cap ∧ b < w.heap.size ∧ ∀ i (h : i < l.length), InsAt w b (off + i * 5) l[i] := by
  rcases h with ⟨_, rfl⟩ | h
  · simp at hl
  · exact h
set_option maxHeartbeats 400000 in
theorem sameProgram_nil (a1 a2 : Option Addr) (c1 c2 : Nat) (w : World) :
    Calls Tryz.prog 82 #[.slice a1 0 c1, .slice a2 0 c2] w fun e w' => e = .returned (.bool true) ∧ Below w.heap.size w w' := by
  go_enter Tryz.func82, Tryz.ntmps82
  go_wp2_with fail
  refine wp_loop_rounds 1 ?_
  rw [rounds_succ]
  go_wp2
  go_ret
  exact ⟨rfl, Below.refl _ _⟩
set_option maxHeartbeats 400000 in
theorem sameProgram_eq (l : List I5) (va vb : Value) (w : World) (ha : Slc w va l) (hb : Slc w vb l) (hl : l.length < 9223372036854775808) :
    Calls Tryz.prog 82 #[va, vb] w fun e w' => e = .returned (.bool true) ∧ Below w.heap.size w w' := by
  by_cases h0 : l.length = 0
  · obtain ⟨a1, c1, rfl⟩ := ha.len
    obtain ⟨a2, c2, rfl⟩ := hb.len
    rw [h0]
    exact sameProgram_nil a1 a2 c1 c2 w
  · obtain ⟨b1, o1, c1, rfl, hb1, hi1⟩ := ha.pos (by omega)
    obtain ⟨b2, o2, c2, rfl, hb2, hi2⟩ := hb.pos (by omega)
    have d1 : ((l.length : Int) != l.length) = false := by simp
    go_enter Tryz.func82, Tryz.ntmps82
    go_wp2_with fail
    go_loopw [5] (fun j wr => ∃ n : Nat, n ≤ l.length ∧ j = .int .i64 n ∧ Below w.heap.size w wr) (fun j _ => l.length - (intOf j).toNat)
    case atStart => exact ⟨0, by omega, rfl, Below.refl _ _⟩
    case round =>
      obtain ⟨n, hn, rfl, hbl⟩ := hrel
      by_cases hlt : n < l.length
      · obtain ⟨a0, a1, a2, a3, a4⟩ := (hi1 n hlt).below hbl hb1
        obtain ⟨e0, e1, e2, e3, e4⟩ := (hi2 n hlt).below hbl hb2
        go_wp2_with fail
        go_quiet (fail)
        go_wp2
        exact ⟨⟨n + 1, by omega, by go_num, below_drewN hbl _⟩, by simp [intOf]; omega⟩
      · go_wp2
        go_ret
        exact ⟨rfl, hbl⟩
end Go.Proofs.YtamiichlbmllcaaGreatDoor
