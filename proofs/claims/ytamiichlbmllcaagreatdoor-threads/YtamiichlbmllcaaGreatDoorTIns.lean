import Derived.Test.YtamiichlbmllcaaGreatDoorTRI
/-
  The contracts of machine.instructionOf, for every instruction.
-/
namespace Go.Proofs.YtamiichlbmllcaaGreatDoor
open Go.RowKit
/-- an instruction behind the interface -/
def iVal (i : I5) : Value :=
  if i.o = 1 then .iface 183 (.agg #[.int .i64 i.a, .int .i64 i.k])
  else if i.o = 2 then .iface 185 (.agg #[.int .i64 i.a, .int .i64 i.b])
  else if i.o = 3 then .iface 187 (.agg #[.int .i64 i.a, .int .i64 i.b, .int .i64 i.c])
  else if i.o = 4 then .iface 188 (.agg #[.int .i64 i.a, .int .i64 i.b, .int .i64 i.c])
  else if i.o = 5 then .iface 189 (.agg #[.int .i64 i.a, .int .i64 i.b, .int .i64 i.c])
  else if i.o = 6 then .iface 190 (.agg #[.int .i64 i.a, .int .i64 i.b, .int .i64 i.c])
  else if i.o = 7 then .iface 191 (.agg #[.int .i64 i.a, .int .i64 i.b])
  else if i.o = 8 then .iface 192 (.agg #[.int .i64 i.a, .int .i64 i.b])
  else if i.o = 9 then .iface 194 (.agg #[.int .i64 i.k])
  else if i.o = 10 then .iface 196 (.agg #[.int .i64 i.a, .int .i64 i.b, .int .i64 i.k])
  else if i.o = 11 then .iface 197 (.agg #[.int .i64 i.a, .int .i64 i.b, .int .i64 i.k])
  else .iface 199 (.agg #[])
theorem ret_val {v v' : Value} (h : v = v') : Ending.returned v = .returned v' := by rw [h]
set_option maxHeartbeats 4000000 in
theorem insOf_any (i : I5) (w : World) :
    Calls Tryz.prog 67 #[i.val] w fun e w' => e = .returned (iVal i) ∧ Below w.heap.size w w' := by
  obtain ⟨o, a, b, c, k⟩ := i
  unfold I5.val
  simp only
  have hcases : o = 1 ∨ o = 2 ∨ o = 3 ∨ o = 4 ∨ o = 5 ∨ o = 6 ∨ o = 7 ∨ o = 8 ∨ o = 9 ∨ o = 10 ∨ o = 11 ∨ (o ≠ 1 ∧ o ≠ 2 ∧ o ≠ 3 ∧ o ≠ 4 ∧ o ≠ 5 ∧ o ≠ 6 ∧ o ≠ 7 ∧ o ≠ 8 ∧ o ≠ 9 ∧ o ≠ 10 ∧ o ≠ 11) := by omega
  rcases hcases with h | h | h | h | h | h | h | h | h | h | h | h
  all_goals
    have R := hide h
    first
      | subst h
        go_enter Tryz.func67, Tryz.ntmps67
        go_wp2
        go_ret
        exact ⟨ret_val (by simp [iVal]), (((Below.refl _ _).alloc (Nat.le_refl _) _).alloc (by simp) _)⟩
      | have d1 : (o == 1) = false := by rw [beq_eq_false_iff_ne]; omega
        have d2 : (o == 2) = false := by rw [beq_eq_false_iff_ne]; omega
        have d3 : (o == 3) = false := by rw [beq_eq_false_iff_ne]; omega
        have d4 : (o == 4) = false := by rw [beq_eq_false_iff_ne]; omega
        have d5 : (o == 5) = false := by rw [beq_eq_false_iff_ne]; omega
        have d6 : (o == 6) = false := by rw [beq_eq_false_iff_ne]; omega
        have d7 : (o == 7) = false := by rw [beq_eq_false_iff_ne]; omega
        have d8 : (o == 8) = false := by rw [beq_eq_false_iff_ne]; omega
        have d9 : (o == 9) = false := by rw [beq_eq_false_iff_ne]; omega
        have d10 : (o == 10) = false := by rw [beq_eq_false_iff_ne]; omega
        have d11 : (o == 11) = false := by rw [beq_eq_false_iff_ne]; omega
        clear h
        go_enter Tryz.func67, Tryz.ntmps67
        go_wp2
        go_ret
        exact ⟨ret_val (by have := R.out; simp [iVal, this]), (((Below.refl _ _).alloc (Nat.le_refl _) _).alloc (by simp) _)⟩
end Go.Proofs.YtamiichlbmllcaaGreatDoor
