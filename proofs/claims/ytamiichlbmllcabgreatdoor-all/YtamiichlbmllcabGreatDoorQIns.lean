import Derived.Test.YtamiichlbmllcabGreatDoorQRI
set_option maxRecDepth 100000
set_option maxHeartbeats 32000000
namespace Go.Proofs.YtamiichlbmllcabGreatDoor
open Go.RowKit
def iVal (i : I5) : Value :=
 if i.o = 1 then .iface 130 (.agg #[.int .i64 i.a, .int .i64 i.k])
 else if i.o = 2 then .iface 132 (.agg #[.int .i64 i.a, .int .i64 i.b])
 else if i.o = 3 then .iface 134 (.agg #[.int .i64 i.a, .int .i64 i.b, .int .i64 i.c])
 else if i.o = 4 then .iface 135 (.agg #[.int .i64 i.a, .int .i64 i.b, .int .i64 i.c])
 else if i.o = 5 then .iface 136 (.agg #[.int .i64 i.a, .int .i64 i.b, .int .i64 i.c])
 else if i.o = 6 then .iface 137 (.agg #[.int .i64 i.a, .int .i64 i.b, .int .i64 i.c])
 else if i.o = 7 then .iface 138 (.agg #[.int .i64 i.a, .int .i64 i.b])
 else if i.o = 8 then .iface 139 (.agg #[.int .i64 i.a, .int .i64 i.b])
 else if i.o = 9 then .iface 141 (.agg #[.int .i64 i.k])
 else if i.o = 10 then .iface 143 (.agg #[.int .i64 i.a, .int .i64 i.b, .int .i64 i.k])
 else if i.o = 11 then .iface 144 (.agg #[.int .i64 i.a, .int .i64 i.b, .int .i64 i.k])
 else .iface 146 (.agg #[])
theorem ret_val {v v' : Value} (h : v = v') : Ending.returned v = .returned v' := by rw [h]
theorem insOf_any (i : I5) (w : World) :
 Calls Tryz.prog 26 #[i.val] w fun e w' => e = .returned (iVal i) /\ Below w.heap.size w w' := by
 obtain ⟨o, a, b, c, k⟩ := i
 unfold I5.val
 simp only
 have hcases : o = 1 \/ o = 2 \/ o = 3 \/ o = 4 \/ o = 5 \/ o = 6 \/ o = 7 \/ o = 8 \/ o = 9 \/ o = 10 \/ o = 11 \/ (o ≠ 1 /\ o ≠ 2 /\ o ≠ 3 /\ o ≠ 4 /\ o ≠ 5 /\ o ≠ 6 /\ o ≠ 7 /\ o ≠ 8 /\ o ≠ 9 /\ o ≠ 10 /\ o ≠ 11) := by omega
 rcases hcases with h | h | h | h | h | h | h | h | h | h | h | h
 all_goals
  have R := hide h
  first
   | subst h
     go_enter Tryz.func26, Tryz.ntmps26
     go_wp2
     go_ret
     exact ⟨ret_val (by simp [iVal]), (((Below.refl _ _).alloc (Nat.le_refl _) _).alloc (by simp) _)⟩
   | have d1 : (o == 1) = false := by rw [beq_eq_false_iff_ne]; omega
     have d2 : (o == 2) = false := by rw [beq_eq_false_iff_ne]; omega
     have d3 : (o == 3) = false := by rw [beq_eq_false_iff_ne]; omega
     have d4 : (o == 4) = false := by rw [beq_eq_false_iff_ne]; omega
     have d5 : (o == 5) = false := by rw [beq_eq_false_iff_ne]; omega
     have d6 : (o == 6) = false := by rw [beq_eq_false_iff_ne]; omega
     have d7 : (o == 7) = false := by rw [beq_eq_false_iff_ne]; omega
     have d8 : (o == 8) = false := by rw [beq_eq_false_iff_ne]; omega
     have d9 : (o == 9) = false := by rw [beq_eq_false_iff_ne]; omega
     have d10 : (o == 10) = false := by rw [beq_eq_false_iff_ne]; omega
     have d11 : (o == 11) = false := by rw [beq_eq_false_iff_ne]; omega
     clear h
     go_enter Tryz.func26, Tryz.ntmps26
     go_wp2
     go_ret
     exact ⟨ret_val (by have := R.out; simp [iVal, this]), (((Below.refl _ _).alloc (Nat.le_refl _) _).alloc (by simp) _)⟩
end Go.Proofs.YtamiichlbmllcabGreatDoor
