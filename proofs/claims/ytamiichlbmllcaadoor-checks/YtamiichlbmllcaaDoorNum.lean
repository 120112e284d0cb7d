import Derived.WalkKit
import Derived.Laws.BitsAllLaws
import Derived.Test.YtamiichlbmllcaaDoorRight
/-
  Plain facts on bytes and numbers: a number of several bytes, the low one first.
-/
namespace Go.Proofs.YtamiichlbmllcaaDoor
open Go.RowKit
/-- the low one first -/
def leNat : List UInt8 → Nat
  | [] => 0
  | b :: r => b.toNat + 256 * leNat r
theorem leNat_snoc (l : List UInt8) (b : UInt8) : leNat (l ++ [b]) = leNat l + 256 ^ l.length * b.toNat := by
  induction l with
  | nil => simp [leNat]
  | cons x r ih => simp only [List.cons_append, leNat, ih, List.length_cons, Nat.pow_succ, Nat.mul_add]; rw [Nat.mul_comm (256 ^ r.length) 256, Nat.mul_assoc]; omega
theorem leNat_lt (l : List UInt8) : leNat l < 256 ^ l.length := by
  induction l with
  | nil => simp [leNat]
  | cons x r ih => simp only [leNat, List.length_cons, Nat.pow_succ]; have := x.toNat_lt; omega
theorem pow_lt8 {j : Nat} (h : j < 8) : 256 ^ j * 256 ≤ 18446744073709551616 := by
  have : j = 0 ∨ j = 1 ∨ j = 2 ∨ j = 3 ∨ j = 4 ∨ j = 5 ∨ j = 6 ∨ j = 7 := by omega
  rcases this with rfl | rfl | rfl | rfl | rfl | rfl | rfl | rfl <;> decide
theorem take_snoc (s : ByteArray) (k : Nat) (h : k < s.size) : s.data.toList.take (k + 1) = s.data.toList.take k ++ [s[k]] := by
  rw [List.take_succ_eq_append_getElem (by simpa using h)]; rfl
theorem take_len (s : ByteArray) (k : Nat) (h : k ≤ s.size) : (s.data.toList.take k).length = k := by
  rw [List.length_take]; have : s.data.toList.length = s.size := by rw [Array.length_toList]; rfl
  omega
theorem u64_step (a b j : Nat) (hj : j < 8) (ha : a < 256 ^ j) (hb : b < 256) :
    bits .or .u64 (a : Int) (IntKind.u64.wrap (IntKind.u64.wrap (b : Int) * 2 ^ (8 * j))) = ((a + 256 ^ j * b : Nat) : Int) := by
  have hp := pow_lt8 hj
  have e2 : (2 : Nat) ^ (8 * j) = 256 ^ j := by rw [Nat.pow_mul]
  have hbj : 256 ^ j * b < 18446744073709551616 := Nat.lt_of_lt_of_le ((Nat.mul_lt_mul_left (Nat.pow_pos (by omega))).2 hb) hp
  have e1 : IntKind.u64.wrap (b : Int) = (b : Int) := by rw [IntKind.wrap_u64]; omega
  have e3 : (b : Int) * 2 ^ (8 * j) = ((256 ^ j * b : Nat) : Int) := by
    have : ((2 : Int) ^ (8 * j)) = (((2 : Nat) ^ (8 * j) : Nat) : Int) := by simp
    rw [this, e2, Int.mul_comm]; rfl
  have e4 : IntKind.u64.wrap ((256 ^ j * b : Nat) : Int) = ((256 ^ j * b : Nat) : Int) := by rw [IntKind.wrap_u64]; omega
  rw [e1, e3, e4, u64_or_nat _ _ (by omega) hbj]
  have h := Nat.two_pow_add_eq_or_of_lt (i := 8 * j) (b := a) (by rw [e2]; exact ha) b
  rw [e2] at h
  rw [Nat.or_comm, ← h, Nat.add_comm]
theorem leNat_step (s : ByteArray) (j : Nat) (hs : s.size ≤ 8) (h : j < s.size) :
    bits .or .u64 (leNat (s.data.toList.take j) : Int) (IntKind.u64.wrap (IntKind.u64.wrap (s[j].toNat : Int) * 2 ^ (8 * j))) = (leNat (s.data.toList.take (j + 1)) : Int) := by
  have hl := take_len s j (by omega)
  have := leNat_lt (s.data.toList.take j)
  rw [hl] at this
  rw [u64_step _ _ j (by omega) this s[j].toNat_lt, take_snoc s j h, leNat_snoc, hl]
end Go.Proofs.YtamiichlbmllcaaDoor
/-
  The contract of code.readNumber, for every string of at most eight bytes.
-/
namespace Go.Proofs.YtamiichlbmllcaaDoor
open Go.RowKit
theorem ret_int {k : IntKind} {a b : Int} (h : a = b) : Ending.returned (.int k a) = .returned (.int k b) := by rw [h]
set_option maxHeartbeats 400000 in
theorem readNumber_any (s : ByteArray) (w : World) (hs : s.size ≤ 8) :
    Calls Tryd.prog 35 #[.string s] w fun e w' => e = .returned (.int .i64 (wrap64 (leNat s.data.toList))) ∧ w' = w := by
  go_enter Tryd.func35, Tryd.ntmps35
  go_wp2
  go_loop [3, 7] (fun k i => ∃ j : Nat, j ≤ s.size ∧ i = .int .i64 j ∧ k = .int .u64 (leNat (s.data.toList.take j))) (fun _ i => s.size - (intOf i).toNat)
  case atStart => exact ⟨0, by omega, rfl, rfl⟩
  case round =>
    obtain ⟨j, hj, rfl, rfl⟩ := hrel
    by_cases hlt : j < s.size
    · have R := hide (leNat_step s j hs hlt)
      go_wp2
      exact ⟨⟨j + 1, by omega, by go_num, by rw [R.out]⟩, by simp [intOf]; omega⟩
    · have R : Hid (s.data.toList.take j = s.data.toList) := hide (List.take_of_length_le (by rw [Array.length_toList]; show s.size ≤ j; omega))
      go_wp2
      go_ret
      exact ⟨ret_int (by rw [R.out]), rfl⟩
end Go.Proofs.YtamiichlbmllcaaDoor
