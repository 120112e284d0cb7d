/-
  The contract of code.readNumber, for every string of at most eight bytes.
-/
import Derived.Test.YtamiichlbmllcaaDoorRight
import Derived.Test.YtamiichlbmllcaaDoorPlain
namespace Go.Proofs.YtamiichlbmllcaaDoor
open Go.RowKit
theorem ret_int {k : IntKind} {a b : Int} (h : a = b) : Ending.returned (.int k a) = .returned (.int k b) := by rw [h]
set_option maxHeartbeats 400000 in
theorem readNumber_any (s : ByteArray) (w : World) (hs : s.size ≤ 8) :
    Calls Tryd.prog 35 #[.string s] w fun e w' => e = .returned (.int .i64 (wrap64 (leNat s.data.toList))) ∧ w' = w := by
  go_enter Tryd.func35, Tryd.ntmps35
  go_wp2
  go_loop [3, 7] (fun k i => ∃ j : Nat, j ≤ s.size ∧ i = .int .i64 j ∧ k = .int .u64 (leNat (s.data.toList.take j))) (fun _ i => s.size - (intOf i).toNat)
  case atStart => exact ⟨0, by omega, rfl, rfl⟩
  case round =>
    obtain ⟨j, hj, rfl, rfl⟩ := hrel
    by_cases hlt : j < s.size
    · have R := hide (leNat_step s j hs hlt)
      go_wp2
      exact ⟨⟨j + 1, by omega, by go_num, by rw [R.out]⟩, by simp [intOf]; omega⟩
    · have R : Hid (s.data.toList.take j = s.data.toList) := hide (List.take_of_length_le (by rw [Array.length_toList]; show s.size ≤ j; omega))
      go_wp2
      go_ret
      exact ⟨ret_int (by rw [R.out]), rfl⟩
end Go.Proofs.YtamiichlbmllcaaDoor
