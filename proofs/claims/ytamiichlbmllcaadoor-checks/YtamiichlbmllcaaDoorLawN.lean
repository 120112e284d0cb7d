/-
  The contract of suretylaw.num.
-/
import Derived.Test.YtamiichlbmllcaaDoorRight
namespace Go.Proofs.YtamiichlbmllcaaDoor
open Go.RowKit
set_option maxHeartbeats 400000 in
theorem num_any (n : Int) (w : World) :
    Calls Tryd.prog 21 #[.int .i64 n] w fun e w' => e = .returned (.int .i64 n) ∧ w = w' := by
  go_enter Tryd.func21, Tryd.ntmps21
  go_wp2
  go_ret
  exact ⟨rfl, rfl⟩
end Go.Proofs.YtamiichlbmllcaaDoor
