/-
  What bytesFor answers.
-/
import Derived.Test.YtdhnlbekkicjcaaDoorBase
namespace Go.Proofs.YtdhnlbekkicjcaaDoor
open Go.RowKit
set_option linter.unusedVariables false

set_option maxHeartbeats 400000 in
theorem bytesFor_any (n : Int) (w : World) (h0 : 0 ≤ n) (h1 : n ≤ 4103) :
    Calls Tryd.prog 47 #[.int .i64 n] w fun e w' => e = .returned (.int .i64 ((n + 7) / 8)) ∧ w' = w := by
  go_enter Tryd.func47, Tryd.ntmps47
  go_wp2
  go_ret
  exact ⟨rfl, rfl⟩

end Go.Proofs.YtdhnlbekkicjcaaDoor
