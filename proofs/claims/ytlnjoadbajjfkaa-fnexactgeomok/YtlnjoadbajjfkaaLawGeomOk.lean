/-
  FnExactGeomOk says true.
-/
import Derived.Test.YtlnjoadbajjfkaaGmS
namespace Go.Proofs.Ytlnjoadbajjfkaa
open Go.RowKit
set_option linter.unusedVariables false

set_option maxHeartbeats 1000000 in
theorem lawGeomOk_any (n r : Int) (w : World) :
    Calls Try.prog 3 #[.int .i64 n, .int .i64 r] w fun e w' => e = .returned (.bool true) ∧ Below w.heap.size w w' := by
  go_enter Try.func3, Try.ntmps3
  go_wp2_with fail
  refine (specGeomOk_any n r _).mono ?_
  rintro e w1 ⟨rfl, rfl⟩
  go_wp2_with fail
  refine (implGeomOk_any n r _).mono ?_
  rintro e w2 ⟨rfl, rfl⟩
  generalize gmB n r = B
  cases B
  · go_wp2
    go_ret
    exact ⟨rfl, Below.refl _ _⟩
  · go_wp2
    go_ret
    exact ⟨rfl, Below.refl _ _⟩
end Go.Proofs.Ytlnjoadbajjfkaa
