/-
  The program's shareWidth.
-/
import Derived.Test.YtfhcaoabohmkkaaDoorBLen
namespace Go.Proofs.YtfhcaoabohmkkaaDoor
open Go.RowKit
set_option linter.unusedVariables false

theorem shareWidth_any (n : Nat) (w : World) (h : n < 256) :
    Calls Tryd.prog 49 #[.int .i64 (n : Int)] w fun e w' => e = .returned (.int .i64 (bl n : Nat)) ∧ w' = w := by
  have h1 : (n : Int) < 256 := by omega
  go_enter Tryd.func49, Tryd.ntmps49
  go_wp2_with fail
  refine (len_any n w h).mono ?_
  rintro e w1 ⟨rfl, rfl⟩
  go_wp2
  go_ret
  exact ⟨rfl, rfl⟩
end Go.Proofs.YtfhcaoabohmkkaaDoor
