/-
  GeomOk of the program.
-/
import Derived.Test.YtlnjoadbajjfkaaProg
import Derived.WalkKit
import Derived.ProofKit
import Derived.Below
import Derived.Deep.Draws
namespace Go.Proofs.Ytlnjoadbajjfkaa
open Go.RowKit
set_option linter.unusedVariables false

/-- Whether there is such a disk. -/
def gmB (n r : Int) : Bool := decide (1 ≤ n ∧ n ≤ 16 ∧ 6 ≤ r ∧ r ≤ 24 ∧ n ≤ 3 * (r - 5))

set_option maxHeartbeats 1000000 in
theorem implGeomOk_any (n r : Int) (w : World) :
    Calls Try.prog 5 #[.int .i64 n, .int .i64 r] w fun e w' => e = .returned (.bool (gmB n r)) ∧ w' = w := by
  have HG : Hid (gmB n r = decide (1 ≤ n ∧ n ≤ 16 ∧ 6 ≤ r ∧ r ≤ 24 ∧ n ≤ 3 * (r - 5)) ∧ True) := ⟨rfl, trivial⟩
  generalize gmB n r = B at *
  go_enter Try.func5, Try.ntmps5
  by_cases h1 : n < 1
  · go_wp2
    go_ret
    exact ⟨by rw [HG.out.1, decide_eq_false (by omega)]; rfl, rfl⟩
  · by_cases h2 : 16 < n
    · go_wp2
      go_ret
      exact ⟨by rw [HG.out.1, decide_eq_false (by omega)]; rfl, rfl⟩
    · by_cases h3 : r < 6
      · go_wp2
        go_ret
        exact ⟨by rw [HG.out.1, decide_eq_false (by omega)]; rfl, rfl⟩
      · by_cases h4 : 24 < r
        · go_wp2
          go_ret
          exact ⟨by rw [HG.out.1, decide_eq_false (by omega)]; rfl, rfl⟩
        · by_cases h5 : n ≤ 3 * (r - 5)
          · go_wp2
            go_ret
            exact ⟨by rw [HG.out.1, decide_eq_true (by omega)]; rfl, rfl⟩
          · go_wp2
            go_ret
            exact ⟨by rw [HG.out.1, decide_eq_false (by omega)]; rfl, rfl⟩
end Go.Proofs.Ytlnjoadbajjfkaa
