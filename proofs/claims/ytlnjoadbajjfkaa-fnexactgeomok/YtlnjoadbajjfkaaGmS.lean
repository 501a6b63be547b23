/-
  GeomOk of the model.
-/
import Derived.Test.YtlnjoadbajjfkaaGmI
namespace Go.Proofs.Ytlnjoadbajjfkaa
open Go.RowKit
set_option linter.unusedVariables false

set_option maxHeartbeats 1000000 in
theorem specGeomOk_any (n r : Int) (w : World) :
    Calls Try.prog 4 #[.int .i64 n, .int .i64 r] w fun e w' => e = .returned (.bool (gmB n r)) ∧ w' = w := by
  have HG : Hid (gmB n r = decide (1 ≤ n ∧ n ≤ 16 ∧ 6 ≤ r ∧ r ≤ 24 ∧ n ≤ 3 * (r - 5)) ∧ True) := ⟨rfl, trivial⟩
  generalize gmB n r = B at *
  go_enter Try.func4, Try.ntmps4
  by_cases h1 : n < 1
  · have g1 : ¬ 1 ≤ n := by omega
    go_wp2
    go_ret
    exact ⟨by rw [HG.out.1, decide_eq_false (by omega)]; rfl, rfl⟩
  · have g1 : 1 ≤ n := by omega
    by_cases h2 : 16 < n
    · have g2 : ¬ n ≤ 16 := by omega
      go_wp2
      go_ret
      exact ⟨by rw [HG.out.1, decide_eq_false (by omega)]; rfl, rfl⟩
    · have g2 : n ≤ 16 := by omega
      by_cases h3 : r < 6
      · have g3 : ¬ 6 ≤ r := by omega
        go_wp2
        go_ret
        exact ⟨by rw [HG.out.1, decide_eq_false (by omega)]; rfl, rfl⟩
      · have g3 : 6 ≤ r := by omega
        by_cases h4 : 24 < r
        · have g4 : ¬ r ≤ 24 := by omega
          go_wp2
          go_ret
          exact ⟨by rw [HG.out.1, decide_eq_false (by omega)]; rfl, rfl⟩
        · have g4 : r ≤ 24 := by omega
          by_cases h5 : n ≤ 3 * (r - 5)
          · go_wp2
            go_ret
            exact ⟨by rw [HG.out.1, decide_eq_true (by omega)]; rfl, rfl⟩
          · go_wp2
            go_ret
            exact ⟨by rw [HG.out.1, decide_eq_false (by omega)]; rfl, rfl⟩
end Go.Proofs.Ytlnjoadbajjfkaa
