/-
  What the program's widthOk answers; sentinels that hold some error.
-/
import Derived.Test.YtecmnbdnnlifhaaDoorBase
namespace Go.Proofs.YtecmnbdnnlifhaaDoor
open Go.RowKit
set_option linter.unusedVariables false

theorem widthOk_any (n : Int) (w : World) : Calls Tryd.prog 62 #[.int .i64 n] w fun e w' => e = .returned (.bool (decide (0 ≤ n ∧ n ≤ 30))) ∧ w' = w := by
  by_cases h0 : 0 ≤ n
  · by_cases h1 : n ≤ 30
    · have hE : decide (0 ≤ n ∧ n ≤ 30) = true := by simp [h0, h1]
      rw [hE]
      clear hE
      go_enter Tryd.func62, Tryd.ntmps62
      go_wp2
      go_ret
      exact ⟨by simp, rfl⟩
    · have hE : decide (0 ≤ n ∧ n ≤ 30) = false := by simp [h1]
      rw [hE]
      clear hE
      go_enter Tryd.func62, Tryd.ntmps62
      go_wp2
      go_ret
      exact ⟨by simp, rfl⟩
  · have hE : decide (0 ≤ n ∧ n ≤ 30) = false := by simp [h0]
    rw [hE]
    clear hE
    go_enter Tryd.func62, Tryd.ntmps62
    go_wp2
    go_ret
    exact ⟨by simp, rfl⟩

/-- What the sentinels hold: each an error that is not nil. -/
def Sent (w : World) (g : Nat) : Prop := ∃ T x, w.cell? ⟨g, 0, none⟩ = some (.iface T x)

theorem Sent.below {w w' : World} {g B : Nat} (h : Sent w g) (hb : Below B w w') (hg : g < B) : Sent w' g := by
  obtain ⟨T, x, hc⟩ := h
  exact ⟨T, x, keep hb hg hc⟩

end Go.Proofs.YtecmnbdnnlifhaaDoor
