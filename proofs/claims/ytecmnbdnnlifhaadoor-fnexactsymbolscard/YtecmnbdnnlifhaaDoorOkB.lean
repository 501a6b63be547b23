/-
  What BitsOk tells.
-/
import Derived.Test.YtecmnbdnnlifhaaDoorBase
namespace Go.Proofs.YtecmnbdnnlifhaaDoor
open Go.RowKit
set_option linter.unusedVariables false

/-- Is it a row of N bits: as many bytes as N bits want, the last one without a bit behind them. -/
def okB (N : Int) (zs : List Int) : Bool :=
  decide (0 ≤ N ∧ N ≤ 4096 ∧ (zs.length : Int) = (N + 7) / 8) && (N % 8 == 0 || zs.getD (zs.length - 1) 0 / 2 ^ (N % 8).toNat == 0)

theorem okB_neg {N : Int} {zs : List Int} (h : N < 0) : okB N zs = false := by
  have : decide (0 ≤ N ∧ N ≤ 4096 ∧ (zs.length : Int) = (N + 7) / 8) = false := by simp; omega
  rw [okB, this, Bool.false_and]
theorem okB_big {N : Int} {zs : List Int} (h : 4096 < N) : okB N zs = false := by
  have : decide (0 ≤ N ∧ N ≤ 4096 ∧ (zs.length : Int) = (N + 7) / 8) = false := by simp; omega
  rw [okB, this, Bool.false_and]
theorem okB_len {N : Int} {zs : List Int} (h : ¬ (zs.length : Int) = (N + 7) / 8) : okB N zs = false := by
  have : decide (0 ≤ N ∧ N ≤ 4096 ∧ (zs.length : Int) = (N + 7) / 8) = false := by simp; omega
  rw [okB, this, Bool.false_and]
theorem okB_full {N : Int} {zs : List Int} (h0 : 0 ≤ N) (h1 : N ≤ 4096) (h2 : (zs.length : Int) = (N + 7) / 8) (h3 : N % 8 = 0) : okB N zs = true := by
  have : decide (0 ≤ N ∧ N ≤ 4096 ∧ (zs.length : Int) = (N + 7) / 8) = true := by simp; exact ⟨h0, h1, h2⟩
  rw [okB, this, h3]; rfl
theorem okB_last {N : Int} {zs : List Int} (h0 : 0 ≤ N) (h1 : N ≤ 4096) (h2 : (zs.length : Int) = (N + 7) / 8) (h3 : ¬ N % 8 = 0) : okB N zs = (zs.getD (zs.length - 1) 0 / 2 ^ (N % 8).toNat == 0) := by
  have : decide (0 ≤ N ∧ N ≤ 4096 ∧ (zs.length : Int) = (N + 7) / 8) = true := by simp; exact ⟨h0, h1, h2⟩
  have h3' : (N % 8 == 0) = false := by simpa using h3
  rw [okB, this, h3', Bool.true_and, Bool.false_or]
end Go.Proofs.YtecmnbdnnlifhaaDoor
