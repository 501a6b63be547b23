/-
  The model's l2one: the first symbol whose code comes.
-/
import Derived.Test.YtkjebacpmmfflaaDoorIBase
namespace Go.Proofs.YtkjebacpmmfflaaDoor
open Go.RowKit
set_option linter.unusedVariables false

/-- The first k bits from p on, the first one the highest. -/
def cd (v p : Nat) : Nat → Nat
  | 0 => 0
  | k + 1 => 2 * cd v p k + v / 2 ^ (p + k) % 2
theorem cd_lt (v p : Nat) : ∀ k, cd v p k < 2 ^ k
  | 0 => by simp [cd]
  | k + 1 => by
    have := cd_lt v p k
    simp only [cd]
    rw [Nat.pow_succ]
    omega
def Hit (ls cs : List Int) (v p k i : Nat) : Prop := ls.getD i 0 = (k : Int) ∧ cs.getD i 0 = (cd v p k : Nat)
def NoHit (ls cs : List Int) (v p k : Nat) : Prop := ∀ j i, 1 ≤ j → j ≤ k → i < ls.length → ¬ Hit ls cs v p j i
end Go.Proofs.YtkjebacpmmfflaaDoor
