/-
  One more at one place of a row of numbers.
-/
import Derived.Test.YtkjebacpmmfflaaDoorIList
namespace Go.Proofs.YtkjebacpmmfflaaDoor
open Go.RowKit
set_option linter.unusedVariables false

/-- One symbol more is counted. -/
def bump (cs : List Int) (z : Int) : List Int := cs.set z.toNat (cs.getD z.toNat 0 + 1)
theorem bump_len (cs : List Int) (z : Int) : (bump cs z).length = cs.length := by simp [bump]
theorem bump_rng {cs : List Int} {z : Int} {m : Int} (h : ∀ c ∈ cs, 0 ≤ c ∧ c ≤ m) (hm : 0 ≤ m) : ∀ c ∈ bump cs z, 0 ≤ c ∧ c ≤ m + 1 := by
  intro c hc
  have hg : 0 ≤ cs.getD z.toNat 0 ∧ cs.getD z.toNat 0 ≤ m := by
    rw [List.getD_eq_getElem?_getD]
    by_cases hi : z.toNat < cs.length
    · rw [List.getElem?_eq_getElem hi]; exact h _ (List.getElem_mem hi)
    · rw [List.getElem?_eq_none (by omega)]; simp; omega
  rcases List.mem_or_eq_of_mem_set hc with hc | rfl
  · have := h c hc; omega
  · omega
end Go.Proofs.YtkjebacpmmfflaaDoor
