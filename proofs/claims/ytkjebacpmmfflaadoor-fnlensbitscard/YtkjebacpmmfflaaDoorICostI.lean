/-
  Cost: what symbols cost, in numbers.
-/
import Derived.Test.YtkjebacpmmfflaaDoorPcA
import Derived.Test.YtkjebacpmmfflaaDoorILens3
namespace Go.Proofs.YtkjebacpmmfflaaDoor
open Go.RowKit
set_option linter.unusedVariables false

/-- What the first k symbols cost. -/
def pays (cs ls : List Int) : Nat → Int
  | 0 => 0
  | k + 1 => pays cs ls k + cs.getD k 0 * ls.getD k 0
/-- What makes Cost answer. -/
def costYes (cs ls : List Int) : Prop := cntB cs = true ∧ lensB ls = true ∧ ls.length = cs.length ∧ ∀ i, i < cs.length → ¬ (0 < cs.getD i 0 ∧ ls.getD i 0 = 0)
noncomputable def costB (cs ls : List Int) : Bool := @decide (costYes cs ls) (Classical.propDecidable _)
noncomputable def costN (cs ls : List Int) : Int := if costB cs ls = true then pays cs ls cs.length else 0
theorem cost_yes {cs ls : List Int} (h : costYes cs ls) : costB cs ls = true ∧ costN cs ls = pays cs ls cs.length := by
  have e : costB cs ls = true := by simp [costB, h]
  exact ⟨e, by simp [costN, e]⟩
theorem cost_no {cs ls : List Int} (h : ¬ costYes cs ls) : costB cs ls = false ∧ costN cs ls = 0 := by
  have e : costB cs ls = false := by simp [costB, h]
  exact ⟨e, by simp [costN, e]⟩

theorem cntB_get {zs : List Int} (h : cntB zs = true) (k : Nat) (hk : k < zs.length) : 0 ≤ zs.getD k 0 ∧ zs.getD k 0 ≤ 1000000 := by
  simp only [cntB, decide_eq_true_eq] at h
  exact h.2.2 _ (getD_mem hk)
theorem cntB_bnd {zs : List Int} (h : cntB zs = true) : 1 ≤ zs.length ∧ zs.length ≤ 80 := by
  simp only [cntB, decide_eq_true_eq] at h
  exact ⟨h.1, h.2.1⟩
theorem lensB_get {zs : List Int} (h : lensB zs = true) (k : Nat) (hk : k < zs.length) : 0 ≤ zs.getD k 0 ∧ zs.getD k 0 ≤ 12 := by
  simp only [lensB, decide_eq_true_eq] at h
  exact h.2.2.1 _ (getD_mem hk)
theorem mul_bnd {x y : Int} (hx : 0 ≤ x ∧ x ≤ 1000000) (hy : 0 ≤ y ∧ y ≤ 12) : 0 ≤ x * y ∧ x * y ≤ 12000000 := by
  refine ⟨Int.mul_nonneg hx.1 hy.1, ?_⟩
  have h1 : x * y ≤ 1000000 * y := Int.mul_le_mul_of_nonneg_right hx.2 hy.1
  omega
theorem pays_bnd {cs ls : List Int} (hc : cntB cs = true) (hl : lensB ls = true) (hlen : ls.length = cs.length) (k : Nat) (hk : k ≤ cs.length) : 0 ≤ pays cs ls k ∧ pays cs ls k ≤ 12000000 * k := by
  induction k with
  | zero => simp [pays]
  | succ k ih =>
    have h1 := ih (by omega)
    have h2 := mul_bnd (cntB_get hc k (by omega)) (lensB_get hl k (by omega))
    simp only [pays]
    omega
end Go.Proofs.YtkjebacpmmfflaaDoor
