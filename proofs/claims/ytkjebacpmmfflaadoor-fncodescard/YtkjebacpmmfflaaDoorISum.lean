/-
  Sums over numbers; which symbols are there.
-/
import Derived.Test.YtkjebacpmmfflaaDoorIList
namespace Go.Proofs.YtkjebacpmmfflaaDoor
open Go.RowKit
set_option linter.unusedVariables false

def sumF (f : Int → Int) (zs : List Int) : Int := (zs.map f).sum
theorem sumF_succ (f : Int → Int) (zs : List Int) (k : Nat) (h : k < zs.length) : sumF f (zs.take (k + 1)) = sumF f (zs.take k) + f (zs.getD k 0) := by
  unfold sumF
  rw [List.take_succ_eq_append_getElem h, List.map_append, List.sum_append]
  simp [List.getD_eq_getElem?_getD, List.getElem?_eq_getElem h]
theorem sumF_bnd (f : Int → Int) (m : Int) (hf : ∀ z, 0 ≤ f z ∧ f z ≤ m) (zs : List Int) : 0 ≤ sumF f zs ∧ sumF f zs ≤ m * zs.length := by
  unfold sumF
  induction zs with
  | nil => simp
  | cons z zs ih =>
    have := hf z
    simp only [List.map_cons, List.sum_cons, List.length_cons]
    rw [show m * ((zs.length + 1 : Nat) : Int) = m * zs.length + m from by rw [Int.natCast_add, Int.mul_add]; simp]
    omega
/-- Has a code. -/
def one (z : Int) : Int := if 0 < z then 1 else 0
theorem one_bnd (z : Int) : 0 ≤ one z ∧ one z ≤ 1 := by unfold one; split <;> omega
end Go.Proofs.YtkjebacpmmfflaaDoor
