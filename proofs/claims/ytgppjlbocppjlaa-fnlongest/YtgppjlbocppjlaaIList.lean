/-
  Plain facts of rows of numbers.
-/
import Derived.Test.YtgppjlbocppjlaaIBase
namespace Go.Proofs.Ytgppjlbocppjlaa
open Go.RowKit
set_option linter.unusedVariables false

theorem all_take_succ {p : Int → Prop} {zs : List Int} {k : Nat} (h : ∀ z ∈ zs.take k, p z) (hk : k < zs.length) (hp : p (zs.getD k 0)) : ∀ z ∈ zs.take (k + 1), p z := by
  intro z hz
  rw [List.take_succ_eq_append_getElem hk] at hz
  rcases List.mem_append.1 hz with hz | hz
  · exact h z hz
  · simp at hz
    subst hz
    simpa [List.getD_eq_getElem?_getD, List.getElem?_eq_getElem hk] using hp

theorem getD_mem {zs : List Int} {k : Nat} (hk : k < zs.length) : zs.getD k 0 ∈ zs := by
  rw [List.getD_eq_getElem?_getD, List.getElem?_eq_getElem hk]; exact List.getElem_mem hk

end Go.Proofs.Ytgppjlbocppjlaa
