/-
  A new row of numbers.
-/
import Derived.Test.YtgppjlbocppjlaaIList
namespace Go.Proofs.Ytgppjlbocppjlaa
open Go.RowKit
set_option linter.unusedVariables false

theorem ins_newN (W : World) (T : TypeId) (zs : List Int) (hr : ∀ z ∈ zs, -9223372036854775808 ≤ z ∧ z ≤ 9223372036854775807) : Ins (W.alloc (.cells (zs.map (Value.int .i64)).toArray T)) (some ⟨W.heap.size, 0, none⟩) zs := by
  refine ⟨hr, fun hp => ⟨W.heap.size, 0, rfl, by simp, fun i hi => ?_⟩⟩
  rw [Nat.zero_add, cell_of_row _ W.heap.size i _ T (0, 0) (heap_alloc_new W _)]
  simp [hi]
end Go.Proofs.Ytgppjlbocppjlaa
