/-
  An answer of numbers that is an array's slice.
-/
import Derived.Test.YtmhpgkfaihcmeaaDoorIBase
namespace Go.Proofs.YtmhpgkfaihcmeaaDoor
open Go.RowKit
set_option linter.unusedVariables false

/-- The numbers of an answer: nothing, or a whole block of its own, of whatever type, between two blocks. -/
def ArI (w : World) (B U : Nat) (a : Option Addr) (zs : List Int) : Prop :=
  (∀ z ∈ zs, -9223372036854775808 ≤ z ∧ z ≤ 9223372036854775807) ∧ ((a = none ∧ zs = []) ∨ ∃ g T, a = some ⟨g, 0, none⟩ ∧ B ≤ g ∧ g < U ∧ w.heap[g]? = some (.cells (zs.map (Value.int .i64)).toArray T (0, 0)))
theorem arr_cell {w : World} {g : Nat} {T : TypeId} {tb : List Int} (h : w.heap[g]? = some (.cells (tb.map (Value.int .i64)).toArray T (0, 0))) (x : Nat) (hx : x < tb.length) : w.cell? ⟨g, x, none⟩ = some (.int .i64 (tb.getD x 0)) := by
  rw [cell_of_row _ _ x _ _ _ h]
  simp [List.getD_eq_getElem?_getD, hx]
section
variable {w W W' : World} {B U B' U' : Nat} {a : Option Addr} {zs : List Int}
theorem ArI.byt (h : ArI w B U a zs) : Ins w a zs := by
  refine ⟨h.1, fun hp => ?_⟩
  rcases h.2 with ⟨_, rfl⟩ | ⟨g, T, rfl, _, _, h2⟩
  · simp at hp
  · exact ⟨g, 0, rfl, (Array.getElem?_eq_some_iff.1 h2).1, fun i hi => by rw [Nat.zero_add]; exact arr_cell h2 i hi⟩
theorem ArI.only {S : Nat → Prop} (h : ArI w B U a zs) (ho : Only S w W') (hs : ∀ k, B ≤ k → k < U → ¬ S k) : ArI W' B U a zs := by
  refine ⟨h.1, ?_⟩
  rcases h.2 with h | ⟨g, T, rfl, h1, h2, h3⟩
  · exact .inl h
  · exact .inr ⟨g, T, rfl, h1, h2, (ho.block g (Array.getElem?_eq_some_iff.1 h3).1 (hs g h1 h2)).trans h3⟩
theorem ArI.below (h : ArI w B U a zs) (ho : Below w.heap.size w W') : ArI W' B U a zs := h.only (Only.ofBelow (S := fun _ => False) ho (Nat.le_refl _)) (by simp)
theorem ArI.mono (h : ArI w B U a zs) (h1 : B' ≤ B) (h2 : U ≤ U') : ArI w B' U' a zs := by
  refine ⟨h.1, ?_⟩
  rcases h.2 with h | ⟨g, T, rfl, g1, g2, h3⟩
  · exact .inl h
  · exact .inr ⟨g, T, rfl, by omega, by omega, h3⟩
theorem ArI.row (h : ArI w B U a zs) {k : Nat} (hk : rowOf a k) : B ≤ k ∧ k < U := by
  obtain ⟨x, hx, rfl⟩ := hk
  rcases h.2 with ⟨h', _⟩ | ⟨g, T, h', g1, g2, _⟩
  · rw [h'] at hx; cases hx
  · rw [h'] at hx
    simp at hx
    rw [← hx]
    exact ⟨g1, g2⟩
end

end Go.Proofs.YtmhpgkfaihcmeaaDoor
