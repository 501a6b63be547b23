/-
  The row of the table for a number, what 'make' lays of numbers, and how rows of numbers stay.
-/
import Derived.Test.YtgppjlbocppjlaaIParts
import Derived.Test.YtgppjlbocppjlaaOnly
namespace Go.Proofs.Ytgppjlbocppjlaa
open Go.RowKit
set_option linter.unusedVariables false

theorem Try.infoI64 : (Try.prog.info? 3).map (fun i => (i.zero, i.size, i.bytes)) = some (some (.int .i64 0), 1, 8) := by kernel_rfl

theorem made_zeroI (n : Nat) : (madeCells (Value.int .i64 0).cells (n * 1)).toList = (List.replicate n (0 : Int)).map (Value.int .i64) := by
  simp only [madeCells, Value.cells, Nat.mul_one, Array.toList_map, Array.toList_range, List.map_replicate]
  rw [List.eq_replicate_iff]
  refine ⟨by simp, fun b hb => ?_⟩
  simp only [List.mem_map] at hb
  obtain ⟨x, _, rfl⟩ := hb
  simp [Nat.mod_one]



theorem OwI.only {S : Nat → Prop} {w w' : World} {B g cap : Nat} {zs : List Int} (h : OwI w B g cap zs) (ho : Only S w w') (hs : ¬ S g) : OwI w' B g cap zs := by
  refine ⟨⟨h.1.1, ?_⟩, h.2⟩
  have hlt := h.lt.2
  rcases h.1.2 with ⟨h', _⟩ | ⟨g', cap', cur, h', hg, hh, r⟩
  · simp at h'
  · have e : g' = g := by simp at h'; exact h'.1.symm
    subst e
    exact .inr ⟨g', cap', cur, h', hg, by rw [ho.block g' hlt hs]; exact hh, r⟩

/-- The numbers of an answer: nothing, or a row of its own between two blocks. -/
def MinI (w : World) (B U : Nat) (a : Option Addr) (cap : Nat) (zs : List Int) : Prop :=
  (a = none ∧ zs = [] ∧ cap = 0) ∨ ∃ g, a = some ⟨g, 0, none⟩ ∧ B ≤ g ∧ g < U ∧ OwI w B g cap zs

theorem MinI.byt {w : World} {B U : Nat} {a : Option Addr} {cap : Nat} {zs : List Int} (h : MinI w B U a cap zs) : Ins w a zs := by
  rcases h with ⟨rfl, rfl, rfl⟩ | ⟨g, rfl, _, _, h⟩
  · exact ⟨by simp, by simp⟩
  · exact h.byt
theorem MinI.only {S : Nat → Prop} {w w' : World} {B U : Nat} {a : Option Addr} {cap : Nat} {zs : List Int} (h : MinI w B U a cap zs) (ho : Only S w w') (hs : ∀ k, B ≤ k → k < U → ¬ S k) : MinI w' B U a cap zs := by
  rcases h with h | ⟨g, rfl, h1, h2, h⟩
  · exact .inl h
  · exact .inr ⟨g, rfl, h1, h2, h.only ho (hs g h1 h2)⟩
theorem MinI.below {w w' : World} {B U : Nat} {a : Option Addr} {cap : Nat} {zs : List Int} (h : MinI w B U a cap zs) (ho : Below w.heap.size w w') : MinI w' B U a cap zs := h.only (Only.ofBelow (S := fun _ => False) ho (Nat.le_refl _)) (by simp)
theorem MinI.mono {w : World} {B U B' U' : Nat} {a : Option Addr} {cap : Nat} {zs : List Int} (h : MinI w B U a cap zs) (h1 : B' ≤ B) (h2 : U ≤ U') : MinI w B' U' a cap zs := by
  rcases h with h | ⟨g, rfl, g1, g2, h⟩
  · exact .inl h
  · exact .inr ⟨g, rfl, by omega, by omega, h.mono h1⟩
theorem OwI.mine {w : World} {B g cap : Nat} {zs : List Int} (h : OwI w B g cap zs) : MinI w B w.heap.size (some ⟨g, 0, none⟩) cap zs := .inr ⟨g, rfl, h.lt.1, h.lt.2, h⟩

end Go.Proofs.Ytgppjlbocppjlaa
