/-
  A row of numbers that is only read.
-/
import Derived.Test.YtmhpgkfaihcmeaaDoorTb3
import Derived.Test.YtmhpgkfaihcmeaaDoorINorm
namespace Go.Proofs.YtmhpgkfaihcmeaaDoor
open Go.RowKit
set_option linter.unusedVariables false

/-- A row of numbers that is only read, between two blocks. -/
def InR (w : World) (B U : Nat) (a : Option Addr) (fs : List Int) : Prop :=
  (∀ z ∈ fs, -9223372036854775808 ≤ z ∧ z ≤ 9223372036854775807) ∧ (fs = [] ∨ ∃ g, a = some ⟨g, 0, none⟩ ∧ B ≤ g ∧ g < U ∧ U ≤ w.heap.size ∧ ∀ i, i < fs.length → w.cell? ⟨g, i, none⟩ = some (.int .i64 (fs.getD i 0)))
theorem InR.byt {w : World} {B U : Nat} {a : Option Addr} {fs : List Int} (h : InR w B U a fs) : Ins w a fs := by
  refine ⟨h.1, fun hp => ?_⟩
  rcases h.2 with h' | ⟨g, rfl, h1, h2, h4, h3⟩
  · rw [h'] at hp; simp at hp
  · exact ⟨g, 0, rfl, by omega, fun i hi => by rw [Nat.zero_add]; exact h3 i hi⟩
theorem InR.only {S : Nat → Prop} {w w' : World} {B U : Nat} {a : Option Addr} {fs : List Int} (h : InR w B U a fs) (ho : Only S w w') (hs : ∀ k, B ≤ k → k < U → ¬ S k) : InR w' B U a fs := by
  refine ⟨h.1, ?_⟩
  rcases h.2 with h' | ⟨g, rfl, h1, h2, h4, h3⟩
  · exact .inl h'
  · exact .inr ⟨g, rfl, h1, h2, Nat.le_trans h4 ho.size, fun i hi => ho.cell (by omega) (hs g h1 h2) (h3 i hi)⟩
theorem InR.below {w w' : World} {B U : Nat} {a : Option Addr} {fs : List Int} (h : InR w B U a fs) (ho : Below w.heap.size w w') : InR w' B U a fs := h.only (Only.ofBelow (S := fun _ => False) ho (Nat.le_refl _)) (by simp)
theorem InR.mono {w : World} {B B' U : Nat} {a : Option Addr} {fs : List Int} (h : InR w B U a fs) (h1 : B' ≤ B) : InR w B' U a fs := by
  refine ⟨h.1, ?_⟩
  rcases h.2 with h' | ⟨g, rfl, k1, r⟩
  · exact .inl h'
  · exact .inr ⟨g, rfl, by omega, r⟩
theorem CV.inR {w : World} {B n c : Nat} {a : Option Addr} {fs : List Int} (h : CV w B (.slice a n c) n fs) (hr : ∀ z ∈ fs, -9223372036854775808 ≤ z ∧ z ≤ 9223372036854775807) (hl : fs.length = n * 3) : InR w B w.heap.size a fs := by
  refine ⟨hr, ?_⟩
  rcases h.2 with ⟨h', rfl⟩ | ⟨g, cap, cur, h', hg, r⟩
  · left
    exact List.eq_nil_of_length_eq_zero (by omega)
  · right
    simp at h'
    obtain ⟨rfl, rfl⟩ := h'
    have hlt := (h.lt g rfl).2
    refine ⟨g, rfl, hg, hlt, Nat.le_refl _, fun i hi => ?_⟩
    rw [World.ownsRow.cellAt h i (by omega)]
    simp [List.getElem?_eq_getElem hi]

end Go.Proofs.YtmhpgkfaihcmeaaDoor
