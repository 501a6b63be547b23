/-
  What a writer's answer reads.
-/
import Derived.Test.YtecmnbdnnlifhaaDoorWri
namespace Go.Proofs.YtecmnbdnnlifhaaDoor
open Go.RowKit
set_option linter.unusedVariables false

theorem WI.cells {w : World} {B R n V : Nat} (h : WI w B R n V) : ∃ a' cp, w.cell? ⟨R, 0, none⟩ = some (.slice a' (enc n V).length cp) ∧ w.cell? ⟨R, 1, none⟩ = some (.int .i64 n) ∧ Mine w B w.heap.size a' cp (enc n V) := by
  obtain ⟨v, hR, hv, _⟩ := h
  obtain ⟨a', cp, rfl, hm⟩ := hv.mine
  exact ⟨a', cp, cellR (j := 0) hR rfl, cellR (j := 1) hR rfl, hm⟩
theorem SI.cells {w : World} {B R n V : Nat} (h : SI w B R n V) : ∃ a' cp, w.cell? ⟨R, 0, none⟩ = some (.slice a' (enc n V).length cp) ∧ w.cell? ⟨R, 1, none⟩ = some (.int .i64 n) ∧ Mine w B w.heap.size a' cp (enc n V) := by
  obtain ⟨v, hR, hv, _⟩ := h
  obtain ⟨a', cp, rfl, hm⟩ := hv.mine
  exact ⟨a', cp, cellR (j := 0) hR rfl, cellR (j := 1) hR rfl, hm⟩

theorem mine_out {w3 : World} {B C g : Nat} {a' : Option Addr} {cp : Nat} {ys : List Int} (v0 v1 : Value) (hm : Mine w3 C w3.heap.size a' cp ys) (hg : g < C) (hB : B ≤ g) :
    Mine ((w3.setCell ⟨g, 0, none⟩ v0).setCell ⟨g, 1, none⟩ v1) B ((w3.setCell ⟨g, 0, none⟩ v0).setCell ⟨g, 1, none⟩ v1).heap.size a' cp ys := by
  have hO3 : Only (fun b => b = g) w3 ((w3.setCell ⟨g, 0, none⟩ v0).setCell ⟨g, 1, none⟩ v1) :=
    Only.setCell (Only.setCell (Only.refl (fun b => b = g) w3) (p := ⟨g, 0, none⟩) (.inl rfl) _) (p := ⟨g, 1, none⟩) (.inl rfl) _
  exact ((hm.only hO3 (fun b h1 _ => by omega)).mono (by omega) (by simp [World.setCell]))
end Go.Proofs.YtecmnbdnnlifhaaDoor
