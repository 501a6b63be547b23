/-
  What the laws on answers that are bytes carry along.
-/
import Derived.Test.YtajhaoclkomjnaaMarks
namespace Go.Proofs.Ytajhaoclkomjnaa
open Go.RowKit
set_option linter.unusedVariables false

structure SnapR (w W : World) (U : Nat) (aw : Option Addr) (cw : Nat) (ys : List Int) (X : Nat) (ag : Option Addr) (cg : Nat) (zs : List Int) : Prop where
  bel : Below w.heap.size w W
  hU : w.heap.size ≤ U
  hX : U ≤ X
  hW : X ≤ W.heap.size
  mw : Mine W w.heap.size U aw cw ys
  mg : Mine W X W.heap.size ag cg zs

section
variable {w W W' : World} {U : Nat} {aw : Option Addr} {cw : Nat} {ys : List Int} {X : Nat} {ag : Option Addr} {cg : Nat} {zs : List Int}
theorem SnapR.step (h : SnapR w W U aw cw ys X ag cg zs) (hb : Below W.heap.size W W') : SnapR w W' U aw cw ys X ag cg zs := by
  have h1 := h.hU; have h2 := h.hX; have h3 := h.hW; have hs := hb.size
  exact ⟨h.bel.trans (hb.mono (by omega)), h1, h2, by omega, h.mw.below hb, (h.mg.below hb).mono (Nat.le_refl _) hs⟩
theorem SnapR.other {S : Nat → Prop} (h : SnapR w W U aw cw ys X ag cg zs) (ho : Only S W W') (hS : ∀ k, S k → U ≤ k ∧ k < X) : SnapR w W' U aw cw ys X ag cg zs := by
  have h1 := h.hU; have h2 := h.hX; have h3 := h.hW; have hs := ho.size
  have hn : ∀ k, ¬ (U ≤ k ∧ k < X) → ¬ S k := fun k hk hr => hk (hS k hr)
  have hbel : Below w.heap.size W W' := ho.below (by omega) (fun k hk => by have := hS k hk; omega)
  exact ⟨h.bel.trans hbel, h1, h2, by omega, h.mw.only ho (fun k _ _ => hn k (by omega)), (h.mg.only ho (fun k _ _ => hn k (by omega))).mono (Nat.le_refl _) hs⟩
theorem SnapR.markG (h : SnapR w W U aw cw ys X ag cg zs) (ho : Only (rowOf ag) W W') {zs' : List Int} (hm : Mine W' X W.heap.size ag cg zs') : SnapR w W' U aw cw ys X ag cg zs' := by
  have h1 := h.hU; have h2 := h.hX; have h3 := h.hW; have hs := ho.size
  have hin : ∀ k, rowOf ag k → X ≤ k ∧ k < W.heap.size := by
    rintro k ⟨x, hx, rfl⟩
    rcases h.mg with ⟨h', _⟩ | ⟨g, h', g1, g2, _⟩
    · rw [h'] at hx; cases hx
    · rw [h'] at hx
      simp at hx
      rw [← hx]
      exact ⟨g1, g2⟩
  have hn : ∀ k, ¬ (X ≤ k ∧ k < W.heap.size) → ¬ rowOf ag k := fun k hk hr => hk (hin k hr)
  have hbel : Below w.heap.size W W' := ho.below (by omega) (fun k hk => by have := hin k hk; omega)
  exact ⟨h.bel.trans hbel, h1, h2, by omega, h.mw.only ho (fun k _ _ => hn k (by omega)), hm.mono (Nat.le_refl _) hs⟩
end
theorem below_dR (w : World) (n : Nat) : Below w.heap.size w (w.drewN n) := ⟨rfl, rfl, rfl, Nat.le_refl _, fun _ _ => rfl⟩
end Go.Proofs.Ytajhaoclkomjnaa
