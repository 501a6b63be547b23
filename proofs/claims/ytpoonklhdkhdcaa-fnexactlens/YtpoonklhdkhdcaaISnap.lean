/-
  What the laws on answers that are rows of numbers carry along: the model's answer, the copy that was handed in, the program's answer.
-/
import Derived.Test.YtpoonklhdkhdcaaIMarks
namespace Go.Proofs.Ytpoonklhdkhdcaa
open Go.RowKit
set_option linter.unusedVariables false

structure SnapI (w W : World) (aw : Option Addr) (cw : Nat) (ys : List Int) (U : Nat) (ax : Option Addr) (cx : Nat) (xs : List Int) (V : Nat) (ag : Option Addr) (cg : Nat) (ts : List Int) : Prop where
  bel : Below w.heap.size w W
  hU : w.heap.size ≤ U ∧ U ≤ V ∧ V ≤ W.heap.size
  mw : MinI W w.heap.size U aw cw ys
  mx : MinI W U V ax cx xs
  mg : MinI W V W.heap.size ag cg ts

section
variable {w W W' : World} {aw : Option Addr} {cw : Nat} {ys : List Int} {U : Nat} {ax : Option Addr} {cx : Nat} {xs : List Int} {V : Nat} {ag : Option Addr} {cg : Nat} {ts : List Int}

theorem MinI.row {B D : Nat} {a : Option Addr} {c : Nat} {zs : List Int} (h : MinI W B D a c zs) {k : Nat} (hk : rowOf a k) : B ≤ k ∧ k < D := by
  obtain ⟨x, hx, rfl⟩ := hk
  rcases h with ⟨h', _⟩ | ⟨g, h', g1, g2, _⟩
  · rw [h'] at hx; cases hx
  · rw [h'] at hx
    simp at hx
    rw [← hx]
    exact ⟨g1, g2⟩

theorem SnapI.step (h : SnapI w W aw cw ys U ax cx xs V ag cg ts) (hb : Below W.heap.size W W') : SnapI w W' aw cw ys U ax cx xs V ag cg ts := by
  have h1 := h.hU; have hs := hb.size
  exact ⟨h.bel.trans (hb.mono (by omega)), ⟨h1.1, h1.2.1, by omega⟩, h.mw.below hb, h.mx.below hb, (h.mg.below hb).mono (Nat.le_refl _) hs⟩

theorem SnapI.markX (h : SnapI w W aw cw ys U ax cx xs V ag cg ts) (ho : Only (rowOf ax) W W') {xs' : List Int} (hm : MinI W' U V ax cx xs') : SnapI w W' aw cw ys U ax cx xs' V ag cg ts := by
  have h1 := h.hU; have hs := ho.size
  have hin : ∀ k, rowOf ax k → U ≤ k ∧ k < V := fun k hk => h.mx.row hk
  have hbel : Below w.heap.size W W' := ho.below (by omega) (fun k hk => by have := hin k hk; omega)
  exact ⟨h.bel.trans hbel, ⟨h1.1, h1.2.1, by omega⟩, h.mw.only ho (fun k _ _ hk => by have := hin k hk; omega), hm, (h.mg.only ho (fun k _ _ hk => by have := hin k hk; omega)).mono (Nat.le_refl _) hs⟩

theorem SnapI.markG (h : SnapI w W aw cw ys U ax cx xs V ag cg ts) (ho : Only (rowOf ag) W W') {ts' : List Int} (hm : MinI W' V W.heap.size ag cg ts') : SnapI w W' aw cw ys U ax cx xs V ag cg ts' := by
  have h1 := h.hU; have hs := ho.size
  have hin : ∀ k, rowOf ag k → V ≤ k ∧ k < W.heap.size := fun k hk => h.mg.row hk
  have hbel : Below w.heap.size W W' := ho.below (by omega) (fun k hk => by have := hin k hk; omega)
  exact ⟨h.bel.trans hbel, ⟨h1.1, h1.2.1, by omega⟩, h.mw.only ho (fun k _ _ hk => by have := hin k hk; omega), h.mx.only ho (fun k _ _ hk => by have := hin k hk; omega), hm.mono (Nat.le_refl _) hs⟩
end
end Go.Proofs.Ytpoonklhdkhdcaa
