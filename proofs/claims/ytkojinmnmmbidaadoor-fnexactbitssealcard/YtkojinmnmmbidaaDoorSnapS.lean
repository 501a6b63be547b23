/-
  What the laws on answers that are bytes carry along: the argument, the model's answer, the copy that was handed in, the program's answer.
-/
import Derived.Test.YtkojinmnmmbidaaDoorOnly
namespace Go.Proofs.YtkojinmnmmbidaaDoor
open Go.RowKit
set_option linter.unusedVariables false

structure SnapS (w W : World) (a : Option Addr) (cap : Nat) (zs : List Int) (N : Int) (U : Nat) (aw : Option Addr) (cw : Nat) (ys : List Int) (X gx : Nat) (xs : List Int) (V : Nat) (ag : Option Addr) (cg : Nat) (ts : List Int) : Prop where
  bel : Below w.heap.size w W
  p0 : W.cell? ⟨w.heap.size, 0, none⟩ = some (.slice a zs.length cap)
  p1 : W.cell? ⟨w.heap.size, 1, none⟩ = some (.int .i64 N)
  hU : w.heap.size < U
  hX : U ≤ gx ∧ gx < X
  x0 : W.cell? ⟨X, 0, none⟩ = some (.slice (some ⟨gx, 0, none⟩) zs.length zs.length)
  x1 : W.cell? ⟨X, 1, none⟩ = some (.int .i64 N)
  hV : X < V ∧ V ≤ W.heap.size
  mw : Mine W (w.heap.size + 1) U aw cw ys
  mx : Mine W U X (some ⟨gx, 0, none⟩) zs.length xs
  mg : Mine W (X + 1) V ag cg ts

section
variable {w W W' : World} {a : Option Addr} {cap : Nat} {zs : List Int} {N : Int} {U : Nat} {aw : Option Addr} {cw : Nat} {ys : List Int} {X gx : Nat} {xs : List Int} {V : Nat} {ag : Option Addr} {cg : Nat} {ts : List Int}

theorem SnapS.step (h : SnapS w W a cap zs N U aw cw ys X gx xs V ag cg ts) (hb : Below W.heap.size W W') : SnapS w W' a cap zs N U aw cw ys X gx xs V ag cg ts := by
  have h1 := h.hU; have h2 := h.hX; have h3 := h.hV; have hs := hb.size
  exact ⟨h.bel.trans (hb.mono (by omega)), keep hb (by omega) h.p0, keep hb (by omega) h.p1, h.hU, h.hX, keep hb (by omega) h.x0, keep hb (by omega) h.x1,
    ⟨h3.1, by omega⟩, h.mw.below hb, h.mx.below hb, h.mg.below hb⟩

theorem SnapS.drewN (h : SnapS w W a cap zs N U aw cw ys X gx xs V ag cg ts) (n : Nat) : SnapS w (W.drewN n) a cap zs N U aw cw ys X gx xs V ag cg ts := h.step (below_drewN (Below.refl _ _) n)

theorem SnapS.markX (h : SnapS w W a cap zs N U aw cw ys X gx xs V ag cg ts) (ho : Only (rowOf (some ⟨gx, 0, none⟩)) W W') {xs' : List Int} (hm : Mine W' U X (some ⟨gx, 0, none⟩) zs.length xs') : SnapS w W' a cap zs N U aw cw ys X gx xs' V ag cg ts := by
  have h1 := h.hU; have h2 := h.hX; have h3 := h.hV; have hs := ho.size
  have hn : ∀ k, k ≠ gx → ¬ rowOf (some ⟨gx, 0, none⟩) k := by
    rintro k hk ⟨x, hx, rfl⟩
    simp at hx
    exact hk (by rw [← hx])
  have hbel : Below w.heap.size W W' := ho.below (by omega) (by
    rintro k ⟨x, hx, rfl⟩
    simp at hx
    rw [← hx]
    simp
    omega)
  exact ⟨h.bel.trans hbel, ho.cell (by omega) (hn _ (by omega)) h.p0, ho.cell (by omega) (hn _ (by omega)) h.p1, h.hU, h.hX,
    ho.cell (by omega) (hn _ (by omega)) h.x0, ho.cell (by omega) (hn _ (by omega)) h.x1, ⟨h3.1, by omega⟩,
    h.mw.only ho (fun k _ _ => hn k (by omega)), hm, h.mg.only ho (fun k _ _ => hn k (by omega))⟩

theorem SnapS.markG (h : SnapS w W a cap zs N U aw cw ys X gx xs V ag cg ts) (ho : Only (rowOf ag) W W') {ts' : List Int} (hm : Mine W' (X + 1) V ag cg ts') : SnapS w W' a cap zs N U aw cw ys X gx xs V ag cg ts' := by
  have h1 := h.hU; have h2 := h.hX; have h3 := h.hV; have hs := ho.size
  have hin : ∀ k, rowOf ag k → X + 1 ≤ k ∧ k < V := by
    rintro k ⟨x, hx, rfl⟩
    rcases h.mg with ⟨h', _⟩ | ⟨g, h', g1, g2, _⟩
    · rw [h'] at hx; cases hx
    · rw [h'] at hx
      simp at hx
      rw [← hx]
      exact ⟨g1, g2⟩
  have hn : ∀ k, ¬ (X + 1 ≤ k ∧ k < V) → ¬ rowOf ag k := fun k hk hr => hk (hin k hr)
  have hbel : Below w.heap.size W W' := ho.below (by omega) (fun k hk => by have := hin k hk; omega)
  exact ⟨h.bel.trans hbel, ho.cell (by omega) (hn _ (by omega)) h.p0, ho.cell (by omega) (hn _ (by omega)) h.p1, h.hU, h.hX,
    ho.cell (by omega) (hn _ (by omega)) h.x0, ho.cell (by omega) (hn _ (by omega)) h.x1, ⟨h3.1, by omega⟩,
    h.mw.only ho (fun k _ _ => hn k (by omega)), h.mx.only ho (fun k _ _ => hn k (by omega)), hm⟩
end

end Go.Proofs.YtkojinmnmmbidaaDoor
