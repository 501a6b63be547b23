/-
  What the laws on answers that are rows of numbers, of bits, carry along.
-/
import Derived.Test.YtkolfmjlkfkleaaDoorIMarks
import Derived.Test.YtkolfmjlkfkleaaDoorISnap
namespace Go.Proofs.YtkolfmjlkfkleaaDoor
open Go.RowKit
set_option linter.unusedVariables false

structure SnapG (w W : World) (a : Option Addr) (cap : Nat) (zs : List Int) (N : Int) (U : Nat) (aw : Option Addr) (cw : Nat) (ys : List Int) (X gx : Nat) (xs : List Int) (ag : Option Addr) (cg : Nat) (ts : List Int) : Prop where
  bel : Below w.heap.size w W
  p0 : W.cell? ⟨w.heap.size, 0, none⟩ = some (.slice a zs.length cap)
  p1 : W.cell? ⟨w.heap.size, 1, none⟩ = some (.int .i64 N)
  hU : w.heap.size < U
  hX : U ≤ gx ∧ gx < X
  x0 : W.cell? ⟨X, 0, none⟩ = some (.slice (some ⟨gx, 0, none⟩) zs.length zs.length)
  x1 : W.cell? ⟨X, 1, none⟩ = some (.int .i64 N)
  hG : X < W.heap.size
  mw : MinI W (w.heap.size + 1) U aw cw ys
  mx : Mine W U X (some ⟨gx, 0, none⟩) zs.length xs
  mg : MinI W (X + 1) W.heap.size ag cg ts

section
variable {w W W' : World} {a : Option Addr} {cap : Nat} {zs : List Int} {N : Int} {U : Nat} {aw : Option Addr} {cw : Nat} {ys : List Int} {X gx : Nat} {xs : List Int} {ag : Option Addr} {cg : Nat} {ts : List Int}

theorem SnapG.step (h : SnapG w W a cap zs N U aw cw ys X gx xs ag cg ts) (hb : Below W.heap.size W W') : SnapG w W' a cap zs N U aw cw ys X gx xs ag cg ts := by
  have h1 := h.hU; have h2 := h.hX; have h3 := h.hG; have hs := hb.size
  exact ⟨h.bel.trans (hb.mono (by omega)), keep hb (by omega) h.p0, keep hb (by omega) h.p1, h.hU, h.hX, keep hb (by omega) h.x0, keep hb (by omega) h.x1, by omega, h.mw.below hb, h.mx.below hb, (h.mg.below hb).mono (Nat.le_refl _) hs⟩

theorem SnapG.markX (h : SnapG w W a cap zs N U aw cw ys X gx xs ag cg ts) (ho : Only (rowOf (some ⟨gx, 0, none⟩)) W W') {xs' : List Int} (hm : Mine W' U X (some ⟨gx, 0, none⟩) zs.length xs') : SnapG w W' a cap zs N U aw cw ys X gx xs' ag cg ts := by
  have h1 := h.hU; have h2 := h.hX; have h3 := h.hG; have hs := ho.size
  have hn : ∀ k, k ≠ gx → ¬ rowOf (some ⟨gx, 0, none⟩) k := by
    rintro k hk ⟨x, hx, rfl⟩
    simp at hx
    exact hk (by rw [← hx])
  have hbel : Below w.heap.size W W' := ho.below (by omega) (by
    rintro k ⟨x, hx, rfl⟩
    simp at hx
    rw [← hx]
    simp
    omega)
  exact ⟨h.bel.trans hbel, ho.cell (by omega) (hn _ (by omega)) h.p0, ho.cell (by omega) (hn _ (by omega)) h.p1, h.hU, h.hX,
    ho.cell (by omega) (hn _ (by omega)) h.x0, ho.cell (by omega) (hn _ (by omega)) h.x1, by omega,
    h.mw.only ho (fun k _ _ => hn k (by omega)), hm, (h.mg.only ho (fun k _ _ => hn k (by omega))).mono (Nat.le_refl _) hs⟩

theorem SnapG.markG (h : SnapG w W a cap zs N U aw cw ys X gx xs ag cg ts) (ho : Only (rowOf ag) W W') {ts' : List Int} (hm : MinI W' (X + 1) W.heap.size ag cg ts') : SnapG w W' a cap zs N U aw cw ys X gx xs ag cg ts' := by
  have h1 := h.hU; have h2 := h.hX; have h3 := h.hG; have hs := ho.size
  have hin : ∀ k, rowOf ag k → X + 1 ≤ k ∧ k < W.heap.size := fun k hk => h.mg.row hk
  have hn : ∀ k, ¬ (X + 1 ≤ k ∧ k < W.heap.size) → ¬ rowOf ag k := fun k hk hr => hk (hin k hr)
  have hbel : Below w.heap.size W W' := ho.below (by omega) (fun k hk => by have := hin k hk; omega)
  exact ⟨h.bel.trans hbel, ho.cell (by omega) (hn _ (by omega)) h.p0, ho.cell (by omega) (hn _ (by omega)) h.p1, h.hU, h.hX,
    ho.cell (by omega) (hn _ (by omega)) h.x0, ho.cell (by omega) (hn _ (by omega)) h.x1, by omega,
    h.mw.only ho (fun k _ _ => hn k (by omega)), h.mx.only ho (fun k _ _ => hn k (by omega)), hm.mono (Nat.le_refl _) hs⟩
end
end Go.Proofs.YtkolfmjlkfkleaaDoor
