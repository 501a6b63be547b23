/-
  What the laws on answers that are rows of numbers, of numbers and bits, carry along.
-/
import Derived.Test.YtiiaffkhnahofaaDoorIMarks
import Derived.Test.YtiiaffkhnahofaaDoorISnap
namespace Go.Proofs.YtiiaffkhnahofaaDoor
open Go.RowKit
set_option linter.unusedVariables false

structure SnapK (w W : World) (a : Option Addr) (cap : Nat) (zs : List Int) (N : Int) (U : Nat) (aw : Option Addr) (cw : Nat) (ys : List Int) (T : Nat) (al : Option Addr) (cl : Nat) (ls : List Int) (X gx : Nat) (xs : List Int) (ag : Option Addr) (cg : Nat) (ts : List Int) : Prop where
  bel : Below w.heap.size w W
  p0 : W.cell? ⟨w.heap.size, 0, none⟩ = some (.slice a zs.length cap)
  p1 : W.cell? ⟨w.heap.size, 1, none⟩ = some (.int .i64 N)
  hU : w.heap.size < U
  hT : U ≤ T
  hX : T ≤ gx ∧ gx < X
  x0 : W.cell? ⟨X, 0, none⟩ = some (.slice (some ⟨gx, 0, none⟩) zs.length zs.length)
  x1 : W.cell? ⟨X, 1, none⟩ = some (.int .i64 N)
  hG : X < W.heap.size
  mw : MinI W (w.heap.size + 1) U aw cw ys
  ml : MinI W U T al cl ls
  mx : Mine W T X (some ⟨gx, 0, none⟩) zs.length xs
  mg : MinI W (X + 1) W.heap.size ag cg ts

section
variable {w W W' : World} {a : Option Addr} {cap : Nat} {zs : List Int} {N : Int} {U : Nat} {aw : Option Addr} {cw : Nat} {ys : List Int} {T : Nat} {al : Option Addr} {cl : Nat} {ls : List Int} {X gx : Nat} {xs : List Int} {ag : Option Addr} {cg : Nat} {ts : List Int}

theorem SnapK.step (h : SnapK w W a cap zs N U aw cw ys T al cl ls X gx xs ag cg ts) (hb : Below W.heap.size W W') : SnapK w W' a cap zs N U aw cw ys T al cl ls X gx xs ag cg ts := by
  have h1 := h.hU; have h2 := h.hX; have h3 := h.hG; have h4 := h.hT; have hs := hb.size
  exact ⟨h.bel.trans (hb.mono (by omega)), keep hb (by omega) h.p0, keep hb (by omega) h.p1, h.hU, h.hT, h.hX, keep hb (by omega) h.x0, keep hb (by omega) h.x1, by omega, h.mw.below hb, h.ml.below hb, h.mx.below hb, (h.mg.below hb).mono (Nat.le_refl _) hs⟩

theorem SnapK.markX (h : SnapK w W a cap zs N U aw cw ys T al cl ls X gx xs ag cg ts) (ho : Only (rowOf (some ⟨gx, 0, none⟩)) W W') {xs' : List Int} (hm : Mine W' T X (some ⟨gx, 0, none⟩) zs.length xs') : SnapK w W' a cap zs N U aw cw ys T al cl ls X gx xs' ag cg ts := by
  have h1 := h.hU; have h2 := h.hX; have h3 := h.hG; have h4 := h.hT; have hs := ho.size
  have hn : ∀ k, k ≠ gx → ¬ rowOf (some ⟨gx, 0, none⟩) k := by
    rintro k hk ⟨x, hx, rfl⟩
    simp at hx
    exact hk (by rw [← hx])
  have hbel : Below w.heap.size W W' := ho.below (by omega) (by
    rintro k ⟨x, hx, rfl⟩
    simp at hx
    rw [← hx]
    simp
    omega)
  exact ⟨h.bel.trans hbel, ho.cell (by omega) (hn _ (by omega)) h.p0, ho.cell (by omega) (hn _ (by omega)) h.p1, h.hU, h.hT, h.hX,
    ho.cell (by omega) (hn _ (by omega)) h.x0, ho.cell (by omega) (hn _ (by omega)) h.x1, by omega,
    h.mw.only ho (fun k _ _ => hn k (by omega)), h.ml.only ho (fun k _ _ => hn k (by omega)), hm, (h.mg.only ho (fun k _ _ => hn k (by omega))).mono (Nat.le_refl _) hs⟩

theorem SnapK.markL (h : SnapK w W a cap zs N U aw cw ys T al cl ls X gx xs ag cg ts) (ho : Only (rowOf al) W W') {ls' : List Int} (hm : MinI W' U T al cl ls') : SnapK w W' a cap zs N U aw cw ys T al cl ls' X gx xs ag cg ts := by
  have h1 := h.hU; have h2 := h.hX; have h3 := h.hG; have h4 := h.hT; have hs := ho.size
  have hin : ∀ k, rowOf al k → U ≤ k ∧ k < T := fun k hk => h.ml.row hk
  have hn : ∀ k, ¬ (U ≤ k ∧ k < T) → ¬ rowOf al k := fun k hk hr => hk (hin k hr)
  have hbel : Below w.heap.size W W' := ho.below (by omega) (fun k hk => by have := hin k hk; omega)
  exact ⟨h.bel.trans hbel, ho.cell (by omega) (hn _ (by omega)) h.p0, ho.cell (by omega) (hn _ (by omega)) h.p1, h.hU, h.hT, h.hX,
    ho.cell (by omega) (hn _ (by omega)) h.x0, ho.cell (by omega) (hn _ (by omega)) h.x1, by omega,
    h.mw.only ho (fun k _ _ => hn k (by omega)), hm, h.mx.only ho (fun k _ _ => hn k (by omega)), (h.mg.only ho (fun k _ _ => hn k (by omega))).mono (Nat.le_refl _) hs⟩

theorem SnapK.markG (h : SnapK w W a cap zs N U aw cw ys T al cl ls X gx xs ag cg ts) (ho : Only (rowOf ag) W W') {ts' : List Int} (hm : MinI W' (X + 1) W.heap.size ag cg ts') : SnapK w W' a cap zs N U aw cw ys T al cl ls X gx xs ag cg ts' := by
  have h1 := h.hU; have h2 := h.hX; have h3 := h.hG; have h4 := h.hT; have hs := ho.size
  have hin : ∀ k, rowOf ag k → X + 1 ≤ k ∧ k < W.heap.size := fun k hk => h.mg.row hk
  have hn : ∀ k, ¬ (X + 1 ≤ k ∧ k < W.heap.size) → ¬ rowOf ag k := fun k hk hr => hk (hin k hr)
  have hbel : Below w.heap.size W W' := ho.below (by omega) (fun k hk => by have := hin k hk; omega)
  exact ⟨h.bel.trans hbel, ho.cell (by omega) (hn _ (by omega)) h.p0, ho.cell (by omega) (hn _ (by omega)) h.p1, h.hU, h.hT, h.hX,
    ho.cell (by omega) (hn _ (by omega)) h.x0, ho.cell (by omega) (hn _ (by omega)) h.x1, by omega,
    h.mw.only ho (fun k _ _ => hn k (by omega)), h.ml.only ho (fun k _ _ => hn k (by omega)), h.mx.only ho (fun k _ _ => hn k (by omega)), hm.mono (Nat.le_refl _) hs⟩
end
end Go.Proofs.YtiiaffkhnahofaaDoor
