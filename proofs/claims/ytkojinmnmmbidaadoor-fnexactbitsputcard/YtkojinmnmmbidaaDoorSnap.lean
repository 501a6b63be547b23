/-
  What the laws on answers that are bits carry along: the argument, the model's answer, the copy that was handed in, the program's answer, each where it lies.
-/
import Derived.Test.YtkojinmnmmbidaaDoorOnly
namespace Go.Proofs.YtkojinmnmmbidaaDoor
open Go.RowKit
set_option linter.unusedVariables false

structure Snap (w W : World) (a : Option Addr) (cap : Nat) (zs : List Int) (N : Int) (A : Nat) (aw : Option Addr) (cw : Nat) (ys : List Int) (M : Int) (X gx : Nat) (xs : List Int) (G : Nat) (ag : Option Addr) (cg : Nat) (ts : List Int) : Prop where
  bel : Below w.heap.size w W
  p0 : W.cell? ⟨w.heap.size, 0, none⟩ = some (.slice a zs.length cap)
  p1 : W.cell? ⟨w.heap.size, 1, none⟩ = some (.int .i64 N)
  hA : w.heap.size < A
  a0 : W.cell? ⟨A, 0, none⟩ = some (.slice aw ys.length cw)
  a1 : W.cell? ⟨A, 1, none⟩ = some (.int .i64 M)
  hX : A < gx ∧ gx < X
  x0 : W.cell? ⟨X, 0, none⟩ = some (.slice (some ⟨gx, 0, none⟩) zs.length zs.length)
  x1 : W.cell? ⟨X, 1, none⟩ = some (.int .i64 N)
  hG : X < G ∧ G < W.heap.size
  g0 : W.cell? ⟨G, 0, none⟩ = some (.slice ag ys.length cg)
  g1 : W.cell? ⟨G, 1, none⟩ = some (.int .i64 M)
  mw : Mine W (w.heap.size + 1) A aw cw ys
  mx : Mine W (A + 1) X (some ⟨gx, 0, none⟩) zs.length xs
  mg : Mine W (X + 1) G ag cg ts

section
variable {w W W' : World} {a : Option Addr} {cap : Nat} {zs : List Int} {N : Int} {A : Nat} {aw : Option Addr} {cw : Nat} {ys : List Int} {M : Int} {X gx : Nat} {xs : List Int} {G : Nat} {ag : Option Addr} {cg : Nat} {ts : List Int}

theorem Snap.step (h : Snap w W a cap zs N A aw cw ys M X gx xs G ag cg ts) (hb : Below W.heap.size W W') : Snap w W' a cap zs N A aw cw ys M X gx xs G ag cg ts := by
  have h1 := h.hA; have h2 := h.hX; have h3 := h.hG; have hs := hb.size
  exact ⟨h.bel.trans (hb.mono (by omega)), keep hb (by omega) h.p0, keep hb (by omega) h.p1, h.hA, keep hb (by omega) h.a0, keep hb (by omega) h.a1, h.hX, keep hb (by omega) h.x0, keep hb (by omega) h.x1,
    ⟨h3.1, by omega⟩, keep hb (by omega) h.g0, keep hb (by omega) h.g1, h.mw.below hb, h.mx.below hb, h.mg.below hb⟩

theorem Snap.markX (h : Snap w W a cap zs N A aw cw ys M X gx xs G ag cg ts) (ho : Only (rowOf (some ⟨gx, 0, none⟩)) W W') {xs' : List Int} (hm : Mine W' (A + 1) X (some ⟨gx, 0, none⟩) zs.length xs') : Snap w W' a cap zs N A aw cw ys M X gx xs' G ag cg ts := by
  have h1 := h.hA; have h2 := h.hX; have h3 := h.hG; have hs := ho.size
  have hn : ∀ k, k ≠ gx → ¬ rowOf (some ⟨gx, 0, none⟩) k := by
    rintro k hk ⟨x, hx, rfl⟩
    simp at hx
    exact hk (by rw [← hx])
  have hbel : Below w.heap.size W W' := ho.below (by omega) (by
    rintro k ⟨x, hx, rfl⟩
    simp at hx
    rw [← hx]
    simp
    omega)
  exact ⟨h.bel.trans hbel, ho.cell (by omega) (hn _ (by omega)) h.p0, ho.cell (by omega) (hn _ (by omega)) h.p1, h.hA, ho.cell (by omega) (hn _ (by omega)) h.a0, ho.cell (by omega) (hn _ (by omega)) h.a1, h.hX,
    ho.cell (by omega) (hn _ (by omega)) h.x0, ho.cell (by omega) (hn _ (by omega)) h.x1, ⟨h3.1, by omega⟩, ho.cell (by omega) (hn _ (by omega)) h.g0, ho.cell (by omega) (hn _ (by omega)) h.g1,
    h.mw.only ho (fun k _ _ => hn k (by omega)), hm, h.mg.only ho (fun k _ _ => hn k (by omega))⟩

theorem Snap.markG (h : Snap w W a cap zs N A aw cw ys M X gx xs G ag cg ts) (ho : Only (rowOf ag) W W') {ts' : List Int} (hm : Mine W' (X + 1) G ag cg ts') : Snap w W' a cap zs N A aw cw ys M X gx xs G ag cg ts' := by
  have h1 := h.hA; have h2 := h.hX; have h3 := h.hG; have hs := ho.size
  have hin : ∀ k, rowOf ag k → X + 1 ≤ k ∧ k < G := by
    rintro k ⟨x, hx, rfl⟩
    rcases h.mg with ⟨h', _⟩ | ⟨g, h', g1, g2, _⟩
    · rw [h'] at hx; cases hx
    · rw [h'] at hx
      simp at hx
      rw [← hx]
      exact ⟨g1, g2⟩
  have hn : ∀ k, ¬ (X + 1 ≤ k ∧ k < G) → ¬ rowOf ag k := fun k hk hr => hk (hin k hr)
  have hbel : Below w.heap.size W W' := ho.below (by omega) (fun k hk => by have := hin k hk; omega)
  exact ⟨h.bel.trans hbel, ho.cell (by omega) (hn _ (by omega)) h.p0, ho.cell (by omega) (hn _ (by omega)) h.p1, h.hA, ho.cell (by omega) (hn _ (by omega)) h.a0, ho.cell (by omega) (hn _ (by omega)) h.a1, h.hX,
    ho.cell (by omega) (hn _ (by omega)) h.x0, ho.cell (by omega) (hn _ (by omega)) h.x1, ⟨h3.1, by omega⟩, ho.cell (by omega) (hn _ (by omega)) h.g0, ho.cell (by omega) (hn _ (by omega)) h.g1,
    h.mw.only ho (fun k _ _ => hn k (by omega)), h.mx.only ho (fun k _ _ => hn k (by omega)), hm⟩
end
end Go.Proofs.YtkojinmnmmbidaaDoor
