/-
  What the laws on answers that are bits, of two rows of numbers, carry along.
-/
import Derived.Test.YtiiaffkhnahofaaDoorIMarks
import Derived.Test.YtiiaffkhnahofaaDoorISnap
namespace Go.Proofs.YtiiaffkhnahofaaDoor
open Go.RowKit
set_option linter.unusedVariables false

structure SnapH (w W : World) (A : Nat) (aw : Option Addr) (cw : Nat) (ys : List Int) (M : Int) (ax : Option Addr) (cx : Nat) (xs : List Int) (X : Nat) (ay : Option Addr) (cy : Nat) (us : List Int) (Y G : Nat) (ag : Option Addr) (cg : Nat) (ts : List Int) (L : Nat) : Prop where
  bel : Below w.heap.size w W
  hA : w.heap.size ≤ A
  a0 : W.cell? ⟨A, 0, none⟩ = some (.slice aw ys.length cw)
  a1 : W.cell? ⟨A, 1, none⟩ = some (.int .i64 M)
  hX : A < X ∧ X ≤ Y
  hG : Y ≤ G ∧ G < W.heap.size
  g0 : W.cell? ⟨G, 0, none⟩ = some (.slice ag L cg)
  g1 : W.cell? ⟨G, 1, none⟩ = some (.int .i64 M)
  mw : Mine W w.heap.size A aw cw ys
  mx : MinI W (A + 1) X ax cx xs
  my : MinI W X Y ay cy us
  mg : Mine W Y G ag cg ts

section
variable {w W W' : World} {A : Nat} {aw : Option Addr} {cw : Nat} {ys : List Int} {M : Int} {ax : Option Addr} {cx : Nat} {xs : List Int} {X : Nat} {ay : Option Addr} {cy : Nat} {us : List Int} {Y G : Nat} {ag : Option Addr} {cg : Nat} {ts : List Int} {L : Nat}

theorem SnapH.step (h : SnapH w W A aw cw ys M ax cx xs X ay cy us Y G ag cg ts L) (hb : Below W.heap.size W W') : SnapH w W' A aw cw ys M ax cx xs X ay cy us Y G ag cg ts L := by
  have h1 := h.hA; have h2 := h.hX; have h3 := h.hG; have hs := hb.size
  exact ⟨h.bel.trans (hb.mono (by omega)), h.hA, keep hb (by omega) h.a0, keep hb (by omega) h.a1, h.hX, ⟨h3.1, by omega⟩, keep hb (by omega) h.g0, keep hb (by omega) h.g1, h.mw.below hb, h.mx.below hb, h.my.below hb, h.mg.below hb⟩

theorem SnapH.markX (h : SnapH w W A aw cw ys M ax cx xs X ay cy us Y G ag cg ts L) (ho : Only (rowOf ax) W W') {xs' : List Int} (hm : MinI W' (A + 1) X ax cx xs') : SnapH w W' A aw cw ys M ax cx xs' X ay cy us Y G ag cg ts L := by
  have h1 := h.hA; have h2 := h.hX; have h3 := h.hG; have hs := ho.size
  have hin : ∀ k, rowOf ax k → A + 1 ≤ k ∧ k < X := fun k hk => h.mx.row hk
  have hn : ∀ k, ¬ (A + 1 ≤ k ∧ k < X) → ¬ rowOf ax k := fun k hk hr => hk (hin k hr)
  have hbel : Below w.heap.size W W' := ho.below (by omega) (fun k hk => by have := hin k hk; omega)
  exact ⟨h.bel.trans hbel, h.hA, ho.cell (by omega) (hn _ (by omega)) h.a0, ho.cell (by omega) (hn _ (by omega)) h.a1, h.hX, ⟨h3.1, by omega⟩, ho.cell (by omega) (hn _ (by omega)) h.g0, ho.cell (by omega) (hn _ (by omega)) h.g1,
    h.mw.only ho (fun k _ _ => hn k (by omega)), hm, h.my.only ho (fun k _ _ => hn k (by omega)), h.mg.only ho (fun k _ _ => hn k (by omega))⟩

theorem SnapH.markY (h : SnapH w W A aw cw ys M ax cx xs X ay cy us Y G ag cg ts L) (ho : Only (rowOf ay) W W') {us' : List Int} (hm : MinI W' X Y ay cy us') : SnapH w W' A aw cw ys M ax cx xs X ay cy us' Y G ag cg ts L := by
  have h1 := h.hA; have h2 := h.hX; have h3 := h.hG; have hs := ho.size
  have hin : ∀ k, rowOf ay k → X ≤ k ∧ k < Y := fun k hk => h.my.row hk
  have hn : ∀ k, ¬ (X ≤ k ∧ k < Y) → ¬ rowOf ay k := fun k hk hr => hk (hin k hr)
  have hbel : Below w.heap.size W W' := ho.below (by omega) (fun k hk => by have := hin k hk; omega)
  exact ⟨h.bel.trans hbel, h.hA, ho.cell (by omega) (hn _ (by omega)) h.a0, ho.cell (by omega) (hn _ (by omega)) h.a1, h.hX, ⟨h3.1, by omega⟩, ho.cell (by omega) (hn _ (by omega)) h.g0, ho.cell (by omega) (hn _ (by omega)) h.g1,
    h.mw.only ho (fun k _ _ => hn k (by omega)), h.mx.only ho (fun k _ _ => hn k (by omega)), hm, h.mg.only ho (fun k _ _ => hn k (by omega))⟩

theorem SnapH.markG (h : SnapH w W A aw cw ys M ax cx xs X ay cy us Y G ag cg ts L) (ho : Only (rowOf ag) W W') {ts' : List Int} (hm : Mine W' Y G ag cg ts') : SnapH w W' A aw cw ys M ax cx xs X ay cy us Y G ag cg ts' L := by
  have h1 := h.hA; have h2 := h.hX; have h3 := h.hG; have hs := ho.size
  have hin : ∀ k, rowOf ag k → Y ≤ k ∧ k < G := by
    rintro k ⟨x, hx, rfl⟩
    rcases h.mg with ⟨h', _⟩ | ⟨g, h', g1, g2, _⟩
    · rw [h'] at hx; cases hx
    · rw [h'] at hx
      simp at hx
      rw [← hx]
      exact ⟨g1, g2⟩
  have hn : ∀ k, ¬ (Y ≤ k ∧ k < G) → ¬ rowOf ag k := fun k hk hr => hk (hin k hr)
  have hbel : Below w.heap.size W W' := ho.below (by omega) (fun k hk => by have := hin k hk; omega)
  exact ⟨h.bel.trans hbel, h.hA, ho.cell (by omega) (hn _ (by omega)) h.a0, ho.cell (by omega) (hn _ (by omega)) h.a1, h.hX, ⟨h3.1, by omega⟩, ho.cell (by omega) (hn _ (by omega)) h.g0, ho.cell (by omega) (hn _ (by omega)) h.g1,
    h.mw.only ho (fun k _ _ => hn k (by omega)), h.mx.only ho (fun k _ _ => hn k (by omega)), h.my.only ho (fun k _ _ => hn k (by omega)), hm⟩
end
end Go.Proofs.YtiiaffkhnahofaaDoor
