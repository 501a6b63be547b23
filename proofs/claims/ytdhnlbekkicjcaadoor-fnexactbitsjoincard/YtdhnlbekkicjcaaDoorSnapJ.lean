/-
  What the law on BitsJoin carries along: both arguments, the model's answer, the two copies that were handed in, the program's answer, each where it lies.
-/
import Derived.Test.YtdhnlbekkicjcaaDoorOnly
import Derived.Test.YtdhnlbekkicjcaaDoorPutB
import Derived.Test.YtdhnlbekkicjcaaDoorPut4
import Derived.Deep.DeepCutAuto
import Derived.Deep.RegionHeld3
namespace Go.Proofs.YtdhnlbekkicjcaaDoor
open Go.RowKit
set_option linter.unusedVariables false

structure SnapJ (w W : World) (a : Option Addr) (cap : Nat) (zs : List Int) (N : Int) (b : Option Addr) (cb : Nat) (us : List Int) (L : Int) (A : Nat) (aw : Option Addr) (cw : Nat) (ys : List Int) (M : Int) (U X gx : Nat) (xs : List Int) (Y gy : Nat) (vs : List Int) (G : Nat) (ag : Option Addr) (cg : Nat) (ts : List Int) : Prop where
  bel : Below w.heap.size w W
  p0 : W.cell? ⟨w.heap.size, 0, none⟩ = some (.slice a zs.length cap)
  p1 : W.cell? ⟨w.heap.size, 1, none⟩ = some (.int .i64 N)
  q0 : W.cell? ⟨w.heap.size + 1, 0, none⟩ = some (.slice b us.length cb)
  q1 : W.cell? ⟨w.heap.size + 1, 1, none⟩ = some (.int .i64 L)
  hA : w.heap.size + 1 < A ∧ A < U
  a0 : W.cell? ⟨A, 0, none⟩ = some (.slice aw ys.length cw)
  a1 : W.cell? ⟨A, 1, none⟩ = some (.int .i64 M)
  hX : U ≤ gx ∧ gx < X
  x0 : W.cell? ⟨X, 0, none⟩ = some (.slice (some ⟨gx, 0, none⟩) zs.length zs.length)
  x1 : W.cell? ⟨X, 1, none⟩ = some (.int .i64 N)
  hY : X < gy ∧ gy < Y
  y0 : W.cell? ⟨Y, 0, none⟩ = some (.slice (some ⟨gy, 0, none⟩) us.length us.length)
  y1 : W.cell? ⟨Y, 1, none⟩ = some (.int .i64 L)
  hG : Y < G ∧ G < W.heap.size
  g0 : W.cell? ⟨G, 0, none⟩ = some (.slice ag ys.length cg)
  g1 : W.cell? ⟨G, 1, none⟩ = some (.int .i64 M)
  mw : Mine W (w.heap.size + 1 + 1) U aw cw ys
  mx : Mine W U X (some ⟨gx, 0, none⟩) zs.length xs
  my : Mine W (X + 1) Y (some ⟨gy, 0, none⟩) us.length vs
  mg : Mine W (Y + 1) G ag cg ts

/-- What the region with two copies holds: the two arguments' boxes. -/
abbrev Box4 (w : World) (v0 v1 u0 u1 : Value) (W : World) : Prop := W.cell? ⟨w.heap.size, 0, none⟩ = some v0 ∧ W.cell? ⟨w.heap.size, 1, none⟩ = some v1 ∧ W.cell? ⟨w.heap.size + 1, 0, none⟩ = some u0 ∧ W.cell? ⟨w.heap.size + 1, 1, none⟩ = some u1 ∧ w.heap.size + 1 < W.heap.size

section
variable {w W W' : World} {v0 v1 u0 u1 : Value}
theorem box4_drew (h : Box4 w v0 v1 u0 u1 W) : Box4 w v0 v1 u0 u1 W.drew := h
theorem box4_below (h : Box4 w v0 v1 u0 u1 W) (hb : Below W.heap.size W W') : Box4 w v0 v1 u0 u1 W' := by
  obtain ⟨h1, h2, h3, h4, h5⟩ := h
  exact ⟨keep hb (by omega) h1, keep hb (by omega) h2, keep hb h5 h3, keep hb h5 h4, Nat.lt_of_lt_of_le h5 hb.size⟩
theorem box4_alloc (h : Box4 w v0 v1 u0 u1 W) (o : Obj) : Box4 w v0 v1 u0 u1 (W.alloc o) := box4_below h ((Below.refl _ _).alloc (Nat.le_refl _) o)
theorem box4_set (h : Box4 w v0 v1 u0 u1 W) {p : Addr} (hp : w.heap.size + 1 < p.block) (u : Value) : Box4 w v0 v1 u0 u1 (W.setCell p u) := by
  obtain ⟨h1, h2, h3, h4, h5⟩ := h
  have k : ∀ c o, c ≤ w.heap.size + 1 → (W.setCell p u).cell? ⟨c, o, none⟩ = W.cell? ⟨c, o, none⟩ := fun c o hc => World.cell?_of_block (w := W) (a := ⟨c, o, none⟩) (Below.heap_setCell _ _ _ _ (by simp; omega))
  exact ⟨(k _ _ (by omega)).trans h1, (k _ _ (by omega)).trans h2, (k _ _ (by omega)).trans h3, (k _ _ (by omega)).trans h4, by simpa [World.setCell] using h5⟩
structure SpecJ (w W : World) (v0 v1 u0 u1 : Value) (A : Nat) (aw : Option Addr) (cw : Nat) (ys : List Int) (M : Int) : Prop where
  bel : Below w.heap.size w W
  box : Box4 w v0 v1 u0 u1 W
  hA : w.heap.size + 1 < A ∧ A < W.heap.size
  a0 : W.cell? ⟨A, 0, none⟩ = some (.slice aw ys.length cw)
  a1 : W.cell? ⟨A, 1, none⟩ = some (.int .i64 M)
  mw : Mine W (w.heap.size + 1 + 1) W.heap.size aw cw ys
theorem SpecJ.ofAlloc {aw : Option Addr} {cw : Nat} {ys : List Int} {M : Int} {T : TypeId} (bel : Below w.heap.size w W) (box : Box4 w v0 v1 u0 u1 W) (mw : Mine W (w.heap.size + 1 + 1) W.heap.size aw cw ys) : SpecJ w (W.alloc (.cells #[.slice aw ys.length cw, .int .i64 M] T)) v0 v1 u0 u1 W.heap.size aw cw ys M := by
  have h5 := box.2.2.2.2
  exact ⟨bel.alloc (by omega) _, box4_alloc box _, ⟨h5, by simp⟩, by simp, by simp, (mw.below ((Below.refl _ _).alloc (Nat.le_refl _) _)).mono (Nat.le_refl _) (by simp)⟩
theorem SpecJ.ofSet {A : Nat} {aw : Option Addr} {cw : Nat} {ys : List Int} {M : Int} {T : TypeId} {x0 x1 : Value} (bel : Below w.heap.size w W) (box : Box4 w v0 v1 u0 u1 W) (mw : Mine W (w.heap.size + 1 + 1) W.heap.size aw cw ys) (hA : w.heap.size + 1 < A) (hb : W.heap[A]? = some (.cells #[x0, x1] T (0, 0))) (hT : T ≠ 5) :
    SpecJ w ((W.setCell ⟨A, 0, none⟩ (.slice aw ys.length cw)).setCell ⟨A, 1, none⟩ (.int .i64 M)) v0 v1 u0 u1 A aw cw ys M := by
  have hlt := (Array.getElem?_eq_some_iff.1 hb).1
  have h1 := heap_setCell_same W A 0 _ _ (.slice aw ys.length cw) hb
  have h2 := heap_setCell_same (W.setCell ⟨A, 0, none⟩ (.slice aw ys.length cw)) A 1 _ _ (.int .i64 M) h1
  have ho : Only (fun b => b = A) W ((W.setCell ⟨A, 0, none⟩ (.slice aw ys.length cw)).setCell ⟨A, 1, none⟩ (.int .i64 M)) := Only.setCell (Only.setCell (Only.refl (fun b => b = A) W) (p := ⟨A, 0, none⟩) (.inl rfl) _) (p := ⟨A, 1, none⟩) (.inl rfl) _
  refine ⟨(bel.setCell (by simp; omega) _).setCell (by simp; omega) _, box4_set (box4_set box hA _) hA _, ⟨hA, by simpa [World.setCell] using hlt⟩, cellR (j := 0) h2 (by simp), cellR (j := 1) h2 (by simp), ?_⟩
  rcases mw with ⟨h, h', h''⟩ | ⟨g, rfl, g1, g2, h⟩
  · exact .inl ⟨h, h', h''⟩
  · exact .inr ⟨g, rfl, g1, by simpa [World.setCell] using g2, h.only ho (Own.ne h hb hT)⟩
/-- A box that was made stays behind a call. -/
theorem keepNew2 {o : Obj} (hb : Below (W.alloc o).heap.size (W.alloc o) W') : W'.heap[W.heap.size]? = some o ∧ W.heap.size < W'.heap.size := ⟨(hb.block _ (by simp)).trans (heap_alloc_new W o), by have := hb.size; simp at this; omega⟩
theorem keepOld {k : Nat} {o : Obj} (h : W.heap[k]? = some o ∧ k < W.heap.size) (hb : Below W.heap.size W W') : W'.heap[k]? = some o ∧ k < W'.heap.size := ⟨(hb.block _ h.2).trans h.1, Nat.lt_of_lt_of_le h.2 hb.size⟩
theorem keepNew {o : Obj} (hb : Below (W.alloc o).heap.size (W.alloc o) W') : W'.heap[W.heap.size]? = some o := (hb.block _ (by simp)).trans (heap_alloc_new W o)
end

section
variable {w W W' : World} {a : Option Addr} {cap : Nat} {zs : List Int} {N : Int} {b : Option Addr} {cb : Nat} {us : List Int} {L : Int} {A : Nat} {aw : Option Addr} {cw : Nat} {ys : List Int} {M : Int} {U X gx : Nat} {xs : List Int} {Y gy : Nat} {vs : List Int} {G : Nat} {ag : Option Addr} {cg : Nat} {ts : List Int}

theorem SnapJ.step (h : SnapJ w W a cap zs N b cb us L A aw cw ys M U X gx xs Y gy vs G ag cg ts) (hb : Below W.heap.size W W') : SnapJ w W' a cap zs N b cb us L A aw cw ys M U X gx xs Y gy vs G ag cg ts := by
  have h1 := h.hA; have h2 := h.hX; have h3 := h.hY; have h4 := h.hG; have hs := hb.size
  exact ⟨h.bel.trans (hb.mono (by omega)), keep hb (by omega) h.p0, keep hb (by omega) h.p1, keep hb (by omega) h.q0, keep hb (by omega) h.q1, h.hA, keep hb (by omega) h.a0, keep hb (by omega) h.a1, h.hX, keep hb (by omega) h.x0, keep hb (by omega) h.x1,
    h.hY, keep hb (by omega) h.y0, keep hb (by omega) h.y1, ⟨h4.1, by omega⟩, keep hb (by omega) h.g0, keep hb (by omega) h.g1, h.mw.below hb, h.mx.below hb, h.my.below hb, h.mg.below hb⟩

theorem SnapJ.markX (h : SnapJ w W a cap zs N b cb us L A aw cw ys M U X gx xs Y gy vs G ag cg ts) (ho : Only (rowOf (some ⟨gx, 0, none⟩)) W W') {xs' : List Int} (hm : Mine W' U X (some ⟨gx, 0, none⟩) zs.length xs') : SnapJ w W' a cap zs N b cb us L A aw cw ys M U X gx xs' Y gy vs G ag cg ts := by
  have h1 := h.hA; have h2 := h.hX; have h3 := h.hY; have h4 := h.hG; have hs := ho.size
  have hn : ∀ k, k ≠ gx → ¬ rowOf (some ⟨gx, 0, none⟩) k := by
    rintro k hk ⟨x, hx, rfl⟩
    simp at hx
    exact hk (by rw [← hx])
  have hbel : Below w.heap.size W W' := ho.below (by omega) (by
    rintro k ⟨x, hx, rfl⟩
    simp at hx
    rw [← hx]
    simp
    omega)
  exact ⟨h.bel.trans hbel, ho.cell (by omega) (hn _ (by omega)) h.p0, ho.cell (by omega) (hn _ (by omega)) h.p1, ho.cell (by omega) (hn _ (by omega)) h.q0, ho.cell (by omega) (hn _ (by omega)) h.q1, h.hA, ho.cell (by omega) (hn _ (by omega)) h.a0, ho.cell (by omega) (hn _ (by omega)) h.a1, h.hX,
    ho.cell (by omega) (hn _ (by omega)) h.x0, ho.cell (by omega) (hn _ (by omega)) h.x1, h.hY, ho.cell (by omega) (hn _ (by omega)) h.y0, ho.cell (by omega) (hn _ (by omega)) h.y1, ⟨h4.1, by omega⟩, ho.cell (by omega) (hn _ (by omega)) h.g0, ho.cell (by omega) (hn _ (by omega)) h.g1,
    h.mw.only ho (fun k _ _ => hn k (by omega)), hm, h.my.only ho (fun k _ _ => hn k (by omega)), h.mg.only ho (fun k _ _ => hn k (by omega))⟩

theorem SnapJ.markY (h : SnapJ w W a cap zs N b cb us L A aw cw ys M U X gx xs Y gy vs G ag cg ts) (ho : Only (rowOf (some ⟨gy, 0, none⟩)) W W') {vs' : List Int} (hm : Mine W' (X + 1) Y (some ⟨gy, 0, none⟩) us.length vs') : SnapJ w W' a cap zs N b cb us L A aw cw ys M U X gx xs Y gy vs' G ag cg ts := by
  have h1 := h.hA; have h2 := h.hX; have h3 := h.hY; have h4 := h.hG; have hs := ho.size
  have hn : ∀ k, k ≠ gy → ¬ rowOf (some ⟨gy, 0, none⟩) k := by
    rintro k hk ⟨x, hx, rfl⟩
    simp at hx
    exact hk (by rw [← hx])
  have hbel : Below w.heap.size W W' := ho.below (by omega) (by
    rintro k ⟨x, hx, rfl⟩
    simp at hx
    rw [← hx]
    simp
    omega)
  exact ⟨h.bel.trans hbel, ho.cell (by omega) (hn _ (by omega)) h.p0, ho.cell (by omega) (hn _ (by omega)) h.p1, ho.cell (by omega) (hn _ (by omega)) h.q0, ho.cell (by omega) (hn _ (by omega)) h.q1, h.hA, ho.cell (by omega) (hn _ (by omega)) h.a0, ho.cell (by omega) (hn _ (by omega)) h.a1, h.hX,
    ho.cell (by omega) (hn _ (by omega)) h.x0, ho.cell (by omega) (hn _ (by omega)) h.x1, h.hY, ho.cell (by omega) (hn _ (by omega)) h.y0, ho.cell (by omega) (hn _ (by omega)) h.y1, ⟨h4.1, by omega⟩, ho.cell (by omega) (hn _ (by omega)) h.g0, ho.cell (by omega) (hn _ (by omega)) h.g1,
    h.mw.only ho (fun k _ _ => hn k (by omega)), h.mx.only ho (fun k _ _ => hn k (by omega)), hm, h.mg.only ho (fun k _ _ => hn k (by omega))⟩

theorem SnapJ.markG (h : SnapJ w W a cap zs N b cb us L A aw cw ys M U X gx xs Y gy vs G ag cg ts) (ho : Only (rowOf ag) W W') {ts' : List Int} (hm : Mine W' (Y + 1) G ag cg ts') : SnapJ w W' a cap zs N b cb us L A aw cw ys M U X gx xs Y gy vs G ag cg ts' := by
  have h1 := h.hA; have h2 := h.hX; have h3 := h.hY; have h4 := h.hG; have hs := ho.size
  have hin : ∀ k, rowOf ag k → Y + 1 ≤ k ∧ k < G := by
    rintro k ⟨x, hx, rfl⟩
    rcases h.mg with ⟨h', _⟩ | ⟨g, h', g1, g2, _⟩
    · rw [h'] at hx; cases hx
    · rw [h'] at hx
      simp at hx
      rw [← hx]
      exact ⟨g1, g2⟩
  have hn : ∀ k, ¬ (Y + 1 ≤ k ∧ k < G) → ¬ rowOf ag k := fun k hk hr => hk (hin k hr)
  have hbel : Below w.heap.size W W' := ho.below (by omega) (fun k hk => by have := hin k hk; omega)
  exact ⟨h.bel.trans hbel, ho.cell (by omega) (hn _ (by omega)) h.p0, ho.cell (by omega) (hn _ (by omega)) h.p1, ho.cell (by omega) (hn _ (by omega)) h.q0, ho.cell (by omega) (hn _ (by omega)) h.q1, h.hA, ho.cell (by omega) (hn _ (by omega)) h.a0, ho.cell (by omega) (hn _ (by omega)) h.a1, h.hX,
    ho.cell (by omega) (hn _ (by omega)) h.x0, ho.cell (by omega) (hn _ (by omega)) h.x1, h.hY, ho.cell (by omega) (hn _ (by omega)) h.y0, ho.cell (by omega) (hn _ (by omega)) h.y1, ⟨h4.1, by omega⟩, ho.cell (by omega) (hn _ (by omega)) h.g0, ho.cell (by omega) (hn _ (by omega)) h.g1,
    h.mw.only ho (fun k _ _ => hn k (by omega)), h.mx.only ho (fun k _ _ => hn k (by omega)), h.my.only ho (fun k _ _ => hn k (by omega)), hm⟩
end
end Go.Proofs.YtdhnlbekkicjcaaDoor
