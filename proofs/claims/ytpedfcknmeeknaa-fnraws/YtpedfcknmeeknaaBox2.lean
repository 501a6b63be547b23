/-
  A block of two cells: a variable of a type with two fields, as it lasts.
-/
import Derived.Test.YtpedfcknmeeknaaOnly
namespace Go.Proofs.Ytpedfcknmeeknaa
open Go.RowKit
set_option linter.unusedVariables false

structure Box2 (W : World) (b : Nat) (x y : Value) : Prop where
  c0 : W.cell? ⟨b, 0, none⟩ = some x
  c1 : W.cell? ⟨b, 1, none⟩ = some y
  f0 : W.frozen? ⟨b, 0, none⟩ = false
  f1 : W.frozen? ⟨b, 1, none⟩ = false
  lt : b < W.heap.size
theorem Box2.new (w : World) (x y : Value) (T : TypeId) : Box2 (w.alloc (Obj.cells #[x, y] T)) w.heap.size x y := ⟨by simp, by simp, by simp, by simp, by simp⟩
theorem Box2.keep {W W' : World} {b B : Nat} {x y : Value} (h : Box2 W b x y) (hb : Below B W W') (hB : b < B) : Box2 W' b x y :=
  ⟨Go.Proofs.Ytpedfcknmeeknaa.keep hb hB h.c0, Go.Proofs.Ytpedfcknmeeknaa.keep hb hB h.c1, (hb.frozen (p := ⟨b, 0, none⟩) hB).trans h.f0, (hb.frozen (p := ⟨b, 1, none⟩) hB).trans h.f1, Nat.lt_of_lt_of_le h.lt hb.size⟩
theorem Box2.alloc {W : World} {b : Nat} {x y : Value} (h : Box2 W b x y) (o : Obj) : Box2 (W.alloc o) b x y := h.keep ((Below.refl W.heap.size W).alloc (Nat.le_refl _) o) h.lt
theorem frozO {S : Nat → Prop} {w w' : World} (h : Only S w w') {b o : Nat} (hb : b < w.heap.size) (hs : ¬ S b) : w'.frozen? ⟨b, o, none⟩ = w.frozen? ⟨b, o, none⟩ := by
  simp only [World.frozen?, h.block b hb hs]
theorem Box2.only {S : Nat → Prop} {W W' : World} {b : Nat} {x y : Value} (h : Box2 W b x y) (ho : Only S W W') (hs : ¬ S b) : Box2 W' b x y :=
  ⟨ho.cell h.lt hs h.c0, ho.cell h.lt hs h.c1, (frozO ho h.lt hs).trans h.f0, (frozO ho h.lt hs).trans h.f1, Nat.lt_of_lt_of_le h.lt ho.size⟩
theorem Box2.other {W : World} {b : Nat} {x y : Value} (h : Box2 W b x y) {p : Addr} (hp : p.block ≠ b) (u : Value) : Box2 (W.setCell p u) b x y :=
  h.only (S := fun k => k = p.block) ((Only.refl (fun k => k = p.block) W).setCell (.inl rfl) u) (fun e => hp e.symm)
theorem Box2.set0 {W : World} {b : Nat} {x y : Value} (h : Box2 W b x y) (u : Value) : Box2 (W.setCell ⟨b, 0, none⟩ u) b u y := by
  obtain ⟨h0, h1, h2, h3, h4⟩ := h
  exact ⟨World.cell?_setCell_same W _ _ h0, (World.cell?_setCell_other W _ _ _ (by simp)).trans h1, by simp [h2], by simp [h3], by simpa using h4⟩
theorem Box2.set1 {W : World} {b : Nat} {x y : Value} (h : Box2 W b x y) (u : Value) : Box2 (W.setCell ⟨b, 1, none⟩ u) b x u := by
  obtain ⟨h0, h1, h2, h3, h4⟩ := h
  exact ⟨(World.cell?_setCell_other W _ _ _ (by simp)).trans h0, World.cell?_setCell_same W _ _ h1, by simp [h2], by simp [h3], by simpa using h4⟩
end Go.Proofs.Ytpedfcknmeeknaa
