/-
  The block of an answer of bits.
-/
import Derived.Test.YtmhpgkfaihcmeaaDoorIBase
namespace Go.Proofs.YtmhpgkfaihcmeaaDoor
open Go.RowKit
set_option linter.unusedVariables false

/-- What a call keeps of the block of its answer. -/
structure Ans (w W : World) : Prop where
  r0 : W.cell? ⟨w.heap.size, 0, none⟩ = some (.slice none 0 0)
  r1 : W.cell? ⟨w.heap.size, 1, none⟩ = some (.int .i64 0)
  f0 : W.frozen? ⟨w.heap.size, 0, none⟩ = false
  f1 : W.frozen? ⟨w.heap.size, 1, none⟩ = false
  lt : w.heap.size < W.heap.size
  bel : Below w.heap.size w W
theorem Ans.new (w : World) : Ans w (w.alloc (Obj.cells #[Value.slice none 0 0, Value.int IntKind.i64 0] 27)) := ⟨by simp, by simp, by simp, by simp, by simp, (Below.refl _ _).alloc (Nat.le_refl _) _⟩
theorem Ans.step {w W W' : World} {B : Nat} (h : Ans w W) (hb : Below B W W') (hB : w.heap.size < B) : Ans w W' :=
  ⟨keep hb hB h.r0, keep hb hB h.r1, (hb.frozen (p := ⟨w.heap.size, 0, none⟩) hB).trans h.f0, (hb.frozen (p := ⟨w.heap.size, 1, none⟩) hB).trans h.f1, Nat.lt_of_lt_of_le h.lt hb.size, h.bel.trans (hb.mono (Nat.le_of_lt hB))⟩

end Go.Proofs.YtmhpgkfaihcmeaaDoor
