/-
  Items that are not too many.
-/
import Derived.Test.YtjeippleimlljaaGreatDoorPkM
namespace Go.Proofs.YtjeippleimlljaaGreatDoor
open Go.RowKit
set_option linter.unusedVariables false

/-- What is asked of items that are not too many. -/
structure FewI (es : List El) : Prop where
  n : es.length ≤ 1048576
  l : ∀ s ∈ es, s.ls.length ≤ 1048576
  sum : es.length + elets es ≤ 1048576
theorem FewI.mk' {es : List El} (h : es.length + elets es ≤ 1048576) : FewI es := ⟨by omega, fun s hs => by have := elets_mem hs; omega, h⟩
theorem FewI.ct {es ts : List El} (h : FewI es) (h1 : ts.map El.ct = es.map El.ct) : FewI ts := FewI.mk' (by rw [len_ctE h1, elets_ct _ _ h1]; exact h.sum)
end Go.Proofs.YtjeippleimlljaaGreatDoor
