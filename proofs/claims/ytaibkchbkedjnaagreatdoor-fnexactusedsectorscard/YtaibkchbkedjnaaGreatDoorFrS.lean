/-
  What is free is told by a disk's numbers alone.
-/
import Derived.Test.YtaibkchbkedjnaaGreatDoorFr1
import Derived.Test.YtaibkchbkedjnaaGreatDoorVarsC
namespace Go.Proofs.YtaibkchbkedjnaaGreatDoor
open Go.RowKit
set_option linter.unusedVariables false

theorem DkS.ssl {e d:DkV} (h:DkS e d):e.ss.length=d.ss.length:=by simpa using congrArg List.length h.ss
theorem frB_same {e d:DkV} (h:DkS e d) (s:Int):frB e s=frB d s:=by
 unfold frB
 rw [h.cs,h.ms,h.vs]
theorem frL_same {e d:DkV} (h:DkS e d) (k:Nat):frL e k=frL d k:=by
 induction k with
 | zero=>rfl
 | succ k ih=>
  simp only [frL]
  rw [ih,frB_same h]
end Go.Proofs.YtaibkchbkedjnaaGreatDoor
